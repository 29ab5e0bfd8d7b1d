import PyProof.Rows.All
import Wide.All
import OpenK.AllK
import Wide.FinOn
import Lean
import PyProof.EqAt
import PyProof.EqKinds
import PyProof.TupleCall
import PyProof.NeKinds
import PySem.Challenge.RW_layerdraw_k55_whole_no_order_has_less
set_option Elab.async false
set_option linter.all false
set_option maxRecDepth 100000
set_option genInjectivity false
set_option genSizeOf false
noncomputable section
namespace L2
theorem ex3 {α : Sort _} {a b : α → Prop} {G : Prop} (k : ∀ x, a x → b x → G) : (∃ x, a x ∧ b x) → G := fun ⟨x, h1, h2⟩ => k x h1 h2
theorem ex4 {α β : Sort _} {a b : α → β → Prop} {G : Prop} (k : ∀ x y, a x y → b x y → G) : (∃ x y, a x y ∧ b x y) → G := fun ⟨x, y, h1, h2⟩ => k x y h1 h2
theorem ex5 {α β : Sort _} {a b c : α → β → Prop} {G : Prop} (k : ∀ x y, a x y → b x y → c x y → G) : (∃ x y, a x y ∧ b x y ∧ c x y) → G := fun ⟨x, y, h1, h2, h3⟩ => k x y h1 h2 h3
end L2
/-! ### loops end, tuples open, errors are raised while an exception is handled, too -/
namespace L2
open PySem PySem.Spec PyProof.Rows
theorem entry_unchain : entryFor table "proto.unchain" = some Builtin.«proto.unchain» := entryFor_of_tree (by kernel_rfl)
/-- the contexts of exceptions, from one to the next, to the last, which has none -/
def nxt (cs : List Addr) (j : Nat) : Value := match cs[j]? with | none => Value.none | some b => Value.ref b
def Chn (h : Heap) (cs : List Addr) : Prop := cs.Nodup ∧ ∀ j a, cs[j]? = some a → ∃ o vs, h.get? a = some o ∧ o.data = .fields vs ∧ vs[2]? = some (nxt cs (j + 1))
/-- nothing is handled, or an exception whose contexts end -/
def Hd (A : Around) (h : Heap) : Prop := A.handled = none ∨ ∃ a cs, A.handled = some (.ref a) ∧ Chn h (a :: cs)
theorem Hd.keeps {A : Around} {h h' : Heap} (x : Hd A h) (k : ∀ b o, h.get? b = some o → h'.get? b = some o) : Hd A h' := by
  rcases x with e | ⟨a, cs, e, nd, c⟩
  · exact .inl e
  · refine .inr ⟨a, cs, e, nd, fun j b hb => ?_⟩
    obtain ⟨o, vs, ho, r⟩ := c j b hb
    exact ⟨o, vs, k b o ho, r⟩
/-- kept but for the object at it, which is no exception of the chain -/
theorem Hd.but {A : Around} {h h' : Heap} {it : Addr} {oi : Obj} (x : Hd A h) (hit : h.get? it = some oi) (hno : ∀ vs, oi.data = .fields vs → vs.size < 3 ∨ vs[2]? ≠ some Value.none ∧ ∀ b, vs[2]? ≠ some (.ref b)) (k : ∀ b o, b ≠ it → h.get? b = some o → h'.get? b = some o) : Hd A h' := by
  rcases x with e | ⟨a, cs, e, nd, c⟩
  · exact .inl e
  · refine .inr ⟨a, cs, e, nd, fun j b hb => ?_⟩
    obtain ⟨o, vs, ho, hd, h2⟩ := c j b hb
    refine ⟨o, vs, k b o (fun z => ?_) ho, hd, h2⟩
    subst z
    rw [hit] at ho
    cases ho
    rcases hno vs hd with q | ⟨q1, q2⟩
    · have := (Array.getElem?_eq_some_iff.mp h2).1
      omega
    · unfold nxt at h2
      cases hz : (a :: cs)[j + 1]? with
      | none => rw [hz] at h2; exact q1 h2
      | some y => rw [hz] at h2; exact q2 y h2
section
variable {prog : Program} {w : World} {A : Around} {E : Value → Shared → Prop} {s : Shared}
theorem unchain_ok {cs : List Addr} {e : Addr} {R : Result → Shared → Prop} (c : Chn s.heap cs) (he : e ∉ cs) (hR : R (.ok (.ret .none)) s) : ∀ (n j i : Nat) (o sl : Addr) (tg : Bool), cs.length - j = n → cs[j]? = some o → cs[i]? = some sl → i ≤ j →
    codeAny (model prog w) A (.builtin "proto.unchain" ⟨[.ref e, .ref o, .ref sl, .bool tg], []⟩) R s := by
  intro n
  induction n with
  | zero =>
    intro j i o sl tg hn hj _ _
    have := (List.getElem?_eq_some_iff.mp hj).1
    omega
  | succ n ih =>
    intro j i o sl tg hn hj hi hij
    obtain ⟨oo, vs, ho, hd, h2⟩ := c.2 j o hj
    refine codeAny_builtin entry_unchain ?_
    unfold Builtin.«proto.unchain»
    refine wpAny_bind (wpAny_field ho hd h2 ?_)
    cases hz : cs[j + 1]? with
    | none =>
      simp only [nxt, hz]
      rw [if_pos (by rfl)]
      refine wpAny_bind (wpAny_pure (wpAny_pure ?_))
      exact hR
    | some b =>
      simp only [nxt, hz]
      have hb : b ∈ cs := List.mem_of_getElem? hz
      have hbe : b ≠ e := fun z => he (z ▸ hb)
      have hbs : b ≠ sl := fun z => by
        subst z
        have e1 := List.getElem?_eq_some_iff.mp hz
        have e2 := List.getElem?_eq_some_iff.mp hi
        have lt : i < j + 1 := by omega
        exact (List.pairwise_iff_getElem.mp c.1) i (j + 1) e2.1 e1.1 lt (e2.2.trans e1.2.symm)
      rw [if_neg (by simp), if_neg (by simpa using hbe), if_neg (by simpa using hbs)]
      have hi1 : ∃ b', cs[i + 1]? = some b' := by
        have e1 := (List.getElem?_eq_some_iff.mp hz).1
        exact ⟨_, List.getElem?_eq_getElem (by omega)⟩
      obtain ⟨b', hb'⟩ := hi1
      cases tg with
      | false =>
        rw [if_neg (by simp)]
        refine wpAny_bind (wpAny_pure (wpAny_pure ?_))
        exact (⟨Code.quiet_builtin _ (by decide +kernel), ih (j + 1) i b sl true (by omega) hz hi (by omega)⟩)
      | true =>
        rw [if_pos rfl]
        obtain ⟨os, ws, hos, hds, hs2⟩ := c.2 i sl hi
        simp only [nxt, hb'] at hs2
        refine wpAny_bind (wpAny_field hos hds hs2 (wpAny_pure ?_))
        exact (⟨Code.quiet_builtin _ (by decide +kernel), ih (j + 1) (i + 1) b b' false (by omega) hz hb' (by omega)⟩)
theorem raise_hd {α : Type} {e : Addr} {oe : Obj} {vs : Array Value} {Q : α → Shared → Prop} (hd : A.handled = none ∨ ∃ a cs, A.handled = some (.ref a) ∧ Chn s.heap (a :: cs) ∧ e ∉ a :: cs) (he : s.heap.get? e = some oe) (hf : oe.data = .fields vs) (h2 : 2 < vs.size)
    (h : ∀ h' o' vs', (∀ b o, b ≠ e → s.heap.get? b = some o → h'.get? b = some o) → h'.get? e = some o' → o'.cls = oe.cls → o'.dict = oe.dict → o'.data = .fields vs' → vs'.size = vs.size → vs'[1]? = vs[1]? → vs'[2]? = (match A.handled with | none => vs[2]? | some v => some v) → E (.ref e) { s with heap := h' }) :
    wpAny (model prog w) A (raiseNew (.ref e) : Sem α) Q E s := by
  unfold raiseNew
  refine wpAny_bind (wpAny_handled ?_)
  rcases hd with hn | ⟨a, cs, ha, c, hin⟩
  · rw [hn]
    exact wpAny_bind (wpAny_pure (wpAny_throw (h s.heap oe vs (fun _ _ _ q => q) he rfl rfl hf rfl rfl (by rw [hn]))))
  · rw [ha]
    have hae : a ≠ e := fun z => hin (by simp [z])
    show wpAny _ _ (if (Value.ref a != Value.ref e) = true then _ else _) _ _ s
    rw [if_pos (by simpa using hae)]
    refine wpAny_bind (wpAny_holding (wpAny_runValue (unchain_ok c hin ?_ _ 0 0 a a false rfl rfl rfl (Nat.le_refl _))))
    have up := Obj.data_mapFields hf (·.setIfInBounds 2 (Value.ref a))
    refine wpAny_bind (show wpAny _ _ (setField (.ref e) 2 (.ref a)) _ _ s from wpAny_setField he hf h2 (wpAny_throw (h _ _ _ (fun b q hb hq => (Heap.get?_update_other _ _ (Ne.symm hb)).trans hq) (Heap.get?_update_self _ he (Obj.isFreed_of_fields up)) (Obj.cls_mapFields _ _) ?_ up (by simp) ?_ ?_)))
    · obtain ⟨c1, d1, dt, sl⟩ := oe
      cases dt <;> rfl
    · rw [Array.getElem?_setIfInBounds_ne (by decide)]
    · rw [ha]; simp [h2]
theorem Chn.lt {h : Heap} {cs : List Addr} (c : Chn h cs) : ∀ b ∈ cs, b < h.objs.size := fun b hb => by
  obtain ⟨j, hj⟩ := List.mem_iff_getElem?.mp hb
  obtain ⟨o, _, ho, _⟩ := c.2 j b hj
  exact Heap.lt_size ho
theorem Chn.mono {h h' : Heap} {cs : List Addr} (c : Chn h cs) (k : ∀ b o, b ∈ cs → h.get? b = some o → h'.get? b = some o) : Chn h' cs := ⟨c.1, fun j a hj => by
  obtain ⟨o, vs, ho, r⟩ := c.2 j a hj
  exact ⟨o, vs, k a o (List.mem_of_getElem? hj) ho, r⟩⟩
/-- a StopIteration, made and raised -/
theorem stop_hd {α : Type} {Q : α → Shared → Prop} (hd : Hd A s.heap)
    (h : ∀ h' e, (∀ b o, s.heap.get? b = some o → h'.get? b = some o) → (∃ o', h'.get? e = some o' ∧ o'.cls = .type "StopIteration") → E (.ref e) { s with heap := h' }) :
    wpAny (model prog w) A (newExc (.type "StopIteration") [] >>= fun e => (raiseNew e : Sem α)) Q E s := by
  refine wpAny_bind ?_
  unfold newExc newTuple
  refine wpAny_bind (wpAny_newObj_type ?_ (by size_fits))
  refine wpAny_bind (m := firstArgMember _ _) (wpAny_of_eq (a := Value.none) (by first | rfl | (simp only [firstArgMember]; rfl)) (wpAny_newObj_type ?_ (by size_fits)))
  refine raise_hd ?_ (Heap.get?_push_size _ rfl) rfl (by simp; omega) fun h' o' vs' k' e' c' _ _ _ _ _ =>
    h h' _ (fun b o q => k' b o (Nat.ne_of_lt (by rw [Heap.size_push]; exact Nat.lt_succ_of_lt (Heap.lt_size q))) (Heap.get?_push_of_some _ (Heap.get?_push_of_some _ q))) ⟨o', e', c'⟩
  rcases hd with hn | ⟨a, cs, ha, c⟩
  · exact .inl hn
  · refine .inr ⟨a, cs, ha, c.mono fun b o _ q => Heap.get?_push_of_some _ (Heap.get?_push_of_some _ q), fun z => ?_⟩
    have := c.lt _ z
    rw [Heap.size_push] at this
    exact absurd (Nat.lt_of_lt_of_le this (Nat.le_succ _)) (Nat.lt_irrefl _)
theorem list_endH {it l : Addr} {i : Nat} {items} {Q : Option Value → Shared → Prop} (hd : Hd A s.heap) (hit : s.heap.IsListIter it l i) (hl : s.heap.IsList l items) (hx : items[i]? = none)
    (hQ : ∀ h', Heap.ExtBut it s.heap h' → Q none { s with heap := h' }) : wpAny (model prog w) A (pyNext (.ref it)) Q E s := by
  obtain ⟨o, ho, hc, hdat⟩ := id hit
  obtain ⟨ol, hol, _, nl, hdl⟩ := hl
  unfold pyNext
  refine wpAny_bind (wpAny_attempt (wpAny_callSpecial?_slot (name := Str.ofString "__next__") hit.typeIs slot_listiter_next (wpAny_call_entry slot_listiter_next hit.typeIs entry_listiter_next ?_ (args_listiter_next _))))
  refine (show wpAny _ _ (field (.ref it) 0 >>= _) _ _ s from wpAny_bind (wpAny_field ho hdat (x := .ref l) rfl ?_))
  refine (show wpAny _ _ (if (Value.ref l == Value.none) = true then _ else _) _ _ s from ?_)
  rw [if_neg (by simp)]
  refine (show wpAny _ _ (field (.ref it) 1 >>= _) _ _ s from wpAny_bind (wpAny_field ho hdat (x := .int i 0) rfl ?_))
  refine (show wpAny _ _ (seqItems? (.ref l) >>= _) _ _ s from wpAny_bind (wpAny_seqItems hol hdl ?_))
  simp only [Int.toNat_natCast, hx]
  refine wpAny_bind (wpAny_rule (wpAny_bind (wpAny_setField ho hdat (by simp) ?_)))
  have sb : Heap.SameBut it s.heap (s.heap.update it (Obj.mapFields (·.setIfInBounds 0 Value.none))) := Heap.SameBut.update ..
  refine stop_hd (A := A.in1) (hd.but ho (fun vs q => .inl (by rw [hdat] at q; cases q; simp)) sb.extBut) fun h' e k' ⟨o', e', c'⟩ => ?_
  exact wpAny_bind (wpAny_isInstance (T := "StopIteration") (b := true) ⟨o', e', c'⟩ isSubtype_stop (wpAny_pure (hQ h' fun b q hb hq => k' b q (sb.extBut b q hb hq))))
theorem tup_endH {it t : Addr} {i : Nat} {items} {Q : Option Value → Shared → Prop} (hd : Hd A s.heap) (hit : s.heap.IsTupleIter it t i) (ht : s.heap.IsTuple t items) (hx : items[i]? = none)
    (hQ : ∀ h', Heap.ExtBut it s.heap h' → Q none { s with heap := h' }) : wpAny (model prog w) A (pyNext (.ref it)) Q E s := by
  obtain ⟨o, ho, hc, hdat⟩ := id hit
  obtain ⟨ol, hol, _, nl, hdl⟩ := ht
  unfold pyNext
  refine wpAny_bind (wpAny_attempt (wpAny_callSpecial?_slot (name := Str.ofString "__next__") hit.typeIs F.slot_tuple_iterator_next (wpAny_call_entry F.slot_tuple_iterator_next hit.typeIs F.entry_tuple_iterator_next ?_ (F.args_tuple_iterator_next_1 _))))
  refine (show wpAny _ _ (field (.ref it) 0 >>= _) _ _ s from wpAny_bind (wpAny_field ho hdat (x := .ref t) rfl ?_))
  refine (show wpAny _ _ (if (Value.ref t == Value.none) = true then _ else _) _ _ s from ?_)
  rw [if_neg (by simp)]
  refine (show wpAny _ _ (field (.ref it) 1 >>= _) _ _ s from wpAny_bind (wpAny_field ho hdat (x := .int i 0) rfl ?_))
  refine (show wpAny _ _ (seqItems? (.ref t) >>= _) _ _ s from wpAny_bind (wpAny_seqItems hol hdl ?_))
  simp only [Int.toNat_natCast, hx]
  refine wpAny_bind (wpAny_rule (wpAny_bind (wpAny_setField ho hdat (by simp) ?_)))
  have sb : Heap.SameBut it s.heap (s.heap.update it (Obj.mapFields (·.setIfInBounds 0 Value.none))) := Heap.SameBut.update ..
  refine stop_hd (A := A.in1) (hd.but ho (fun vs q => .inl (by rw [hdat] at q; cases q; simp)) sb.extBut) fun h' e k' ⟨o', e', c'⟩ => ?_
  exact wpAny_bind (wpAny_isInstance (T := "StopIteration") (b := true) ⟨o', e', c'⟩ isSubtype_stop (wpAny_pure (hQ h' fun b q hb hq => k' b q (sb.extBut b q hb hq))))
theorem range_endH {it : Addr} {x left step : Int} {Q : Option Value → Shared → Prop} (hd : Hd A s.heap) (hit : IsRangeIter s.heap it x left step) (hleft : left ≤ 0)
    (hQ : ∀ h', Heap.ExtBut it s.heap h' → Q none { s with heap := h' }) : wpAny (model prog w) A (pyNext (.ref it)) Q E s := by
  have hT : s.TypeIs (.ref it) "range_iterator" := ⟨_, hit, rfl⟩
  unfold pyNext
  refine wpAny_bind (wpAny_attempt (wpAny_callSpecial?_slot (name := Str.ofString "__next__") hT F.slot_range_iterator_next (wpAny_call_entry F.slot_range_iterator_next hT F.entry_range_iterator_next ?_ (F.args_range_iterator_next_1 _))))
  refine (show wpAny _ _ (field (.ref it) 0 >>= _) _ _ s from wpAny_bind (wpAny_field hit rfl (x := rawInt x) rfl ?_))
  refine (show wpAny _ _ (field (.ref it) 1 >>= _) _ _ s from wpAny_bind (wpAny_field hit rfl (x := rawInt left) rfl ?_))
  refine (show wpAny _ _ (field (.ref it) 2 >>= _) _ _ s from wpAny_bind (wpAny_field hit rfl (x := rawInt step) rfl ?_))
  refine (show wpAny _ _ (if left ≤ 0 then _ else _) _ _ s from ?_)
  rw [if_pos hleft]
  refine wpAny_bind (wpAny_rule (wpAny_bind ?_))
  refine stop_hd (A := A.in1) hd fun h' e k' ⟨o', e', c'⟩ => ?_
  exact wpAny_bind (wpAny_isInstance (T := "StopIteration") (b := true) ⟨o', e', c'⟩ isSubtype_stop (wpAny_pure (hQ h' fun b q _ hq => k' b q hq)))
/-- a, b, .. = a tuple: its items are drawn, then it must be at its end -/
theorem unpackH {t : Addr} {items : Array Value} {Q : List Value → Shared → Prop} (hd : Hd A s.heap) (ht : IsTup s.heap t items)
    (hQ : ∀ h', Heap.ExtBut s.heap.objs.size s.heap h' → Q items.toList { s with heap := h' }) : wpAny (model prog w) A (unpackItems (.ref t) items.size none) Q E s := by
  have hlt : t ≠ s.heap.objs.size := by obtain ⟨o, ho, _⟩ := ht; exact Nat.ne_of_lt (Heap.lt_size ho)
  unfold unpackItems
  refine wpAny_bind ?_
  unfold notIterableAtAll
  refine wpAny_bind (wpAny_specialOf ht.typeIs slot_tuple_iter.lookup (wpAny_pure ?_))
  simp only [Bool.false_eq_true, if_false]
  refine wpAny_bind (wpAny_holding (iter_tuple ht (wpAny_bind (wpAny_holding (draw_tuple hlt items.size 0 _ _ ⟨_, Heap.get?_push_size _ rfl, rfl, rfl⟩ (ht.push _) (by omega) fun h₁ hit₁ hs₁ => ?_)))))
  rw [show List.take items.size (List.drop 0 items.toList) = items.toList by rw [List.drop_zero]; exact List.take_of_length_le (by simp)]
  rw [if_neg (by simp)]
  have ht₁ : IsTup h₁ t items := (ht.push _).extBut hs₁.extBut hlt
  have k₁ : ∀ b o, s.heap.get? b = some o → h₁.get? b = some o := fun b o e => hs₁.extBut b o (Nat.ne_of_lt (Heap.lt_size e)) (Heap.get?_push_of_some _ e)
  refine wpAny_bind (wpAny_holding (tup_endH (hd.keeps k₁) hit₁ (show Heap.IsTuple h₁ t items from ht₁) (by simp) fun h₂ he₂ => ?_))
  simp only [Option.isSome_none, Bool.false_eq_true, if_false]
  exact wpAny_pure (hQ h₂ fun b o hb e => he₂ b o hb (k₁ b o e))
theorem assign_tupH {env : Env} {elts : List Expr} {x1} {pos : Pos} {t : Addr} {items : Array Value} {Q : Unit → Shared → Prop} (hd : Hd A s.heap) (ht : IsTup s.heap t items) (hn : (assignEach elts env).length = items.size) (hstar : (assignEach elts env).findIdx? (·.1) = none)
    (h : ∀ h', Heap.ExtBut s.heap.objs.size s.heap h' → wpAny (model prog w) A (assignInOrder ((assignEach elts env).map (·.2)) items.toList) Q E { s with heap := h' }) : wpAny (model prog w) A (assign (.Tuple elts x1 pos) env (.ref t)) Q E s := by
  rw [assign_Tuple]
  refine wpAny_bind (wpAny_standAt ?_)
  unfold unpack
  rw [hn, hstar]
  exact wpAny_bind (wpAny_holding (unpackH hd ht h))
end
end L2

namespace L2
open PySem PySem.Spec PyProof.Rows

/-- a key: an int or a str -/
abbrev Key := Sum Int Str
def keyIs : Key → Value → Bool
  | .inl k, v => Value.isInt k v
  | .inr x, v => Value.isStrOf x v
def keyH (w : World) : Key → Int
  | .inl k => hashInt k
  | .inr x => hashStr w x
theorem keyIs_shape : ∀ {k : Key} {v : Value}, keyIs k v = true → (∃ i t, k = Sum.inl i ∧ v = Value.int i t) ∨ (∃ x t, k = Sum.inr x ∧ v = Value.str x t)
  | .inl i, v, h => by
    obtain ⟨t, e⟩ := Value.isInt_shape (k := i) (v := v) h
    exact .inl ⟨i, t, rfl, e⟩
  | .inr x, v, h => by
    obtain ⟨t, e⟩ := Value.isStrOf_shape (x := x) (v := v) h
    exact .inr ⟨x, t, rfl, e⟩
theorem keyIs_int (i : Int) (t : Tok) : keyIs (.inl i) (.int i t) = true := by simp [keyIs, Value.isInt]
theorem keyIs_str (x : Str) (t : Tok) : keyIs (.inr x) (.str x t) = true := by simp [keyIs, Value.isStrOf]
theorem key_ll (a b : Int) : decide ((Sum.inl a : Key) = Sum.inl b) = (a == b) := by
  by_cases e : a = b
  · subst e; simp
  · have h : ¬ (Sum.inl a : Key) = Sum.inl b := fun q => e (Sum.inl.inj q)
    rw [decide_eq_false h]
    exact (beq_eq_false_iff_ne.mpr e).symm
theorem key_rr (a b : Str) : decide ((Sum.inr a : Key) = Sum.inr b) = decide (a = b) := by
  by_cases e : a = b
  · subst e; simp
  · have h : ¬ (Sum.inr a : Key) = Sum.inr b := fun q => e (Sum.inr.inj q)
    rw [decide_eq_false h, decide_eq_false e]
theorem key_lr (a : Int) (b : Str) : decide ((Sum.inl a : Key) = Sum.inr b) = false := decide_eq_false (fun q => nomatch q)
theorem key_rl (a : Str) (b : Int) : decide ((Sum.inr a : Key) = Sum.inl b) = false := decide_eq_false (fun q => nomatch q)

def mixKind (prog : Program) (w : World) : PySem.KeyKind prog w Key where
  is := keyIs
  hash := keyH w
  inj := fun v a b ha hb => by
    rcases keyIs_shape ha with ⟨i, t, rfl, rfl⟩ | ⟨x, t, rfl, rfl⟩
    · rcases keyIs_shape hb with ⟨j, u, rfl, e⟩ | ⟨y, u, rfl, e⟩
      · injection e with e1 _; rw [e1]
      · exact nomatch e
    · rcases keyIs_shape hb with ⟨j, u, rfl, e⟩ | ⟨y, u, rfl, e⟩
      · exact nomatch e
      · injection e with e1 _; rw [e1]
  byValue := fun k v h => by
    rcases keyIs_shape h with ⟨i, t, rfl, rfl⟩ | ⟨x, t, rfl, rfl⟩ <;> rfl
  pyHash := fun hv h => by
    rcases keyIs_shape hv with ⟨i, t, rfl, rfl⟩ | ⟨x, t, rfl, rfl⟩
    · exact wpAny_pyHash_int h
    · exact wpAny_pyHash_str h
  eqBool := fun hu hv h => by
    rcases keyIs_shape hu with ⟨i, t, rfl, rfl⟩ | ⟨x, t, rfl, rfl⟩
    · rcases keyIs_shape hv with ⟨j, u, rfl, rfl⟩ | ⟨y, u, rfl, rfl⟩
      · rw [key_ll] at h; exact wpAny_eqBool_int h
      · rw [key_lr] at h; exact SeqAt.EqAt.int_str i t y u _ _ _ _ h
    · rcases keyIs_shape hv with ⟨j, u, rfl, rfl⟩ | ⟨y, u, rfl, rfl⟩
      · rw [key_rl] at h; exact SeqAt.EqAt.str_int x t j u _ _ _ _ h
      · rw [key_rr] at h; exact wpAny_eqBool_str h
  «strs» := fun k x t v h => by
    rcases keyIs_shape h with ⟨i, u, rfl, e⟩ | ⟨y, u, rfl, e⟩
    · exact nomatch e
    · injection e with e1 _
      subst e1
      cases v <;> rfl

theorem mixKind_int (prog : Program) (w : World) (i : Int) (t : Tok) : (mixKind prog w).is (.inl i) (.int i t) = true := keyIs_int i t
theorem mixKind_str (prog : Program) (w : World) (x : Str) (t : Tok) : (mixKind prog w).is (.inr x) (.str x t) = true := keyIs_str x t
end L2

namespace L2
open PySem PySem.Spec PyProof.Rows

set_option genInjectivity true
/-- a value, without the heap -/
inductive V where
  | non | bl (b : Bool) | int (i : Int) | str (x : Str) | byt (b : Array UInt8) | flt (b : UInt64) | ref (a : Addr) | ty (n : String)
  deriving DecidableEq
set_option genInjectivity false

def RelV : V → Value → Prop
  | .non, u => u = Value.none
  | .bl b, u => u = Value.bool b
  | .int i, u => ∃ t, u = Value.int i t
  | .str x, u => ∃ t, u = Value.str x t
  | .byt b, u => ∃ t, u = Value.bytes b t
  | .flt b, u => ∃ t, u = Value.float b t
  | .ref a, u => u = Value.ref a
  | .ty n, u => u = Value.type n

abbrev Vals : List V → List Value → Prop := Paired RelV
theorem Vals.length {xs : List V} {us : List Value} (r : Vals xs us) : xs.length = us.length := Paired.length r
theorem Vals.get : ∀ {xs : List V} {us : List Value} {i : Nat} {x : V}, Vals xs us → xs[i]? = some x → ∃ u, us[i]? = some u ∧ RelV x u
  | _, _, _, _, .nil, e => by simp at e
  | _, _, 0, _, .cons r _, e => by simp at e; subst e; exact ⟨_, rfl, r⟩
  | _, _, i + 1, x, .cons _ t, e => by
    obtain ⟨u, h1, h2⟩ := Vals.get (i := i) (x := x) t (by simpa using e)
    exact ⟨u, by simpa using h1, h2⟩
theorem Vals.append : ∀ {xs ys : List V} {us ws : List Value}, Vals xs us → Vals ys ws → Vals (xs ++ ys) (us ++ ws)
  | _, _, _, _, .nil, s => s
  | _, _, _, _, .cons r t, s => .cons r (Vals.append t s)
theorem Vals.take : ∀ {xs : List V} {us : List Value} (n : Nat), Vals xs us → Vals (xs.take n) (us.take n)
  | _, _, 0, _ => .nil
  | _, _, _ + 1, .nil => .nil
  | _, _, n + 1, .cons r t => .cons r (Vals.take n t)
theorem Vals.drop : ∀ {xs : List V} {us : List Value} (n : Nat), Vals xs us → Vals (xs.drop n) (us.drop n)
  | _, _, 0, r => r
  | _, _, _ + 1, .nil => .nil
  | _, _, n + 1, .cons _ t => Vals.drop n t
def RelO : Option V → Option Value → Prop
  | some v, some u => RelV v u
  | none, none => True
  | _, _ => False
def KV {κ : Type} : List (κ × V) → List (κ × Value) → Prop := Paired fun (p : κ × V) (q : κ × Value) => p.1 = q.1 ∧ RelV p.2 q.2

/-- a key of a dict (00_mix): an int or a text -/
def kV : Key → V
  | .inl i => .int i
  | .inr x => .str x

/-- what stands at a tracked address -/
inductive HO where
  /-- a list -/
  | lst (xs : List V)
  /-- a tuple (never changes) -/
  | tup (xs : List V)
  /-- a dict whose keys are ints and texts; one whose keys are tuples of ints and texts (the empty one is both) -/
  | dK (kvs : List (Key × V)) | dT (kvs : List (List Key × V))
  /-- a set of ints: its members, its size -/
  | set (S : Int → Bool) (n : Nat)
  /-- an instance of the class at C, its dict at dx, its attributes -/
  | ins (C dx : Addr) (fs : List (Str × V))
  /-- the dict of the instance at x -/
  | own (x : Addr)
  /-- the dict of an exception -/
  | xd (fs : List (Str × V))
  /-- a bound method, f of x -/
  | met (f x : Addr)
  /-- a range object lo, lo + 1, .. below hi -/
  | rng (lo hi : Int)
  /-- a thing that is known to the object (the script; a dict while a loop walks it): read, never written while it is so -/
  | frz (o : Obj) (u : HO)
  /-- a code object's table -/
  | tbl (ps : Array Value)
  /-- any other thing, by what is true of its one object (a def of one's own: SetO a S n := HO.ext fun h => ..) -/
  | ext (φ : Heap → Prop)

abbrev Hp := Addr → Option HO
def upd (H : Hp) (a : Addr) (o : HO) : Hp := fun b => if b = a then some o else H b
theorem upd_same {H : Hp} {a : Addr} {o : HO} : upd H a o a = some o := by unfold upd; rw [if_pos rfl]
theorem upd_ne {H : Hp} {a b : Addr} {o : HO} (h : b ≠ a) : upd H a o b = H b := by unfold upd; rw [if_neg h]
/-- two objects of different content stand apart -/
theorem ne_of {H : Hp} {a b : Addr} {o u : HO} (h : H a = some o) (h' : H b = some u) (d : o ≠ u) : a ≠ b := by
  intro e; subst e; rw [h] at h'; exact d (Option.some.inj h')
theorem ne_of_none {H : Hp} {a b : Addr} {o : HO} (h : H a = some o) (h' : H b = none) : a ≠ b := by
  intro e; subst e; rw [h] at h'; cases h'

section
variable (P : Program) (w : World)
def ObjOk (H : Hp) (h : Heap) (a : Addr) : HO → Prop
  | .lst xs => xs.length ≤ sizeLine ∧ ∃ (its : List Value) (n : Nat), Vals xs its ∧ h.get? a = some { cls := .type "list", data := .seq its.toArray n }
  | .tup xs => xs.length ≤ sizeLine ∧ ∃ its : List Value, Vals xs its ∧ IsTup h a its.toArray
  | .dK kvs => kvs.length ≤ sizeLine ∧ (a == sysModules) = false ∧ ∃ vs, KV kvs vs ∧ h.DictOf (mixKind P w) a vs
  | .dT kvs => kvs.length ≤ sizeLine ∧ (a == sysModules) = false ∧ ∃ xs : List (List Key × Addr × Value),
      Paired (fun (p : List Key × V) (q : List Key × Addr × Value) => p.1 = q.1 ∧ H q.2.1 = some (.tup (p.1.map kV)) ∧ RelV p.2 q.2.2) kvs xs ∧
      ∃ o es ep, h.get? a = some o ∧ o.ExactDict ∧ o.data = .dict es ep ∧ es.toList = xs.map (entryOfKey (tupleKind (mixKind P w))) ∧ (xs.map (·.1)).Nodup
  | .set S n => h.SetOf (intKind P w) a S n
  | .ins C dx fs => H dx = some (.own a) ∧ fs.length ≤ 1000 ∧ dx ≠ a ∧ h.get? a = some (PySem.W.instObj C dx) ∧
      ∃ mA, h.Ns1 dx mA ∧ (∀ f, RelO (fs.lookup f) (mA f)) ∧ PySem.Within mA (fs.map (·.1))
  | .own _ => ∃ o, h.get? a = some o
  | .xd fs => ∃ mA, h.Ns1 a mA ∧ ∀ f, RelO (fs.lookup f) (mA f)
  | .rng lo hi => ∃ t u v, h.get? a = some { cls := .type "range", data := .fields #[.int lo t, .int hi u, .int 1 v] }
  | .frz o u => h.get? a = some o ∧ ObjOk H h a u
  | .tbl ps => h.get? a = some { cls := .none, data := .fields ps }
  | .met f x => h.get? a = some (PySem.W.methodObj (.ref f) (.ref x))
  | .ext φ => φ h ∧ (∃ o, h.get? a = some o) ∧ ∀ h1 h2 : Heap, φ h1 → (∀ o, h1.get? a = some o → h2.get? a = some o) → φ h2
/-- the abstract heap is held -/
def HOk (H : Hp) (h : Heap) : Prop := ∀ a o, H a = some o → ObjOk P w H h a o
end

section
variable {P : Program} {w : World} {H H' : Hp} {h h' : Heap} {a : Addr} {o : HO}
theorem ObjOk.lt (x : ObjOk P w H h a o) : a < h.objs.size := by
  cases o with
  | lst xs => obtain ⟨_, _, _, _, e⟩ := x; exact Heap.lt_size e
  | tup xs => obtain ⟨_, _, _, p⟩ := x; exact p.lt
  | dK kvs => obtain ⟨_, _, _, _, o, _, _, e, _⟩ := x; exact Heap.lt_size e
  | dT kvs => obtain ⟨_, _, _, _, o, _, _, e, _⟩ := x; exact Heap.lt_size e
  | set S n => obtain ⟨o, _, _, _, e, _⟩ := x; exact Heap.lt_size e
  | ins C dx fs => obtain ⟨_, _, _, e, _⟩ := x; exact Heap.lt_size e
  | own y => obtain ⟨_, e⟩ := x; exact Heap.lt_size e
  | xd fs => obtain ⟨_, ⟨_, _, _, e, _⟩, _⟩ := x; exact Heap.lt_size e
  | rng lo hi => obtain ⟨_, _, _, e⟩ := x; exact Heap.lt_size e
  | frz ob u => obtain ⟨e, _⟩ := x; exact Heap.lt_size e
  | tbl ps => exact Heap.lt_size (show h.get? a = some _ from x)
  | met f y => exact Heap.lt_size (show h.get? a = some _ from x)
  | ext φ => obtain ⟨_, ⟨_, e⟩, _⟩ := x; exact Heap.lt_size e
theorem Paired.mapP {α β : Type} {F G : α → β → Prop} : ∀ {l₁ : List α} {l₂ : List β}, Paired F l₁ l₂ → (∀ a b, F a b → G a b) → Paired G l₁ l₂
  | _, _, .nil, _ => .nil
  | _, _, .cons r t, f => .cons (f _ _ r) (Paired.mapP t f)
/-- what an object's description leans on: its own object, its own dict, the tuples -/
theorem ObjOk.stay (x : ObjOk P w H h a o) (k : ∀ b u, (b = a ∨ H b = some (.own a)) → h.get? b = some u → h'.get? b = some u)
    (ho : ∀ b, H b = some (.own a) → H' b = some (.own a)) (ht : ∀ b xs, H b = some (.tup xs) → H' b = some (.tup xs)) : ObjOk P w H' h' a o := by
  induction o with
  | lst xs => obtain ⟨z, its, n, r, e⟩ := x; exact ⟨z, its, n, r, k _ _ (.inl rfl) e⟩
  | tup xs => obtain ⟨z, its, r, ob, e, c⟩ := x; exact ⟨z, its, r, ob, k _ _ (.inl rfl) e, c⟩
  | dK kvs => obtain ⟨z, y, vs, r, ob, es, ep, e, c⟩ := x; exact ⟨z, y, vs, r, ob, es, ep, k _ _ (.inl rfl) e, c⟩
  | dT kvs =>
    obtain ⟨z, y, xs, r, ob, es, ep, e, c⟩ := x
    exact ⟨z, y, xs, Paired.mapP r fun p q z => ⟨z.1, ht _ _ z.2.1, z.2.2⟩, ob, es, ep, k _ _ (.inl rfl) e, c⟩
  | set S n => obtain ⟨ob, es, ep, t, e, c⟩ := x; exact ⟨ob, es, ep, t, k _ _ (.inl rfl) e, c⟩
  | ins C dx fs =>
    obtain ⟨d, z, ne, e, mA, ⟨od, es, ep, e2, c⟩, r⟩ := x
    exact ⟨ho _ d, z, ne, k _ _ (.inl rfl) e, mA, ⟨od, es, ep, k _ _ (.inr d) e2, c⟩, r⟩
  | own y => obtain ⟨ob, e⟩ := x; exact ⟨ob, k _ _ (.inl rfl) e⟩
  | xd fs => obtain ⟨mA, ⟨od, es, ep, e, c⟩, r⟩ := x; exact ⟨mA, ⟨od, es, ep, k _ _ (.inl rfl) e, c⟩, r⟩
  | rng lo hi => obtain ⟨t, u, v, e⟩ := x; exact ⟨t, u, v, k _ _ (.inl rfl) e⟩
  | frz ob u ih => obtain ⟨e, q⟩ := x; exact ⟨k _ _ (.inl rfl) e, ih q⟩
  | tbl ps =>
    have e : h.get? a = some { cls := .none, data := .fields ps } := x
    show h'.get? a = some { cls := .none, data := .fields ps }
    exact k a _ (.inl rfl) e
  | met f y =>
    have e : h.get? a = some (PySem.W.methodObj (.ref f) (.ref y)) := x
    show h'.get? a = some (PySem.W.methodObj (.ref f) (.ref y))
    exact k a _ (.inl rfl) e
  | ext φ => obtain ⟨p, ⟨o, e⟩, st⟩ := x; exact ⟨st _ _ p fun o q => k _ _ (.inl rfl) q, ⟨o, k _ _ (.inl rfl) e⟩, st⟩
theorem HOk.lt (x : HOk P w H h) (e : H a = some o) : a < h.objs.size := (x a o e).lt
theorem HOk.fresh (x : HOk P w H h) (e : h.objs.size ≤ a) : H a = none := by
  cases q : H a with
  | none => rfl
  | some u => exact absurd (Nat.lt_of_lt_of_le (x.lt q) e) (Nat.lt_irrefl _)
/-- every object of the heap is kept -/
theorem HOk.kept (x : HOk P w H h) (k : ∀ b u, h.get? b = some u → h'.get? b = some u) : HOk P w H h' := fun a o e =>
  (x a o e).stay (fun b u _ q => k b u q) (fun _ q => q) fun _ _ q => q
/-- a new object is laid and tracked -/
theorem HOk.laid (x : HOk P w H h) (k : ∀ b u, h.get? b = some u → h'.get? b = some u) (hp : h.objs.size ≤ a) (new : ObjOk P w (upd H a o) h' a o) : HOk P w (upd H a o) h' := fun b u e => by
  have hn := x.fresh hp
  by_cases hb : b = a
  · subst hb; rw [upd_same] at e; cases e; exact new
  · rw [upd_ne hb] at e
    exact (x b u e).stay (fun c v _ q => k c v q) (fun c q => by rw [upd_ne (ne_of_none q hn)]; exact q) fun c xs q => by rw [upd_ne (ne_of_none q hn)]; exact q
end

/-- what may be read as u: it is u, or a known u -/
def Rd (H : Hp) (a : Addr) (u : HO) : Prop := H a = some u ∨ ∃ o, H a = some (.frz o u)
theorem Rd.ok {P : Program} {w : World} {H : Hp} {h : Heap} {a : Addr} {u : HO} (r : Rd H a u) (x : HOk P w H h) : ObjOk P w H h a u := by
  rcases r with r | ⟨o, r⟩
  · exact x a u r
  · obtain ⟨_, q⟩ := x a _ r
    exact q
/-- what may be written -/
def Mut : Option HO → Prop
  | some (.lst _) => True
  | some (.dK _) => True
  | some (.dT _) => True
  | some (.set _ _) => True
  | some (.ins _ _ _) => True
  | some (.ext _) => True
  | _ => False
section
variable {P : Program} {w : World} {H : Hp} {h h' : Heap} {x e : Addr} {o' : HO}
/-- the object at e is changed: x itself, or the dict of the instance x -/
theorem HOk.write (ok : HOk P w H h) (mu : Mut (H x)) (he : e = x ∨ H e = some (.own x)) (k : ∀ b u, b ≠ e → h.get? b = some u → h'.get? b = some u) (heo : ∃ u, h'.get? e = some u)
    (new : ObjOk P w (upd H x o') h' x o') : HOk P w (upd H x o') h' := fun b u q => by
  have nown : ∀ c y, H c = some (.own y) → c ≠ x := fun c y r z => by subst z; rw [r] at mu; exact mu
  have ntup : ∀ c xs, H c = some (.tup xs) → c ≠ x := fun c xs r z => by subst z; rw [r] at mu; exact mu
  by_cases hb : b = x
  · subst hb; rw [upd_same] at q; cases q; exact new
  · rw [upd_ne hb] at q
    by_cases hbe : b = e
    · have q' : H b = some (.own x) := by
        rcases he with z | z
        · exact absurd (hbe.trans z) hb
        · rw [hbe]; exact z
      rw [q] at q'; cases q'
      obtain ⟨v, hv⟩ := heo
      exact ⟨v, by rw [hbe]; exact hv⟩
    · refine (ok b u q).stay (fun c v hc r => k c v ?_ r) (fun c r => by rw [upd_ne (nown c b r)]; exact r) fun c xs r => by rw [upd_ne (ntup c xs r)]; exact r
      rcases hc with rfl | hc
      · exact hbe
      · rintro rfl
        rcases he with z | z
        · exact nown c b hc z
        · rw [hc] at z; cases z; exact hb rfl
end

/-! ### kept unless tracked; of the frames at fs (the callers') the slots may change (an exception that passes writes there); of the records at ex (iterators) nothing is said -/
structure Un (fs ex : List Addr) (H H' : Hp) (h h' : Heap) : Prop where
  keep : ∀ b o, h.get? b = some o → H b = none → b ∉ fs → b ∉ ex → h'.get? b = some o
  slot : ∀ b o, h.get? b = some o → H b = none → b ∈ fs → b ∉ ex → ∃ sl, h'.get? b = some { o with slots := sl }
  free : ∀ b o, h.get? b = some o → H b = none → b ∉ ex → H' b = none
  there : ∀ b o, h.get? b = some o → b ∉ ex → ∃ o', h'.get? b = some o'
  tups : ∀ b xs, H b = some (.tup xs) → H' b = some (.tup xs)
  frzs : ∀ b o u, H b = some (.frz o u) → H' b = some (.frz o u)
  tbls : ∀ b ps, H b = some (.tbl ps) → ∃ more, H' b = some (.tbl (ps ++ more))
section
variable {fs fs' ex ex' : List Addr} {H H1 H2 : Hp} {h h1 h2 h' : Heap} {a x e : Addr} {o : HO}
theorem Un.any (u : Un fs ex H H1 h h1) {b : Addr} {ob : Obj} (q : h.get? b = some ob) (n : H b = none) (hx : b ∉ ex) : ∃ sl, h1.get? b = some { ob with slots := sl } := by
  by_cases hb : b ∈ fs
  · exact u.slot b ob q n hb hx
  · exact ⟨ob.slots, u.keep b ob q n hb hx⟩
theorem Un.trans (a : Un fs ex H H1 h h1) (b : Un fs ex H1 H2 h1 h2) : Un fs ex H H2 h h2 where
  keep := fun c ob q n hc hx => b.keep c ob (a.keep c ob q n hc hx) (a.free c ob q n hx) hc hx
  slot := fun c ob q n hc hx => by
    obtain ⟨sl, e1⟩ := a.slot c ob q n hc hx
    obtain ⟨sl', e2⟩ := b.slot c _ e1 (a.free c ob q n hx) hc hx
    exact ⟨sl', e2⟩
  free := fun c ob q n hx => by
    obtain ⟨o', e1⟩ := a.there c ob q hx
    exact b.free c o' e1 (a.free c ob q n hx) hx
  there := fun c ob q hx => by
    obtain ⟨o', e1⟩ := a.there c ob q hx
    exact b.there c o' e1 hx
  tups := fun c xs q => b.tups c xs (a.tups c xs q)
  frzs := fun c ob xs q => b.frzs c ob xs (a.frzs c ob xs q)
  tbls := fun c ps q => by
    obtain ⟨m1, e1⟩ := a.tbls c ps q
    obtain ⟨m2, e2⟩ := b.tbls c _ e1
    exact ⟨m1 ++ m2, by rw [e2, Array.append_assoc]⟩
theorem Un.kept (k : ∀ b u, h.get? b = some u → h'.get? b = some u) : Un fs ex H H h h' :=
  ⟨fun b ob q _ _ _ => k b ob q, fun b ob q _ _ _ => ⟨ob.slots, k b ob q⟩, fun _ _ _ n _ => n, fun b ob q _ => ⟨ob, k b ob q⟩, fun _ _ q => q, fun _ _ _ q => q, fun _ ps q => ⟨#[], by rw [q]; simp⟩⟩
theorem Un.refl : Un fs ex H H h h := Un.kept fun _ _ q => q
theorem Un.laid (k : ∀ b u, h.get? b = some u → h'.get? b = some u) (hp : h.objs.size ≤ a) (hn : H a = none) : Un fs ex H (upd H a o) h h' where
  keep := fun b u q _ _ _ => k b u q
  slot := fun b u q _ _ _ => ⟨u.slots, k b u q⟩
  free := fun b u q n _ => by rw [upd_ne (Nat.ne_of_lt (Nat.lt_of_lt_of_le (Heap.lt_size q) hp))]; exact n
  there := fun b u q _ => ⟨u, k b u q⟩
  tups := fun b xs q => by rw [upd_ne (ne_of_none q hn)]; exact q
  frzs := fun b u xs q => by rw [upd_ne (ne_of_none q hn)]; exact q
  tbls := fun b ps q => ⟨#[], by rw [upd_ne (ne_of_none q hn), q]; simp⟩
theorem Un.write (mu : Mut (H x)) (he : e = x ∨ H e = some (.own x)) (k : ∀ b u, b ≠ e → h.get? b = some u → h'.get? b = some u) (heo : ∃ u, h'.get? e = some u) : Un fs ex H (upd H x o) h h' := by
  have hx : ∀ b, H b = none → b ≠ x := fun b n z => by subst z; rw [n] at mu; exact mu
  have hb : ∀ b, H b = none → b ≠ e := fun b n z => by
    subst z
    rcases he with r | r
    · exact hx b n r
    · rw [n] at r; cases r
  have hm : ∀ b u, H b = some u → ¬ Mut (some u) → b ≠ x := fun b u q nm z => by subst z; rw [q] at mu; exact nm mu
  refine ⟨fun b u q n _ _ => k b u (hb b n) q, fun b u q n _ _ => ⟨u.slots, k b u (hb b n) q⟩, fun b u q n _ => by rw [upd_ne (hx b n)]; exact n, fun b u q _ => ?_,
    fun b xs q => by rw [upd_ne (hm b _ q fun z => z)]; exact q, fun b u xs q => by rw [upd_ne (hm b _ q fun z => z)]; exact q, fun b ps q => ⟨#[], by rw [upd_ne (hm b _ q fun z => z), q]; simp⟩⟩
  by_cases hbe : b = e
  · subst hbe; exact heo
  · exact ⟨u, k b u hbe q⟩
end

/-! ### the heap without what is tracked -/
def trk (h : Heap) (H : Hp) : List Addr := (List.range h.objs.size).filter fun a => (H a).isSome
def hidT (h : Heap) (H : Hp) : Heap := PySem.W.hideAll h (trk h H)
theorem hidT_size (h : Heap) (H : Hp) : (hidT h H).objs.size = h.objs.size := PySem.W.hideAll_size _ _
theorem hidT_get {h : Heap} {H : Hp} {b : Addr} {o : Obj} (e : h.get? b = some o) (n : H b = none) : (hidT h H).get? b = some o :=
  PySem.W.hideAll_get _ e fun hm => by
    have q : (H b).isSome = true := (List.mem_filter.mp hm).2
    rw [n] at q; simp at q
theorem of_hidT {h : Heap} {H : Hp} {b : Addr} {o : Obj} (e : (hidT h H).get? b = some o) : h.get? b = some o ∧ H b = none := by
  have e' : h.get? b = some o := PySem.W.of_hideAll (trk h H) e
  refine ⟨e', ?_⟩
  cases q : H b with
  | none => rfl
  | some x =>
    have hm : b ∈ trk h H := List.mem_filter.mpr ⟨List.mem_range.mpr (Heap.lt_size e'), by simp [q]⟩
    have z : (hidT h H).get? b = none := PySem.W.hideAll_none (trk h H) hm
    rw [z] at e; cases e

/-! ### OpenK's ledger, filled with every new object but one -/
def allNews (g h : Heap) (L : Addr) : List (Addr × Obj) := (List.range h.objs.size).filterMap fun a => if a = L ∨ (g.get? a).isSome = true then none else (h.get? a).map fun o => (a, o)
def rest (g h : Heap) (L d : Addr) : List (Addr × Obj) := (allNews g h L).filter fun p => decide (p.1 ≠ d)
end L2

namespace L2
open PySem PySem.Spec PyProof.Rows

/-- the module's facts, over the base: the heap at the law's entry without what is tracked there -/
structure Mod (K : PySem.W.Frag) (mg : Str → Option Value) (base : Heap) : Prop where
  kin : K.In base
  glob : base.Ns mainGlobals mg
  blt : ∃ mb, base.Ns builtinsNs mb ∧ ∀ x : Str, x ≠ "__name__" → mb x = bootBuiltins x
  nolimit : base.NoLimit

/-- the context: a def's body (or a comprehension's block) running. base: fixed through the whole law; s₀, H₀: the entry; outer: the frames whose slots others may change (a def's callers); stack: all frames that run;
   ex: iterators that were made ahead of the entry and are walked here (a comprehension's); fn: the names whose cells were made at the entry (a def: all; a comprehension's block: its own); calm: not within an except suite; pn: pins that every state bears; xe: what is wanted of an exception that leaves the code -/
structure Cx where
  prog : Program
  w : World
  K : PySem.W.Frag
  mg : Str → Option Value
  base : Heap
  A : Around
  N : List Str
  s₀ : Shared
  H₀ : Hp
  env : Env
  outer : List Env
  stack : List Env
  ex : List Addr
  fn : Str → Bool
  calm : Bool
  pn : List (Addr × Obj)
  xe : Value → Shared → Prop
/-- the callers' frames -/
def frs (l : List Env) : List Addr := l.filterMap (·.frame)
abbrev Cx.fs (X : Cx) : List Addr := frs X.outer

def Vis (sc : Scope) (x : Str) : Prop := sc.names.lookup x = some .local ∨ sc.names.lookup x = some .cell ∨ sc.names.lookup x = some .free
def Loc (sc : Scope) (x : Str) : Prop := sc.names.lookup x = some .local ∨ sc.names.lookup x = some .cell
def Look (env : Env) (h : Heap) (m : Str → Option Value) (x : Str) (u : Value) : Prop :=
  (env.kindOf x = some .local ∧ m x = some u) ∨ ((env.kindOf x = some .cell ∨ env.kindOf x = some .free) ∧ ∃ c, env.cells.lookup x = some c ∧ h.IsCell c (some u))

/-- exceptions that stand frozen, each the context of the one ahead -/
def ChnH (H : Hp) (cs : List Addr) : Prop := cs.Nodup ∧ ∀ j a, cs[j]? = some a → ∃ o u vs, H a = some (.frz o u) ∧ o.data = .fields vs ∧ vs[2]? = some (nxt cs (j + 1))
/-- nothing is handled, or an exception that stands frozen, with its contexts -/
def HdAt (A : Around) (H : Hp) : Prop := A.handled = none ∨ ∃ a cs, A.handled = some (.ref a) ∧ ChnH H (a :: cs)
structure Cx.Ok (X : Cx) : Prop where
  mod : Mod X.K X.mg X.base
  kind : X.env.scope.kind = .function
  glob : X.env.globals = mainGlobals
  blt : X.env.builtins = builtinsNs
  above : X.s₀.heap.objs.size ≤ X.env.locals
  inj : ∀ x y c, X.env.cells.lookup x = some c → X.env.cells.lookup y = some c → x = y
  has : ∀ x, (X.env.kindOf x = some .cell ∨ X.env.kindOf x = some .free) → ∃ c, X.env.cells.lookup x = some c
  cab : ∀ x c, X.fn x = true → X.env.cells.lookup x = some c → X.s₀.heap.objs.size ≤ c
  hd : HdAt X.A X.H₀
  frames : X.A.frames = some X.stack
  stk : X.stack = X.outer ∨ (X.stack = X.env :: X.outer ∧ X.env.frame = some X.env.locals)
  exf : ∀ b ∈ X.ex, b ≠ X.env.locals ∧ ∀ x c, X.env.cells.lookup x = some c → c ≠ b
  bs : ∀ b o, X.base.get? b = some o → X.s₀.heap.get? b = some o ∧ X.H₀ b = none
  bsz : X.base.objs.size ≤ X.s₀.heap.objs.size
  noex : ∀ b o, X.base.get? b = some o → b ∉ X.ex
  exfs : ∀ b ∈ X.ex, b ∉ X.fs
  funs : X.s₀.heap.FunFrames X.base X.outer
  frf : ∀ b ∈ X.fs, X.H₀ b = none

structure Inv (X : Cx) (pins : List (Addr × Obj)) (σ : List (Option V)) (H : Hp) (s : Shared) : Prop where
  ok : X.Ok
  os : s.os = X.s₀.os
  bare : AllBare s.gens
  base : Un X.fs X.ex X.H₀ H X.s₀.heap s.heap
  loc : ∃ m, s.heap.Ns X.env.locals m ∧ ∀ (i : Nat) (x : Str) (v : V), X.N[i]? = some x → σ[i]? = some (some v) → Vis X.env.scope x → ∃ u, RelV v u ∧ Look X.env s.heap m x u
  cell : ∀ x c, X.env.cells.lookup x = some c → ∃ v, s.heap.IsCell c v
  free : H X.env.locals = none
  freeC : ∀ x c, X.env.cells.lookup x = some c → H c = none
  pin : ∀ p ∈ X.pn ++ pins, s.heap.get? p.1 = some p.2 ∧ H p.1 = none ∧ p.1 ≠ X.env.locals ∧ p.1 ∉ X.fs ∧ ∀ v, p.2.data ≠ .cell v
  hok : HOk X.prog X.w H s.heap
  len : σ.length = X.N.length

section
variable {X : Cx} {pins : List (Addr × Obj)} {σ : List (Option V)} {H H' : Hp} {s : Shared} {h' : Heap}

theorem Cx.Ok.nofr (ok : X.Ok) {b : Addr} {o : Obj} (e : X.base.get? b = some o) : b ∉ X.fs := fun hb => by
  have := (ok.funs.mem hb).1
  rw [e] at this; cases this
theorem Inv.bs (I : Inv X pins σ H s) : ∀ b o, X.base.get? b = some o → s.heap.get? b = some o ∧ H b = none := fun b o e =>
  ⟨I.base.keep b o (I.ok.bs b o e).1 (I.ok.bs b o e).2 (I.ok.nofr e) (I.ok.noex b o e), I.base.free b o (I.ok.bs b o e).1 (I.ok.bs b o e).2 (I.ok.noex b o e)⟩
theorem Inv.bk (I : Inv X pins σ H s) : ∀ b o, X.base.get? b = some o → s.heap.get? b = some o := fun b o e => (I.bs b o e).1
theorem Inv.mod (I : Inv X pins σ H s) : Mod X.K X.mg X.base := I.ok.mod
theorem Inv.kIn (I : Inv X pins σ H s) : X.K.In s.heap := I.ok.mod.kin.keeps I.bk
theorem ChnH.mono {cs : List Addr} (c : ChnH H cs) (k : ∀ b o u, H b = some (.frz o u) → H' b = some (.frz o u)) : ChnH H' cs := ⟨c.1, fun j a hj => by
  obtain ⟨o, u, vs, h, r⟩ := c.2 j a hj
  exact ⟨o, u, vs, k a o u h, r⟩⟩
theorem ChnH.chn {cs : List Addr} {P : Program} {w : World} {h : Heap} (c : ChnH H cs) (k : HOk P w H h) : Chn h cs := ⟨c.1, fun j a hj => by
  obtain ⟨o, u, vs, q, r⟩ := c.2 j a hj
  obtain ⟨z, _⟩ := k a _ q
  exact ⟨o, vs, z, r⟩⟩
theorem ChnH.not_mem {cs : List Addr} {b : Addr} (c : ChnH H cs) (hb : H b = none) : b ∉ cs := fun z => by
  obtain ⟨j, hj⟩ := List.mem_iff_getElem?.mp z
  obtain ⟨o, u, vs, q, _⟩ := c.2 j b hj
  rw [hb] at q; cases q
theorem HdAt.mono {A : Around} (x : HdAt A H) (k : ∀ b o u, H b = some (.frz o u) → H' b = some (.frz o u)) : HdAt A H' := by
  rcases x with e | ⟨a, cs, e, c⟩
  · exact .inl e
  · exact .inr ⟨a, cs, e, c.mono k⟩
theorem Inv.hdAt (I : Inv X pins σ H s) : HdAt X.A H := I.ok.hd.mono I.base.frzs
theorem HdAt.hd {A : Around} {P : Program} {w : World} {h : Heap} (x : HdAt A H) (k : HOk P w H h) : Hd A h := by
  rcases x with e | ⟨a, cs, e, c⟩
  · exact .inl e
  · exact .inr ⟨a, cs, e, c.chn k⟩
theorem HdAt.new {A : Around} {p : Addr} {u : HO} (x : HdAt A H) (hn : H p = none) : HdAt A (upd H p u) := x.mono fun b o v q => by rw [upd_ne (ne_of_none q hn)]; exact q
theorem Inv.hd (I : Inv X pins σ H s) : Hd X.A s.heap := I.hdAt.hd I.hok
theorem Inv.lt (I : Inv X pins σ H s) : X.env.locals < s.heap.objs.size := let ⟨_, hn, _⟩ := I.loc; hn.lt
theorem Inv.sz (I : Inv X pins σ H s) : X.s₀.heap.objs.size ≤ s.heap.objs.size := Nat.le_trans I.ok.above (Nat.le_of_lt I.lt)
theorem Inv.nofs (I : Inv X pins σ H s) {a : Addr} (h : s.heap.objs.size ≤ a) : a ∉ X.fs := fun hb => by
  obtain ⟨_, o, ho, _⟩ := I.ok.funs.mem hb
  exact absurd (Nat.lt_of_lt_of_le (Heap.lt_size ho) (Nat.le_trans I.sz h)) (Nat.lt_irrefl _)
theorem Inv.cne (I : Inv X pins σ H s) : ∀ x c, X.env.cells.lookup x = some c → c ≠ X.env.locals := fun x c e z => by
  obtain ⟨v, o, ho, hd⟩ := I.cell x c e
  obtain ⟨m, ⟨o', es, ep, ho', hd', _⟩, _⟩ := I.loc
  rw [z, ho'] at ho; cases ho; rw [hd'] at hd; cases hd
theorem Inv.funs (I : Inv X pins σ H s) : s.heap.FunFrames X.base X.outer := by
  have all : ∀ (l : List Env), (∀ b ∈ frs l, b ∈ X.fs) → X.s₀.heap.FunFrames X.base l → s.heap.FunFrames X.base l := by
    intro l
    induction l with
    | nil => intro _ _; trivial
    | cons env r ih =>
      intro hs hl
      obtain ⟨hk, ⟨L, o, hf, hn, ho, hd⟩, hr⟩ := hl
      have hL : L ∈ X.fs := hs L (by unfold frs; rw [List.filterMap_cons, hf]; exact List.mem_cons_self)
      obtain ⟨sl, e⟩ := I.base.slot L o ho (I.ok.frf L hL) hL fun z => I.ok.exfs L z hL
      exact ⟨hk, ⟨L, _, hf, hn, e, hd⟩, ih (fun b hb => hs b (by unfold frs; rw [List.filterMap_cons, hf]; exact List.mem_cons_of_mem _ hb)) hr⟩
  exact all X.outer (fun _ hb => hb) I.ok.funs

/-- the frames that run, for a call -/
theorem Inv.stack (I : Inv X pins σ H s) : s.heap.FunFrames X.base X.stack := by
  rcases I.ok.stk with e | ⟨e, hf⟩
  · rw [e]; exact I.funs
  · rw [e]
    obtain ⟨m, hn, _⟩ := I.loc
    refine .cons (by rw [I.ok.kind]; decide) hf hn ?_ I.funs
    exact Heap.get?_none_of_le (Nat.le_trans I.ok.bsz I.ok.above)
theorem Inv.stkSub (I : Inv X pins σ H s) : ∀ b ∈ frs X.stack, b ∈ X.env.locals :: X.fs := fun b hb => by
  rcases I.ok.stk with e | ⟨e, hf⟩
  · rw [e] at hb; exact List.mem_cons_of_mem _ hb
  · rw [e] at hb
    unfold frs at hb
    rw [List.filterMap_cons, hf] at hb
    exact hb
theorem Inv.stkFree (I : Inv X pins σ H s) : ∀ b ∈ frs X.stack, H b = none := fun b hb => by
  rcases List.mem_cons.mp (I.stkSub b hb) with e | hb
  · rw [e]; exact I.free
  · obtain ⟨_, o, ho, _⟩ := I.ok.funs.mem hb
    exact I.base.free b o ho (I.ok.frf b hb) fun z => I.ok.exfs b z hb

/-- THE STEP: the untracked objects but the frame and the records at ch are kept (the callers' frames up to slots), the frame's map is kept, the new abstract heap is held -/
theorem Inv.step {g' : Array GenState} {t' : Nat} {d' : Drawn} {ch : List Addr} (I : Inv X pins σ H s)
    (hch : ∀ b ∈ ch, (b ∈ X.ex ∨ X.s₀.heap.objs.size ≤ b) ∧ b ≠ X.env.locals ∧ (∀ x c, X.env.cells.lookup x = some c → c ≠ b) ∧ ∀ p ∈ X.pn ++ pins, p.1 ≠ b)
    (keep : ∀ b o, b ≠ X.env.locals → b ∉ X.fs → b ∉ ch → s.heap.get? b = some o → H b = none → h'.get? b = some o)
    (slot : ∀ b o, b ≠ X.env.locals → b ∈ X.fs → b ∉ ch → s.heap.get? b = some o → H b = none → ∃ sl, h'.get? b = some { o with slots := sl }) (free : ∀ b o, b ∉ ch → s.heap.get? b = some o → H b = none → H' b = none)
    (there : ∀ b o, b ∉ ch → s.heap.get? b = some o → ∃ o', h'.get? b = some o')
    (tups : ∀ b xs, H b = some (.tup xs) → H' b = some (.tup xs)) (frzs : ∀ b o u, H b = some (.frz o u) → H' b = some (.frz o u)) (tbls : ∀ b ps, H b = some (.tbl ps) → ∃ more, H' b = some (.tbl (ps ++ more)))
    (ns : ∀ m, s.heap.Ns X.env.locals m → h'.Ns X.env.locals m) (hok : HOk X.prog X.w H' h') (hg : AllBare g') :
    Inv X pins σ H' { s with heap := h', gens := g', drawn := d', toks := t' } := by
  have neL : ∀ b o, X.s₀.heap.get? b = some o → b ≠ X.env.locals := fun b o e => Nat.ne_of_lt (Nat.lt_of_lt_of_le (Heap.lt_size e) I.ok.above)
  have neC : ∀ b o, X.s₀.heap.get? b = some o → b ∉ X.ex → b ∉ ch := fun b o e hx hb => by
    rcases (hch b hb).1 with z | z
    · exact hx z
    · exact absurd (Nat.lt_of_lt_of_le (Heap.lt_size e) z) (Nat.lt_irrefl _)
  have cellK : ∀ x c, X.env.cells.lookup x = some c → ∀ v, s.heap.IsCell c v → h'.IsCell c v := fun x c e v ⟨o, ho, hd⟩ => by
    have nch : c ∉ ch := fun z => (hch c z).2.2.1 x c e rfl
    by_cases hc : c ∈ X.fs
    · obtain ⟨sl, q⟩ := slot c o (I.cne x c e) hc nch ho (I.freeC x c e)
      exact ⟨_, q, hd⟩
    · exact ⟨o, keep c o (I.cne x c e) hc nch ho (I.freeC x c e), hd⟩
  refine ⟨I.ok, I.os, hg, ⟨fun b o e n hb hx => ?_, fun b o e n hb hx => ?_, fun b o e n hx => ?_, fun b o e hx => ?_, fun b xs e => tups b xs (I.base.tups b xs e), fun b o xs e => frzs b o xs (I.base.frzs b o xs e), fun b ps e => ?_⟩, ?_, fun x c e => ?_, ?_, fun x c e => ?_, fun p hp => ?_, hok, I.len⟩
  · exact keep b o (neL b o e) hb (neC b o e hx) (I.base.keep b o e n hb hx) (I.base.free b o e n hx)
  · obtain ⟨sl, e1⟩ := I.base.slot b o e n hb hx
    obtain ⟨sl', e2⟩ := slot b _ (neL b o e) hb (neC b o e hx) e1 (I.base.free b o e n hx)
    exact ⟨sl', e2⟩
  · obtain ⟨o', e1⟩ := I.base.there b o e hx
    exact free b o' (neC b o e hx) e1 (I.base.free b o e n hx)
  · obtain ⟨o', e1⟩ := I.base.there b o e hx
    exact there b o' (neC b o e hx) e1
  · obtain ⟨m1, e1⟩ := I.base.tbls b ps e
    obtain ⟨m2, e2⟩ := tbls b _ e1
    exact ⟨m1 ++ m2, by rw [e2, Array.append_assoc]⟩
  · obtain ⟨m, hn, hl⟩ := I.loc
    refine ⟨m, ns m hn, fun i x v e1 e2 e3 => ?_⟩
    obtain ⟨u, r, l⟩ := hl i x v e1 e2 e3
    refine ⟨u, r, ?_⟩
    rcases l with l | ⟨k, c, e, z⟩
    · exact .inl l
    · exact .inr ⟨k, c, e, cellK x c e _ z⟩
  · obtain ⟨v, z⟩ := I.cell x c e
    exact ⟨v, cellK x c e v z⟩
  · obtain ⟨m, ⟨o, _, _, ho, _⟩, _⟩ := I.loc
    exact free _ o (fun z => (hch _ z).2.1 rfl) ho I.free
  · obtain ⟨v, o, ho, hd⟩ := I.cell x c e
    exact free c o (fun z => (hch c z).2.2.1 x c e rfl) ho (I.freeC x c e)
  · obtain ⟨e, n, ne, nf, d⟩ := I.pin p hp
    have nch : p.1 ∉ ch := fun z => (hch p.1 z).2.2.2 p hp rfl
    exact ⟨keep p.1 p.2 ne nf nch e n, free p.1 p.2 nch e n, ne, nf, d⟩
/-- .. where the frame's own object is kept too -/
theorem Inv.un {t' : Nat} (I : Inv X pins σ H s) (u : Un X.fs [] H H' s.heap h') (hok : HOk X.prog X.w H' h') : Inv X pins σ H' { s with heap := h', toks := t' } := by
  obtain ⟨m, ⟨o, es, ep, ho, r⟩, _⟩ := id I.loc
  obtain ⟨sl, hL⟩ := u.any ho I.free (by simp)
  exact I.step (g' := s.gens) (d' := s.drawn) (ch := []) (fun _ z => nomatch z) (fun b o _ hb _ e n => u.keep b o e n hb (by simp)) (fun b o _ hb _ e n => u.slot b o e n hb (by simp)) (fun b o _ e n => u.free b o e n (by simp)) (fun b o _ e => u.there b o e (by simp)) u.tups u.frzs u.tbls (fun m' hm => by
    obtain ⟨o', es', ep', ho', r'⟩ := hm
    rw [ho] at ho'; cases ho'
    exact ⟨_, es', ep', hL, r'⟩) hok I.bare
/-- behind a call (or a comprehension's block): the slots of this frame may have changed too, the records at ch may have turned -/
theorem Inv.call {g' : Array GenState} {t' : Nat} {d' : Drawn} {ch : List Addr} (I : Inv X pins σ H s) (u : Un (frs X.stack) ch H H' s.heap h') (hok : HOk X.prog X.w H' h') (hg : AllBare g')
    (hch : ∀ b ∈ ch, (b ∈ X.ex ∨ X.s₀.heap.objs.size ≤ b) ∧ b ≠ X.env.locals ∧ (∀ x c, X.env.cells.lookup x = some c → c ≠ b) ∧ ∀ p ∈ X.pn ++ pins, p.1 ≠ b) :
    Inv X pins σ H' { s with heap := h', gens := g', drawn := d', toks := t' } := by
  obtain ⟨m, ⟨o, es, ep, ho, r⟩, _⟩ := id I.loc
  obtain ⟨sl, hL⟩ := u.any ho I.free fun z => (hch _ z).2.1 rfl
  exact I.step (ch := ch) hch (fun b o hL hb hc e n => u.keep b o e n (fun z => (List.mem_cons.mp (I.stkSub b z)).elim hL hb) hc) (fun b o _ _ hc e n => u.any e n hc) (fun b o hc e n => u.free b o e n hc) (fun b o hc e => u.there b o e hc) u.tups u.frzs u.tbls (fun m' hm => by
    obtain ⟨o', es', ep', ho', r'⟩ := hm
    rw [ho] at ho'; cases ho'
    exact ⟨_, es', ep', hL, r'⟩) hok hg
/-- an untracked record of ours (an iterator) has turned -/
theorem Inv.turned {t' : Nat} {it : Addr} (I : Inv X pins σ H s) (k : ∀ b o, b ≠ it → s.heap.get? b = some o → h'.get? b = some o) (hn : H it = none) (hL : it ≠ X.env.locals)
    (h1 : it ∈ X.ex ∨ X.s₀.heap.objs.size ≤ it) (h2 : ∀ x c, X.env.cells.lookup x = some c → c ≠ it) (h3 : ∀ p ∈ X.pn ++ pins, p.1 ≠ it) : Inv X pins σ H { s with heap := h', toks := t' } := by
  have nit : ∀ b u, H b = some u → b ≠ it := fun b u e z => by rw [z, hn] at e; cases e
  refine I.step (g' := s.gens) (d' := s.drawn) (ch := [it]) (fun b hb => ?_) (fun b o _ _ hc e _ => k b o (fun z => hc (by simp [z])) e) (fun b o _ _ hc e _ => ⟨o.slots, k b o (fun z => hc (by simp [z])) e⟩) (fun _ _ _ _ n => n)
    (fun b o hc e => ⟨o, k b o (fun z => hc (by simp [z])) e⟩) (fun _ _ e => e) (fun _ _ _ e => e) (fun b ps e => ⟨#[], by rw [e]; simp⟩) (fun m hm => ?_) (fun b u e => ?_) I.bare
  · have e : b = it := by simpa using hb
    subst e
    exact ⟨h1, hL, h2, h3⟩
  · obtain ⟨o, es, ep, ho, r⟩ := hm
    exact ⟨o, es, ep, k _ o (Ne.symm hL) ho, r⟩
  · refine (I.hok b u e).stay (fun c v hc q => k c v ?_ q) (fun _ q => q) fun _ _ q => q
    rcases hc with z | z
    · rw [z]; exact nit b u e
    · exact nit c _ z
theorem Inv.tok (I : Inv X pins σ H s) (t : Nat) : Inv X pins σ H { s with toks := t } := I.un (h' := s.heap) (t' := t) Un.refl I.hok
/-- all objects kept -/
theorem Inv.kept {t' : Nat} (I : Inv X pins σ H s) (k : ∀ b u, s.heap.get? b = some u → h'.get? b = some u) : Inv X pins σ H { s with heap := h', toks := t' } := I.un (Un.kept k) (I.hok.kept k)
/-- a new object laid and tracked -/
theorem Inv.laid {a : Addr} {o : HO} {t' : Nat} (I : Inv X pins σ H s) (k : ∀ b u, s.heap.get? b = some u → h'.get? b = some u) (hp : s.heap.objs.size ≤ a) (new : ObjOk X.prog X.w (upd H a o) h' a o) :
    Inv X pins σ (upd H a o) { s with heap := h', toks := t' } := I.un (Un.laid k hp (I.hok.fresh hp)) (I.hok.laid k hp new)
/-- an object written -/
theorem Inv.write {x e : Addr} {o : HO} {t' : Nat} (I : Inv X pins σ H s) (mu : Mut (H x)) (he : e = x ∨ H e = some (.own x)) (k : ∀ b u, b ≠ e → s.heap.get? b = some u → h'.get? b = some u) (heo : ∃ u, h'.get? e = some u)
    (new : ObjOk X.prog X.w (upd H x o) h' x o) : Inv X pins σ (upd H x o) { s with heap := h', toks := t' } := I.un (Un.write mu he k heo) (I.hok.write mu he k heo new)
theorem Inv.pins_of {pins' : List (Addr × Obj)} (I : Inv X pins σ H s) (h : ∀ p ∈ pins', s.heap.get? p.1 = some p.2 ∧ H p.1 = none ∧ p.1 ≠ X.env.locals ∧ p.1 ∉ X.fs ∧ ∀ v, p.2.data ≠ .cell v) : Inv X pins' σ H s :=
  ⟨I.ok, I.os, I.bare, I.base, I.loc, I.cell, I.free, I.freeC, fun p hp => (List.mem_append.mp hp).elim (fun z => I.pin p (List.mem_append_left _ z)) (h p), I.hok, I.len⟩

theorem nodup_ix {N : List Str} (hN : N.Nodup) {i j : Nat} {x : Str} (a : N[i]? = some x) (b : N[j]? = some x) : i = j := by
  obtain ⟨h1, e1⟩ := List.getElem?_eq_some_iff.mp a
  obtain ⟨h2, e2⟩ := List.getElem?_eq_some_iff.mp b
  exact (List.getElem_inj hN).mp (e1.trans e2.symm)

/-- a name is stored; what changed -/
theorem store_ok2 {M : Model} {A : Around} {E : Value → Shared → Prop} {i : Nat} {x : Str} {v : V} {u : Value} {Q : Unit → Shared → Prop} (I : Inv X pins σ H s) (hN : X.N.Nodup) (hi : X.N[i]? = some x) (hx : Loc X.env.scope x) (r : RelV v u)
    (h : ∀ s', Inv X pins (σ.set i (some v)) H s' → (∃ a, Heap.SameBut a s.heap s'.heap ∧ (a = X.env.locals ∨ X.env.cells.lookup x = some a)) → Q () s') (hf : X.fn x = true ∨ X.env.scope.names.lookup x = some .local := by first | exact .inl rfl | exact .inr rfl | assumption) : wpAny M A (storeName X.env x u) Q E s := by
  obtain ⟨m, hn, hl⟩ := id I.loc
  have hcls : (X.env.scope.kind == .class || (X.env.scope.kind == .module && X.env.locals != X.env.globals)) = false := by rw [I.ok.kind]; rfl
  have hiσ : i < σ.length := by rw [I.len]; exact (List.getElem?_eq_some_iff.mp hi).1
  have cne := I.cne
  have tracked : ∀ {a : Addr} {h' : Heap}, (∃ o, s.heap.get? a = some o ∧ H a = none) → Heap.SameBut a s.heap h' → HOk X.prog X.w H h' := fun {a h'} ha hs b ob e => by
    obtain ⟨_, _, hfree⟩ := ha
    refine (I.hok b ob e).stay (fun c w' hc q => (hs.2 c ?_).trans q) (fun _ q => q) fun _ _ q => q
    rintro rfl
    rcases hc with rfl | hc
    · rw [hfree] at e; cases e
    · rw [hfree] at hc; cases hc
  rcases hx with hk | hk
  · refine wpAny_storeName_local hk hn (fun h' hn' hs => ?_) hcls
    obtain ⟨oL, _, _, hoL, _⟩ := id hn
    refine h _ ⟨I.ok, I.os, I.bare, ⟨fun b o e n hb hx => ?_, fun b o e n hb hx => ?_, I.base.free, fun b o e hx => ?_, I.base.tups, I.base.frzs, I.base.tbls⟩, ⟨_, hn', fun j y v' e1 e2 e3 => ?_⟩, fun y c e => ?_, I.free, I.freeC, fun p hp => ?_, tracked ⟨oL, hoL, I.free⟩ hs, by simpa using I.len⟩ ⟨_, hs, .inl rfl⟩
    · exact (hs.2 b (Nat.ne_of_lt (Nat.lt_of_lt_of_le (Heap.lt_size e) I.ok.above))).trans (I.base.keep b o e n hb hx)
    · obtain ⟨sl, e1⟩ := I.base.slot b o e n hb hx
      exact ⟨sl, (hs.2 b (Nat.ne_of_lt (Nat.lt_of_lt_of_le (Heap.lt_size e) I.ok.above))).trans e1⟩
    · obtain ⟨o', e1⟩ := I.base.there b o e hx
      exact ⟨o', (hs.2 b (Nat.ne_of_lt (Nat.lt_of_lt_of_le (Heap.lt_size e) I.ok.above))).trans e1⟩
    · by_cases hj : j = i
      · subst hj
        rw [hi] at e1; cases e1
        rw [List.getElem?_set_self hiσ] at e2
        cases e2
        exact ⟨u, r, .inl ⟨hk, by simp⟩⟩
      · rw [List.getElem?_set_ne (Ne.symm hj)] at e2
        obtain ⟨u', r', q⟩ := hl j y v' e1 e2 e3
        refine ⟨u', r', ?_⟩
        rcases q with ⟨k, e⟩ | ⟨k, c, e, z⟩
        · refine .inl ⟨k, ?_⟩
          have : y ≠ x := fun e => hj (nodup_ix hN e1 (e ▸ hi))
          simp [this, e]
        · exact .inr ⟨k, c, e, z.sameBut hs (cne y c e)⟩
    · obtain ⟨w', z⟩ := I.cell y c e
      exact ⟨w', z.sameBut hs (cne y c e)⟩
    · obtain ⟨e, n, ne, nf, d⟩ := I.pin p hp
      exact ⟨(hs.2 p.1 ne).trans e, n, ne, nf, d⟩
  · have hfn : X.fn x = true := by
      rcases hf with z | z
      · exact z
      · rw [z] at hk; cases hk
    obtain ⟨c, hc⟩ := I.ok.has x (.inl hk)
    obtain ⟨w', z⟩ := I.cell x c hc
    refine wpAny_storeName_cell I.ok.kind hk hc z (fun h' hc' hs => ?_)
    obtain ⟨oc, hoc, hocd⟩ := id z
    refine h { s with heap := h' } ⟨I.ok, I.os, I.bare, ⟨fun b o e n hb hx => ?_, fun b o e n hb hx => ?_, I.base.free, fun b o e hx => ?_, I.base.tups, I.base.frzs, I.base.tbls⟩, ⟨m, hn.sameBut hs (Ne.symm (cne x c hc)), fun j y v' e1 e2 e3 => ?_⟩, fun y c' e => ?_, I.free, I.freeC, fun p hp => ?_, tracked ⟨oc, hoc, I.freeC x c hc⟩ hs, by simpa using I.len⟩ ⟨c, hs, .inr hc⟩
    · exact (hs.2 b (Nat.ne_of_lt (Nat.lt_of_lt_of_le (Heap.lt_size e) (I.ok.cab x c hfn hc)))).trans (I.base.keep b o e n hb hx)
    · obtain ⟨sl, e1⟩ := I.base.slot b o e n hb hx
      exact ⟨sl, (hs.2 b (Nat.ne_of_lt (Nat.lt_of_lt_of_le (Heap.lt_size e) (I.ok.cab x c hfn hc)))).trans e1⟩
    · obtain ⟨o', e1⟩ := I.base.there b o e hx
      exact ⟨o', (hs.2 b (Nat.ne_of_lt (Nat.lt_of_lt_of_le (Heap.lt_size e) (I.ok.cab x c hfn hc)))).trans e1⟩
    · by_cases hj : j = i
      · subst hj
        rw [hi] at e1; cases e1
        rw [List.getElem?_set_self hiσ] at e2
        cases e2
        exact ⟨u, r, .inr ⟨.inl hk, c, hc, hc'⟩⟩
      · rw [List.getElem?_set_ne (Ne.symm hj)] at e2
        obtain ⟨u', r', q⟩ := hl j y v' e1 e2 e3
        refine ⟨u', r', ?_⟩
        rcases q with q | ⟨k, c', e, z'⟩
        · exact .inl q
        · refine .inr ⟨k, c', e, z'.sameBut hs ?_⟩
          rintro rfl
          exact hj (nodup_ix hN e1 (I.ok.inj _ _ _ e hc ▸ hi))
    · by_cases hcc : c' = c
      · subst hcc; exact ⟨_, hc'⟩
      · obtain ⟨w2, z2⟩ := I.cell y c' e
        exact ⟨w2, z2.sameBut hs hcc⟩
    · obtain ⟨e, n, ne, nf, d⟩ := I.pin p hp
      refine ⟨(hs.2 p.1 ?_).trans e, n, ne, nf, d⟩
      intro q
      rw [q, hoc] at e
      have q' : oc = p.2 := Option.some.inj e
      exact d w' (by rw [← q']; exact hocd)
theorem store_ok {M : Model} {A : Around} {E : Value → Shared → Prop} {i : Nat} {x : Str} {v : V} {u : Value} {Q : Unit → Shared → Prop} (I : Inv X pins σ H s) (hN : X.N.Nodup) (hi : X.N[i]? = some x) (hx : Loc X.env.scope x) (r : RelV v u)
    (h : ∀ s', Inv X pins (σ.set i (some v)) H s' → Q () s') (hf : X.fn x = true ∨ X.env.scope.names.lookup x = some .local := by first | exact .inl rfl | exact .inr rfl | assumption) : wpAny M A (storeName X.env x u) Q E s :=
  store_ok2 I hN hi hx r (fun s' I' _ => h s' I') hf
/-- behind a call or a block, the state as it is -/
theorem Inv.call' {s' : Shared} {ch : List Addr} (I : Inv X pins σ H s) (ho : s'.os = s.os) (u : Un (frs X.stack) ch H H' s.heap s'.heap) (hok : HOk X.prog X.w H' s'.heap) (hg : AllBare s'.gens)
    (hch : ∀ b ∈ ch, (b ∈ X.ex ∨ X.s₀.heap.objs.size ≤ b) ∧ b ≠ X.env.locals ∧ (∀ x c, X.env.cells.lookup x = some c → c ≠ b) ∧ ∀ p ∈ X.pn ++ pins, p.1 ≠ b) : Inv X pins σ H' s' := by
  obtain ⟨h', g', d', t', o'⟩ := s'
  have e : o' = s.os := ho
  subst e
  exact I.call (g' := g') (t' := t') (d' := d') u hok hg hch
end

/-! ### the judgements -/
/-- an exception: its class, its own dict's address (where it has one), the abstract heap behind it -/
abbrev XK := Value → Option Addr → Hp → Prop
abbrev St := List (Option V)
abbrev VK := V → Hp → Prop
/-- an expression's reading; a test's; an argument list's -/
abbrev TE := St → Hp → VK → Prop
abbrev TT := St → Hp → (Bool → Hp → Prop) → Prop
abbrev TA := St → Hp → (List V → Hp → Prop) → Prop
/-- what is wanted behind a statement -/
structure Ends where
  nx : St → Hp → Prop
  rt : VK
  bk : St → Hp → Prop := fun _ _ => False
  ct : St → Hp → Prop := fun _ _ => False
abbrev TS := Ends → St → Hp → Prop

def EP (X : Cx) (pins : List (Addr × Obj)) (σ : St) (Q : VK) (u : Value) (s' : Shared) : Prop := ∃ v H', Inv X pins σ H' s' ∧ RelV v u ∧ Q v H'
def TP (X : Cx) (pins : List (Addr × Obj)) (σ : St) (Q : Bool → Hp → Prop) (b : Bool) (s' : Shared) : Prop := ∃ H', Inv X pins σ H' s' ∧ Q b H'
def AP (X : Cx) (pins : List (Addr × Obj)) (σ : St) (Q : List V → Hp → Prop) (us : List Value) (s' : Shared) : Prop := ∃ vs H', Inv X pins σ H' s' ∧ Vals vs us ∧ Q vs H'
def SP (X : Cx) (pins : List (Addr × Obj)) (D : Ends) (f : Flow) (s' : Shared) : Prop :=
  match f with
  | .next => ∃ σ' H', Inv X pins σ' H' s' ∧ D.nx σ' H'
  | .brk => ∃ σ' H', Inv X pins σ' H' s' ∧ D.bk σ' H'
  | .cont => ∃ σ' H', Inv X pins σ' H' s' ∧ D.ct σ' H'
  | .ret u => ∃ v σ' H', Inv X pins σ' H' s' ∧ RelV v u ∧ D.rt v H'

def PE (X : Cx) (e : Expr) (t : TE) : Prop :=
  ∀ (pins : List (Addr × Obj)) (s : Shared) (σ : St) (H : Hp) (Q : VK), Inv X pins σ H s → t σ H Q → wpAny (model X.prog X.w) X.A (eval e X.env) (EP X pins σ Q) X.xe s
def PT (X : Cx) (e : Expr) (t : TT) : Prop :=
  ∀ (pins : List (Addr × Obj)) (s : Shared) (σ : St) (H : Hp) (Q : Bool → Hp → Prop), Inv X pins σ H s → t σ H Q → wpAny (model X.prog X.w) X.A (isTrue e X.env (eval e X.env)) (TP X pins σ Q) X.xe s
/-- a test whatever its 'whole' is (and, or) -/
def PW (X : Cx) (e : Expr) (t : TT) : Prop :=
  ∀ (whole : Sem Value) (pins : List (Addr × Obj)) (s : Shared) (σ : St) (H : Hp) (Q : Bool → Hp → Prop), Inv X pins σ H s → t σ H Q → wpAny (model X.prog X.w) X.A (isTrue e X.env whole) (TP X pins σ Q) X.xe s
theorem PW.pt {X : Cx} {e : Expr} {t : TT} (h : PW X e t) : PT X e t := h _
/-- an argument list (no star), from the left -/
def PA (X : Cx) (es : List Expr) (t : TA) : Prop :=
  ∀ (pos : Pos) (pins : List (Addr × Obj)) (s : Shared) (σ : St) (H : Hp) (Q : List V → Hp → Prop), Inv X pins σ H s → t σ H Q → wpAny (model X.prog X.w) X.A (spliced (backTo pos (starEach es X.env))) (AP X pins σ Q) X.xe s
def PS (X : Cx) (st : Stmt) (t : TS) : Prop :=
  ∀ (pins : List (Addr × Obj)) (s : Shared) (σ : St) (H : Hp) (D : Ends), Inv X pins σ H s → t D σ H → wpAny (model X.prog X.w) X.A (exec st X.env) (SP X pins D) X.xe s
def PSs (X : Cx) (st : List Stmt) (t : TS) : Prop :=
  ∀ (pins : List (Addr × Obj)) (s : Shared) (σ : St) (H : Hp) (D : Ends), Inv X pins σ H s → t D σ H → wpAny (model X.prog X.w) X.A (execs st X.env) (SP X pins D) X.xe s
/-- weaken the end -/
theorem thn {α : Type} {t : Sem α} {Q Q' : α → Shared → Prop} {M : Model} {A : Around} {E : Value → Shared → Prop} {s : Shared} (h : wpAny M A t Q E s) (hQ : ∀ a s, Q a s → Q' a s) : wpAny M A t Q' E s := wpAny_mono h hQ fun _ _ x => x
end L2

namespace L2
open PySem PySem.Spec PyProof.Rows
section
variable {X : Cx}

/-! ### names and constants -/
def tVar (i : Nat) : TE := fun σ H Q => ∃ v, σ[i]? = some (some v) ∧ Q v H
def tC (v : V) : TE := fun _ H Q => Q v H
theorem pe_var {i : Nat} {x : Str} {pos : Pos} (hN : X.N[i]? = some x) (hv : Vis X.env.scope x) (hd : (x == ("__debug__" : Str)) = false := by decide) (hcd : (x == ("__classdict__" : Str)) = false := by decide) : PE X (.Name x pos) (tVar i) := by
  intro pins s σ H Q I h
  obtain ⟨v, e, h⟩ := h
  obtain ⟨m, hn, hl⟩ := I.loc
  obtain ⟨u, r, l⟩ := hl i x v hN e hv
  have fin : EP X pins σ Q u s := ⟨v, H, I, r, h⟩
  rcases l with ⟨hk, hm⟩ | ⟨hk, c, hc, hcell⟩
  · exact wpAny_Name (wpAny_loadName_local I.ok.kind hk hn hm fin) hd
  · rcases hk with hk | hk
    · exact wpAny_Name (wpAny_loadName_cell I.ok.kind hk hc hcell fin) hd
    · exact wpAny_Name (wpAny_loadName_free I.ok.kind hk hc hcell fin hcd) hd
theorem pe_int {i j pos} : PE X (.Constant (.int i) j pos) (tC (.int i)) := fun _ _ _ H _ I h => wpAny_Constant_int ⟨.int i, H, I.tok _, ⟨_, rfl⟩, h⟩
theorem pe_bl {b j pos} : PE X (.Constant (.bool b) j pos) (tC (.bl b)) := fun _ _ _ H _ I h => Constant_bool ⟨.bl b, H, I, rfl, h⟩
theorem pe_str {x j pos} : PE X (.Constant (.str x) j pos) (tC (.str x)) := fun _ _ _ H _ I h => Calls.Constant_str ⟨.str x, H, I.tok _, ⟨_, rfl⟩, h⟩

/-- a global name of the def -/
def Gl (X : Cx) (x : Str) : Prop := X.env.kindOf x = some .globalImplicit
theorem ld_glob {E : Value → Shared → Prop} {pins : List (Addr × Obj)} {s : Shared} {σ : St} {H : Hp} {x : Str} {u : Value} {pos : Pos} {Q : Value → Shared → Prop} (I : Inv X pins σ H s) (hg : Gl X x) (hm : X.mg x = some u) (h : Q u s)
    (hd : (x == ("__debug__" : Str)) = false := by decide) : wpAny (model X.prog X.w) X.A (eval (.Name x pos) X.env) Q E s :=
  Calls.Name_function_global I.ok.kind hg (Calls.loadGlobal_global (by rw [I.ok.glob]; exact I.mod.glob.keeps I.bk) hm h) hd
theorem ld_blt {E : Value → Shared → Prop} {pins : List (Addr × Obj)} {s : Shared} {σ : St} {H : Hp} {x : Str} {u : Value} {pos : Pos} {Q : Value → Shared → Prop} (I : Inv X pins σ H s) (hg : Gl X x) (hm : X.mg x = none) (hv : bootBuiltins x = some u) (h : Q u s)
    (hn : x ≠ "__name__" := by decide) (hd : (x == ("__debug__" : Str)) = false := by decide) : wpAny (model X.prog X.w) X.A (eval (.Name x pos) X.env) Q E s := by
  obtain ⟨mb, h1, h2⟩ := I.mod.blt
  exact Calls.Name_function_global I.ok.kind hg (Calls.loadGlobal_builtin (by rw [I.ok.glob]; exact I.mod.glob.keeps I.bk) hm (by rw [I.ok.blt]; exact h1.keeps I.bk) ((h2 x hn).trans hv) h) hd
/-- a module's constant, a class, a function, as a value -/
theorem pe_glob {x : Str} {v : V} {u : Value} {pos : Pos} (hg : Gl X x) (hm : X.mg x = some u) (r : RelV v u) (hd : (x == ("__debug__" : Str)) = false := by decide) : PE X (.Name x pos) (tC v) :=
  fun _ _ _ H _ I h => ld_glob I hg hm ⟨v, H, I, r, h⟩ hd
/-! ### arithmetic -/
/-- two ints -/
def t2I (ta tb : TE) (k : Int → Int → Hp → Prop) : St → Hp → Prop := fun σ H => ta σ H fun x H1 => tb σ H1 fun y H2 => ∃ i j, x = .int i ∧ y = .int j ∧ k i j H2
def tAdd (ta tb : TE) : TE := fun σ H Q => t2I ta tb (fun i j H2 => Q (.int (i + j)) H2) σ H
def tSub (ta tb : TE) : TE := fun σ H Q => t2I ta tb (fun i j H2 => Q (.int (i - j)) H2) σ H
/-- the left factor below 2^64 -/
def tMul (ta tb : TE) : TE := fun σ H Q => t2I ta tb (fun i j H2 => (-(2 ^ 64) < i ∧ i < 2 ^ 64) ∧ Q (.int (i * j)) H2) σ H
variable {a b : Expr} {ta tb : TE} {pos : Pos}
/-! ### comparisons -/
def PC (X : Cx) (op : CmpOp) (a b : Expr) (t : TE) : Prop :=
  ∀ (pins : List (Addr × Obj)) (s : Shared) (σ : St) (H : Hp) (Q : VK), Inv X pins σ H s → t σ H Q →
    wpAny (model X.prog X.w) X.A (eval a X.env) (fun v s₁ => wpAny (model X.prog X.w) X.A (eval b X.env) (fun u s₂ => wpAny (model X.prog X.w) X.A (compareOp op v u) (EP X pins σ Q) X.xe s₂) X.xe s₁) X.xe s
theorem nobehind (b : Expr) {op : CmpOp} (h : op ≠ .In) (h2 : op ≠ .NotIn) : behindInMarks op b = false := by
  have e1 : (op == CmpOp.In) = false := by cases op <;> first | rfl | exact absurd rfl h
  have e2 : (op == CmpOp.NotIn) = false := by cases op <;> first | rfl | exact absurd rfl h2
  cases b <;> simp [behindInMarks, e1, e2]
def tCmp (p : Int → Int → Bool) (ta tb : TE) : TE := fun σ H Q => t2I ta tb (fun i j H2 => Q (.bl (p i j)) H2) σ H
abbrev tLt : TE → TE → TE := tCmp fun i j => decide (i < j)
abbrev tLe : TE → TE → TE := tCmp fun i j => decide (i ≤ j)
abbrev tGt : TE → TE → TE := tCmp fun i j => decide (j < i)
abbrev tGe : TE → TE → TE := tCmp fun i j => decide (j ≤ i)
abbrev tEqI : TE → TE → TE := tCmp fun i j => decide (i = j)
abbrev tNeI : TE → TE → TE := tCmp fun i j => !decide (i = j)
/-- is None -/
def tIsN (ta : TE) : TE := fun σ H Q => ta σ H fun x H1 => Q (.bl (decide (x = .non))) H1
def tNotN (ta : TE) : TE := fun σ H Q => ta σ H fun x H1 => Q (.bl (!decide (x = .non))) H1
/-- a comparison as a value, as a test -/
def tB (t : TE) : TT := fun σ H Q => t σ H fun x H1 => ∃ c, x = .bl c ∧ Q c H1
theorem pt_cmp {op : CmpOp} {t : TE} (h : PC X op a b t) (h1 : behindInMarks op b = false := by first | exact nobehind _ (by decide) (by decide) | rfl) : PT X (.Compare a [op] [b] pos) (tB t) := by
  intro pins s σ H Q I hw
  refine wpAny_isTrue_Compare1 (thn (h pins s σ H _ I hw) fun v s1 h1 => thn h1 fun u s2 h2 => thn h2 fun c s3 => L2.ex5 fun x H1 I1 r1 q1 => ?_) h1
  obtain ⟨d, rfl, q⟩ := q1
  cases r1
  exact wpAny_truthy_bool ⟨H1, I1, q⟩
/-! ### and, or, not -/
variable {tA tB' : TT} {rest : List Expr}
def tAnd (t u : TT) : TT := fun σ H Q => t σ H fun c H1 => if c = true then u σ H1 Q else Q false H1
def tOr (t u : TT) : TT := fun σ H Q => t σ H fun c H1 => if c = true then Q true H1 else u σ H1 Q
def tNot (t : TT) : TT := fun σ H Q => t σ H fun c H1 => Q (!c) H1
theorem pw_and1 (ha : PT X a tA) : PW X (.BoolOp .And [a] pos) tA := by
  intro wh pins s σ H Q I h
  refine isTrue_and (thn (ha pins s σ H Q I h) fun c s1 e => ?_)
  cases c with
  | true => exact isTrue_and_nil e
  | false => exact e
theorem pw_or1 (ha : PT X a tA) : PW X (.BoolOp .Or [a] pos) tA := by
  intro wh pins s σ H Q I h
  refine isTrue_or (thn (ha pins s σ H Q I h) fun c s1 e => ?_)
  cases c with
  | false => exact isTrue_or_nil e
  | true => exact e
theorem pw_and (ha : PT X a tA) (hb : PW X (.BoolOp .And (b :: rest) pos) tB') : PW X (.BoolOp .And (a :: b :: rest) pos) (tAnd tA tB') := by
  intro wh pins s σ H Q I h
  refine isTrue_and (thn (ha pins s σ H _ I h) fun c s1 => L2.ex3 fun H1 I1 q1 => ?_)
  cases c with
  | true => exact hb wh pins s1 σ H1 Q I1 q1
  | false => exact ⟨H1, I1, q1⟩
theorem pw_or (ha : PT X a tA) (hb : PW X (.BoolOp .Or (b :: rest) pos) tB') : PW X (.BoolOp .Or (a :: b :: rest) pos) (tOr tA tB') := by
  intro wh pins s σ H Q I h
  refine isTrue_or (thn (ha pins s σ H _ I h) fun c s1 => L2.ex3 fun H1 I1 q1 => ?_)
  cases c with
  | true => exact ⟨H1, I1, q1⟩
  | false => exact hb wh pins s1 σ H1 Q I1 q1
/-- .. as values (bools) -/
def tAndV (ta tb : TE) : TE := fun σ H Q => ta σ H fun x H1 => ∃ c, x = .bl c ∧ if c = true then tb σ H1 Q else Q (.bl false) H1
def tOrV (ta tb : TE) : TE := fun σ H Q => ta σ H fun x H1 => ∃ c, x = .bl c ∧ if c = true then Q (.bl true) H1 else tb σ H1 Q
def tNotV (ta : TE) : TE := fun σ H Q => ta σ H fun x H1 => ∃ c, x = .bl c ∧ Q (.bl (!c)) H1
/-- a if t else b -/
def tIf (t : TT) (ta tb : TE) : TE := fun σ H Q => t σ H fun c H1 => if c = true then ta σ H1 Q else tb σ H1 Q
end
end L2

namespace L2
open PySem PySem.Spec PyProof.Rows

/-! ### a list, a tuple that is read: tracked, frozen, or an object of the module -/
def SqL (K : PySem.W.Frag) (H : Hp) (a : Addr) (xs : List V) : Prop :=
  Rd H a (.lst xs) ∨
    ∃ (o : Obj) (its : Array Value) (n : Nat), K.lookup a = some o ∧ o.cls = .type "list" ∧ o.dict = none ∧ o.data = .seq its n ∧ its.size ≤ sizeLine ∧ Vals xs its.toList
def SqT (K : PySem.W.Frag) (H : Hp) (a : Addr) (xs : List V) : Prop :=
  Rd H a (.tup xs) ∨
    ∃ (o : Obj) (its : Array Value) (n : Nat), K.lookup a = some o ∧ o.cls = .type "tuple" ∧ o.data = .seq its n ∧ its.size ≤ sizeLine ∧ Vals xs its.toList
def absV : Value → Option V
  | .none => some .non
  | .bool b => some (.bl b)
  | .int i _ => some (.int i)
  | .str x _ => some (.str x)
  | .bytes b _ => some (.byt b)
  | .float b _ => some (.flt b)
  | .ref a => some (.ref a)
  | .type n => some (.ty n)
  | _ => none
theorem RelV.abs {x : V} {u : Value} (r : RelV x u) : absV u = some x := by
  cases x with
  | non => cases r; rfl
  | bl _ => cases r; rfl
  | int _ => obtain ⟨t, rfl⟩ := r; rfl
  | str _ => obtain ⟨t, rfl⟩ := r; rfl
  | byt _ => obtain ⟨t, rfl⟩ := r; rfl
  | flt _ => obtain ⟨t, rfl⟩ := r; rfl
  | ref _ => cases r; rfl
  | ty _ => cases r; rfl
theorem RelV.inj {x y : V} {u : Value} (r : RelV x u) (q : RelV y u) : x = y := Option.some.inj (r.abs.symm.trans q.abs)
theorem Vals.inj : ∀ {xs ys : List V} {us : List Value}, Vals xs us → Vals ys us → xs = ys
  | _, _, _, .nil, .nil => rfl
  | _, _, _, .cons r t, .cons r' t' => by rw [r.inj r', Vals.inj t t']
section
variable {X : Cx} {pins : List (Addr × Obj)} {σ : St} {H : Hp} {s : Shared} {a : Addr} {xs ys : List V}
theorem SqL.of {K : PySem.W.Frag} (h : H a = some (.lst xs)) : SqL K H a xs := .inl (.inl h)
theorem SqT.of {K : PySem.W.Frag} (h : H a = some (.tup xs)) : SqT K H a xs := .inl (.inl h)
theorem Inv.list (I : Inv X pins σ H s) (h : SqL X.K H a xs) : ∃ its : List Value, Vals xs its ∧ PlainL s.heap a its.toArray ∧ xs.length ≤ sizeLine := by
  rcases h with h | ⟨o, its, n, hk, hc, hd, hs, hz, r⟩
  · obtain ⟨z, its, n, r, e⟩ := h.ok I.hok
    exact ⟨its, r, ⟨_, n, e, rfl, rfl, rfl⟩, z⟩
  · refine ⟨its.toList, r, ⟨o, n, I.kIn a o hk, hc, hd, by simpa using hs⟩, ?_⟩
    have e := r.length
    simp only [Array.length_toList] at e
    omega
theorem Inv.tuple (I : Inv X pins σ H s) (h : SqT X.K H a xs) : ∃ its : List Value, Vals xs its ∧ IsTup s.heap a its.toArray ∧ xs.length ≤ sizeLine := by
  rcases h with h | ⟨o, its, n, hk, hc, hs, hz, r⟩
  · obtain ⟨z, its, r, p⟩ := h.ok I.hok
    exact ⟨its, r, p, z⟩
  · refine ⟨its.toList, r, ⟨o, I.kIn a o hk, hc, n, by simpa using hs⟩, ?_⟩
    have e := r.length
    simp only [Array.length_toList] at e
    omega
theorem Inv.list_inj (I : Inv X pins σ H s) (h : SqL X.K H a xs) (h' : SqL X.K H a ys) : xs = ys := by
  obtain ⟨its, r, ⟨o, n, e, _, _, d⟩, _⟩ := I.list h
  obtain ⟨its', r', ⟨o', n', e', _, _, d'⟩, _⟩ := I.list h'
  rw [e] at e'; cases e'
  rw [d] at d'
  injection d' with d1 _
  have : its = its' := by simpa using congrArg Array.toList d1
  subst this
  exact r.inj r'
theorem Inv.tuple_inj (I : Inv X pins σ H s) (h : SqT X.K H a xs) (h' : SqT X.K H a ys) : xs = ys := by
  obtain ⟨its, r, ⟨o, e, _, n, d⟩, _⟩ := I.tuple h
  obtain ⟨its', r', ⟨o', e', _, n', d'⟩, _⟩ := I.tuple h'
  rw [e] at e'; cases e'
  rw [d] at d'
  injection d' with d1 _
  have : its = its' := by simpa using congrArg Array.toList d1
  subst this
  exact r.inj r'
end

/-! ### another wish about exceptions -/
abbrev Cx.wish (X : Cx) (E : Value → Shared → Prop) : Cx := { X with xe := E }
/-- no exception leaves -/
abbrev Cx.nox (X : Cx) : Cx := X.wish fun _ _ => False
theorem Cx.Ok.wish {X : Cx} (ok : X.Ok) (E : Value → Shared → Prop) : (X.wish E).Ok :=
  ⟨ok.mod, ok.kind, ok.glob, ok.blt, ok.above, ok.inj, ok.has, ok.cab, ok.hd, ok.frames, ok.stk, ok.exf, ok.bs, ok.bsz, ok.noex, ok.exfs, ok.funs, ok.frf⟩
theorem Cx.Ok.unwish {X : Cx} {E : Value → Shared → Prop} (ok : (X.wish E).Ok) : X.Ok :=
  ⟨ok.mod, ok.kind, ok.glob, ok.blt, ok.above, ok.inj, ok.has, ok.cab, ok.hd, ok.frames, ok.stk, ok.exf, ok.bs, ok.bsz, ok.noex, ok.exfs, ok.funs, ok.frf⟩
section
variable {X : Cx} {pins : List (Addr × Obj)} {σ : St} {H : Hp} {s : Shared} {E : Value → Shared → Prop}
theorem Inv.wish (I : Inv X pins σ H s) (E : Value → Shared → Prop) : Inv (X.wish E) pins σ H s := ⟨I.ok.wish E, I.os, I.bare, I.base, I.loc, I.cell, I.free, I.freeC, I.pin, I.hok, I.len⟩
theorem Inv.unwish (I : Inv (X.wish E) pins σ H s) : Inv X pins σ H s := ⟨I.ok.unwish, I.os, I.bare, I.base, I.loc, I.cell, I.free, I.freeC, I.pin, I.hok, I.len⟩
theorem SP.unwish {D : Ends} {f : Flow} {s' : Shared} (h : SP (X.wish E) pins D f s') : SP X pins D f s' := by
  cases f with
  | next => obtain ⟨σ', H', I, q⟩ := h; exact ⟨σ', H', I.unwish, q⟩
  | brk => obtain ⟨σ', H', I, q⟩ := h; exact ⟨σ', H', I.unwish, q⟩
  | cont => obtain ⟨σ', H', I, q⟩ := h; exact ⟨σ', H', I.unwish, q⟩
  | ret u => obtain ⟨v, σ', H', I, r, q⟩ := h; exact ⟨v, σ', H', I.unwish, r, q⟩
theorem PSs.nox {st : List Stmt} {t : TS} (h : PSs X.nox st t) : PSs X st t := fun pins s σ H D I hw =>
  wpAny_mono (h pins s σ H D (I.wish _) hw) (fun _ _ q => q.unwish) fun _ _ z => False.elim z
end

/-! ### blocks and small statements -/
section
variable {X : Cx} {st : Stmt} {rest : List Stmt} {t u : TS} {e : Expr} {te : TE} {pos : Pos}
def tNext : TS := fun D σ H => D.nx σ H
def tSeq (t u : TS) : TS := fun D σ H => t { D with nx := u D } σ H
theorem pss_nil : PSs X [] tNext := fun _ _ σ H _ I h => wpAny_execs_nil ⟨σ, H, I, h⟩
theorem pss_cons (h1 : PS X st t) (h2 : PSs X rest u) : PSs X (st :: rest) (tSeq t u) := by
  intro pins s σ H D I h
  refine wpAny_execs_cons (thn (h1 pins s σ H { D with nx := u D } I h) fun f s1 q => ?_)
  cases f with
  | next =>
    obtain ⟨σ', H', I', q⟩ := q
    exact h2 pins s1 σ' H' D I' q
  | ret v => exact q
  | brk => exact q
  | cont => exact q
theorem pss_one (h1 : PS X st t) : PSs X [st] t := by
  intro pins s σ H D I h
  refine wpAny_execs_cons (thn (h1 pins s σ H D I h) fun f s1 q => ?_)
  cases f with
  | next => exact wpAny_execs_nil q
  | ret v => exact q
  | brk => exact q
  | cont => exact q
def tBreak : TS := fun D σ H => D.bk σ H
def tCont : TS := fun D σ H => D.ct σ H
/-- in a def's body nothing is shown -/
theorem Inv.quiet {pins : List (Addr × Obj)} {σ : St} {H : Hp} {s : Shared} (I : Inv X pins σ H s) : interactive X.env = false := by simp [interactive, I.ok.kind]
/-- an expression whose value is dropped -/
def tDrop (te : TE) : TS := fun D σ H => te σ H fun _ H1 => D.nx σ H1
theorem ps_expr (he : PE X e te) (hs : swapsWith e none pos.line X.env = pure false := by rfl) : PS X (.Expr e pos) (tDrop te) := by
  intro pins s σ H D I h
  exact wpAny_Expr_any (thn (he pins s σ H _ I h) fun v s1 => L2.ex5 fun x H1 I1 r1 q1 => ⟨σ, H1, I1, q1⟩) I.quiet hs
def tRet (te : TE) : TS := fun D σ H => te σ H D.rt
theorem ps_ret (he : PE X e te) : PS X (.Return (some e) pos) (tRet te) := by
  intro pins s σ H D I h
  exact wpAny_Return_some (thn (he pins s σ H _ I h) fun v s1 => L2.ex5 fun x H1 I1 r1 q1 => ⟨x, σ, H1, I1, r1, q1⟩)
def tRetN : TS := fun D _ H => D.rt .non H
def tIfS (c : TT) (t u : TS) : TS := fun D σ H => c σ H fun b H1 => if b = true then t D σ H1 else u D σ H1
theorem ps_if {c : Expr} {a b : List Stmt} {tc : TT} (hc : PT X c tc) (ha : PSs X a t) (hb : PSs X b u) : PS X (.If c a b pos) (tIfS tc t u) := by
  intro pins s σ H D I h
  refine wpAny_If (thn (hc pins s σ H _ I h) fun d s1 => L2.ex3 fun H1 I1 q1 => ?_)
  cases d with
  | true => exact ha pins s1 σ H1 D I1 q1
  | false => exact hb pins s1 σ H1 D I1 q1
/-- code that the proof never comes to -/
def tNever : TS := fun _ _ _ => False
end

/-! ### targets -/
abbrev TG := V → St → Hp → (St → Hp → Prop) → Prop
abbrev TGs := List V → St → Hp → (St → Hp → Prop) → Prop
def PG (X : Cx) (target : Expr) (t : TG) : Prop :=
  ∀ (pins : List (Addr × Obj)) (s : Shared) (σ : St) (H : Hp) (v : V) (u : Value) (Q : St → Hp → Prop), Inv X pins σ H s → RelV v u → t v σ H Q →
    wpAny (model X.prog X.w) X.A (assign target X.env u) (fun _ s' => ∃ σ' H', Inv X pins σ' H' s' ∧ Q σ' H') X.xe s
/-- several targets, one after another -/
def PGs (X : Cx) (ts : List Expr) (t : TGs) : Prop :=
  ∀ (pins : List (Addr × Obj)) (s : Shared) (σ : St) (H : Hp) (vs : List V) (us : List Value) (Q : St → Hp → Prop), Inv X pins σ H s → Vals vs us → t vs σ H Q →
    wpAny (model X.prog X.w) X.A (assignInOrder ((assignEach ts X.env).map (·.2)) us) (fun _ s' => ∃ σ' H', Inv X pins σ' H' s' ∧ Q σ' H') X.xe s
/-- o[i] = v, by values -/
abbrev TSet := V → V → V → Hp → (Hp → Prop) → Prop
def PSet (X : Cx) (t : TSet) : Prop :=
  ∀ (pins : List (Addr × Obj)) (s : Shared) (σ : St) (H : Hp) (o i v : V) (ov iv u : Value) (Q : Hp → Prop), Inv X pins σ H s → RelV o ov → RelV i iv → RelV v u → t o i v H Q →
    wpAny (model X.prog X.w) X.A (setItem ov iv u) (fun _ s' => ∃ H', Inv X pins σ H' s' ∧ Q H') X.xe s
/-- a op= b, by values -/
abbrev TIp := V → V → Hp → VK → Prop
def PIp (X : Cx) (op : Operator) (t : TIp) : Prop :=
  ∀ (pins : List (Addr × Obj)) (s : Shared) (σ : St) (H : Hp) (x y : V) (v u : Value) (Q : VK), Inv X pins σ H s → RelV x v → RelV y u → t x y H Q →
    wpAny (model X.prog X.w) X.A (inplaceOp op v u) (EP X pins σ Q) X.xe s
section
variable {X : Cx} {pos : Pos}
def gName (i : Nat) : TG := fun v σ H Q => Q (σ.set i (some v)) H
theorem pg_name {i : Nat} {x : Str} (hN : X.N.Nodup) (hi : X.N[i]? = some x) (hx : Loc X.env.scope x) (hf : X.fn x = true ∨ X.env.scope.names.lookup x = some .local := by first | exact .inl rfl | exact .inr rfl | assumption) : PG X (.Name x pos) (gName i) := by
  intro pins s σ H v u Q I r h
  exact wpAny_assign_Name (store_ok I hN hi hx r (fun s' I' => ⟨_, H, I', h⟩) hf)
def gNil : TGs := fun vs σ H Q => vs = [] ∧ Q σ H
def gCons (t : TG) (u : TGs) : TGs := fun vs σ H Q => ∃ v r, vs = v :: r ∧ t v σ H fun σ' H' => u r σ' H' Q
theorem pgs_nil : PGs X [] gNil := by
  intro pins s σ H vs us Q I r h
  obtain ⟨e, h⟩ := h
  subst e
  cases r
  exact assignInOrder_nil ⟨σ, H, I, h⟩
theorem pgs_cons {e : Expr} {es : List Expr} {t : TG} {u : TGs} (h1 : PG X e t) (h2 : PGs X es u)
    (hs : (assignEach (e :: es) X.env).map (·.2) = assign e X.env :: (assignEach es X.env).map (·.2) := by rfl) : PGs X (e :: es) (gCons t u) := by
  intro pins s σ H vs us Q I r h
  obtain ⟨v, vr, e1, h⟩ := h
  subst e1
  cases r with
  | cons r rr =>
    rw [hs]
    refine assignInOrder_cons (thn (h1 pins s σ H _ _ _ I r h) fun _ s1 => L2.ex4 fun σ1 H1 I1 q1 => ?_)
    exact h2 pins s1 σ1 H1 _ _ Q I1 rr q1
/-- (a, b, ..) = a tuple of that length -/
def gTup (K : PySem.W.Frag) (n : Nat) (t : TGs) : TG := fun v σ H Q => ∃ a xs, v = .ref a ∧ SqT K H a xs ∧ xs.length = n ∧ t xs σ H Q
theorem pg_tup {es : List Expr} {k : Nat} {t : TGs} {n : Nat} (hc : X.calm = true) (h : PGs X es t)
    (hn : (assignEach es X.env).length = n := by rfl) (hst : (assignEach es X.env).findIdx? (·.1) = none := by rfl) : PG X (.Tuple es k pos) (gTup X.K n t) := by
  intro pins s σ H v u Q I r hw
  obtain ⟨a, xs, e1, hq, hl, hw⟩ := hw
  subst e1
  cases r
  obtain ⟨its, rv, ht, hz⟩ := I.tuple hq
  refine assign_tupH I.hd ht (by simp [hn, ← hl, rv.length]) hst fun h' hx => ?_
  have I1 : Inv X pins σ H { s with heap := h' } := I.kept (t' := s.toks) fun b o e => hx b o (Nat.ne_of_lt (Heap.lt_size e)) e
  exact h pins _ σ H xs _ Q I1 (by simpa using rv) hw
/-- o[i] = .. -/
def gSub (to ti : TE) (t : TSet) : TG := fun v σ H Q => to σ H fun o H1 => ti σ H1 fun i H2 => t o i v H2 fun H3 => Q σ H3
/-- target = value -/
def tAsg (te : TE) (g : TG) : TS := fun D σ H => te σ H fun x H1 => g x σ H1 D.nx
theorem ps_asg {tg e : Expr} {te : TE} {g : TG} (he : PE X e te) (hg : PG X tg g) (hs : swapsWithSole [tg] e pos.line X.env = pure false := by rfl) (hw : swappedStores [tg] e X.env = pure none := by rfl)
    (h1 : (assignEach [tg] X.env).map (·.2) = [assign tg X.env] := by rfl) : PS X (.Assign [tg] e pos) (tAsg te g) := by
  intro pins s σ H D I h
  refine wpAny_Assign_stores (thn (he pins s σ H _ I h) fun v s1 => L2.ex5 fun x H1 I1 r1 q1 => ?_) hs hw
  rw [h1]
  exact thn (hg pins s1 σ H1 x v _ I1 r1 q1) fun _ s2 q => q
/-- name = value -/
theorem ps_set {i : Nat} {x : Str} {e : Expr} {te : TE} {pos' : Pos} (hN : X.N.Nodup) (hi : X.N[i]? = some x) (hx : Loc X.env.scope x) (he : PE X e te) (hs : swapsWith e (some (.Name x pos')) pos.line X.env = pure false := by rfl) (hf : X.fn x = true ∨ X.env.scope.names.lookup x = some .local := by first | exact .inl rfl | exact .inr rfl | assumption) :
    PS X (.Assign [.Name x pos'] e pos) (tAsg te (gName i)) := by
  intro pins s σ H D I h
  refine wpAny_Assign_Name (thn (he pins s σ H _ I h) fun v s1 => L2.ex5 fun y H1 I1 r1 q1 => ?_) hs
  exact store_ok I1 hN hi hx r1 (fun s2 I2 => ⟨_, H1, I2, q1⟩) hf
/-- a, b = x, y with plain local names: stored from the right; the pair itself is not tracked (the opening rows as in PyProof/Rows/TupAssign.lean:23) -/
def tPar (i j : Nat) (ta : TA) : TS := fun D σ H => ta σ H fun vs H1 => ∃ v w, vs = [v, w] ∧ D.nx ((σ.set i (some v)).set j (some w)) H1
/-- name op= e -/
def tAug (i : Nat) (te : TE) (ti : TIp) : TS := fun D σ H => ∃ x, σ[i]? = some (some x) ∧ te σ H fun y H1 => ti x y H1 fun z H2 => D.nx (σ.set i (some z)) H2
theorem ps_aug {i : Nat} {x : Str} {e : Expr} {te : TE} {op : Operator} {ti : TIp} {pos' : Pos} (hN : X.N.Nodup) (hi : X.N[i]? = some x) (hx : Loc X.env.scope x) (he : PE X e te) (ho : PIp X op ti) (hf : X.fn x = true ∨ X.env.scope.names.lookup x = some .local := by first | exact .inl rfl | exact .inr rfl | assumption) :
    PS X (.AugAssign (.Name x pos') op e pos) (tAug i te ti) := by
  intro pins s σ H D I h
  obtain ⟨v, e1, h⟩ := h
  obtain ⟨m, hn, hl⟩ := I.loc
  have vis : Vis X.env.scope x := by rcases hx with k | k; exact .inl k; exact .inr (.inl k)
  obtain ⟨u, r, l⟩ := hl i x v hi e1 vis
  refine wpAny_AugAssign_Name ?_
  have go : wpAny (model X.prog X.w) X.A (eval e X.env) (fun w s₂ => wpAny (model X.prog X.w) X.A (inplaceOp op u w) (fun r s₃ => wpAny (model X.prog X.w) X.A (storeName X.env x r) (fun _ => SP X pins D .next) X.xe s₃) X.xe s₂) X.xe s := by
    refine thn (he pins s σ H _ I h) fun w s1 => L2.ex5 fun y H1 I1 r1 q1 => ?_
    refine thn (ho pins s1 σ H1 v y u w _ I1 r r1 q1) fun z s2 ⟨zv, H2, I2, r2, q2⟩ => ?_
    exact store_ok I2 hN hi hx r2 (fun s3 I3 => ⟨_, H2, I3, q2⟩) hf
  rcases l with ⟨hk, hm⟩ | ⟨hk, c, hc, hcell⟩
  · exact wpAny_loadName_local I.ok.kind hk hn hm go
  · rcases hk with hk | hk
    · exact wpAny_loadName_cell I.ok.kind hk hc hcell go
    · rcases hx with k | k
      · have : X.env.scope.names.lookup x = some .free := hk
        rw [k] at this; cases this
      · have : X.env.scope.names.lookup x = some .free := hk
        rw [k] at this; cases this
/-- o[i] op= e -/
def tAugS (to ti te : TE) (tget : V → V → Hp → VK → Prop) (tip : TIp) (tset : TSet) : TS := fun D σ H => to σ H fun o H1 => ti σ H1 fun i H2 => tget o i H2 fun x H3 => te σ H3 fun y H4 => tip x y H4 fun z H5 => tset o i z H5 fun H6 => D.nx σ H6
/-- o[i], by values -/
def PGet (X : Cx) (t : V → V → Hp → VK → Prop) : Prop :=
  ∀ (pins : List (Addr × Obj)) (s : Shared) (σ : St) (H : Hp) (o i : V) (ov iv : Value) (Q : VK), Inv X pins σ H s → RelV o ov → RelV i iv → t o i H Q →
    wpAny (model X.prog X.w) X.A (getItem ov iv) (EP X pins σ Q) X.xe s
/-- ints -/
def ipI (f : Int → Int → Int) : TIp := fun x y H Q => ∃ i j, x = .int i ∧ y = .int j ∧ Q (.int (f i j)) H
theorem ip_add : PIp X .Add (ipI fun i j => i + j) := by
  intro pins s σ H x y v u Q I r1 r2 h
  obtain ⟨i, j, e1, e2, q⟩ := h
  subst e1; subst e2
  obtain ⟨t, rfl⟩ := r1
  obtain ⟨t', rfl⟩ := r2
  exact iadd_int ⟨.int _, H, I.tok _, ⟨_, rfl⟩, q⟩
theorem ip_sub : PIp X .Sub (ipI fun i j => i - j) := by
  intro pins s σ H x y v u Q I r1 r2 h
  obtain ⟨i, j, e1, e2, q⟩ := h
  subst e1; subst e2
  obtain ⟨t, rfl⟩ := r1
  obtain ⟨t', rfl⟩ := r2
  exact isub_int ⟨.int _, H, I.tok _, ⟨_, rfl⟩, q⟩
end

/-! ### while -/
section
variable {X : Cx} {pos : Pos}
/-- the invariant W with its measure -/
def tWhile (c : TT) (tb : TS) : TS := fun D σ H => ∃ W : Nat → St → Hp → Prop, (∃ m, W m σ H) ∧ ∀ m σ H, W m σ H →
  c σ H fun b H1 => if b = true then ∃ N : St → Hp → Prop, (∀ σ' H', N σ' H' → ∃ m', m' < m ∧ W m' σ' H') ∧ tb { D with nx := N, ct := N, bk := D.nx } σ H1 else D.nx σ H1
theorem ps_while {c : Expr} {body : List Stmt} {tc : TT} {tb : TS} (hp : PassesOwn (model X.prog X.w) X.A X.env X.xe) (hc : PT X c tc) (hb : PSs X body tb) : PS X (.While c body [] pos) (tWhile tc tb) := by
  intro pins s σ H D I h
  obtain ⟨W, ⟨m0, w0⟩, turn⟩ := h
  refine wpAny_While (codeAny_whileLoop (fun n s' => ∃ σ' H', Inv X pins σ' H' s' ∧ W n σ' H') ?_ m0 ⟨σ, H, I, w0⟩)
  rintro n s1 ⟨σ1, H1, I1, w1⟩
  refine wpAny_passesOwn hp (thn (hc pins s1 σ1 H1 _ I1 (turn n σ1 H1 w1)) fun b s2 => L2.ex3 fun H2 I2 q2 => ?_)
  cases b with
  | true =>
    obtain ⟨N, hN, q2⟩ := q2
    rw [if_pos rfl]
    refine wpAny_passesOwn hp (thn (hb pins s2 σ1 H2 _ I2 q2) fun f s3 q3 => ?_)
    cases f with
    | next =>
      obtain ⟨σ3, H3, I3, n3⟩ := q3
      obtain ⟨m', hm, w3⟩ := hN σ3 H3 n3
      exact ⟨m', hm, σ3, H3, I3, w3⟩
    | cont =>
      obtain ⟨σ3, H3, I3, n3⟩ := q3
      obtain ⟨m', hm, w3⟩ := hN σ3 H3 n3
      exact ⟨m', hm, σ3, H3, I3, w3⟩
    | brk => exact q3
    | ret v => exact q3
  | false =>
    rw [if_neg Bool.false_ne_true]
    exact wpAny_execs_nil ⟨σ1, H2, I2, q2⟩
end

/-! ### what a loop or a comprehension walks -/
/-- at turn i: it yields x (the heap may grow), or it stops -/
structure It where
  go : Nat → Hp → Prop
  yld : Nat → Hp → V → Hp → Prop
  stop : Nat → Hp → Prop
/-- the iterator's own objects may turn: they are not the frame's, not pinned, younger than the entry (or a comprehension's own) -/
def FpOk (X : Cx) (pins : List (Addr × Obj)) (H : Hp) (b : Addr) : Prop :=
  H b = none ∧ b ≠ X.env.locals ∧ b ∉ X.fs ∧ (b ∈ X.ex ∨ X.s₀.heap.objs.size ≤ b) ∧ (∀ x c, X.env.cells.lookup x = some c → c ≠ b) ∧ ∀ p ∈ X.pn ++ pins, p.1 ≠ b
theorem Inv.fpOk {X : Cx} {pins : List (Addr × Obj)} {σ : St} {H H' : Hp} {s : Shared} {b : Addr} (I : Inv X pins σ H s) (hb : s.heap.objs.size ≤ b) (hn : H' b = none) : FpOk X pins H' b := by
  refine ⟨hn, Nat.ne_of_gt (Nat.lt_of_lt_of_le I.lt hb), I.nofs hb, .inr (Nat.le_trans I.sz hb), fun x c e z => ?_, fun p hp z => ?_⟩
  · obtain ⟨v, q⟩ := I.cell x c e
    exact absurd (Nat.lt_of_lt_of_le q.lt (by rw [z]; exact hb)) (Nat.lt_irrefl _)
  · exact absurd (Nat.lt_of_lt_of_le (Heap.lt_size (I.pin p hp).1) (by rw [z]; exact hb)) (Nat.lt_irrefl _)
structure Turn (P : Program) (w : World) (K : PySem.W.Frag) (tg : Expr) (J : It) (fp : List Addr) (it : Addr) (tn : Nat → Heap → Prop) : Prop where
  mem : it ∈ fp
  obj : ∀ i h, tn i h → ∀ b ∈ fp, ∃ o, h.get? b = some o ∧ ∀ v, o.data ≠ .cell v
  keep : ∀ i h h', tn i h → (∀ b ∈ fp, ∀ o, h.get? b = some o → h'.get? b = some o) → tn i h'
  item : ∀ (X : Cx), X.prog = P → X.w = w → X.K = K → X.calm = true → ∀ (i : Nat) (pins : List (Addr × Obj)) (s : Shared) (σ : St) (H : Hp) (E : Value → Shared → Prop), Inv X pins σ H s → (∀ b ∈ fp, FpOk X pins H b) → tn i s.heap → J.go i H →
    wpAny (model P w) X.A (pyNext (.ref it)) (fun r s1 => ∃ u, r = some u ∧
      wpAny (model P w) X.A (letOwnedTupleGo tg (.ref it) u) (fun _ s2 => ∃ x H', Inv X pins σ H' s2 ∧ RelV x u ∧ J.yld i H x H' ∧ tn (i + 1) s2.heap ∧ ∀ b ∈ fp, H' b = none) E s1) E s
  done : ∀ (X : Cx), X.prog = P → X.w = w → X.K = K → X.calm = true → ∀ (i : Nat) (pins : List (Addr × Obj)) (s : Shared) (σ : St) (H : Hp) (E : Value → Shared → Prop), Inv X pins σ H s → (∀ b ∈ fp, FpOk X pins H b) → tn i s.heap → J.stop i H →
    wpAny (model P w) X.A (pyNext (.ref it)) (fun r s1 => r = none ∧ Inv X pins σ H s1) E s
  self : ∀ (A : Around) (i : Nat) (s : Shared) (Q : Value → Shared → Prop) (E : Value → Shared → Prop), tn i s.heap → Q (.ref it) s → wpAny (model P w) A (pyIter (.ref it)) Q E s
abbrev TI := St → Hp → (It → Hp → Prop) → Prop
/-- an iterator has come -/
def PIE (X : Cx) (pins : List (Addr × Obj)) (σ : St) (tg : Expr) (R : It → Hp → Prop) (itv : Value) (s2 : Shared) : Prop :=
  ∃ (it : Addr) (fp : List Addr) (tn : Nat → Heap → Prop) (J : It) (H' : Hp), itv = .ref it ∧ Inv X pins σ H' s2 ∧ Turn X.prog X.w X.K tg J fp it tn ∧ tn 0 s2.heap ∧ (∀ b ∈ fp, FpOk X pins H' b) ∧ R J H'
def PI (X : Cx) (tg iter : Expr) (wi : TI) : Prop :=
  ∀ (pins : List (Addr × Obj)) (s : Shared) (σ : St) (H : Hp) (R : It → Hp → Prop), Inv X pins σ H s → wi σ H R →
    wpAny (model X.prog X.w) X.A (eval iter X.env) (fun v s1 => wpAny (model X.prog X.w) X.A (pyIter v) (PIE X pins σ tg R) X.xe s1) X.xe s

/-- the step ahead of the store is nothing for an iterator that keeps no tuple -/
theorem go_of {M : Model} {A : Around} {E : Value → Shared → Prop} {s : Shared} {tg : Expr} {it : Addr} {u : Value} {o : Obj} {n : String} {vs : Array Value} {Q : Unit → Shared → Prop} (ho : s.heap.get? it = some o) (hc : o.cls = .type n) (hd : o.data = .fields vs)
    (hn : ["enumerate", "zip", "dict_itemiterator", "dict_reverseitemiterator", "odict_iterator", "itertools.zip_longest", "itertools.pairwise"].contains n = false) (hQ : Q () s) : wpAny M A (letOwnedTupleGo tg (.ref it) u) Q E s := by
  unfold letOwnedTupleGo
  cases tg <;> first
    | exact wpAny_pure hQ
    | (cases u <;> first
        | exact wpAny_pure hQ
        | (refine wpAny_bind (wpAny_load ho ?_)
           rw [hc, hd]
           show wpAny M A (if (["enumerate", "zip", "dict_itemiterator", "dict_reverseitemiterator", "odict_iterator", "itertools.zip_longest", "itertools.pairwise"].contains n && vs[0]? == some (rawInt _)) = true then _ else _) Q E s
           rw [if_neg (by intro h; rw [hn, Bool.false_and] at h; cases h)]
           exact wpAny_pure hQ))

/-- the list at a, as it stands at each turn (a loop may append to it) -/
def Itl (K : PySem.W.Frag) (a : Addr) : It :=
  ⟨fun i H => ∃ xs x, SqL K H a xs ∧ xs[i]? = some x, fun i H x H' => H' = H ∧ ∀ xs, SqL K H a xs → xs[i]? = some x, fun i H => ∃ xs, SqL K H a xs ∧ xs.length ≤ i⟩
def Itt (K : PySem.W.Frag) (a : Addr) : It :=
  ⟨fun i H => ∃ xs x, SqT K H a xs ∧ xs[i]? = some x, fun i H x H' => H' = H ∧ ∀ xs, SqT K H a xs → xs[i]? = some x, fun i H => ∃ xs, SqT K H a xs ∧ xs.length ≤ i⟩
/-- lo, lo + 1, .. (n of them) -/
def Itr (lo : Int) (n : Nat) : It := ⟨fun i _ => i < n, fun i H x H' => H' = H ∧ x = .int (lo + i), fun i _ => n ≤ i⟩
theorem turn_list {P : Program} {w : World} {K : PySem.W.Frag} {tg : Expr} (a it : Addr) : Turn P w K tg (Itl K a) [it] it (fun i h => h.IsListIter it a i) where
  mem := by simp
  obj := fun i h st b hb => by
    have e : b = it := by simpa using hb
    subst e
    obtain ⟨o, e, c, d⟩ := st
    exact ⟨o, e, fun v z => by rw [d] at z; cases z⟩
  keep := fun i h h' st k => st.at fun o e => k it (by simp) o e
  item := by
    intro X hP hw hK hc i pins s σ H E I hf st hg
    subst hP hw hK
    obtain ⟨xs, x, hq, hx⟩ := hg
    obtain ⟨its, rv, p, hz⟩ := I.list hq
    obtain ⟨u, hu, ru⟩ := rv.get hx
    obtain ⟨f0, f1, f2, f3, f4, f5⟩ := hf it (by simp)
    refine wpAny_pyNext_list_item st p.isList (x := u) (by simpa using hu) fun h' st' sb => ?_
    have I1 : Inv X pins σ H { s with heap := h' } := I.turned (t' := s.toks) (fun b o hb e => (sb.2 b hb).trans e) f0 f1 f3 f4 f5
    obtain ⟨o, e, c, d⟩ := id st'
    exact ⟨u, rfl, go_of (s := { s with heap := h' }) e c d (by decide) ⟨x, H, I1, ru, ⟨rfl, fun ys hy => by rw [I.list_inj hy hq]; exact hx⟩, st', fun b hb => (hf b hb).1⟩⟩
  done := by
    intro X hP hw hK hc i pins s σ H E I hf st hg
    subst hP hw hK
    obtain ⟨xs, hq, hx⟩ := hg
    obtain ⟨its, rv, p, hz⟩ := I.list hq
    obtain ⟨f0, f1, f2, f3, f4, f5⟩ := hf it (by simp)
    have hl := rv.length
    exact list_endH I.hd st p.isList (by simp; omega) fun h' eb => ⟨rfl, I.turned (t' := s.toks) (fun b o hb e => eb b o hb e) f0 f1 f3 f4 f5⟩
  self := fun _ _ _ _ _ st h => wpAny_pyIter_listiter st h
theorem turn_range {P : Program} {w : World} {K : PySem.W.Frag} {tg : Expr} (it : Addr) (lo : Int) (n : Nat) : Turn P w K tg (Itr lo n) [it] it (fun i h => IsRangeIter h it (lo + (i : Nat) * 1) ((n : Int) - (i : Nat)) 1) where
  mem := by simp
  obj := fun i h st b hb => by
    have e : b = it := by simpa using hb
    subst e
    exact ⟨_, st, fun v z => by
      have z' : Data.fields _ = Data.cell v := z
      cases z'⟩
  keep := fun i h h' st k => k it (by simp) _ st
  item := by
    intro X hP hw hK hc i pins s σ H E I hf st hg
    subst hP hw hK
    obtain ⟨f0, f1, f2, f3, f4, f5⟩ := hf it (by simp)
    refine wpAny_pyNext_range_item st (by have : i < n := hg; omega) fun h' st0 sb => ?_
    have st' : IsRangeIter h' it (lo + ((i + 1 : Nat) : Int) * 1) ((n : Int) - ((i + 1 : Nat) : Int)) 1 := by
      rw [show lo + ((i + 1 : Nat) : Int) * 1 = lo + (i : Int) * 1 + 1 by omega, show (n : Int) - ((i + 1 : Nat) : Int) = (n : Int) - (i : Int) - 1 by omega]
      exact st0
    have I1 : Inv X pins σ H { s with heap := h', toks := s.toks + 1 } := I.turned (fun b o hb e => sb.extBut b o hb e) f0 f1 f3 f4 f5
    exact ⟨_, rfl, go_of (s := { s with heap := h', toks := s.toks + 1 }) (n := "range_iterator") st' rfl rfl (by decide) ⟨.int (lo + i), H, I1, ⟨_, by rw [Int.mul_one]⟩, ⟨rfl, rfl⟩, st', fun b hb => (hf b hb).1⟩⟩
  done := by
    intro X hP hw hK hc i pins s σ H E I hf st hg
    subst hP hw hK
    obtain ⟨f0, f1, f2, f3, f4, f5⟩ := hf it (by simp)
    exact range_endH I.hd st (by have : n ≤ i := hg; omega) fun h' eb => ⟨rfl, I.turned (t' := s.toks) (fun b o hb e => eb b o hb e) f0 f1 f3 f4 f5⟩
  self := fun _ _ _ _ _ st h => wpAny_pyIter_rangeiter st h
end L2

namespace L2
open PySem PySem.Spec PyProof.Rows
section
variable {X : Cx} {tg : Expr}
def iList (K : PySem.W.Frag) (tl : TE) : TI := fun σ H R => tl σ H fun x H1 => ∃ a, x = .ref a ∧ (∃ xs, SqL K H1 a xs) ∧ R (Itl K a) H1
def iTup (K : PySem.W.Frag) (tl : TE) : TI := fun σ H R => tl σ H fun x H1 => ∃ a, x = .ref a ∧ (∃ xs, SqT K H1 a xs) ∧ R (Itt K a) H1
theorem pi_list {l : Expr} {tl : TE} (hl : PE X l tl) : PI X tg l (iList X.K tl) := by
  intro pins s σ H R I h
  refine thn (hl pins s σ H _ I h) fun v s1 => L2.ex5 fun x H1 I1 r1 q1 => ?_
  obtain ⟨a, e, ⟨xs, hq⟩, q⟩ := q1
  subst e
  cases r1
  obtain ⟨its, rv, p, hz⟩ := I1.list hq
  refine wpAny_pyIter_list p.isList ?_
  refine ⟨s1.heap.objs.size, [s1.heap.objs.size], _, _, H1, rfl, I1.kept (t' := s1.toks) fun b o e => Heap.get?_push_of_some _ e, turn_list a _, ⟨_, Heap.get?_push_size _ rfl, rfl, rfl⟩, fun b hb => ?_, q⟩
  have e : b = s1.heap.objs.size := by simpa using hb
  subst e
  exact I1.fpOk (Nat.le_refl _) (I1.hok.fresh (Nat.le_refl _))
/-- a range object just made, walked -/
theorem range_it {pins : List (Addr × Obj)} {σ : St} {H : Hp} {s : Shared} {R : It → Hp → Prop} {E : Value → Shared → Prop} {lo hi : Int} {t u v : Tok} {tk : Nat} (I : Inv X pins σ H s) (h1 : -(2 ^ 62) ≤ lo) (h2 : lo < 2 ^ 62) (h3 : -(2 ^ 62) ≤ hi) (h4 : hi < 2 ^ 62)
    (q : R (Itr lo (hi - lo).toNat) H) : wpAny (model X.prog X.w) X.A (pyIter (.ref s.heap.objs.size)) (PIE X pins σ tg R) E { s with heap := s.heap.push { cls := .type "range", data := .fields #[.int lo t, .int hi u, .int 1 v] }, toks := tk } := by
  refine wpAny_pyIter_range (IsRange.new ..) (small_one h1 h2 h3 h4) ?_
  have I1 : Inv X pins σ H { s with heap := s.heap.push { cls := .type "range", data := .fields #[.int lo t, .int hi u, .int 1 v] }, toks := tk } := I.kept fun b o e => Heap.get?_push_of_some _ e
  refine ⟨(s.heap.push { cls := .type "range", data := .fields #[.int lo t, .int hi u, .int 1 v] }).objs.size, [(s.heap.push { cls := .type "range", data := .fields #[.int lo t, .int hi u, .int 1 v] }).objs.size], _, _, H, rfl,
    I1.kept (t' := tk) fun b o e => Heap.get?_push_of_some _ e, turn_range _ lo (hi - lo).toNat, ?_, fun b hb => ?_, q⟩
  · have e1 : lo + ((0 : Nat) : Int) * 1 = lo := by simp
    have e2 : (((hi - lo).toNat : Nat) : Int) - ((0 : Nat) : Int) = Builtin.Range.rangeSize lo hi 1 := by rw [rangeSize_one]; split <;> omega
    show IsRangeIter _ _ (lo + ((0 : Nat) : Int) * 1) ((((hi - lo).toNat : Nat) : Int) - ((0 : Nat) : Int)) 1
    rw [e1, e2]
    exact Heap.get?_push_size _ rfl
  · have e : b = (s.heap.push { cls := .type "range", data := .fields #[.int lo t, .int hi u, .int 1 v] }).objs.size := by simpa using hb
    subst e
    exact I1.fpOk (Nat.le_refl _) (I1.hok.fresh (Nat.le_refl _))
def iRng1 (ta : TA) : TI := fun σ H R => ta σ H fun vs H1 => ∃ j : Int, vs = [.int j] ∧ -(2 ^ 62) ≤ j ∧ j < 2 ^ 62 ∧ R (Itr 0 j.toNat) H1
def iRng2 (ta : TA) : TI := fun σ H R => ta σ H fun vs H1 => ∃ i j : Int, vs = [.int i, .int j] ∧ (-(2 ^ 62) ≤ i ∧ i < 2 ^ 62 ∧ -(2 ^ 62) ≤ j ∧ j < 2 ^ 62) ∧ R (Itr i (j - i).toNat) H1
theorem pi_range1 {a : Expr} {ta : TA} {p pos : Pos} (hg : Gl X "range") (hm : X.mg "range" = none) (ha : PA X [a] ta) (hs : starEach [a] X.env = [(false, eval a X.env)] := by rfl) : PI X tg (.Call (.Name "range" p) [a] [] pos) (iRng1 ta) := by
  intro pins s σ H R I h
  refine Call_ (ld_blt I hg hm boot_range (PyProof.Rows.callWith_type1 (thn (ha pos pins s σ H _ I h) fun us s1 => L2.ex5 fun vs H1 I1 r1 q1 => ?_) hs rfl))
  obtain ⟨j, e, q1, q2, q⟩ := q1
  subst e
  cases r1 with
  | cons r rr =>
    cases rr
    obtain ⟨t, rfl⟩ := r
    exact call_range_1 (range_it I1 (by omega) (by omega) q1 q2 (by simpa using q))
theorem pi_range2 {a b : Expr} {ta : TA} {p pos : Pos} (hg : Gl X "range") (hm : X.mg "range" = none) (ha : PA X [a, b] ta) (hs : starEach [a, b] X.env = [(false, eval a X.env), (false, eval b X.env)] := by rfl) (hs2 : starEach [b] X.env = [(false, eval b X.env)] := by rfl) :
    PI X tg (.Call (.Name "range" p) [a, b] [] pos) (iRng2 ta) := by
  intro pins s σ H R I h
  refine Call_ (ld_blt I hg hm boot_range (PyProof.Rows.callWith_type1 (thn (ha pos pins s σ H _ I h) fun us s1 => L2.ex5 fun vs H1 I1 r1 q1 => ?_) (by rw [hs, hs2]) (by rw [hs2]; rfl)))
  obtain ⟨i, j, e, ⟨q1, q2, q3, q4⟩, q⟩ := q1
  subst e
  cases r1 with
  | cons r rr =>
    cases rr with
    | cons r' rr =>
      cases rr
      obtain ⟨t, rfl⟩ := r
      obtain ⟨t', rfl⟩ := r'
      exact call_range_2 (range_it I1 q1 q2 q3 q4 q)

/-! ### for -/
/-- W: the invariant by the turn and a measure; N: what the body is to reach -/
def tFor (wi : TI) (g : TG) (tb : TS) : TS := fun D σ H => wi σ H fun J H1 => ∃ W : Nat → Nat → St → Hp → Prop, (∃ m, W 0 m σ H1) ∧ ∀ i m σ H, W i m σ H →
  (J.stop i H ∧ D.nx σ H) ∨ (J.go i H ∧ ∃ N : St → Hp → Prop, (∀ σ' H', N σ' H' → ∃ m', m' < m ∧ W (i + 1) m' σ' H') ∧ ∀ x H', J.yld i H x H' → g x σ H' fun σ2 H2 => tb { D with nx := N, ct := N, bk := D.nx } σ2 H2)
/-- the records at fp as they stand -/
def pinsAt (fp : List Addr) (h : Heap) : List (Addr × Obj) := fp.filterMap fun b => (h.get? b).map fun o => (b, o)
theorem mem_pinsAt {fp : List Addr} {h : Heap} {b : Addr} {o : Obj} (hb : b ∈ fp) (e : h.get? b = some o) : (b, o) ∈ pinsAt fp h := List.mem_filterMap.mpr ⟨b, hb, by rw [e]; rfl⟩
theorem of_pinsAt {fp : List Addr} {h : Heap} {p : Addr × Obj} (hp : p ∈ pinsAt fp h) : p.1 ∈ fp ∧ h.get? p.1 = some p.2 := by
  obtain ⟨b, hb, e⟩ := List.mem_filterMap.mp hp
  cases q : h.get? b with
  | none => rw [q] at e; cases e
  | some o =>
    rw [q] at e
    have e' : (b, o) = p := Option.some.inj e
    subst e'
    exact ⟨hb, q⟩
theorem Inv.pinned {pins : List (Addr × Obj)} {σ : St} {H : Hp} {s : Shared} {fp : List Addr} (I : Inv X pins σ H s) (hf : ∀ b ∈ fp, FpOk X pins H b) (ho : ∀ b ∈ fp, ∃ o, s.heap.get? b = some o ∧ ∀ v, o.data ≠ .cell v) : Inv X (pins ++ pinsAt fp s.heap) σ H s :=
  I.pins_of fun p hp => (List.mem_append.mp hp).elim (fun z => I.pin p (List.mem_append_right _ z)) fun z => by
    obtain ⟨hb, e⟩ := of_pinsAt z
    obtain ⟨f0, f1, f2, _⟩ := hf p.1 hb
    obtain ⟨o, e', d⟩ := ho p.1 hb
    rw [e] at e'; cases e'
    exact ⟨e, f0, f1, f2, d⟩
theorem Inv.unpinned {pins pl : List (Addr × Obj)} {σ : St} {H : Hp} {s : Shared} (I : Inv X (pins ++ pl) σ H s) : Inv X pins σ H s := I.pins_of fun p hp => I.pin p (List.mem_append_right _ (List.mem_append_left _ hp))
theorem ps_for {iter : Expr} {body : List Stmt} {wi : TI} {g : TG} {tb : TS} {pos : Pos} (hp : PassesOwn (model X.prog X.w) X.A X.env X.xe) (hc : X.calm = true) (hi : PI X tg iter wi) (hg : PG X tg g) (hb : PSs X body tb)
    (hs : ∀ x, foldedSetIterable iter X.env x = pure x := by intro _; rfl) : PS X (.For tg iter body [] pos) (tFor wi g tb) := by
  intro pins s σ H D I h
  refine wpAny_For (thn (hi pins s σ H _ I h) fun v s1 h1 => thn h1 fun itv s2 h2 => ?_) hs
  obtain ⟨it, fp, tn, J, H2, e, I2, T, st2, f2, W, ⟨m0, w0⟩, turn⟩ := h2
  subst e
  -- what stays true of the iterator's objects through the loop
  have stat : ∀ {H' : Hp}, (∀ b ∈ fp, H' b = none) → ∀ b ∈ fp, FpOk X pins H' b := fun hn b hb => ⟨hn b hb, (f2 b hb).2⟩
  refine codeAny_forLoop_any (fun n s' => ∃ i σ' H', Inv X pins σ' H' s' ∧ tn i s'.heap ∧ (∀ b ∈ fp, H' b = none) ∧ W i n σ' H') ?_ m0 ⟨0, σ, H2, I2, st2, fun b hb => (f2 b hb).1, w0⟩
  rintro n s3 ⟨i, σ3, H3, I3, st3, fr3, w3⟩
  rcases turn i n σ3 H3 w3 with ⟨stop, qn⟩ | ⟨go, N, hN, step⟩
  · refine wpAny_passesOwn hp (thn (T.done X rfl rfl rfl hc i pins s3 σ3 H3 X.xe I3 (stat fr3) st3 stop) fun r s4 ⟨hr, I4⟩ => ?_)
    subst hr
    exact wpAny_execs_nil ⟨σ3, H3, I4, qn⟩
  · refine wpAny_passesOwn hp (thn (T.item X rfl rfl rfl hc i pins s3 σ3 H3 X.xe I3 (stat fr3) st3 go) fun r s4 ⟨u, hr, h4⟩ => ?_)
    subst hr
    refine wpAny_passesOwn hp (thn h4 fun _ s5 => L2.ex5 fun x H5 I5 r5 hq_ => ?_)
    obtain ⟨y5, st5, fr5⟩ := hq_
    have I5' := I5.pinned (stat fr5) (T.obj _ _ st5)
    refine wpAny_passesOwn hp (thn (hg _ s5 σ3 H5 x u _ I5' r5 (step x H5 y5)) fun _ s6 => L2.ex4 fun σ6 H6 I6 q6 => ?_)
    refine wpAny_passesOwn hp (thn (hb _ s6 σ6 H6 _ I6 q6) fun f s7 q7 => ?_)
    have again : ∀ {σ7 : St} {H7 : Hp}, Inv X (pins ++ pinsAt fp s5.heap) σ7 H7 s7 → N σ7 H7 → ∃ m, m < n ∧ ∃ i σ' H', Inv X pins σ' H' s7 ∧ tn i s7.heap ∧ (∀ b ∈ fp, H' b = none) ∧ W i m σ' H' := fun {σ7 H7} I7 n7 => by
      obtain ⟨m', hm, w7⟩ := hN σ7 H7 n7
      refine ⟨m', hm, i + 1, σ7, H7, I7.unpinned, T.keep _ _ _ st5 fun b hb o e => (I7.pin (b, o) (List.mem_append_right _ (List.mem_append_right _ (mem_pinsAt hb e)))).1, fun b hb => ?_, w7⟩
      obtain ⟨o, e, d⟩ := T.obj _ _ st5 b hb
      exact (I7.pin (b, o) (List.mem_append_right _ (List.mem_append_right _ (mem_pinsAt hb e)))).2.1
    cases f with
    | next => obtain ⟨σ7, H7, I7, n7⟩ := q7; exact again I7 n7
    | cont => obtain ⟨σ7, H7, I7, n7⟩ := q7; exact again I7 n7
    | brk => obtain ⟨σ7, H7, I7, q7⟩ := q7; exact ⟨σ7, H7, I7.unpinned, q7⟩
    | ret v => obtain ⟨x7, σ7, H7, I7, r7, q7⟩ := q7; exact ⟨x7, σ7, H7, I7.unpinned, r7, q7⟩
end

/-! ### the forms one uses -/
/-- over a list that the body leaves as it is -/
theorem for_list {K : PySem.W.Frag} {a : Addr} {xs : List V} {g : TG} {tb : TS} {D : Ends} {σ : St} {H : Hp} (Pv : Nat → St → Hp → Prop) (h0 : Pv 0 σ H) (hl : ∀ i σ H, i ≤ xs.length → Pv i σ H → SqL K H a xs)
    (hs : ∀ i x σ H, xs[i]? = some x → Pv i σ H → g x σ H fun σ2 H2 => tb { D with nx := Pv (i + 1), ct := Pv (i + 1), bk := D.nx } σ2 H2) (hd : ∀ σ H, Pv xs.length σ H → D.nx σ H) :
    ∃ W : Nat → Nat → St → Hp → Prop, (∃ m, W 0 m σ H) ∧ ∀ i m σ H, W i m σ H →
      ((Itl K a).stop i H ∧ D.nx σ H) ∨ ((Itl K a).go i H ∧ ∃ N : St → Hp → Prop, (∀ σ' H', N σ' H' → ∃ m', m' < m ∧ W (i + 1) m' σ' H') ∧ ∀ x H', (Itl K a).yld i H x H' → g x σ H' fun σ2 H2 => tb { D with nx := N, ct := N, bk := D.nx } σ2 H2) := by
  refine ⟨fun i m σ H => m = xs.length - i ∧ i ≤ xs.length ∧ Pv i σ H, ⟨xs.length, by simp, Nat.zero_le _, h0⟩, ?_⟩
  rintro i m σ H ⟨rfl, hi, p⟩
  have q := hl i σ H hi p
  by_cases hlt : i < xs.length
  · refine .inr ⟨⟨xs, xs[i], q, by simp [hlt]⟩, Pv (i + 1), fun σ' H' p' => ⟨xs.length - (i + 1), by omega, rfl, hlt, p'⟩, fun x H' y => ?_⟩
    obtain ⟨e, y⟩ := y
    subst e
    exact hs i x σ _ (y xs q) p
  · have e : i = xs.length := by omega
    subst e
    exact .inl ⟨⟨xs, q, Nat.le_refl _⟩, hd σ H p⟩
theorem for_range {lo : Int} {n : Nat} {g : TG} {tb : TS} {D : Ends} {σ : St} {H : Hp} (Pv : Nat → St → Hp → Prop) (h0 : Pv 0 σ H)
    (hs : ∀ i σ H, i < n → Pv i σ H → g (.int (lo + i)) σ H fun σ2 H2 => tb { D with nx := Pv (i + 1), ct := Pv (i + 1), bk := D.nx } σ2 H2) (hd : ∀ σ H, Pv n σ H → D.nx σ H) :
    ∃ W : Nat → Nat → St → Hp → Prop, (∃ m, W 0 m σ H) ∧ ∀ i m σ H, W i m σ H →
      ((Itr lo n).stop i H ∧ D.nx σ H) ∨ ((Itr lo n).go i H ∧ ∃ N : St → Hp → Prop, (∀ σ' H', N σ' H' → ∃ m', m' < m ∧ W (i + 1) m' σ' H') ∧ ∀ x H', (Itr lo n).yld i H x H' → g x σ H' fun σ2 H2 => tb { D with nx := N, ct := N, bk := D.nx } σ2 H2) := by
  refine ⟨fun i m σ H => m = n - i ∧ i ≤ n ∧ Pv i σ H, ⟨n, by simp, Nat.zero_le _, h0⟩, ?_⟩
  rintro i m σ H ⟨rfl, hi, p⟩
  by_cases hlt : i < n
  · refine .inr ⟨hlt, Pv (i + 1), fun σ' H' p' => ⟨n - (i + 1), by omega, rfl, hlt, p'⟩, fun x H' y => ?_⟩
    obtain ⟨e, y⟩ := y
    subst e y
    exact hs i σ _ hlt p
  · have e : i = n := by omega
    subst e
    exact .inl ⟨Nat.le_refl _, hd σ H p⟩
end L2

namespace L2
open PySem PySem.Spec PyProof.Rows

abbrev R2 := V → V → Hp → VK → Prop
/-- a two-place operation on values: f is binaryOp op, inplaceOp op or compareOp op -/
def OpR (X : Cx) (f : Value → Value → Sem Value) (r : R2) : Prop :=
  ∀ (pins : List (Addr × Obj)) (s : Shared) (σ : St) (H : Hp) (x y : V) (v u : Value) (Q : VK), Inv X pins σ H s → RelV x v → RelV y u → r x y H Q →
    wpAny (model X.prog X.w) X.A (f v u) (EP X pins σ Q) X.xe s
/-- a one-place operation -/
def UnR (X : Cx) (f : Value → Sem Value) (r : V → Hp → VK → Prop) : Prop :=
  ∀ (pins : List (Addr × Obj)) (s : Shared) (σ : St) (H : Hp) (x : V) (v : Value) (Q : VK), Inv X pins σ H s → RelV x v → r x H Q →
    wpAny (model X.prog X.w) X.A (f v) (EP X pins σ Q) X.xe s
/-- a call of a value that is known (a builtin, a type) with values -/
def CallR (X : Cx) (f : Value) (r : List V → Hp → VK → Prop) : Prop :=
  ∀ (pins : List (Addr × Obj)) (s : Shared) (σ : St) (H : Hp) (xs : List V) (us : List Value) (Q : VK), Inv X pins σ H s → Vals xs us → r xs H Q →
    wpAny (model X.prog X.w) X.A (call f us) (EP X pins σ Q) X.xe s
/-- a value's truth -/
def TruR (X : Cx) (r : V → Hp → (Bool → Hp → Prop) → Prop) : Prop :=
  ∀ (pins : List (Addr × Obj)) (s : Shared) (σ : St) (H : Hp) (x : V) (v : Value) (Q : Bool → Hp → Prop), Inv X pins σ H s → RelV x v → r x H Q →
    wpAny (model X.prog X.w) X.A (truthy v) (TP X pins σ Q) X.xe s

def tOp (r : R2) (ta tb : TE) : TE := fun σ H Q => ta σ H fun x H1 => tb σ H1 fun y H2 => r x y H2 Q
def tUn (r : V → Hp → VK → Prop) (ta : TE) : TE := fun σ H Q => ta σ H fun x H1 => r x H1 Q
/-- ints in, under C, and a value out -/
def rI (C : Int → Int → Prop) (g : Int → Int → V) : R2 := fun x y H Q => ∃ i j, x = .int i ∧ y = .int j ∧ C i j ∧ Q (g i j) H
def rI0 (g : Int → Int → V) : R2 := fun x y H Q => ∃ i j, x = .int i ∧ y = .int j ∧ Q (g i j) H
def rU (g : Int → V) : V → Hp → VK → Prop := fun x H Q => ∃ i, x = .int i ∧ Q (g i) H

section
variable {X : Cx} {a b c : Expr} {ta tb tc : TE} {pos : Pos}

theorem binT (ha : PE X a ta) (hb : PE X b tb) {pins : List (Addr × Obj)} {s : Shared} {σ : St} {H : Hp} {R : V → V → Hp → Prop} (I : Inv X pins σ H s)
    (h : ta σ H fun x H1 => tb σ H1 fun y H2 => R x y H2) {Q : Value → Shared → Prop} {f : Value → Value → Sem Value}
    (hf : ∀ v u s2 x y H2, Inv X pins σ H2 s2 → RelV x v → RelV y u → R x y H2 → wpAny (model X.prog X.w) X.A (f v u) Q X.xe s2) :
    wpAny (model X.prog X.w) X.A (eval a X.env) (fun v s₁ => wpAny (model X.prog X.w) X.A (eval b X.env) (fun u s₂ => wpAny (model X.prog X.w) X.A (f v u) Q X.xe s₂) X.xe s₁) X.xe s := by
  refine thn (ha pins s σ H _ I h) fun v s1 => L2.ex5 fun x H1 I1 r1 q1 => ?_
  refine thn (hb pins s1 σ H1 _ I1 q1) fun u s2 => L2.ex5 fun y H2 I2 r2 q2 => ?_
  exact hf v u s2 x y H2 I2 r1 r2 q2

theorem pe_op {op : Operator} {r : R2} (ho : OpR X (binaryOp op) r) (ha : PE X a ta) (hb : PE X b tb) : PE X (.BinOp a op b pos) (tOp r ta tb) := by
  intro pins s σ H Q I h
  exact wpAny_BinOp (binT ha hb I h fun v u s2 x y H2 I2 rx ry q => ho pins s2 σ H2 x y v u Q I2 rx ry q)
theorem pe_un {op : UnaryOp} {r : V → Hp → VK → Prop} (ho : UnR X (unaryOp op) r) (ha : PE X a ta) : PE X (.UnaryOp op a pos) (tUn r ta) := by
  intro pins s σ H Q I h
  exact UnaryOp_ (thn (ha pins s σ H _ I h) fun v s1 => L2.ex5 fun x H1 I1 r1 q1 => ho pins s1 σ H1 x v Q I1 r1 q1)
/-! ### ints -/
theorem opI {f : Value → Value → Sem Value} {C : Int → Int → Prop} {g : Int → Int → Int}
    (rule : ∀ (i j : Int) (t u : Tok) (s : Shared) (Q : Value → Shared → Prop) (E : Value → Shared → Prop), C i j → Q (.int (g i j) s.toks) { s with toks := s.toks + 1 } → wpAny (model X.prog X.w) X.A (f (.int i t) (.int j u)) Q E s) :
    OpR X f (rI C fun i j => .int (g i j)) := by
  intro pins s σ H x y v u Q I rx ry h
  obtain ⟨i, j, rfl, rfl, hc, q⟩ := h
  obtain ⟨t, rfl⟩ := rx
  obtain ⟨t', rfl⟩ := ry
  exact rule i j t t' s _ _ hc ⟨.int (g i j), H, I.tok _, ⟨_, rfl⟩, q⟩
theorem opI0 {f : Value → Value → Sem Value} {g : Int → Int → Int}
    (rule : ∀ (i j : Int) (t u : Tok) (s : Shared) (Q : Value → Shared → Prop) (E : Value → Shared → Prop), Q (.int (g i j) s.toks) { s with toks := s.toks + 1 } → wpAny (model X.prog X.w) X.A (f (.int i t) (.int j u)) Q E s) :
    OpR X f (rI0 fun i j => .int (g i j)) := by
  intro pins s σ H x y v u Q I rx ry h
  obtain ⟨i, j, rfl, rfl, q⟩ := h
  obtain ⟨t, rfl⟩ := rx
  obtain ⟨t', rfl⟩ := ry
  exact rule i j t t' s _ _ ⟨.int (g i j), H, I.tok _, ⟨_, rfl⟩, q⟩
theorem opB0 {f : Value → Value → Sem Value} {g : Int → Int → Bool}
    (rule : ∀ (i j : Int) (t u : Tok) (s : Shared) (Q : Value → Shared → Prop) (E : Value → Shared → Prop), Q (.bool (g i j)) s → wpAny (model X.prog X.w) X.A (f (.int i t) (.int j u)) Q E s) :
    OpR X f (rI0 fun i j => .bl (g i j)) := by
  intro pins s σ H x y v u Q I rx ry h
  obtain ⟨i, j, rfl, rfl, q⟩ := h
  obtain ⟨t, rfl⟩ := rx
  obtain ⟨t', rfl⟩ := ry
  exact rule i j t t' s _ _ ⟨.bl (g i j), H, I, rfl, q⟩

def CDiv (i j : Int) : Prop := 0 < j ∧ j < 1073741824
def CDivN (i j : Int) : Prop := j ≠ 0 ∧ j.natAbs < 1073741824
def CPow (i j : Int) : Prop := 0 ≤ j ∧ j ≤ 1000000 ∧ i.natAbs < 2 ^ 64
def CMul (i j : Int) : Prop := (-(2 ^ 64) < i ∧ i < 2 ^ 64) ∨ (-(2 ^ 64) < j ∧ j < 2 ^ 64)
theorem CMul.ok {i j : Int} (h : CMul i j) : IntMulOk i j := by
  rcases h with ⟨h1, h2⟩ | ⟨h1, h2⟩
  · exact .of_left (intBits_le_64 h1 h2)
  · exact .of_right (intBits_le_64 h1 h2)
theorem two_pow_nn (k : Nat) : (0 : Int) ≤ 2 ^ k := by
  rw [two_pow_cast]
  exact Int.natCast_nonneg _

theorem op_add : OpR X (binaryOp .Add) (rI0 fun i j => .int (i + j)) := opI0 fun _ _ _ _ _ _ _ q => add_int q
theorem op_sub : OpR X (binaryOp .Sub) (rI0 fun i j => .int (i - j)) := opI0 fun _ _ _ _ _ _ _ q => sub_int q
theorem op_mul : OpR X (binaryOp .Mult) (rI CMul fun i j => .int (i * j)) := opI fun _ _ _ _ _ _ _ hc q => mul_int q hc.ok
/-- // by a positive divisor -/
theorem op_fdiv : OpR X (binaryOp .FloorDiv) (rI CDiv fun i j => .int (i / j)) := opI fun i j _ _ _ _ _ hc q => by
  have h1 : (0 : Int) < j := hc.1
  have h2 : j < 1073741824 := hc.2
  exact floordiv_int (by omega) (by rw [Int.fdiv_eq_ediv_of_nonneg i (by omega)]; exact q) (.inl (PyProof.noPylong_small (by omega)))
/-- % by a positive divisor of any size -/
theorem op_mod : OpR X (binaryOp .Mod) (rI (fun _ j => 0 < j) fun i j => .int (i % j)) := opI fun i j _ _ _ _ _ hc q => by
  have h1 : (0 : Int) < j := hc
  exact mod_int' (by omega) (by rw [Int.fmod_eq_emod_of_nonneg i (by omega)]; exact q)
theorem op_pow : OpR X (binaryOp .Pow) (rI CPow fun i j => .int (i ^ j.toNat)) := opI fun _ _ _ _ _ _ _ hc q => pow_int_small hc.1 hc.2.1 hc.2.2 q
theorem op_shl : OpR X (binaryOp .LShift) (rI CPow fun i j => .int (i * 2 ^ j.toNat)) := opI fun _ _ _ _ _ _ _ hc q => lshift_int_small hc.1 hc.2.1 hc.2.2 q
theorem op_shr : OpR X (binaryOp .RShift) (rI (fun _ j => 0 ≤ j) fun i j => .int (i / 2 ^ j.toNat)) := opI fun i j _ _ _ _ _ hc q =>
  rshift_int hc (by rw [Int.fdiv_eq_ediv_of_nonneg i (two_pow_nn _)]; exact q)
theorem op_and : OpR X (binaryOp .BitAnd) (rI0 fun i j => .int (Builtin.bitAnd i j)) := opI0 fun _ _ _ _ _ _ _ q => and_int q
theorem unI {f : Value → Sem Value} {g : Int → Int}
    (rule : ∀ (i : Int) (t : Tok) (s : Shared) (Q : Value → Shared → Prop) (E : Value → Shared → Prop), Q (.int (g i) s.toks) { s with toks := s.toks + 1 } → wpAny (model X.prog X.w) X.A (f (.int i t)) Q E s) :
    UnR X f (rU fun i => .int (g i)) := by
  intro pins s σ H x v Q I rx h
  obtain ⟨i, rfl, q⟩ := h
  obtain ⟨t, rfl⟩ := rx
  exact rule i t s _ _ ⟨.int (g i), H, I.tok _, ⟨_, rfl⟩, q⟩
theorem un_neg : UnR X (unaryOp .USub) (rU fun i => .int (-i)) := unI fun _ _ _ _ _ q => neg_int q
/-! ### bools among ints: n += (a < b) -/
end

/-! ### comparisons -/
/-- the scalars that == tells apart as data does -/
def scal : V → V → Bool
  | .non, .non => true | .non, .int _ => true | .int _, .non => true | .non, .bl _ => true | .bl _, .non => true | .non, .str _ => true | .str _, .non => true
  | .int _, .int _ => true | .bl _, .bl _ => true | .str _, .str _ => true | .byt _, .byt _ => true
  | .int _, .str _ => true | .str _, .int _ => true | .bl _, .str _ => true | .str _, .bl _ => true
  | _, _ => false
def rEq : R2 := fun x y H Q => scal x y = true ∧ Q (.bl (decide (x = y))) H
def rNe : R2 := fun x y H Q => scal x y = true ∧ Q (.bl (!decide (x = y))) H

theorem dec_int {i j : Int} : decide (V.int i = V.int j) = (i == j) := by
  rw [Bool.eq_iff_iff]
  simp
theorem dec_bl {i j : Bool} : decide (V.bl i = V.bl j) = (i == j) := by
  rw [Bool.eq_iff_iff]
  simp
theorem dec_str {i j : Str} : decide (V.str i = V.str j) = (i == j) := by
  rw [Bool.eq_iff_iff]
  simp
theorem dec_byt {i j : Array UInt8} : decide (V.byt i = V.byt j) = (i.toList == j.toList) := by
  rw [Bool.eq_iff_iff]
  cases i
  cases j
  simp

section
variable {X : Cx} {a b c : Expr} {ta tb tc : TE} {pos : Pos}
theorem fin_bl {pins : List (Addr × Obj)} {σ : St} {H : Hp} {s : Shared} {Q : VK} {k k' : Bool} (I : Inv X pins σ H s) (q : Q (.bl k) H) (e : k = k') : EP X pins σ Q (.bool k') s := by
  subst e
  exact ⟨.bl k, H, I, rfl, q⟩
theorem op_eq : OpR X (compareOp .Eq) rEq := by
  intro pins s σ H x y v u Q I rx ry h
  obtain ⟨hs, q⟩ := h
  cases x with
  | non =>
    cases rx
    cases y with
    | non => cases ry; exact PySem.EqNone.eq_none_none (fin_bl I q (by simp))
    | bl j => cases ry; exact PySem.EqNone.eq_none_bool (fin_bl I q (by simp))
    | int j => obtain ⟨t', rfl⟩ := ry; exact PySem.EqNone.eq_none_int (fin_bl I q (by simp))
    | str j => obtain ⟨t', rfl⟩ := ry; exact PySem.EqNone.eq_none_str (fin_bl I q (by simp))
    | _ => exact absurd (show false = true from hs) Bool.false_ne_true
  | bl i =>
    cases rx
    cases y with
    | non => cases ry; exact PySem.EqNone.eq_bool_none (fin_bl I q (by simp))
    | bl j => cases ry; exact eq_bool (fin_bl I q dec_bl)
    | str j => obtain ⟨t', rfl⟩ := ry; exact PySem.EqMixed.eq_bool_str (fin_bl I q (by simp))
    | _ => exact absurd (show false = true from hs) Bool.false_ne_true
  | int i =>
    obtain ⟨t, rfl⟩ := rx
    cases y with
    | non => cases ry; exact PySem.EqNone.eq_int_none (fin_bl I q (by simp))
    | int j => obtain ⟨t', rfl⟩ := ry; exact eq_int (fin_bl I q dec_int)
    | str j => obtain ⟨t', rfl⟩ := ry; exact PySem.EqMixed.eq_int_str (fin_bl I q (by simp))
    | _ => exact absurd (show false = true from hs) Bool.false_ne_true
  | str i =>
    obtain ⟨t, rfl⟩ := rx
    cases y with
    | non => cases ry; exact PySem.EqNone.eq_str_none (fin_bl I q (by simp))
    | bl j => cases ry; exact PySem.EqMixed.eq_str_bool (fin_bl I q (by simp))
    | int j => obtain ⟨t', rfl⟩ := ry; exact PySem.EqMixed.eq_str_int (fin_bl I q (by simp))
    | str j => obtain ⟨t', rfl⟩ := ry; exact eq_str (fin_bl I q dec_str)
    | _ => exact absurd (show false = true from hs) Bool.false_ne_true
  | byt i =>
    obtain ⟨t, rfl⟩ := rx
    cases y with
    | byt j => obtain ⟨t', rfl⟩ := ry; exact PySem.W.eq_bytes (fin_bl I q dec_byt)
    | _ => exact absurd (show false = true from hs) Bool.false_ne_true
  | _ => cases y <;> exact absurd (show false = true from hs) Bool.false_ne_true
theorem op_ne : OpR X (compareOp .NotEq) rNe := by
  intro pins s σ H x y v u Q I rx ry h
  obtain ⟨hs, q⟩ := h
  cases x with
  | non =>
    cases rx
    cases y with
    | non => cases ry; exact PySem.EqNone.ne_none_none (fin_bl I q (by simp))
    | bl j => cases ry; exact PySem.EqNone.ne_none_bool (fin_bl I q (by simp))
    | int j => obtain ⟨t', rfl⟩ := ry; exact PySem.EqNone.ne_none_int (fin_bl I q (by simp))
    | str j => obtain ⟨t', rfl⟩ := ry; exact PySem.EqNone.ne_none_str (fin_bl I q (by simp))
    | _ => exact absurd (show false = true from hs) Bool.false_ne_true
  | bl i =>
    cases rx
    cases y with
    | non => cases ry; exact PySem.EqNone.ne_bool_none (fin_bl I q (by simp))
    | bl j => cases ry; exact ne_bool (fin_bl I q (congrArg not dec_bl))
    | str j => obtain ⟨t', rfl⟩ := ry; exact PySem.EqMixed.ne_bool_str (fin_bl I q (by simp))
    | _ => exact absurd (show false = true from hs) Bool.false_ne_true
  | int i =>
    obtain ⟨t, rfl⟩ := rx
    cases y with
    | non => cases ry; exact PySem.EqNone.ne_int_none (fin_bl I q (by simp))
    | int j => obtain ⟨t', rfl⟩ := ry; exact ne_int (fin_bl I q (congrArg not dec_int))
    | str j => obtain ⟨t', rfl⟩ := ry; exact PySem.EqMixed.ne_int_str (fin_bl I q (by simp))
    | _ => exact absurd (show false = true from hs) Bool.false_ne_true
  | str i =>
    obtain ⟨t, rfl⟩ := rx
    cases y with
    | non => cases ry; exact PySem.EqNone.ne_str_none (fin_bl I q (by simp))
    | bl j => cases ry; exact PySem.EqMixed.ne_str_bool (fin_bl I q (by simp))
    | int j => obtain ⟨t', rfl⟩ := ry; exact PySem.EqMixed.ne_str_int (fin_bl I q (by simp))
    | str j => obtain ⟨t', rfl⟩ := ry; exact ne_str (fin_bl I q (congrArg not dec_str))
    | _ => exact absurd (show false = true from hs) Bool.false_ne_true
  | byt i =>
    obtain ⟨t, rfl⟩ := rx
    cases y with
    | byt j => obtain ⟨t', rfl⟩ := ry; exact PySem.W.ne_bytes (fin_bl I q (congrArg not dec_byt))
    | _ => exact absurd (show false = true from hs) Bool.false_ne_true
  | _ => cases y <;> exact absurd (show false = true from hs) Bool.false_ne_true

theorem op_lt : OpR X (compareOp .Lt) (rI0 fun i j => .bl (decide (i < j))) := opB0 fun _ _ _ _ _ _ _ q => lt_int q
theorem op_gt : OpR X (compareOp .Gt) (rI0 fun i j => .bl (decide (j < i))) := opB0 fun _ _ _ _ _ _ _ q => gt_int q
/-- is, is not of two objects that are tracked lists or instances -/
def isObj : HO → Bool
  | .lst _ => true
  | .ins _ _ _ => true
  | _ => false
theorem nomark (b : Expr) {op : CmpOp} (h : op ≠ .In := by decide) (h2 : op ≠ .NotIn := by decide) : behindInMarks op b = false := by
  have e1 : (op == CmpOp.In) = false := by cases op <;> first | rfl | exact absurd rfl h
  have e2 : (op == CmpOp.NotIn) = false := by cases op <;> first | rfl | exact absurd rfl h2
  cases b <;> simp [behindInMarks, e1, e2]
/-- a comparison as a value; hm: nomark b, or (for in, not in) by with_unfolding_all rfl -/
theorem pe_cmpR {op : CmpOp} {r : R2} (ho : OpR X (compareOp op) r) (ha : PE X a ta) (hb : PE X b tb) (hm : behindInMarks op b = false) : PE X (.Compare a [op] [b] pos) (tOp r ta tb) := by
  intro pins s σ H Q I h
  exact wpAny_Compare1 (binT ha hb I h fun v u s2 x y H2 I2 rx ry q => ho pins s2 σ H2 x y v u Q I2 rx ry q) hm
/-- a reading of a value as a test -/
def tTest (t : TE) : TT := fun σ H Q => t σ H fun x H' => ∃ k, x = .bl k ∧ Q k H'
theorem pt_cmpR {op : CmpOp} {r : R2} (ho : OpR X (compareOp op) r) (ha : PE X a ta) (hb : PE X b tb) (hm : behindInMarks op b = false) : PT X (.Compare a [op] [b] pos) (tTest (tOp r ta tb)) := by
  intro pins s σ H Q I h
  refine wpAny_isTrue_Compare1 (thn (ha pins s σ H _ I h) fun v s1 => L2.ex5 fun x H1 I1 r1 q1 => thn (hb pins s1 σ H1 _ I1 q1) fun u s2 => L2.ex5 fun y H2 I2 r2 q2 =>
    thn (ho pins s2 σ H2 x y v u _ I2 r1 r2 q2) fun c s3 ⟨z, H3, I3, r3, k, e, q3⟩ => ?_) hm
  subst e
  cases r3
  exact wpAny_truthy_bool ⟨H3, I3, q3⟩
/-- a op1 b op2 c -/
def tChain (r r' : R2) (ta tb tc : TE) : TE := fun σ H Q => ta σ H fun x H1 => tb σ H1 fun y H2 => r x y H2 fun z H3 => ∃ k, z = .bl k ∧
  (if k = true then tc σ H3 fun w' H4 => r' y w' H4 Q else Q (.bl false) H3)
/-! ### truth -/
/-- a value's truth by the abstract heap -/
def TruV (K : PySem.W.Frag) (x : V) (H : Hp) (k : Bool) : Prop :=
  match x with
  | .non => k = false
  | .bl b => k = b
  | .int i => k = (i != 0)
  | .str y => y.length ≤ sizeLine ∧ k = ((y.length : Int) != 0)
  | .byt y => y.size ≤ sizeLine ∧ k = ((y.size : Int) != 0)
  | .ref p => (∃ xs, SqL K H p xs ∧ k = !xs.isEmpty) ∨ (∃ xs, SqT K H p xs ∧ k = !xs.isEmpty) ∨ ∃ kvs, H p = some (.dK kvs) ∧ k = !kvs.isEmpty
  | _ => False
theorem line63 : (sizeLine : Nat) < 2 ^ 63 := by rw [sizeLine_eq]; decide
/-! ### strs and bytes -/
theorem op_add_str : OpR X (binaryOp .Add) (fun x y H Q => ∃ i j, x = .str i ∧ y = .str j ∧ i.length + j.length ≤ sizeLine ∧ Q (.str (i ++ j)) H) := by
  intro pins s σ H x y v u Q I rx ry h
  obtain ⟨i, j, rfl, rfl, hz, q⟩ := h
  obtain ⟨t, rfl⟩ := rx
  obtain ⟨t', rfl⟩ := ry
  exact add_str (fun t' tk => ⟨.str (i ++ j), H, I.tok _, ⟨_, rfl⟩, q⟩) hz
def PlainIxT (b : Expr) : Prop := ∀ o i, subscripted b false o i = operate [o, i] (getItem o i)
/-! ### scalar builtins, by CallR -/
theorem vals1 {x : V} {us : List Value} (r : Vals [x] us) : ∃ u, us = [u] ∧ RelV x u := by
  cases r with
  | cons r1 r2 => cases r2; exact ⟨_, rfl, r1⟩
theorem vals2 {x y : V} {us : List Value} (r : Vals [x, y] us) : ∃ u w', us = [u, w'] ∧ RelV x u ∧ RelV y w' := by
  cases r with
  | cons r1 r2 =>
    cases r2 with
    | cons r3 r4 => cases r4; exact ⟨_, _, rfl, r1, r3⟩
theorem call_str_int : CallR X (.type "str") (fun xs H Q => ∃ i, xs = [.int i] ∧ i.natAbs.log2 < 1920 ∧ Q (.str (toString i)) H) := by
  intro pins s σ H xs us Q I r h
  obtain ⟨i, rfl, hz, q⟩ := h
  obtain ⟨u, rfl, t, rfl⟩ := vals1 r
  exact PySem.P.str_of_int hz ⟨.str _, H, I.tok _, ⟨_, rfl⟩, q⟩
/-- len of a str, a bytes, a list, a tuple -/
def LenV (K : PySem.W.Frag) (x : V) (H : Hp) (n : Nat) : Prop :=
  match x with
  | .str y => y.length ≤ sizeLine ∧ n = y.length
  | .byt y => y.size ≤ sizeLine ∧ n = y.size
  | .ref p => (∃ xs, SqL K H p xs ∧ n = xs.length) ∨ ∃ xs, SqT K H p xs ∧ n = xs.length
  | _ => False
end
end L2

namespace L2
open PySem PySem.Spec PyProof.Rows

/-! ### an instance, its attributes a map -/
structure ObjM (h : Heap) (x dx C : Addr) (mA : Str → Option Value) : Prop where
  obj : h.get? x = some (PySem.W.instObj C dx)
  ns : h.Ns1 dx mA
  ne : dx ≠ x

section
variable {prog : Program} {w : World} {A : Around} {E : Value → Shared → Prop} {s : Shared} {K : PySem.W.Frag} {x dx C f : Addr} {mA : Str → Option Value} {name : Str} {v : Value}

end

/-! ### the attributes as a list of pairs -/
def putF (f : Str) (v : V) : List (Str × V) → List (Str × V)
  | [] => [(f, v)]
  | (g, x) :: r => if g = f then (g, v) :: r else (g, x) :: putF f v r
theorem RelO.some_of {v : V} {o : Option Value} (r : RelO (some v) o) : ∃ u, o = some u ∧ RelV v u := by
  cases o with
  | none => exact (show False from r).elim
  | some u => exact ⟨u, rfl, r⟩
section
variable {P : Program} {w : World} {H H' : Hp} {h h' : Heap} {a C dx : Addr} {fs fs' : List (Str × V)}
end

/-! ### what of the text a class must have -/
structure Cls (K : PySem.W.Frag) (C : Addr) : Prop where
  pg : PySem.W.plainGet K C Str.empty = true
  hd : PySem.W.hasDictIn K C = true
  po : PySem.W.plainOver K C = true
  sa : PySem.W.findIn K (.ref C) "__setattr__" = some (some (.builtin "object.__setattr__"))
/-- no class of it has the name -/
def NoAttr (K : PySem.W.Frag) (C : Addr) (f : Str) : Prop := PySem.W.findIn K (.ref C) f = some none
/-- a constant of the class -/
structure Con (K : PySem.W.Frag) (C : Addr) (f : Str) (v : V) (u : Value) : Prop where
  at_ : PySem.W.findIn K (.ref C) f = some (some u)
  rel : RelV v u
  get : PySem.W.specialIn K u "__get__" = some none
  cp : PySem.W.copiedNames.contains f = false
/-- a method: a plain def of the class or of one above it -/
structure Meth (K : PySem.W.Frag) (C : Addr) (m : Str) (f : Addr) : Prop where
  at_ : PySem.W.findIn K (.ref C) m = some (some (.ref f))
  fn : PySem.W.isFn K (.ref f) = true
  kp : PySem.W.keepIn K (.ref f) = true

section
variable {X : Cx} {pins : List (Addr × Obj)} {σ : St} {H : Hp} {s : Shared} {a C dx : Addr} {fs : List (Str × V)} {f : Str} {v : V} {A : Around} {E : Value → Shared → Prop}

end

/-! ### readings and rules -/
/-- e.f, an attribute of the instance -/
def tFld (K : PySem.W.Frag) (ta : TE) (f : Str) : TE := fun σ H Q => ta σ H fun x H1 => ∃ a C dx fs v, x = .ref a ∧ H1 a = some (.ins C dx fs) ∧ Cls K C ∧ NoAttr K C f ∧ fs.lookup f = some v ∧ Q v H1
/-- e.f, a constant of the class -/
def tCon (K : PySem.W.Frag) (ta : TE) (f : Str) : TE := fun σ H Q => ta σ H fun x H1 => ∃ a C dx fs v u, x = .ref a ∧ H1 a = some (.ins C dx fs) ∧ Cls K C ∧ Con K C f v u ∧ fs.lookup f = none ∧ Q v H1
/-- e.f = value -/
def sFld (K : PySem.W.Frag) (ta tv : TE) (f : Str) : TS := fun D σ H => tv σ H fun y H1 => ta σ H1 fun x H2 => ∃ a C dx fs, x = .ref a ∧ H2 a = some (.ins C dx fs) ∧ Cls K C ∧ NoAttr K C f ∧ fs.length < 1000 ∧
  D.nx σ (upd H2 a (.ins C dx (putF f y fs)))
/-- an augmented operator on two values -/
def InOp (X : Cx) (op : Operator) (rd : V → V → Hp → VK → Prop) : Prop :=
  ∀ (pins : List (Addr × Obj)) (s : Shared) (σ : St) (H : Hp) (x y : V) (u v : Value) (Q : VK), Inv X pins σ H s → RelV x u → RelV y v → rd x y H Q → wpAny (model X.prog X.w) X.A (inplaceOp op u v) (EP X pins σ Q) X.xe s
/-- e.f op= value -/
def sFldAug (K : PySem.W.Frag) (ta tv : TE) (rd : V → V → Hp → VK → Prop) (f : Str) : TS := fun D σ H => ta σ H fun x H1 => ∃ a C dx fs v, x = .ref a ∧ H1 a = some (.ins C dx fs) ∧ Cls K C ∧ NoAttr K C f ∧ fs.lookup f = some v ∧
  tv σ H1 fun y H2 => rd v y H2 fun z H3 => ∃ dx' fs', H3 a = some (.ins C dx' fs') ∧ fs'.length < 1000 ∧ D.nx σ (upd H3 a (.ins C dx' (putF f z fs')))

section
variable {X : Cx} {o e value : Expr} {f : Str} {pos pos' tpos : Pos} {ta tv : TE}
def rAdd : V → V → Hp → VK → Prop := fun x y H Q => ∃ i j, x = .int i ∧ y = .int j ∧ Q (.int (i + j)) H
def rSub : V → V → Hp → VK → Prop := fun x y H Q => ∃ i j, x = .int i ∧ y = .int j ∧ Q (.int (i - j)) H
end

/-! ### isinstance -/
section
variable {X : Cx} {pins : List (Addr × Obj)} {σ : St} {H : Hp} {s : Shared} {A : Around} {E : Value → Shared → Prop} {Q : Value → Shared → Prop} {c : Value} {b : Bool}
/-- the type of a value, as the fragment's deciders take it; for an instance its class -/
inductive TyOf (K : PySem.W.Frag) (H : Hp) : V → Value → Prop where
  | non : TyOf K H .non (.type "NoneType")
  | bl (x : Bool) : TyOf K H (.bl x) (.type "bool")
  | int (i : Int) : TyOf K H (.int i) (.type "int")
  | str (x : Str) : TyOf K H (.str x) (.type "str")
  | flt (x : UInt64) : TyOf K H (.flt x) (.type "float")
  | lst {a : Addr} {xs : List V} (e : H a = some (.lst xs)) : TyOf K H (.ref a) (.type "list")
  | frz {a : Addr} {o : Obj} {xs : List V} (e : H a = some (.frz o (.lst xs))) : TyOf K H (.ref a) (.type "list")
  | tup {a : Addr} {xs : List V} (e : H a = some (.tup xs)) : TyOf K H (.ref a) (.type "tuple")
  | dK {a : Addr} {kvs : List (Key × V)} (e : H a = some (.dK kvs)) : TyOf K H (.ref a) (.type "dict")
  | dT {a : Addr} {kvs : List (List Key × V)} (e : H a = some (.dT kvs)) : TyOf K H (.ref a) (.type "dict")
  | ins {a C dx : Addr} {fs : List (Str × V)} (e : H a = some (.ins C dx fs)) (cl : Cls K C) (ha : PySem.W.findIn K (.ref C) "__class__" = some (some (.builtin "object.__class__")))
      (hn : PySem.W.specialIn K (.builtin "object.__class__") "__get__" = some (some (.builtin "getset_descriptor.__get__"))) (htk : PySem.W.takesIn K (.builtin "object.__class__") = some true)
      (hm : PySem.W.mroIn K C (.type "object") = some true) : TyOf K H (.ref a) (.ref C)
end
end L2

namespace L2
open PySem PySem.Spec PyProof.Rows

/-! ### room -/
structure Room (k : Nat) (A : Around) : Prop where
  dp : A.depth + 3 * k + 5 < recursionLimit
  un : A.units + 16 * k + 200 < cLine
theorem Room.mono {j k : Nat} {A : Around} (r : Room k A) (h : j ≤ k) : Room j A := ⟨by have := r.dp; omega, by have := r.un; omega⟩
theorem Room.deeper {k : Nat} {A : Around} (r : Room (k + 1) A) (env : Env) : Room k (A.deeper env) :=
  ⟨by have := r.dp; show A.depth + 1 + 3 * k + 5 < _; omega, by have := r.un; show A.units + 3 + 16 * k + 200 < _; omega⟩
theorem Room.depth {k : Nat} {A : Around} (r : Room k A) : A.depth < recursionLimit := by have := r.dp; omega
theorem Room.units {k : Nat} {A : Around} (r : Room k A) : A.units + 64 < cLine := by have := r.un; omega
/-! ### argument lists and displays -/
def tNil : TA := fun _ H Q => Q [] H
def tCons (ta : TE) (tr : TA) : TA := fun σ H Q => ta σ H fun x H1 => tr σ H1 fun xs H2 => Q (x :: xs) H2
section
variable {X : Cx} {e : Expr} {es : List Expr} {te : TE} {t : TA} {pos : Pos}
theorem pa_nil : PA X [] tNil := fun _ _ _ _ H Q I h => Calls.spliced_nil ⟨[], H, I, .nil, h⟩
theorem pa_cons (ha : PE X e te) (hr : PA X es t) (hs : starEach (e :: es) X.env = (false, eval e X.env) :: starEach es X.env := by rfl) : PA X (e :: es) (tCons te t) := by
  intro pos pins s σ H Q I h
  rw [hs]
  show wpAny _ _ (spliced ((false, eval e X.env) :: backTo pos (starEach es X.env))) _ _ s
  refine Calls.spliced_cons (thn (ha pins s σ H _ I h) fun u s1 => L2.ex5 fun x H1 I1 r1 q1 => ?_)
  exact thn (hr pos pins s1 σ H1 _ I1 q1) fun us s2 ⟨xs, H2, I2, r2, q2⟩ => ⟨x :: xs, H2, I2, .cons r1 r2, q2⟩

/-- a tuple, a list of written items -/
def tTup (t : TA) : TE := fun σ H Q => t σ H fun xs H1 => xs.length ≤ sizeLine ∧ ∀ p, H1 p = none → Q (.ref p) (upd H1 p (.tup xs))
def tLst (t : TA) : TE := fun σ H Q => t σ H fun xs H1 => xs.length ≤ sizeLine ∧ ∀ p, H1 p = none → Q (.ref p) (upd H1 p (.lst xs))
theorem pe_tup {x1} (h : PA X es t) : PE X (.Tuple es x1 pos) (tTup t) := by
  intro pins s σ H Q I hq
  refine wpAny_Tuple_spliced (thn (h pos pins s σ H _ I hq) fun us s1 ⟨xs, H1, I1, r, z, q⟩ => ⟨by rw [← r.length]; exact z, ?_⟩)
  have hf : H1 s1.heap.objs.size = none := I1.hok.fresh (Nat.le_refl _)
  refine ⟨.ref s1.heap.objs.size, upd H1 s1.heap.objs.size (.tup xs), I1.laid (t' := s1.toks) (fun b u e => Heap.get?_push_of_some _ e) (Nat.le_refl _) ?_, rfl, q _ hf⟩
  exact ⟨z, us, r, ⟨_, Heap.get?_push_size _ rfl, rfl, _, rfl⟩⟩
theorem pe_lst (h : PA X es t) : PE X (.List es pos) (tLst t) := by
  intro pins s σ H Q I hq
  refine wpAny_List_spliced (thn (h pos pins s σ H _ I hq) fun us s1 ⟨xs, H1, I1, r, z, q⟩ => ⟨by rw [← r.length]; exact z, ?_⟩)
  have hf : H1 s1.heap.objs.size = none := I1.hok.fresh (Nat.le_refl _)
  refine ⟨.ref s1.heap.objs.size, upd H1 s1.heap.objs.size (.lst xs), I1.laid (t' := s1.toks) (fun b u e => Heap.get?_push_of_some _ e) (Nat.le_refl _) ?_, rfl, q _ hf⟩
  exact ⟨z, us, 0, r, Heap.get?_push_size _ rfl⟩
end

/-! ### what a def promises -/
/-- a def's promise: the bound arguments in the parameters' order, the heap, the wanted end, the wanted exception -/
abbrev Sp := List V → Hp → VK → XK → Prop
/-- how an exception lies behind a call (file 08 gives it): the callers' frames, abstract heap and state ahead of the call, the wish, the exception, the state -/
abbrev CXT := List Env → Hp → Shared → XK → Value → Shared → Prop

/-- the state at a call -/
structure Env0 (P : Program) (w : World) (K : PySem.W.Frag) (mg : Str → Option Value) (base : Heap) (A : Around) (outer : List Env) (s : Shared) (H : Hp) : Prop where
  frames : A.frames = some outer
  mod : Mod K mg base
  bs : ∀ b o, base.get? b = some o → s.heap.get? b = some o ∧ H b = none
  bsz : base.objs.size ≤ s.heap.objs.size
  funs : s.heap.FunFrames base outer
  frf : ∀ b ∈ frs outer, H b = none
  hok : HOk P w H s.heap
  bare : AllBare s.gens
  hd : HdAt A H
/-- a call's end -/
def CE (outer : List Env) (P : Program) (w : World) (H : Hp) (s : Shared) (Q : VK) (u : Value) (s' : Shared) : Prop :=
  ∃ v H', s'.os = s.os ∧ AllBare s'.gens ∧ Un (frs outer) [] H H' s.heap s'.heap ∧ HOk P w H' s'.heap ∧ RelV v u ∧ Q v H'
def CR (CX : CXT) (outer : List Env) (P : Program) (w : World) (H : Hp) (s : Shared) (Q : VK) (E : XK) (r : Result) (s' : Shared) : Prop :=
  match r with
  | .ok (.ret u) => CE outer P w H s Q u s'
  | .ok _ => False
  | .error e => CX outer H s E e s'
structure FnOk (P : Program) (w : World) (K : PySem.W.Frag) (mg : Str → Option Value) (base : Heap) (CX : CXT) (k : Nat) (f : Addr) (fd : FuncData) (ps : List Str) (sp : Sp) : Prop where
  len : ∀ vs H Q E, sp vs H Q E → vs.length = ps.length
  run : ∀ (A : Around) (outer : List Env) (s : Shared) (H : Hp) (args : Args) (us : List Value) (vs : List V) (Q : VK) (E : XK), Room k A → Env0 P w K mg base A outer s H → BindsTo s fd args (ps.zip us) → Vals vs us → sp vs H Q E →
    codeAny (model P w) A (.call (.ref f) args) (CR CX outer P w H s Q E) s
section
variable {X : Cx} {pins : List (Addr × Obj)} {σ : St} {H : Hp} {s s' : Shared}
/-- from a body: what a callee wants -/
theorem Inv.env0 (I : Inv X pins σ H s) : Env0 X.prog X.w X.K X.mg X.base X.A X.stack s H :=
  ⟨I.ok.frames, I.ok.mod, I.bs, Nat.le_trans I.ok.bsz I.sz, I.stack, I.stkFree, I.hok, I.bare, I.hdAt⟩
/-- behind a call -/
theorem Inv.after {Q : VK} {u : Value} (I : Inv X pins σ H s) (h : CE X.stack X.prog X.w H s Q u s') : EP X pins σ Q u s' := by
  obtain ⟨v, H', os, bare, un, hok, r, q⟩ := h
  obtain ⟨hh, g, d, t, os'⟩ := s'
  obtain rfl : os' = s.os := os
  exact ⟨v, H', I.call (h' := hh) (g' := g) (d' := d) (t' := t) (ch := []) un hok bare (fun b z => absurd z (by simp)), r, q⟩
end

/-! ### calls -/
/-- f(..): the written arguments, then the defaults dvs; E: what is wanted of an exception -/
def tCall (sp : Sp) (dvs : List V) (E : XK) (t : TA) : TE := fun σ H Q => t σ H fun vs H1 => sp (vs ++ dvs) H1 Q E
/-- o.m(..) of an instance of the class at C -/
def tMeth (C : Addr) (m : Str) (sp : Sp) (dvs : List V) (E : XK) (ta : TE) (t : TA) : TE := fun σ H Q => ta σ H fun x H1 => ∃ a dx fs, x = .ref a ∧ H1 a = some (.ins C dx fs) ∧ fs.lookup m = none ∧
  t σ H1 fun vs H2 => sp (x :: (vs ++ dvs)) H2 Q E
/-- C(..): a new instance and its dict, then __init__ -/
def tMake (C : Addr) (sp : Sp) (dvs : List V) (E : XK) (t : TA) : TE := fun σ H Q => t σ H fun vs H1 => ∀ x dx, H1 x = none → H1 dx = none → dx ≠ x →
  sp (.ref x :: (vs ++ dvs)) (upd (upd H1 dx (.own x)) x (.ins C dx [])) (fun v H2 => v = .non ∧ Q (.ref x) H2) E

/-- how the parameters are bound: us the positional arguments, kw the keywords' values by name, ds the defaults that fill up -/
def Binds (K : PySem.W.Frag) (fd : FuncData) (ps : List Str) (ds : List Value) : Prop :=
  ∀ (s : Shared) (us : List Value), K.In s.heap → (us ++ ds).length = ps.length → BindsTo s fd ⟨us, []⟩ (ps.zip (us ++ ds))
/-- every parameter is given -/
theorem Binds.all {K : PySem.W.Frag} {fd : FuncData} {ps : List Str} (h : ∀ us : List Value, us.length = ps.length → bindArgs fd ⟨us, []⟩ = pure (ps.zip us)) : Binds K fd ps [] := fun s us _ hl => by
  rw [List.append_nil] at hl ⊢
  exact .of_eq (h us hl)

/-- an exception of a callee reaches what this body wants of exceptions -/
def Passes (CX : CXT) (X : Cx) (E : XK) : Prop := ∀ (pins : List (Addr × Obj)) (σ : St) (H : Hp) (s : Shared) (e : Value) (s' : Shared), Inv X pins σ H s → CX X.stack H s E e s' → X.xe e s'

section
variable {X : Cx} {CX : CXT} {k : Nat} {f C : Addr} {fd : FuncData} {ps : List Str} {sp : Sp} {dvs : List V} {ds : List Value} {E : XK} {x m : Str} {p pos apos : Pos} {e o : Expr} {es : List Expr} {ta : TE} {t : TA}

/-- the callee runs -/
theorem run_fn {pins : List (Addr × Obj)} {σ : St} {H : Hp} {s : Shared} {Q : VK} {us : List Value} {vs : List V} (F : FnOk X.prog X.w X.K X.mg X.base CX k f fd ps sp) (hr : Room k X.A) (hb : Binds X.K fd ps ds) (hd : Vals dvs ds) (hx : Passes CX X E)
    (I : Inv X pins σ H s) (r : Vals vs us) (h : sp (vs ++ dvs) H Q E) : wpAny (model X.prog X.w) X.A (call (.ref f) us) (EP X pins σ Q) X.xe s := by
  have r2 : Vals (vs ++ dvs) (us ++ ds) := r.append hd
  have hl : (us ++ ds).length = ps.length := by rw [← r2.length]; exact F.len _ _ _ _ h
  refine wpAny_call (codeAny_mono (F.run X.A X.stack s H ⟨us, []⟩ (us ++ ds) (vs ++ dvs) Q E hr I.env0 (hb s us I.kIn hl) r2 h) fun r s' hq => ?_)
  cases r with
  | error e => exact hx pins σ H s e s' I hq
  | ok fl =>
    cases fl with
    | ret u => exact I.after hq
    | next => exact False.elim hq
    | brk => exact False.elim hq
    | cont => exact False.elim hq

theorem pe_call (F : FnOk X.prog X.w X.K X.mg X.base CX k f fd ps sp) (hr : Room k X.A) (hg : Gl X x) (hm : X.mg x = some (.ref f)) (hk : PySem.W.keepIn X.K (.ref f) = true) (hb : Binds X.K fd ps ds) (hd : Vals dvs ds) (hx : Passes CX X E)
    (ha : PA X (e :: es) t) (hdb : (x == ("__debug__" : Str)) = false := by decide) (he : starEach (e :: es) X.env = (false, eval e X.env) :: starEach es X.env := by rfl) (hpl : (backTo pos (starEach es X.env)).any (·.1) = false := by rfl) :
    PE X (.Call (.Name x p) (e :: es) [] pos) (tCall sp dvs E t) := by
  intro pins s σ H Q I h
  refine wpAny_Call_Name_kw (ld_glob I hg hm ?_ hdb)
  refine PySem.W.callWith_K (h₀ := X.base) I.ok.mod.kin hk (thn (ha pos pins s σ H _ I h) fun us s1 => L2.ex5 fun vs H1 I1 r q => ⟨I1.kIn, ?_⟩) he hpl
  exact run_fn F hr hb hd hx I1 r q
/-- what a class must have to be made -/
structure Mk (K : PySem.W.Frag) (C f : Addr) : Prop where
  makes : PySem.W.makesIn K C = true
  init : PySem.W.findIn K (.ref C) "__init__" = some (some (.ref f))
  fn : PySem.W.isFn K (.ref f) = true
  kp : PySem.W.keepIn K (.ref C) = true

end

/-! ### keywords -/
/-- the values of the keywords, from the left -/
def PK (X : Cx) (kws : List Keyword) (t : TA) : Prop :=
  ∀ (pos : Pos) (pins : List (Addr × Obj)) (s : Shared) (σ : St) (H : Hp) (Q : List V → Hp → Prop), Inv X pins σ H s → t σ H Q → wpAny (model X.prog X.w) X.A (evalAll ((backToKw pos (keywordEach kws X.env)).map (·.2))) (AP X pins σ Q) X.xe s
section
variable {X : Cx} {CX : CXT} {k : Nat} {f C : Addr} {fd : FuncData} {ps ks : List Str} {sp : Sp} {E : XK} {x m : Str} {p pos apos kpos : Pos} {e o : Expr} {es : List Expr} {kws : List Keyword} {te ta : TE} {t tk : TA} {nm : Option Str}
/-- how a call with keywords binds: g puts the positional values us and the keywords' values ws (names ks) in the parameters' order, defaults among them -/
structure KBinds (K : PySem.W.Frag) (fd : FuncData) (ps ks : List Str) (g : List Value → List Value → List Value) (gV : List V → List V → List V) : Prop where
  to : ∀ (s : Shared) (us ws : List Value), K.In s.heap → (g us ws).length = ps.length → BindsTo s fd ⟨us, ks.zip ws⟩ (ps.zip (g us ws))
  rel : ∀ {vs : List V} {us : List Value} {zs : List V} {ws : List Value}, Vals vs us → Vals zs ws → Vals (gV vs zs) (g us ws)
def tCallK (sp : Sp) (gV : List V → List V → List V) (E : XK) (t tk : TA) : TE := fun σ H Q => t σ H fun vs H1 => tk σ H1 fun zs H2 => sp (gV vs zs) H2 Q E
variable {g : List Value → List Value → List Value} {gV : List V → List V → List V}
end

/-! ### a def's body keeps its promise -/
/-- names: the parameters first -/
structure FnScope (N P : List Str) (sc : Scope) : Prop where
  kind : sc.kind = .function
  co : sc.isCoroutine = false
  gen : sc.isGenerator = false
  nd : N.Nodup
  pre : N.take P.length = P
  par : ∀ x ∈ P, sc.names.lookup x = some .local ∨ sc.names.lookup x = some .cell
  nofree : ∀ y ∈ sc.names, y.2 ≠ .free

theorem bindL_out {kindOf : Str → Option NameKind} {x : Str} : ∀ {binds : List (Str × Value)} {m : Str → Option Value}, (∀ v, (x, v) ∉ binds) → bindL kindOf binds m x = m x
  | [], _, _ => rfl
  | (n, v) :: r, m, h => by
    unfold bindL
    rw [bindL_out fun w hw => h w (List.mem_cons_of_mem _ hw)]
    split
    · have : x ≠ n := by rintro rfl; exact h v List.mem_cons_self
      simp [this]
    · rfl
theorem bindC_out {kindOf : Str → Option NameKind} {x : Str} : ∀ {binds : List (Str × Value)} {m : Str → Option Value}, (∀ v, (x, v) ∉ binds) → bindC kindOf binds m x = m x
  | [], _, _ => rfl
  | (n, v) :: r, m, h => by
    unfold bindC
    rw [bindC_out fun w hw => h w (List.mem_cons_of_mem _ hw)]
    split
    · rfl
    · have : x ≠ n := by rintro rfl; exact h v List.mem_cons_self
      simp [this]
theorem bindL_get {kindOf : Str → Option NameKind} {x : Str} {v : Value} : ∀ {P : List Str} {vs : List Value} {i : Nat} {m : Str → Option Value}, P.Nodup → P[i]? = some x → vs[i]? = some v → kindOf x = some .local →
    bindL kindOf (P.zip vs) m x = some v
  | [], _, _, _, _, h, _, _ => by simp at h
  | _ :: _, [], _, _, _, _, h, _ => by simp at h
  | p :: P, w :: vs, 0, m, nd, h1, h2, hk => by
    simp at h1 h2; subst h1; subst h2
    show bindL kindOf ((p, w) :: P.zip vs) m p = _
    unfold bindL
    rw [bindL_out fun v hv => (List.nodup_cons.mp nd).1 (List.of_mem_zip hv).1, if_pos hk]
    simp
  | p :: P, w :: vs, i + 1, m, nd, h1, h2, hk => by
    show bindL kindOf ((p, w) :: P.zip vs) m x = _
    unfold bindL
    exact bindL_get (i := i) (List.nodup_cons.mp nd).2 (by simpa using h1) (by simpa using h2) hk
theorem bindC_get {kindOf : Str → Option NameKind} {x : Str} {v : Value} : ∀ {P : List Str} {vs : List Value} {i : Nat} {m : Str → Option Value}, P.Nodup → P[i]? = some x → vs[i]? = some v → kindOf x ≠ some .local →
    bindC kindOf (P.zip vs) m x = some v
  | [], _, _, _, _, h, _, _ => by simp at h
  | _ :: _, [], _, _, _, _, h, _ => by simp at h
  | p :: P, w :: vs, 0, m, nd, h1, h2, hk => by
    simp at h1 h2; subst h1; subst h2
    show bindC kindOf ((p, w) :: P.zip vs) m p = _
    unfold bindC
    rw [bindC_out fun v hv => (List.nodup_cons.mp nd).1 (List.of_mem_zip hv).1, if_neg hk]
    simp
  | p :: P, w :: vs, i + 1, m, nd, h1, h2, hk => by
    show bindC kindOf ((p, w) :: P.zip vs) m x = _
    unfold bindC
    exact bindC_get (i := i) (List.nodup_cons.mp nd).2 (by simpa using h1) (by simpa using h2) hk

/-- the names' values at the entry -/
def start (N : List Str) (vs : List V) : St := vs.map some ++ List.replicate (N.length - vs.length) none

/-- the context of a def's body, at its entry; an exception leaves the frame, then lies as CX says -/
def cxOf (CX : CXT) (P : Program) (w : World) (K : PySem.W.Frag) (mg : Str → Option Value) (base : Heap) (N : List Str) (qual : Str) (scope : Scope) (f : Addr) (cd : Value) (A : Around) (outer : List Env) (s : Shared) (H : Hp) (E : XK) : Cx where
  prog := P
  w := w
  K := K
  mg := mg
  base := base
  A := A.deeper (envOfC qual scope s.heap.objs.size f cd)
  N := N
  s₀ := s
  H₀ := H
  env := envOfC qual scope s.heap.objs.size f cd
  outer := outer
  stack := envOfC qual scope s.heap.objs.size f cd :: outer
  ex := []
  calm := true
  fn := fun _ => true
  pn := []
  xe := fun e s' => wpAny (model P w) (A.deeper (envOfC qual scope s.heap.objs.size f cd)) (leaving (envOfC qual scope s.heap.objs.size f cd) e) (fun _ s'' => CX outer H s E e s'') (fun e' s'' => CX outer H s E e' s'') s'

theorem cell_has {sc : Scope} {n : Nat} {x : Str} (h : sc.names.lookup x = some .cell) : ∃ c, (cellsFrom n sc.names []).lookup x = some c := by
  have q := PySem.W.cellsFrom_some sc.names n [] (.inl h)
  exact Option.isSome_iff_exists.mp q

theorem inv_start {CX : CXT} {P : Program} {w : World} {K : PySem.W.Frag} {mg : Str → Option Value} {base : Heap} {N ps : List Str} {qual : Str} {scope : Scope} {f : Addr} {cd : Value} {A : Around} {outer : List Env} {s s1 : Shared} {H : Hp} {E : XK} {us : List Value} {vs : List V}
    (S : FnScope N ps scope) (e0 : Env0 P w K mg base A outer s H) (hl : vs.length = ps.length) (r : Vals vs us)
    (x : InCallC s s.heap.objs.size (bindL (envOfC qual scope s.heap.objs.size f cd).kindOf (ps.zip us) fun _ => none) (cellsFrom (s.heap.objs.size + 1) scope.names []) (bindC (envOfC qual scope s.heap.objs.size f cd).kindOf (ps.zip us) fun _ => none) s1) :
    Inv (cxOf CX P w K mg base N qual scope f cd A outer s H E) [] (start N vs) H s1 := by
  have hpl : ps.length ≤ N.length := by have := congrArg List.length S.pre; rw [List.length_take] at this; omega
  obtain ⟨h1, tk, rfl, hk⟩ := x.done
  have noA : ∀ b : Addr, b ∉ (cxOf CX P w K mg base N qual scope f cd A outer s H E).ex := fun b z => absurd (show b ∈ ([] : List Addr) from z) (by simp)
  refine ⟨⟨e0.mod, S.kind, rfl, rfl, Nat.le_refl _, fun y z c h1 h2 => ?_, fun y hy => ?_, fun y c _ h => ?_, e0.hd, Around.frames_deeper e0.frames, .inr ⟨rfl, rfl⟩, fun b z => absurd z (noA b), e0.bs, e0.bsz, fun b _ _ => noA b, fun b z => absurd z (noA b), e0.funs, e0.frf⟩,
    rfl, e0.bare, Un.kept hk, ⟨_, x.toInCall.ns, fun i y v h1 h2 h3 => ?_⟩, fun y c h => ⟨_, x.cell y c h⟩, e0.hok.fresh (Nat.le_refl _), fun y c h => ?_, fun p hp => absurd (show p ∈ ([] : List (Addr × Obj)) from hp) (by simp), e0.hok.kept hk, ?_⟩
  · exact name_of_addr x.apart (PySem.mem_of_lookup h1) (PySem.mem_of_lookup h2)
  · have hy : scope.names.lookup y = some .cell ∨ scope.names.lookup y = some .free := hy
    rcases hy with hy | hy
    · exact cell_has hy
    · exact absurd rfl (S.nofree _ (PySem.mem_of_lookup hy))
  · exact Nat.le_of_lt (x.above y c (PySem.mem_of_lookup h))
  · have hi : i < vs.length := by
      unfold start at h2
      by_cases hi : i < vs.length
      · exact hi
      · rw [List.getElem?_append_right (by simpa using hi)] at h2
        rw [List.getElem?_replicate] at h2
        split at h2 <;> cases h2
    have ha : vs[i]? = some v := by
      unfold start at h2
      rw [List.getElem?_append_left (by simpa using hi), List.getElem?_map] at h2
      cases e : vs[i]? with
      | none => rw [e] at h2; cases h2
      | some a => rw [e] at h2; cases h2; rfl
    obtain ⟨u, hu, rv⟩ := r.get ha
    have hp : ps[i]? = some y := by
      rw [← S.pre, List.getElem?_take_of_lt (by omega)]; exact h1
    have ndP : ps.Nodup := by rw [← S.pre]; exact S.nd.sublist (List.take_sublist _ _)
    refine ⟨u, rv, ?_⟩
    rcases S.par y (List.mem_of_getElem? hp) with k | k
    · exact .inl ⟨k, bindL_get ndP hp hu k⟩
    · obtain ⟨c, e⟩ := cell_has (n := s.heap.objs.size + 1) k
      refine .inr ⟨.inl k, c, e, ?_⟩
      have q := x.cell y c e
      rw [bindC_get ndP hp hu (by show scope.names.lookup y ≠ _; rw [k]; decide)] at q
      exact q
  · exact e0.hok.fresh (Nat.le_of_lt (x.above y c (PySem.mem_of_lookup h)))
  · unfold start
    show _ = N.length
    rw [List.length_append, List.length_map, List.length_replicate]
    omega

/-- THE RULE: a def (or a method) of the text, by its body. The body's reading t is chosen for each entry; it is run at the parameters' values -/
theorem fn_of {CX : CXT} {P : Program} {w : World} {K : PySem.W.Frag} {mg : Str → Option Value} {base : Heap} {k : Nat} {f : Addr} {name qual : Str} {params : Arguments} {body : List Stmt} {scope : Scope} {dV kV doc pm cdv ct oc : Value} {an od : Option Addr}
    {osl : Array (Option Value)} {N ps : List Str} {sp : Sp} (lk : K.lookup f = some ⟨oc, od, .func (PySem.W.fnOf name qual params body scope dV kV doc pm an cdv ct), osl⟩) (hcd : PySem.W.codeIn K cdv qual = true) (S : FnScope N ps scope)
    (len : ∀ vs H Q E, sp vs H Q E → vs.length = ps.length)
    (hbody : ∀ (A : Around) (outer : List Env) (s : Shared) (H : Hp) (vs : List V) (Q : VK) (E : XK), Room k (A.deeper (envOfC qual scope s.heap.objs.size f cdv)) → sp vs H Q E →
      ∃ t, PSs (cxOf CX P w K mg base N qual scope f cdv A outer s H E) body t ∧ t { nx := fun _ H' => Q .non H', rt := Q } (start N vs) H) :
    FnOk P w K mg base CX (k + 1) f (PySem.W.fnOf name qual params body scope dV kV doc pm an cdv ct) ps sp := by
  refine ⟨len, fun A outer s H args us vs Q E hr e0 hb r hsp => ?_⟩
  have hl := len _ _ _ _ hsp
  have KX : K.In s.heap := e0.mod.kin.keeps fun b o e => (e0.bs b o e).1
  have lim : s.heap.NoLimit := e0.mod.nolimit.keeps fun b o e => (e0.bs b o e).1
  have hkind : ∀ y ∈ ps.zip us, scope.names.lookup y.1 = some .local ∨ (scope.names.lookup y.1 = some .cell ∧ ((cellsFrom (s.heap.objs.size + 1) scope.names []).lookup y.1).isSome = true) := fun ⟨n, v⟩ hy => by
    rcases S.par n (List.of_mem_zip hy).1 with q | q
    · exact .inl q
    · exact .inr ⟨q, PySem.W.cellsFrom_some _ _ _ (.inl q)⟩
  refine codeAny_call_function hr.depth (KX _ _ lk) rfl S.co S.gen rfl (PySem.W.codeRec_of KX hcd) (hb _ _ _ _ ?_)
  refine wpAny_newFunctionEnv_cells S.kind hkind fun env he s1 x => ?_
  subst he
  refine ⟨lim.keeps x.toInCall.keep, codeAny_func ?_⟩
  obtain ⟨t, ht, hq⟩ := hbody A outer s H vs Q E (hr.deeper _) hsp
  have I : Inv (cxOf CX P w K mg base N qual scope f cdv A outer s H E) [] (start N vs) H s1 := inv_start S e0 hl r x
  refine wpAny_mono (ht [] s1 (start N vs) H _ I hq) (fun fl s' hs => ?_) fun e s' hs => hs
  have fin : ∀ {σ' : St} {H' : Hp} {v : V} {u : Value}, Inv (cxOf CX P w K mg base N qual scope f cdv A outer s H E) [] σ' H' s' → RelV v u → Q v H' → CE outer P w H s Q u s' :=
    fun {σ' H' v u} J rv q => ⟨v, H', J.os, J.bare, J.base, J.hok, rv, q⟩
  cases fl with
  | ret u =>
    obtain ⟨v, σ', H', J, rv, q⟩ := hs
    exact fin J rv q
  | next =>
    obtain ⟨σ', H', J, q⟩ := hs
    exact fin (v := V.non) (u := Value.none) J rfl q
  | brk =>
    obtain ⟨_, _, _, q⟩ := hs
    exact False.elim q
  | cont =>
    obtain ⟨_, _, _, q⟩ := hs
    exact False.elim q
end L2

namespace L2
open PySem PySem.Spec PyProof.Rows
section
variable {X : Cx} {x : Str} {p pos : Pos} {e : Expr} {es : List Expr} {t : TA} {id T : String} {r : List V → Hp → VK → Prop}

def tCB (r : List V → Hp → VK → Prop) (t : TA) : TE := fun σ H Q => t σ H fun vs H1 => r vs H1 Q
/-- f(e, ..), f a built-in function -/
theorem pe_callB (hc : CallR X (.builtin id) r) (hg : Gl X x) (hm : X.mg x = none) (hv : bootBuiltins x = some (.builtin id)) (ha : PA X (e :: es) t) (hn : x ≠ "__name__" := by decide) (hdb : (x == ("__debug__" : Str)) = false := by decide)
    (he : starEach (e :: es) X.env = (false, eval e X.env) :: starEach es X.env := by rfl) (hpl : (backTo pos (starEach es X.env)).any (·.1) = false := by rfl) : PE X (.Call (.Name x p) (e :: es) [] pos) (tCB r t) := by
  intro pins s σ H Q I h
  refine wpAny_Call_Name_kw (ld_blt I hg hm hv ?_ hn hdb)
  exact PyProof.Rows.callWith_builtin1 (thn (ha pos pins s σ H _ I h) fun us s1 => L2.ex5 fun vs H1 I1 r1 q1 => hc pins s1 σ H1 vs us Q I1 r1 q1) he hpl
/-- T(e, ..), T a built-in type -/
theorem pe_callTy (hc : CallR X (.type T) r) (hg : Gl X x) (hm : X.mg x = none) (hv : bootBuiltins x = some (.type T)) (ha : PA X (e :: es) t) (hn : x ≠ "__name__" := by decide) (hdb : (x == ("__debug__" : Str)) = false := by decide)
    (he : starEach (e :: es) X.env = (false, eval e X.env) :: starEach es X.env := by rfl) (hpl : (backTo pos (starEach es X.env)).any (·.1) = false := by rfl) : PE X (.Call (.Name x p) (e :: es) [] pos) (tCB r t) := by
  intro pins s σ H Q I h
  refine wpAny_Call_Name_kw (ld_blt I hg hm hv ?_ hn hdb)
  exact PyProof.Rows.callWith_type1 (thn (ha pos pins s σ H _ I h) fun us s1 => L2.ex5 fun vs H1 I1 r1 q1 => hc pins s1 σ H1 vs us Q I1 r1 q1) he hpl
end
end L2

namespace HT
open PySem PyProof.Rows

/-- t < u of tuples of ints -/
def lexLt : List Int → List Int → Bool
  | [], [] => false
  | [], _ :: _ => true
  | _ :: _, [] => false
  | x :: xs, y :: ys => if x = y then lexLt xs ys else decide (x < y)
section
open PySem.SeqAt
open PySem.AutoSeq1 (wpAny_loadPart')
open PySem.MeetsSeq PySem.MeetsSeq2 PySem.MeetsSeq3

end

section
variable {prog : Program} {w : World} {A : Around} {E : Value → Shared → Prop} {s : Shared}

/-! ### t[a:b], not the whole -/
/-- a slice's bound as a place among n (d where it is left out) -/
def sIx (n d : Nat) : Option Int → Nat
  | none => d
  | some v => if v < 0 then (v + (n : Int)).toNat else min v.toNat n
end
end HT

namespace L2
open PySem PySem.Spec PyProof.Rows

/-! ### the parts of a slice -/
abbrev TO := St → Hp → (Option Int → Hp → Prop) → Prop
/-- a slice's part (left out, or an int) -/
def PO (X : Cx) (e : Option Expr) (t : TO) : Prop :=
  ∀ (pins : List (Addr × Obj)) (s : Shared) (σ : St) (H : Hp) (Q : Option Int → Hp → Prop), Inv X pins σ H s → t σ H Q →
    wpAny (model X.prog X.w) X.A (evalPart e X.env) (fun u s' => ∃ o H', Inv X pins σ H' s' ∧ IsPart u o ∧ Q o H') X.xe s
def tNoPart : TO := fun _ H Q => Q none H
def tPart (t : TE) : TO := fun σ H Q => t σ H fun x H1 => ∃ i, x = .int i ∧ Q (some i) H1

section
variable {X : Cx} {e : Expr} {te : TE} {lo hi : Option Expr} {tl th : TO} {pos p2 : Pos}

theorem po_some (h : PE X e te) : PO X (some e) (tPart te) := by
  intro pins s σ H Q I hw
  rw [evalPart_some]
  refine thn (h pins s σ H _ I hw) fun u s1 => L2.ex5 fun x H1 I1 r1 q1 => ?_
  obtain ⟨i, rfl, q⟩ := q1
  obtain ⟨t, rfl⟩ := r1
  exact ⟨some i, H1, I1, .int i t, q⟩

/-- what a slice of a value is, by values: the slice object stands at sl -/
def SlR (X : Cx) (r : V → Option Int → Option Int → Hp → VK → Prop) : Prop :=
  ∀ (pins : List (Addr × Obj)) (s : Shared) (σ : St) (H : Hp) (x : V) (v vl vu : Value) (lo hi : Option Int) (sl : Addr) (Q : VK), Inv X pins σ H s → RelV x v → s.heap.IsSliceOf sl vl vu .none → IsPart vl lo → IsPart vu hi → r x lo hi H Q →
    ∃ T id, typeLookup (.type T) "__getitem__" = pure (some (.builtin id)) ∧ s.TypeIs v T ∧ wpAny (model X.prog X.w) X.A (getItem v (.ref sl)) (EP X pins σ Q) X.xe s
def tSl (r : V → Option Int → Option Int → Hp → VK → Prop) (te : TE) (tl th : TO) : TE := fun σ H Q => te σ H fun x H1 => tl σ H1 fun l H2 => th σ H2 fun u H3 => r x l u H3 Q
/-- a[lo:hi], any a -/
theorem pe_slice {r : V → Option Int → Option Int → Hp → VK → Prop} (hr : SlR X r) (he : PE X e te) (hl : PO X lo tl) (hu : PO X hi th) : PE X (.Subscript e (.Slice lo hi none p2) pos) (tSl r te tl th) := by
  intro pins s σ H Q I h
  refine Subscript_ (thn (he pins s σ H _ I h) fun v s1 => L2.ex5 fun x H1 I1 r1 q1 => ?_)
  refine wpAny_Slice (thn (hl pins s1 σ H1 _ I1 q1) fun vl s2 ⟨l, H2, I2, pl, q2⟩ => thn (hu pins s2 σ H2 _ I2 q2) fun vu s3 => L2.ex5 fun u H3 I3 pu q3 => ?_)
  rw [evalPart_none]
  refine wpAny_pure ?_
  have I4 : Inv X pins σ H3 { s3 with heap := s3.heap.push { cls := .type "slice", data := .fields #[vl, vu, .none] } } := I3.kept (t' := s3.toks) fun b ob q => Heap.get?_push_of_some _ q
  obtain ⟨T, id, hT, ht, hg⟩ := hr pins { s3 with heap := s3.heap.push { cls := .type "slice", data := .fields #[vl, vu, .none] } } σ H3 x v vl vu l u s3.heap.objs.size Q I4 r1 (Heap.IsSliceOf.new ..) pl pu q3
  show wpAny (model X.prog X.w) X.A (subscriptTail e (.Slice lo hi none p2) v (.ref s3.heap.objs.size)) (EP X pins σ Q) X.xe { s3 with heap := s3.heap.push { cls := .type "slice", data := .fields #[vl, vu, .none] } }
  exact tail_any (ops := [.ref s3.heap.objs.size, v]) ht hT hg (by with_unfolding_all rfl)

/-- the items of xs[lo:hi] -/
def cutV (xs : List V) (lo hi : Option Int) : List V := (xs.drop (HT.sIx xs.length 0 lo)).take (HT.sIx xs.length xs.length hi - HT.sIx xs.length 0 lo)
theorem cutV_length (xs : List V) (lo hi : Option Int) : (cutV xs lo hi).length ≤ xs.length := by
  unfold cutV
  rw [List.length_take, List.length_drop]
  omega
/-- t[lo:hi], not the whole of it (the whole would be t itself) -/
def rSlT (K : PySem.W.Frag) : V → Option Int → Option Int → Hp → VK → Prop := fun x lo hi H Q => ∃ a xs, x = .ref a ∧ SqT K H a xs ∧
  ¬ (HT.sIx xs.length 0 lo = 0 ∧ HT.sIx xs.length xs.length hi = xs.length) ∧ ∀ p, H p = none → Q (.ref p) (upd H p (.tup (cutV xs lo hi)))
/-! ### t < u, t + u -/
def rLtT (K : PySem.W.Frag) : R2 := fun x y H Q => ∃ a b ns ms, x = .ref a ∧ y = .ref b ∧ SqT K H a (ns.map V.int) ∧ SqT K H b (ms.map V.int) ∧ Q (.bl (HT.lexLt ns ms)) H
/-- t + u, t not empty: u empty gives t itself -/
def rCatT (K : PySem.W.Frag) : R2 := fun x y H Q => ∃ a b xs ys, x = .ref a ∧ y = .ref b ∧ SqT K H a xs ∧ SqT K H b ys ∧ xs ≠ [] ∧ xs.length + ys.length ≤ sizeLine ∧
  (ys = [] → Q (.ref a) H) ∧ (ys ≠ [] → ∀ p, H p = none → Q (.ref p) (upd H p (.tup (xs ++ ys))))
end
end L2

namespace L2
open PySem PySem.Spec PyProof.Rows

/-! ### places -/
/-- the place that an index of any sign means -/
def ixN (n : Nat) (i : Int) : Option Nat := if 0 ≤ i then (if i < n then some i.toNat else none) else if -(n : Int) ≤ i then some (i + n).toNat else none
def atI {α : Type} (xs : List α) (i : Int) : Option α := (ixN xs.length i).bind fun j => xs[j]?
theorem ixN_seq {n : Nat} {i : Int} {j : Nat} (h : ixN n i = some j) : seqIndex? i n = some j ∧ j < n ∧ -(n : Int) ≤ i ∧ i < n := by
  unfold ixN at h
  by_cases h0 : 0 ≤ i
  · rw [if_pos h0] at h
    by_cases h1 : i < n
    · rw [if_pos h1] at h
      have e : i.toNat = j := Option.some.inj h
      exact ⟨by rw [seqIndex_of h0 h1, e], by omega, by omega, h1⟩
    · rw [if_neg h1] at h; cases h
  · rw [if_neg h0] at h
    by_cases h1 : -(n : Int) ≤ i
    · rw [if_pos h1] at h
      have e : (i + n).toNat = j := Option.some.inj h
      exact ⟨by rw [seqIndex_neg (by omega) h1, e], by omega, h1, by omega⟩
    · rw [if_neg h1] at h; cases h
theorem atI_get {α : Type} {xs : List α} {i : Int} {v : α} (h : atI xs i = some v) : ∃ j, seqIndex? i xs.length = some j ∧ xs[j]? = some v ∧ j < xs.length ∧ -(xs.length : Int) ≤ i ∧ i < xs.length := by
  unfold atI at h
  cases e : ixN xs.length i with
  | none => rw [e] at h; cases h
  | some j =>
    rw [e] at h
    obtain ⟨h1, h2, h3, h4⟩ := ixN_seq e
    exact ⟨j, h1, h, h2, h3, h4⟩
theorem atI_nat {α : Type} {xs : List α} {j : Nat} {v : α} (h : xs[j]? = some v) : atI xs (j : Int) = some v := by
  have hj : j < xs.length := (List.getElem?_eq_some_iff.mp h).1
  have e : ixN xs.length (j : Int) = some j := by
    unfold ixN
    rw [if_pos (by omega), if_pos (by omega)]; simp
  unfold atI; rw [e]; exact h
theorem atI_last {α : Type} (xs : List α) (v : α) : atI (xs ++ [v]) (-1) = some v := by
  have hl : (xs ++ [v]).length = xs.length + 1 := by simp
  have e : ixN (xs ++ [v]).length (-1) = some xs.length := by
    unfold ixN
    rw [hl, if_neg (by decide), if_pos (by omega)]
    congr 1
    omega
  unfold atI
  rw [e]
  show (xs ++ [v])[xs.length]? = some v
  simp

/-! ### what may be subscripted -/
/-- what stands as an index of a plain subscript -/
def PlainIx (b : Expr) : Prop := ∀ o i, subscripted b false o i = operate [o, i] (getItem o i)
/-- a subscript by values -/
def IxR (X : Cx) (r : R2) : Prop :=
  ∀ (value slice : Expr) (pins : List (Addr × Obj)) (s : Shared) (σ : St) (H : Hp) (x y : V) (v u : Value) (Q : VK), Inv X pins σ H s → RelV x v → RelV y u → r x y H Q →
    subscripted slice false v u = operate [v, u] (getItem v u) → wpAny (model X.prog X.w) X.A (subscriptTail value slice v u) (EP X pins σ Q) X.xe s
/-- a call of a builtin's method by values: the receiver, the arguments -/
def MtR (X : Cx) (id : String) (r : V → List V → Hp → VK → Prop) : Prop :=
  ∀ (pins : List (Addr × Obj)) (s : Shared) (σ : St) (H : Hp) (x : V) (xs : List V) (v : Value) (us : List Value) (Q : VK), Inv X pins σ H s → RelV x v → Vals xs us → r x xs H Q →
    wpAny (model X.prog X.w) X.A (call (.builtin id) (v :: us)) (EP X pins σ Q) X.xe s
section
variable {X : Cx} {a b : Expr} {ta tb : TE} {pos : Pos}
/-- a[b] -/
theorem pe_ix {r : R2} (hr : IxR X r) (ha : PE X a ta) (hb : PE X b tb) (hs : PlainIx b) : PE X (.Subscript a b pos) (tOp r ta tb) := by
  intro pins s σ H Q I h
  exact Subscript_ (binT ha hb I h fun v u s2 x y H2 I2 rx ry q => hr a b pins s2 σ H2 x y v u Q I2 rx ry q (hs _ _))

def rIxL (K : PySem.W.Frag) : R2 := fun x y H Q => ∃ p xs i v, x = .ref p ∧ y = .int i ∧ SqL K H p xs ∧ atI xs i = some v ∧ Q v H
def rIxT (K : PySem.W.Frag) : R2 := fun x y H Q => ∃ p xs i v, x = .ref p ∧ y = .int i ∧ SqT K H p xs ∧ atI xs i = some v ∧ Q v H
def rIxS : R2 := fun x y H Q => ∃ z i c, x = .str z ∧ y = .int i ∧ z.length ≤ sizeLine ∧ atI z.cps.toList i = some c ∧ Q (.str ⟨#[c]⟩) H
theorem ix_list : IxR X (rIxL X.K) := by
  intro value slice pins s σ H x y v u Q I rx ry h hs
  obtain ⟨p, xs, i, z, rfl, rfl, hq, he, q⟩ := h
  cases rx
  obtain ⟨t, rfl⟩ := ry
  obtain ⟨its, r, pl, hz⟩ := I.list hq
  obtain ⟨j, h1, h2, h3, h4, h5⟩ := atI_get he
  obtain ⟨w, ew, rw'⟩ := r.get h2
  have hl := r.length
  have hn := line63
  have fin : EP X pins σ Q w s := ⟨z, H, I, rw', q⟩
  by_cases h0 : 0 ≤ i
  · have hj : i.toNat = j := by
      rw [seqIndex_of h0 h5] at h1
      exact Option.some.inj h1
    exact item_listR pl.isList h0 (by omega) (by rw [hj]; simpa using ew) fin hs
  · have hj : (i + (its.toArray.size : Int)).toNat = j := by
      rw [seqIndex_neg (by omega) h4] at h1
      rw [List.size_toArray, ← hl]
      exact Option.some.inj h1
    exact subscriptTail_builtinR (x := w) pl.isList.typeIs slot_list_getitem.lookup
      (wpAny_getItem_list_neg (Q := fun r s' => r = w ∧ EP X pins σ Q r s') pl.isList (by omega) (by rw [List.size_toArray] <;> omega) (by omega) (by rw [hj]; simpa using ew) ⟨rfl, fin⟩) hs
theorem ix_tup : IxR X (rIxT X.K) := by
  intro value slice pins s σ H x y v u Q I rx ry h hs
  obtain ⟨p, xs, i, z, rfl, rfl, hq, he, q⟩ := h
  cases rx
  obtain ⟨t, rfl⟩ := ry
  obtain ⟨its, r, pl, hz⟩ := I.tuple hq
  obtain ⟨j, h1, h2, h3, h4, h5⟩ := atI_get he
  obtain ⟨w, ew, rw'⟩ := r.get h2
  have hl := r.length
  have hn := line63
  have fin : EP X pins σ Q w s := ⟨z, H, I, rw', q⟩
  exact subscriptTail_builtinR (x := w) pl.typeIs slot_tuple_getitem.lookup
    (getItem_tuple (j := j) (Q := fun r s' => r = w ∧ EP X pins σ Q r s') pl (by omega) (by omega) (by rw [List.size_toArray, ← hl]; exact h1) (by simpa using ew) ⟨rfl, fin⟩) hs
/-- list, tuple or str -/
def rIx (K : PySem.W.Frag) : R2 := fun x y H Q => rIxL K x y H Q ∨ rIxT K x y H Q ∨ rIxS x y H Q
/-! ### xs[i] = v, any sign -/
def rSetL : V → V → V → Hp → (Hp → Prop) → Prop := fun o i v H Q => ∃ p xs k j, o = .ref p ∧ i = .int k ∧ H p = some (.lst xs) ∧ ixN xs.length k = some j ∧ Q (upd H p (.lst (xs.set j v)))
/-! ### slices -/
theorem slice_bounds (lo hi : Option Int) (n : Nat) : (sliceBounds lo hi none n).1 = ((HT.sIx n 0 lo : Nat) : Int) ∧ (sliceBounds lo hi none n).2.1 = ((HT.sIx n n hi : Nat) : Int) ∧ (sliceBounds lo hi none n).2.2 = 1 := by
  refine ⟨?_, ?_, rfl⟩
  · cases lo with
    | none => simp [sliceBounds, HT.sIx]
    | some i =>
      simp only [sliceBounds, HT.sIx, Option.getD_none, show (1 : Int) > 0 by decide, if_true]
      by_cases h : i < 0
      · simp only [h, if_true] <;> omega
      · simp only [h, if_false] <;> omega
  · cases hi with
    | none => simp [sliceBounds, HT.sIx]
    | some i =>
      simp only [sliceBounds, HT.sIx, Option.getD_none, show (1 : Int) > 0 by decide, if_true]
      by_cases h : i < 0
      · simp only [h, if_true] <;> omega
      · simp only [h, if_false] <;> omega
theorem slicePick_cut (its : List Value) (lo hi : Option Int) : slicePick its.toArray lo hi none = ((its.drop (HT.sIx its.length 0 lo)).take (HT.sIx its.length its.length hi - HT.sIx its.length 0 lo)).toArray := by
  obtain ⟨h1, h2, h3⟩ := slice_bounds lo hi its.toArray.size
  unfold slicePick
  rw [h1, h2, h3]
  simp only [sliceRange_one, pick_run, List.size_toArray] <;> rfl
/-- xs[lo:hi] of a list: a new list -/
def rSlL (K : PySem.W.Frag) : V → Option Int → Option Int → Hp → VK → Prop := fun x lo hi H Q => ∃ a xs, x = .ref a ∧ SqL K H a xs ∧ ∀ p, H p = none → Q (.ref p) (upd H p (.lst (cutV xs lo hi)))
theorem sl_list : SlR X (rSlL X.K) := by
  intro pins s σ H x v vl vu lo hi sl Q I rx hs pl pu h
  obtain ⟨a, xs, rfl, hx, q⟩ := h
  cases rx
  obtain ⟨its, r, ht, hz⟩ := I.list hx
  have hlen := r.length
  refine ⟨"list", _, slot_list_getitem.lookup, ht.isList.typeIs, ?_⟩
  refine wpAny_getItem_list_slice ht.isList hs pl pu .none (by simp) ?_ (by rw [List.size_toArray] <;> omega)
  rw [slicePick_cut, ← hlen]
  refine ⟨.ref s.heap.objs.size, _, I.laid (t' := s.toks) (o := .lst (cutV xs lo hi)) (fun b ob q => Heap.get?_push_of_some _ q) (Nat.le_refl _) ?_, rfl, q _ (I.hok.fresh (Nat.le_refl _))⟩
  exact ⟨Nat.le_trans (cutV_length xs lo hi) hz, _, 0, (r.drop (HT.sIx xs.length 0 lo)).take (HT.sIx xs.length xs.length hi - HT.sIx xs.length 0 lo), Heap.get?_push_size _ rfl⟩

/-! ### in, not in: flat items -/
def flatV : V → Bool
  | .non => true
  | .bl _ => true
  | .int _ => true
  | .str _ => true
  | _ => false
/-- == of flat values -/
def eqV : V → V → Bool
  | .non, .non => true
  | .bl a, .bl b => a == b
  | .bl a, .int b => (if a then 1 else 0) == b
  | .int a, .bl b => a == (if b then 1 else 0)
  | .int a, .int b => a == b
  | .str a, .str b => a == b
  | _, _ => false
theorem eqAt_V {A : Around} {s : Shared} {y x : V} {u v : Value} (ry : RelV y u) (rx : RelV x v) (fy : flatV y = true) (fx : flatV x = true) : SeqAt.EqAt A s u v (eqV y x) := by
  cases y with
  | non =>
    cases ry
    cases x with
    | non => cases rx; exact SeqAt.EqAt.same _
    | bl b => cases rx; exact SeqAt.EqAt.none_bool b
    | int b => obtain ⟨t, rfl⟩ := rx; exact SeqAt.EqAt.none_int b t
    | str b => obtain ⟨t, rfl⟩ := rx; exact SeqAt.EqAt.none_str b t
    | _ => exact absurd (show false = true from fx) Bool.false_ne_true
  | bl a =>
    cases ry
    cases x with
    | non => cases rx; exact SeqAt.EqAt.bool_none a
    | bl b => cases rx; exact SeqAt.EqAt.bool_bool a b
    | int b => obtain ⟨t, rfl⟩ := rx; exact SeqAt.EqAt.bool_int a b t
    | str b => obtain ⟨t, rfl⟩ := rx; exact SeqAt.EqAt.bool_str a b t
    | _ => exact absurd (show false = true from fx) Bool.false_ne_true
  | int a =>
    obtain ⟨t', rfl⟩ := ry
    cases x with
    | non => cases rx; exact SeqAt.EqAt.int_none a t'
    | bl b => cases rx; exact SeqAt.EqAt.int_bool a t' b
    | int b => obtain ⟨t, rfl⟩ := rx; exact SeqAt.EqAt.int_int a t' b t
    | str b => obtain ⟨t, rfl⟩ := rx; exact SeqAt.EqAt.int_str a t' b t
    | _ => exact absurd (show false = true from fx) Bool.false_ne_true
  | str a =>
    obtain ⟨t', rfl⟩ := ry
    cases x with
    | non => cases rx; exact SeqAt.EqAt.str_none a t'
    | bl b => cases rx; exact SeqAt.EqAt.str_bool a t' b
    | int b => obtain ⟨t, rfl⟩ := rx; exact SeqAt.EqAt.str_int a t' b t
    | str b => obtain ⟨t, rfl⟩ := rx; exact SeqAt.EqAt.str_str a t' b t
    | _ => exact absurd (show false = true from fx) Bool.false_ne_true
  | _ => exact absurd (show false = true from fy) Bool.false_ne_true
/-- the items' answers, read off the values (a value's own answer does not lean on its token) -/
def eqU (x : V) (u : Value) : Bool := match u with
  | .none => eqV .non x
  | .bool b => eqV (.bl b) x
  | .int i _ => eqV (.int i) x
  | .str z _ => eqV (.str z) x
  | _ => false
def inV (x : V) (xs : List V) : Bool := xs.any fun y => eqV y x
/-- x in a list or tuple of flat items -/
def rIn (K : PySem.W.Frag) (neg : Bool) : R2 := fun x y H Q => ∃ p xs, y = .ref p ∧ (SqL K H p xs ∨ SqT K H p xs) ∧ flatV x = true ∧ xs.all flatV = true ∧ Q (.bl (if neg then !inV x xs else inV x xs)) H
/-! ### len, list(x), tuple(x) of any list or tuple that is read -/
theorem call_len_seq : CallR X (.builtin "len") (fun xs H Q => ∃ p ys, xs = [.ref p] ∧ (SqL X.K H p ys ∨ SqT X.K H p ys) ∧ Q (.int ys.length) H) := by
  intro pins s σ H xs us Q I r h
  obtain ⟨p, ys, rfl, hq, q⟩ := h
  obtain ⟨u, rfl, rx⟩ := vals1 r
  cases rx
  have hn := line63
  rcases hq with hq | hq
  · obtain ⟨its, r', pl, hz⟩ := I.list hq
    have hlen := r'.length
    exact Calls.call_len_list pl.isList (by simp only [List.size_toArray] <;> omega) ⟨.int ys.length, H, I.tok _, ⟨s.toks + 1, by rw [List.size_toArray, hlen]⟩, q⟩
  · obtain ⟨its, r', pl, hz⟩ := I.tuple hq
    have hlen := r'.length
    exact len_tuple pl (by simp only [List.size_toArray] <;> omega) ⟨.int ys.length, H, I.tok _, ⟨s.toks + 1, by rw [List.size_toArray, hlen]⟩, q⟩
theorem call_list_of : CallR X (.type "list") (fun xs H Q => ∃ p ys, xs = [.ref p] ∧ (SqL X.K H p ys ∨ SqT X.K H p ys) ∧ ∀ l, H l = none → Q (.ref l) (upd H l (.lst ys))) := by
  intro pins s σ H xs us Q I r h
  obtain ⟨p, ys, rfl, hq, q⟩ := h
  obtain ⟨u, rfl, rx⟩ := vals1 r
  cases rx
  have fin : ∀ (its : List Value), Vals ys its → ys.length ≤ sizeLine → ∀ (h' : Heap) (c' : Nat), (∀ b o', s.heap.get? b = some o' → h'.get? b = some o') →
      h'.get? s.heap.objs.size = some { cls := .type "list", dict := none, data := .seq its.toArray c', slots := #[] } → EP X pins σ Q (.ref s.heap.objs.size) { s with heap := h' } := fun its r' hz h' c' kp e =>
    ⟨.ref s.heap.objs.size, _, I.laid (t' := s.toks) kp (Nat.le_refl _) (show ObjOk X.prog X.w _ h' _ (.lst ys) from ⟨hz, its, c', r', e⟩), rfl, q _ (I.hok.fresh (Nat.le_refl _))⟩
  rcases hq with hq | hq
  · obtain ⟨its, r', pl, hz⟩ := I.list hq
    have hlen := r'.length
    obtain ⟨o, ho, hc, n, hd⟩ := pl.isList
    exact call_list_seq p (.inl rfl) ho hc hd (fun h' c' kp e => fin its r' hz h' c' kp e) (by simp only [List.size_toArray] <;> omega)
  · obtain ⟨its, r', pl, hz⟩ := I.tuple hq
    have hlen := r'.length
    obtain ⟨o, ho, hc, n, hd⟩ := pl
    exact call_list_seq p (.inr rfl) ho hc hd (fun h' c' kp e => fin its r' hz h' c' kp e) (by simp only [List.size_toArray] <;> omega)
/-! ### the call of a builtin's method: o.m(..) -/
/-- the value is of that builtin type -/
def tyV (K : PySem.W.Frag) (T : String) (x : V) (H : Hp) : Prop := match x with
  | .str _ => T = "str"
  | .int _ => T = "int"
  | .ref p => (T = "list" ∧ ∃ xs, SqL K H p xs) ∨ (T = "tuple" ∧ ∃ o, K.lookup p = some o ∧ o.cls = .type "tuple" ∧ o.dict = none) ∨
      (T = "dict" ∧ ((∃ kvs, H p = some (.dK kvs)) ∨ ∃ kvs, H p = some (.dT kvs))) ∨ (T = "set" ∧ ∃ S n, H p = some (.set S n))
  | _ => False
theorem tyV_is {pins : List (Addr × Obj)} {σ : St} {H : Hp} {s : Shared} {T : String} {x : V} {v : Value} (I : Inv X pins σ H s) (r : RelV x v) (ty : tyV X.K T x H) :
    s.TypeIs v T ∧ ∀ a, v = .ref a → ∃ ob, s.heap.get? a = some ob ∧ ob.dict = none := by
  cases x with
  | str z =>
    obtain ⟨t, rfl⟩ := r
    cases (show T = "str" from ty)
    exact ⟨typeIs_str s z t, fun _ e => nomatch e⟩
  | int i =>
    obtain ⟨t, rfl⟩ := r
    cases (show T = "int" from ty)
    exact ⟨typeIs_int s i t, fun _ e => nomatch e⟩
  | ref p =>
    cases r
    rcases ty with ⟨rfl, xs, hq⟩ | ⟨rfl, o, hk, hc, hd⟩ | ⟨rfl, hk⟩ | ⟨rfl, S, n, hk⟩
    · obtain ⟨its, _, pl, _⟩ := I.list hq
      refine ⟨pl.isList.typeIs, fun a e => ?_⟩
      cases e
      obtain ⟨o, n, e, c, hd, _⟩ := pl
      exact ⟨o, e, hd⟩
    · refine ⟨⟨o, I.kIn p o hk, hc⟩, fun a e => ?_⟩
      cases e
      exact ⟨o, I.kIn _ o hk, hd⟩
    · have z : ∃ o, s.heap.get? p = some o ∧ o.ExactDict := by
        rcases hk with ⟨kvs, hk⟩ | ⟨kvs, hk⟩
        · obtain ⟨_, _, _, _, o, _, _, e, ex, _⟩ := I.hok p _ hk
          exact ⟨o, e, ex⟩
        · obtain ⟨_, _, _, _, o, _, _, e, ex, _⟩ := I.hok p _ hk
          exact ⟨o, e, ex⟩
      obtain ⟨o, e, ex⟩ := z
      refine ⟨⟨o, e, ex.1⟩, fun a e2 => ?_⟩
      cases e2
      exact ⟨o, e, ex.2.1⟩
    · obtain ⟨o, _, _, _, e, ex, _⟩ := I.hok p _ hk
      refine ⟨⟨o, e, ex.1⟩, fun a e2 => ?_⟩
      cases e2
      exact ⟨o, e, ex.2.1⟩
  | _ => exact False.elim ty
def tBM0 (K : PySem.W.Frag) (T : String) (r : V → List V → Hp → VK → Prop) (to : TE) : TE := fun σ H Q => to σ H fun x H1 => tyV K T x H1 ∧ r x [] H1 Q
def tBM (K : PySem.W.Frag) (T : String) (r : V → List V → Hp → VK → Prop) (to : TE) (t : TA) : TE := fun σ H Q => to σ H fun x H1 => tyV K T x H1 ∧ t σ H1 fun xs H2 => r x xs H2 Q
variable {o e : Expr} {es : List Expr} {to : TE} {t : TA} {name : Str} {apos cpos : Pos} {T id : String} {r : V → List V → Hp → VK → Prop}
theorem pe_bm0 (pa : PlainAttrs T) (slot : Slot T name id) (hty : typeOf (.builtin id) = pure (.type "method_descriptor")) (hm : MtR X id r) (ho : PE X o to)
    (hbase : attributeBase o name X.env (eval o X.env) = eval o X.env := by rfl) (hline : (apos.endLine == cpos.line) = true := by rfl) : PE X (.Call (.Attribute o name apos) [] [] cpos) (tBM0 X.K T r to) := by
  intro pins s σ H Q I h
  refine wpAny_Call_method0_late hbase hline (thn (ho pins s σ H _ I h) fun v s1 => L2.ex5 fun x H1 I1 r1 hq_ => ?_)
  obtain ⟨ty, q1⟩ := hq_
  obtain ⟨h1, h2⟩ := tyV_is I1 r1 ty
  exact ⟨T, id, pa, slot, hty, h1, h2, Calls.callWith_builtin rfl (PySem.evalArgs_none (hm pins s1 σ H1 x [] v [] Q I1 r1 .nil q1))⟩
theorem pe_bm (pa : PlainAttrs T) (slot : Slot T name id) (hty : typeOf (.builtin id) = pure (.type "method_descriptor")) (hm : MtR X id r) (ho : PE X o to) (ha : PA X (e :: es) t)
    (hbase : attributeBase o name X.env (eval o X.env) = eval o X.env := by rfl)
    (hfew : ((backTo cpos (starEach (e :: es) X.env)).all (fun x => !x.1) && (backToKw cpos (keywordEach [] X.env)).all (fun x => x.1.isSome)
      && decide ((e :: es).length + ([] : List Keyword).length + (if ([] : List Keyword).isEmpty then 0 else 1) < 30)) = true := by rfl)
    (hline : (apos.endLine == cpos.line) = true := by rfl) (hs : starEach (e :: es) X.env = (false, eval e X.env) :: starEach es X.env := by rfl) (hplain : (backTo cpos (starEach es X.env)).any (·.1) = false := by rfl) :
    PE X (.Call (.Attribute o name apos) (e :: es) [] cpos) (tBM X.K T r to t) := by
  intro pins s σ H Q I h
  refine wpAny_Call_method_late hbase hfew hline rfl (thn (ho pins s σ H _ I h) fun v s1 => L2.ex5 fun x H1 I1 r1 hq_ => ?_)
  obtain ⟨ty, q1⟩ := hq_
  obtain ⟨h1, h2⟩ := tyV_is I1 r1 ty
  refine ⟨T, id, pa, slot, hty, h1, h2, ?_⟩
  have hA := ha cpos pins s1 σ H1 _ I1 q1
  rw [hs] at hA ⊢
  refine Calls.callWith_builtin (by show (false || (backTo cpos (starEach es X.env)).any (·.1)) = false; rw [hplain] <;> rfl) (Calls.evalArgs_plain ?_)
  exact thn hA fun us s2 => L2.ex5 fun vs H2 I2 r2 q2 => hm pins s2 σ H2 x vs v us Q I2 r1 r2 q2
/- xs.append(e), list.index on a module's tuple .. are MtR facts of 06m -/
end
end L2

namespace L2
open PySem PySem.Spec PyProof.Rows

def MtM (X : Cx) (id : String) (r : V → List V → Hp → VK → Prop) : Prop :=
  ∀ (pins : List (Addr × Obj)) (s : Shared) (σ : St) (H : Hp) (x : V) (xs : List V) (v : Value) (us : List Value) (Q : VK), Inv X pins σ H s → RelV x v → Vals xs us → r x xs H Q →
    wpAny (model X.prog X.w) X.A (call (.builtin id) (v :: us)) (EP X pins σ Q) X.xe s

/-! ### lists of values -/
theorem Vals.one : ∀ {x : V} {us : List Value}, Vals [x] us → ∃ u, us = [u] ∧ RelV x u
  | _, _, .cons r .nil => ⟨_, rfl, r⟩
theorem Vals.eraseIdx : ∀ {xs : List V} {us : List Value} (i : Nat), Vals xs us → Vals (xs.eraseIdx i) (us.eraseIdx i)
  | _, _, _, .nil => .nil
  | _, _, 0, .cons _ t => t
  | _, _, i + 1, .cons r t => .cons r (Vals.eraseIdx i t)
theorem len_erase {α : Type} : ∀ (l : List α) (i : Nat), (l.eraseIdx i).length ≤ l.length
  | [], _ => Nat.le_refl _
  | _ :: _, 0 => Nat.le_succ _
  | _ :: r, i + 1 => Nat.succ_le_succ (len_erase r i)
section
variable {X : Cx} {pins : List (Addr × Obj)} {σ : St} {H : Hp} {s : Shared} {l b : Addr} {xs ys zs : List V}

/-! ### the two steps: a tracked list is rewritten, a new list is laid -/
theorem Inv.lset {its its' : List Value} {n : Nat} {f : Array Value → Array Value} {t' : Nat} (I : Inv X pins σ H s) (hH : H l = some (.lst xs))
    (e : s.heap.get? l = some { cls := .type "list", data := .seq its.toArray n }) (hf : f its.toArray = its'.toArray) (hv : Vals ys its') (hz : ys.length ≤ sizeLine) :
    Inv X pins σ (upd H l (.lst ys)) { s with heap := s.heap.update l (Obj.mapSeq f), toks := t' } := by
  have q := PySem.IsL.update e f
  rw [hf] at q
  refine I.write (x := l) (e := l) (by rw [hH]; exact trivial) (.inl rfl) (fun b' u hb hu => (Heap.get?_update_other s.heap (Obj.mapSeq f) (Ne.symm hb)).trans hu) ⟨_, q⟩ ?_
  exact ⟨hz, its', _, hv, q⟩
theorem Inv.lstM (I : Inv X pins σ H s) (hH : H l = some (.lst xs)) : xs.length ≤ sizeLine ∧ ∃ (its : List Value) (n : Nat), Vals xs its ∧ xs.length = its.length ∧ s.heap.get? l = some { cls := .type "list", data := .seq its.toArray n } := by
  obtain ⟨z, its, n, r, e⟩ := I.hok l _ hH
  exact ⟨z, its, n, r, r.length, e⟩

theorem notLongL {n : Nat} (h : n ≤ sizeLine) : Builtin.List.listTooLong n = false := by
  unfold Builtin.List.listTooLong
  exact decide_eq_false (by omega)
end

section
variable {X : Cx}

/-! ### methods -/
def rAppend : V → List V → Hp → VK → Prop := fun x vs H Q => ∃ l xs y, x = .ref l ∧ vs = [y] ∧ H l = some (.lst xs) ∧ xs.length < sizeLine ∧ Q .non (upd H l (.lst (xs ++ [y])))
theorem mt_append : MtM X "list.append" rAppend := by
  intro pins s σ H x vs v us Q I rx rv h
  obtain ⟨l, xs, y, rfl, rfl, hH, hz, q⟩ := h
  cases rx
  obtain ⟨u, rfl, ru⟩ := rv.one
  obtain ⟨z, its, n, r, hl, e⟩ := I.lstM hH
  refine call_meets F.slot_list_append ⟨_, e, rfl⟩ F.entry_list_append (F.args_list_append_2 _ _) (PySem.list_append l its.toArray n u (by rw [List.size_toArray]; omega)) ⟨e, ?_⟩
  refine ⟨.non, _, I.lset (its' := its ++ [u]) hH e (by simp) (r.append (.cons ru .nil)) ?_, rfl, q⟩
  rw [List.length_append, List.length_singleton]
  omega

def rExtend : V → List V → Hp → VK → Prop := fun x vs H Q => ∃ l b xs zs, x = .ref l ∧ vs = [.ref b] ∧ H l = some (.lst xs) ∧ H b = some (.lst zs) ∧ xs.length + zs.length ≤ sizeLine ∧ Q .non (upd H l (.lst (xs ++ zs)))
def rPop : V → List V → Hp → VK → Prop := fun x vs H Q => ∃ l xs y, x = .ref l ∧ vs = [] ∧ H l = some (.lst xs) ∧ xs[xs.length - 1]? = some y ∧ Q y (upd H l (.lst xs.dropLast))
def rPopAt : V → List V → Hp → VK → Prop := fun x vs H Q => ∃ l xs i k y, x = .ref l ∧ vs = [.int i] ∧ H l = some (.lst xs) ∧ -(2 ^ 63) ≤ i ∧ i < 2 ^ 63 ∧ seqIndex? i xs.length = some k ∧ xs[k]? = some y ∧ Q y (upd H l (.lst (xs.eraseIdx k)))
theorem mt_popAt : MtM X "list.pop" rPopAt := by
  intro pins s σ H x vs v us Q I rx rv h
  obtain ⟨l, xs, i, k, y, rfl, rfl, hH, h1, h2, hk, hy, q⟩ := h
  cases rx
  obtain ⟨u, rfl, ru⟩ := rv.one
  obtain ⟨t, rfl⟩ := ru
  obtain ⟨z, its, n, r, hl, e⟩ := I.lstM hH
  obtain ⟨w, hw, rw'⟩ := r.get hy
  refine call_meets F.slot_list_pop ⟨_, e, rfl⟩ F.entry_list_pop (F.args_list_pop_2 _ _)
    (MeetsSeq.list_pop_at l its.toArray n i t k w (fitsIndex_both h1 h2) (by rw [List.size_toArray, ← hl]; exact hk) (by rw [← Array.getElem?_toList]; exact hw) (by rw [List.size_toArray]; omega)) ⟨e, ?_⟩
  refine ⟨y, _, I.lset (its' := its.eraseIdx k) hH e ?_ (r.eraseIdx k) ?_, rw', q⟩
  · show its.toArray.eraseIdxIfInBounds k = (its.eraseIdx k).toArray
    rw [List.eraseIdxIfInBounds_toArray]
  · have := len_erase xs k
    omega

def rReverse : V → List V → Hp → VK → Prop := fun x vs H Q => ∃ l xs, x = .ref l ∧ vs = [] ∧ H l = some (.lst xs) ∧ Q .non (upd H l (.lst xs.reverse))
def rClear : V → List V → Hp → VK → Prop := fun x vs H Q => ∃ l xs, x = .ref l ∧ vs = [] ∧ H l = some (.lst xs) ∧ Q .non (upd H l (.lst []))
/-! ### list + list, list += list, list * int -/
def rCat : R2 := fun x y H Q => ∃ l b xs zs, x = .ref l ∧ y = .ref b ∧ H l = some (.lst xs) ∧ H b = some (.lst zs) ∧ xs.length + zs.length ≤ sizeLine ∧ ∀ p, H p = none → Q (.ref p) (upd H p (.lst (xs ++ zs)))
/-- a list times an int (a negative one is nothing) -/
def rRep : R2 := fun x y H Q => ∃ l k xs, x = .ref l ∧ y = .int k ∧ H l = some (.lst xs) ∧ -(2 ^ 63) ≤ k ∧ k < 2 ^ 63 ∧ xs.length * k.toNat ≤ sizeLine ∧
  ∀ p, H p = none → Q (.ref p) (upd H p (.lst (List.replicate k.toNat xs).flatten))
/-! ### del xs[i] -/
end

/-! ### xs[a:b] = ys -/
section
variable {prog : Program} {w : World} {A : Around} {E : Value → Shared → Prop} {s : Shared}
end

section
variable {X : Cx}
end
end L2

namespace L2
open PySem PySem.Spec PyProof.Rows

/-! ### lists of pairs as tables -/
section
variable {κ : Type} [DecidableEq κ]
def valV (kvs : List (κ × V)) (k : κ) : Option V := (kvs.find? fun kv => decide (kv.1 = k)).map (·.2)
/-- in its place, or at the end -/
def putK (kvs : List (κ × V)) (k : κ) (v : V) : List (κ × V) :=
  if (kvs.any fun kv => decide (kv.1 = k)) = true then kvs.map (fun kv => if kv.1 = k then (kv.1, v) else kv) else kvs ++ [(k, v)]
def dropK (kvs : List (κ × V)) (k : κ) : List (κ × V) := kvs.filter fun kv => decide (kv.1 ≠ k)

theorem valV_pos {p : κ × V} {r : List (κ × V)} {k : κ} (e : p.1 = k) : valV (p :: r) k = some p.2 := by simp [valV, List.find?_cons, e]
theorem valV_neg {p : κ × V} {r : List (κ × V)} {k : κ} (e : ¬ p.1 = k) : valV (p :: r) k = valV r k := by simp [valV, List.find?_cons, e]
theorem valV_any (k : κ) : ∀ kvs : List (κ × V), (kvs.any fun kv => decide (kv.1 = k)) = (valV kvs k).isSome
  | [] => rfl
  | p :: r => by
    rw [List.any_cons]
    by_cases e : p.1 = k
    · simp only [valV_pos e, decide_eq_true e, Bool.true_or, Option.isSome_some]
    · rw [valV_neg e, decide_eq_false e, Bool.false_or]; exact valV_any k r
theorem valV_map (k j : κ) (y : V) : ∀ kvs : List (κ × V), valV (kvs.map fun kv => if kv.1 = k then (kv.1, y) else kv) j = (valV kvs j).map fun x => if j = k then y else x
  | [] => rfl
  | p :: r => by
    have ih := valV_map k j y r
    rw [List.map_cons]
    by_cases h : p.1 = k
    · rw [if_pos h]
      by_cases e : p.1 = j
      · rw [valV_pos (p := (p.1, y)) e, valV_pos e, Option.map_some, if_pos (e.symm.trans h)]
      · rw [valV_neg (p := (p.1, y)) e, valV_neg e, ih]
    · rw [if_neg h]
      by_cases e : p.1 = j
      · rw [valV_pos (p := p) e, valV_pos e, Option.map_some, if_neg (fun z => h (e.trans z))]
      · rw [valV_neg (p := p) e, valV_neg e, ih]
theorem valV_snoc (k j : κ) (y : V) : ∀ kvs : List (κ × V), valV kvs k = none → valV (kvs ++ [(k, y)]) j = if j = k then some y else valV kvs j
  | [], _ => by
    by_cases e : k = j
    · rw [if_pos e.symm]; exact valV_pos (p := (k, y)) e
    · rw [if_neg (fun z => e z.symm)]; exact valV_neg (p := (k, y)) e
  | p :: r, hn => by
    rw [List.cons_append]
    have hk : ¬ p.1 = k := fun z => by rw [valV_pos z] at hn; cases hn
    rw [valV_neg hk] at hn
    have ih := valV_snoc k j y r hn
    by_cases e : p.1 = j
    · rw [valV_pos e, valV_pos e, if_neg (fun z => hk (e.trans z))]
    · rw [valV_neg e, valV_neg e, ih]
theorem valV_put (kvs : List (κ × V)) (k j : κ) (y : V) : valV (putK kvs k y) j = if j = k then some y else valV kvs j := by
  unfold putK
  by_cases a : (kvs.any fun kv => decide (kv.1 = k)) = true
  · rw [if_pos a, valV_map]
    rw [valV_any] at a
    by_cases e : j = k
    · obtain ⟨x, hx⟩ := Option.isSome_iff_exists.mp a
      rw [if_pos e, e, hx, Option.map_some, if_pos rfl]
    · rw [if_neg e]
      cases valV kvs j with
      | none => rfl
      | some x => rw [Option.map_some, if_neg e]
  · rw [if_neg a]
    refine valV_snoc k j y kvs ?_
    rw [valV_any] at a
    cases q : valV kvs k with
    | none => rfl
    | some x => rw [q] at a; exact (a rfl).elim
theorem length_putK (kvs : List (κ × V)) (k : κ) (v : V) : (putK kvs k v).length ≤ kvs.length + 1 := by
  unfold putK
  split
  · rw [List.length_map]; omega
  · rw [List.length_append, List.length_cons, List.length_nil]; omega
theorem RelO.isSome_eq {o : Option V} {u : Option Value} (r : RelO o u) : o.isSome = u.isSome := by
  cases o with
  | none => cases u with
    | none => rfl
    | some _ => exact (show False from r).elim
  | some _ => cases u with
    | none => exact (show False from r).elim
    | some _ => rfl
theorem RelO.getD {o : Option V} {u : Option Value} {d : V} {d' : Value} (r : RelO o u) (rd : RelV d d') : RelV (o.getD d) (u.getD d') := by
  cases o with
  | none => cases u with
    | none => exact rd
    | some _ => exact (show False from r).elim
  | some _ => cases u with
    | none => exact (show False from r).elim
    | some _ => exact r

/-- raw tables of the same keys -/
theorem KV.val {kvs : List (κ × V)} {vs : List (κ × Value)} (r : KV kvs vs) (k : κ) : RelO (valV kvs k) (valueAt vs k) := by
  unfold KV at r
  induction r with
  | nil => exact True.intro
  | @cons p q ps qs h t ih =>
    obtain ⟨h1, h2⟩ := h
    by_cases e : p.1 = k
    · have e' : q.1 = k := h1.symm.trans e
      have b : valueAt (q :: qs) k = some q.2 := by simp [valueAt, List.find?_cons, e']
      rw [valV_pos e, b]; exact h2
    · have e' : ¬ q.1 = k := fun z => e (h1.trans z)
      have b : valueAt (q :: qs) k = valueAt qs k := by simp [valueAt, List.find?_cons, e']
      rw [valV_neg e, b]; exact ih
theorem KV.any {kvs : List (κ × V)} {vs : List (κ × Value)} (r : KV kvs vs) (k : κ) : (kvs.any fun kv => decide (kv.1 = k)) = vs.any fun kv => decide (kv.1 = k) := by
  unfold KV at r
  induction r with
  | nil => rfl
  | cons h t ih => rw [List.any_cons, List.any_cons, ih, h.1]
theorem KV.repl {kvs : List (κ × V)} {vs : List (κ × Value)} (r : KV kvs vs) (k : κ) {y : V} {u : Value} (ry : RelV y u) :
    KV (kvs.map fun kv => if kv.1 = k then (kv.1, y) else kv) (vs.map fun kv => if kv.1 = k then (kv.1, u) else kv) := by
  unfold KV at r ⊢
  induction r with
  | nil => exact .nil
  | @cons p q ps qs h t ih =>
    rw [List.map_cons, List.map_cons]
    refine .cons ?_ ih
    obtain ⟨h1, h2⟩ := h
    by_cases e : p.1 = k
    · rw [if_pos e, if_pos (h1.symm.trans e)]; exact ⟨h1, ry⟩
    · rw [if_neg e, if_neg (fun z => e (h1.trans z))]; exact ⟨h1, h2⟩
theorem KV.put {kvs : List (κ × V)} {vs : List (κ × Value)} (r : KV kvs vs) (k : κ) {y : V} {u : Value} (ry : RelV y u) : KV (putK kvs k y) (stored vs k u) := by
  unfold putK stored
  rw [r.any k]
  by_cases e : (vs.any fun kv => decide (kv.1 = k)) = true
  · rw [if_pos e, if_pos e]; exact r.repl k ry
  · rw [if_neg e, if_neg e]; exact Paired.snoc r ⟨rfl, ry⟩
theorem KV.length {kvs : List (κ × V)} {vs : List (κ × Value)} (r : KV kvs vs) : kvs.length = vs.length := Paired.length r
end


/-! ### a tracked dict, its keys ints and texts or tuples of these -/
theorem kV_is {P : Program} {w : World} {k : Key} {u : Value} (r : RelV (kV k) u) : (mixKind P w).is k u = true := by
  cases k with
  | inl i => obtain ⟨t, e⟩ := (show ∃ t, u = Value.int i t from r); subst e; exact mixKind_int P w i t
  | inr x => obtain ⟨t, e⟩ := (show ∃ t, u = Value.str x t from r); subst e; exact mixKind_str P w x t
theorem items_are {P : Program} {w : World} : ∀ {ks : List Key} {us : List Value}, Vals (ks.map kV) us → ItemsAre (mixKind P w) ks us
  | [], _, r => by rw [List.map_nil] at r; cases r; exact .nil
  | k :: ks, _, r => by
    rw [List.map_cons] at r
    cases r with
    | cons h t => exact .cons (kV_is h) (items_are t)

/-- raw entries of a dict with tuple keys -/
abbrev KT (H : Hp) : List (List Key × V) → List (List Key × Addr × Value) → Prop := Paired fun p q => p.1 = q.1 ∧ H q.2.1 = some (.tup (p.1.map kV)) ∧ RelV p.2 q.2.2
theorem KT.val {H : Hp} {kvs : List (List Key × V)} {xs : List (List Key × Addr × Value)} (r : KT H kvs xs) (k : List Key) : RelO (valV kvs k) ((atKey xs k).map (·.2)) := by
  induction r with
  | nil => exact True.intro
  | @cons p q ps qs h t ih =>
    obtain ⟨h1, _, h2⟩ := h
    by_cases e : p.1 = k
    · have e' : q.1 = k := h1.symm.trans e
      have b : atKey (q :: qs) k = some q.2 := by simp [atKey, List.find?_cons, e']
      rw [valV_pos e, b]; exact h2
    · have e' : ¬ q.1 = k := fun z => e (h1.trans z)
      have b : atKey (q :: qs) k = atKey qs k := by simp [atKey, List.find?_cons, e']
      rw [valV_neg e, b]; exact ih
theorem KT.repl {H : Hp} {kvs : List (List Key × V)} {xs : List (List Key × Addr × Value)} (r : KT H kvs xs) (k : List Key) {y : V} {u : Value} (ry : RelV y u) :
    KT H (kvs.map fun kv => if kv.1 = k then (kv.1, y) else kv) (xs.map (putAt k u)) := by
  induction r with
  | nil => exact .nil
  | @cons p q ps qs h t ih =>
    rw [List.map_cons, List.map_cons]
    refine .cons ?_ ih
    obtain ⟨h1, h2, h3⟩ := h
    unfold putAt
    by_cases e : p.1 = k
    · rw [if_pos e, if_pos (h1.symm.trans e)]; exact ⟨h1, h2, ry⟩
    · rw [if_neg e, if_neg (fun z => e (h1.trans z))]; exact ⟨h1, h2, h3⟩
theorem KT.put {H : Hp} {kvs : List (List Key × V)} {xs : List (List Key × Addr × Value)} (r : KT H kvs xs) (k : List Key) {b : Addr} {y : V} {u : Value} (hb : H b = some (.tup (k.map kV))) (ry : RelV y u) :
    KT H (putK kvs k y) (storedH xs k b u) := by
  have e : (kvs.any fun kv => decide (kv.1 = k)) = (atKey xs k).isSome := by
    rw [valV_any, (r.val k).isSome_eq, Option.isSome_map]
  unfold putK storedH
  rw [e]
  by_cases q : (atKey xs k).isSome = true
  · rw [if_pos q, if_pos q]; exact r.repl k ry
  · rw [if_neg q, if_neg q]; exact Paired.snoc r ⟨rfl, hb, ry⟩
theorem KT.keeps {H H' : Hp} {kvs : List (List Key × V)} {xs : List (List Key × Addr × Value)} (r : KT H kvs xs) (ht : ∀ b ys, H b = some (.tup ys) → H' b = some (.tup ys)) : KT H' kvs xs :=
  Paired.mapP r fun _ _ z => ⟨z.1, ht _ _ z.2.1, z.2.2⟩

section
variable {P : Program} {w : World} {H : Hp} {h : Heap} {a : Addr}
theorem rd_of {u : HO} (ok : HOk P w H h) (e : Rd H a u) : ObjOk P w H h a u := e.ok ok
theorem dk_rd {kvs : List (Key × V)} (ok : HOk P w H h) (e : Rd H a (.dK kvs)) : kvs.length ≤ sizeLine ∧ (a == sysModules) = false ∧ ∃ vs, KV kvs vs ∧ h.DictOf (mixKind P w) a vs :=
  show ObjOk P w H h a (.dK kvs) from rd_of ok e
theorem dk_of {kvs : List (Key × V)} (ok : HOk P w H h) (e : H a = some (.dK kvs)) : kvs.length ≤ sizeLine ∧ (a == sysModules) = false ∧ ∃ vs, KV kvs vs ∧ h.DictOf (mixKind P w) a vs := dk_rd ok (.inl e)
/-- a tracked tuple of ints and texts is a key -/
theorem key_of {ks : List Key} (ok : HOk P w H h) (e : H a = some (.tup (ks.map kV))) : (tupleKind (mixKind P w)).is h ks a := by
  obtain ⟨_, its, r, o, h1, h2, n, h3⟩ := (show ObjOk P w H h a (.tup (ks.map kV)) from ok a _ e)
  exact ⟨o, its.toArray, n, h1, h2, h3, by simpa using items_are r⟩
theorem dt_rd {kvs : List (List Key × V)} (ok : HOk P w H h) (e : Rd H a (.dT kvs)) : kvs.length ≤ sizeLine ∧ (a == sysModules) = false ∧
    ∃ xs, KT H kvs xs ∧ h.DictOfH (tupleKind (mixKind P w)) a xs := by
  obtain ⟨z, y, xs, r, o, es, ep, h1, h2, h3, h4, h5⟩ := (show ObjOk P w H h a (.dT kvs) from rd_of ok e)
  refine ⟨z, y, xs, r, o, es, ep, h1, h2, h3, h4, fun x hx => ?_, h5⟩
  have all : ∀ {l : List (List Key × V)} {m : List (List Key × Addr × Value)}, KT H l m → ∀ x ∈ m, (tupleKind (mixKind P w)).is h x.1 x.2.1 := by
    intro l m q
    induction q with
    | nil => intro x hx; exact nomatch hx
    | @cons p q ps qs hq t ih =>
      intro x hx
      rcases List.mem_cons.mp hx with e | hx
      · subst e
        exact key_of ok (by rw [← hq.1]; exact hq.2.1)
      · exact ih x hx
  exact all r x hx
theorem dt_of {kvs : List (List Key × V)} (ok : HOk P w H h) (e : H a = some (.dT kvs)) : kvs.length ≤ sizeLine ∧ (a == sysModules) = false ∧
    ∃ xs, KT H kvs xs ∧ h.DictOfH (tupleKind (mixKind P w)) a xs := dt_rd ok (.inl e)
end

/-- what the dict at a holds at the key y -/
def DGet (H : Hp) (a : Addr) (y : V) (r : Option V) : Prop :=
  (∃ kvs k, Rd H a (.dK kvs) ∧ y = kV k ∧ r = valV kvs k) ∨ ∃ kvs k b, Rd H a (.dT kvs) ∧ y = .ref b ∧ H b = some (.tup (k.map kV)) ∧ r = valV kvs k
/-- the heap behind a[y] = v -/
def DPut (H : Hp) (a : Addr) (y v : V) (H' : Hp) : Prop :=
  (∃ kvs k, H a = some (.dK kvs) ∧ y = kV k ∧ kvs.length < sizeLine ∧ H' = upd H a (.dK (putK kvs k v))) ∨
  ∃ kvs k b, H a = some (.dT kvs) ∧ y = .ref b ∧ H b = some (.tup (k.map kV)) ∧ kvs.length < sizeLine ∧ H' = upd H a (.dT (putK kvs k v))
theorem DGet.k {H : Hp} {a : Addr} {kvs : List (Key × V)} {k : Key} (e : H a = some (.dK kvs)) : DGet H a (kV k) (valV kvs k) := .inl ⟨kvs, k, .inl e, rfl, rfl⟩
theorem DGet.t {H : Hp} {a b : Addr} {kvs : List (List Key × V)} {k : List Key} (e : H a = some (.dT kvs)) (eb : H b = some (.tup (k.map kV))) : DGet H a (.ref b) (valV kvs k) := .inr ⟨kvs, k, b, .inl e, rfl, eb, rfl⟩
theorem DPut.k {H : Hp} {a : Addr} {kvs : List (Key × V)} {k : Key} {v : V} (e : H a = some (.dK kvs)) (hl : kvs.length < sizeLine) : DPut H a (kV k) v (upd H a (.dK (putK kvs k v))) := .inl ⟨kvs, k, e, rfl, hl, rfl⟩
theorem DPut.t {H : Hp} {a b : Addr} {kvs : List (List Key × V)} {k : List Key} {v : V} (e : H a = some (.dT kvs)) (eb : H b = some (.tup (k.map kV))) (hl : kvs.length < sizeLine) :
    DPut H a (.ref b) v (upd H a (.dT (putK kvs k v))) := .inr ⟨kvs, k, b, e, rfl, eb, hl, rfl⟩


section
variable {X : Cx} {pins : List (Addr × Obj)} {σ : St} {H : Hp} {s : Shared} {a : Addr} {y v : V} {u r : Value} {o : Option V} {A : Around} {E : Value → Shared → Prop}

theorem Inv.big (I : Inv X pins σ H s) : sysModules < s.heap.objs.size := by
  have h : mainGlobals < s.heap.objs.size := (I.mod.glob.keeps I.bk).lt
  exact Nat.lt_trans (by decide) h

/-- d[y], there -/
theorem d_getItem {Q : Value → Shared → Prop} (hu : A.units + 1 < cLine) (I : Inv X pins σ H s) (g : DGet H a y (some v)) (ry : RelV y u) (h : ∀ w' s', Inv X pins σ H s' → RelV v w' → Q w' s') :
    wpAny (model X.prog X.w) A (getItem (.ref a) u) Q E s := by
  rcases g with ⟨kvs, k, e, ey, l⟩ | ⟨kvs, k, b, e, ey, eb, l⟩
  · subst ey
    obtain ⟨z, hd, vs, rel, dd⟩ := dk_rd I.hok e
    obtain ⟨w', hw, rw'⟩ := RelO.some_of (v := v) (o := valueAt vs k) (by rw [l]; exact rel.val k)
    exact wpAny_getItem_of (kV_is ry) dd.mapOf hw (h w' _ (I.tok _) rw')
  · subst ey
    cases (show u = Value.ref b from ry)
    obtain ⟨z, hd, xs, rel, dd⟩ := dt_rd I.hok e
    obtain ⟨w', hw, rw'⟩ := RelO.some_of (v := v) (o := (atKey xs k).map (·.2)) (by rw [l]; exact rel.val k)
    obtain ⟨p, hp, hp2⟩ := Option.map_eq_some_iff.mp hw
    refine wpAny_getItem_heap (tupleKind_room_in1 hu) (key_of I.hok eb) dd hp ?_
    rw [hp2]
    exact h w' _ (I.tok _) rw'
/-- y in d -/
theorem d_in {Q : Value → Shared → Prop} (hu : A.units + 1 < cLine) (I : Inv X pins σ H s) (g : DGet H a y o) (ry : RelV y u) (h : ∀ s', Inv X pins σ H s' → Q (.bool o.isSome) s') :
    wpAny (model X.prog X.w) A (compareOp .In u (.ref a)) Q E s := by
  rcases g with ⟨kvs, k, e, ey, l⟩ | ⟨kvs, k, b, e, ey, eb, l⟩
  · subst ey
    obtain ⟨z, hd, vs, rel, dd⟩ := dk_rd I.hok e
    refine wpAny_in_of (kV_is ry) hd dd.mapOf ?_
    rw [← (rel.val k).isSome_eq, ← l]
    exact h _ (I.tok _)
  · subst ey
    cases (show u = Value.ref b from ry)
    obtain ⟨z, hd, xs, rel, dd⟩ := dt_rd I.hok e
    refine wpAny_in_heap (tupleKind_room_in1 hu) (key_of I.hok eb) hd dd ?_
    have q := (rel.val k).isSome_eq
    rw [Option.isSome_map] at q
    rw [← q, ← l]
    exact h _ (I.tok _)
/-- a dict's object is replaced -/
theorem d_write {h' : Heap} {t' : Nat} {ob : HO} (I : Inv X pins σ H s) (mu : Mut (H a)) (hs : Heap.SameBut a s.heap h') (he : ∃ q, h'.get? a = some q) (new : ObjOk X.prog X.w (upd H a ob) h' a ob) :
    Inv X pins σ (upd H a ob) { s with heap := h', toks := t' } :=
  I.write (x := a) (e := a) mu (.inl rfl) (fun b q hb z => (hs.2 b hb).trans z) he new
theorem dk_new {P : Program} {w : World} {H' : Hp} {h' : Heap} {kvs : List (Key × V)} {vs : List (Key × Value)} (z : kvs.length ≤ sizeLine) (hd : (a == sysModules) = false) (rel : KV kvs vs) (dd : h'.DictOf (mixKind P w) a vs) :
    ObjOk P w H' h' a (.dK kvs) := ⟨z, hd, vs, rel, dd⟩
/-- d[y] = v -/
theorem d_setItem {H' : Hp} {Q : Unit → Shared → Prop} (hu : A.units + 1 < cLine) (I : Inv X pins σ H s) (g : DPut H a y v H') (ry : RelV y u) (rv : RelV v r) (h : ∀ s', Inv X pins σ H' s' → Q () s') :
    wpAny (model X.prog X.w) A (setItem (.ref a) u r) Q E s := by
  rcases g with ⟨kvs, k, e, ey, l, eH⟩ | ⟨kvs, k, b, e, ey, eb, l, eH⟩
  · subst ey eH
    obtain ⟨z, hd, vs, rel, dd⟩ := dk_of I.hok e
    have hz : vs.length ≤ sizeLine := by rw [← rel.length]; exact z
    have hl : (putK kvs k v).length ≤ sizeLine := by have := length_putK kvs k v; omega
    refine wpAny_setItem_pairs (hsz := hz) (kV_is ry) dd fun h' dd' hs => h _ ?_
    have he : ∃ q, h'.get? a = some q := let ⟨q, _, _, hq, _⟩ := dd'; ⟨q, hq⟩
    exact d_write I (by rw [e]; exact True.intro) hs he (dk_new hl hd (rel.put k rv) dd')
  · subst ey eH
    cases (show u = Value.ref b from ry)
    obtain ⟨z, hd, xs, rel, dd⟩ := dt_of I.hok e
    have hz : xs.length ≤ sizeLine := by rw [← Paired.length rel]; exact z
    have hl : (putK kvs k v).length ≤ sizeLine := by have := length_putK kvs k v; omega
    refine wpAny_setItem_heap (hsz := hz) (tupleKind_room_in1 hu) (key_of I.hok eb) dd fun h' dd' hs => h _ ?_
    obtain ⟨q, es, ep, hq, h2, h3, h4, _, h5⟩ := dd'
    refine d_write I (by rw [e]; exact True.intro) hs ⟨q, hq⟩ ⟨hl, hd, _, (rel.put k eb rv).keeps fun c ys ec => ?_, q, es, ep, hq, h2, h3, h4, h5⟩
    rw [upd_ne (ne_of ec e (fun z => nomatch z))]
    exact ec
end

section
variable {X : Cx} {pins : List (Addr × Obj)} {σ : St} {H : Hp} {s : Shared} {a : Addr} {kvs : List (Key × V)} {k : Key} {u : Value} {A : Around} {E : Value → Shared → Prop}
end


/-! ### readings and rules -/
/-- the element of a subscription, not a slice -/
def NoSl (i : Expr) : Prop := ∀ ov iv, subscripted i false ov iv = operate [ov, iv] (getItem ov iv)
theorem subD_of {prog : Program} {w : World} {A : Around} {E : Value → Shared → Prop} {s : Shared} {env : Env} {value slice : Expr} {pos : Pos} {T id : String} {Q : Value → Shared → Prop}
    (hl : typeLookup (.type T) "__getitem__" = pure (some (.builtin id))) (hs : NoSl slice)
    (h : wpAny (model prog w) A (eval value env) (fun o s₁ => wpAny (model prog w) A (eval slice env) (fun i s₂ => s₂.TypeIs o T ∧ wpAny (model prog w) A (getItem o i) Q E s₂) E s₁) E s) :
    wpAny (model prog w) A (eval (.Subscript value slice pos) env) Q E s := by
  refine Subscript_ (wpAny_mono h (fun o s₁ h₁ => wpAny_mono h₁ (fun i s₂ h₂ => ?_) fun _ _ x => x) fun _ _ x => x)
  obtain ⟨hT, h₂⟩ := h₂
  unfold subscriptTail
  refine wpAny_bind ?_
  rw [getitemInPython_of_ne hT.not_modules]
  refine wpAny_bind (wpAny_specialOf hT hl ?_)
  have fin : wpAny (model prog w) A (subscripted slice false o i) (fun r s₃ => wpAny (model prog w) A (letTemporaryGo value o r >>= fun _ => pure r) Q E s₃) E s₂ := by
    rw [hs o i]
    exact wpAny_operating (wpAny_mono h₂ (fun r s₃ h₃ => wpAny_bind (wpAny_letTemporaryGo (wpAny_pure h₃))) fun _ _ x => x)
  first
    | exact wpAny_pure (wpAny_bind fin)
    | exact wpAny_bind (wpAny_pure (wpAny_bind fin))
    | exact wpAny_bind fin

theorem dict_typeIs {X : Cx} {pins : List (Addr × Obj)} {σ : St} {H : Hp} {s : Shared} {a : Addr} {y : V} {o : Option V} (I : Inv X pins σ H s) (g : DGet H a y o) : s.TypeIs (.ref a) "dict" := by
  rcases g with ⟨kvs, k, e, _, _⟩ | ⟨kvs, k, b, e, _, _, _⟩
  · obtain ⟨_, _, vs, _, dd⟩ := dk_rd I.hok e
    exact dd.typeIs
  · obtain ⟨_, _, xs, _, dd⟩ := dt_rd I.hok e
    exact dd.typeIs
/-- d[y] -/
def tDGet (td ty : TE) : TE := fun σ H Q => td σ H fun x H1 => ty σ H1 fun y H2 => ∃ a v, x = .ref a ∧ DGet H2 a y (some v) ∧ Q v H2
/-- y in d, y not in d -/
def tDIn (ty td : TE) : TE := fun σ H Q => ty σ H fun y H1 => td σ H1 fun x H2 => ∃ a o, x = .ref a ∧ DGet H2 a y o ∧ Q (.bl o.isSome) H2
def tDNotIn (ty td : TE) : TE := fun σ H Q => ty σ H fun y H1 => td σ H1 fun x H2 => ∃ a o, x = .ref a ∧ DGet H2 a y o ∧ Q (.bl (!o.isSome)) H2
/-- d[y] = v -/
def sDPut (td ty tv : TE) : TS := fun D σ H => tv σ H fun v H1 => td σ H1 fun x H2 => ty σ H2 fun y H3 => ∃ a H4, x = .ref a ∧ DPut H3 a y v H4 ∧ D.nx σ H4
/-- d[y] op= v -/
def sDAug (td ty tv : TE) (rd : V → V → Hp → VK → Prop) : TS := fun D σ H => td σ H fun x H1 => ty σ H1 fun y H2 => ∃ a v, x = .ref a ∧ DGet H2 a y (some v) ∧
  tv σ H2 fun y2 H3 => rd v y2 H3 fun z H4 => ∃ H5, DPut H4 a y z H5 ∧ D.nx σ H5
/-- del d[y] -/
def sDDel (td ty : TE) : TS := fun D σ H => td σ H fun x H1 => ty σ H1 fun y H2 => ∃ a kvs k, x = .ref a ∧ H2 a = some (.dK kvs) ∧ y = kV k ∧ (valV kvs k).isSome = true ∧ D.nx σ (upd H2 a (.dK (dropK kvs k)))

section
variable {X : Cx} {o i e value : Expr} {pos pos' tpos : Pos} {td ty tv : TE}
theorem pe_dget (hu : X.A.units + 1 < cLine) (ho : PE X o td) (hi : PE X i ty) (hs : NoSl i) : PE X (.Subscript o i pos) (tDGet td ty) := by
  intro pins s σ H Q I h
  refine subD_of PySem.F.slot_dict_getitem.lookup hs (thn (ho pins s σ H _ I h) fun u s1 => L2.ex5 fun x H1 I1 rx q1 => thn (hi pins s1 σ H1 _ I1 q1) fun iv s2 => L2.ex5 fun y H2 I2 ry hq_ => ?_)
  obtain ⟨a, v, ex, g, q2⟩ := hq_
  subst ex
  obtain rfl : u = Value.ref a := rx
  exact ⟨dict_typeIs I2 g, d_getItem hu I2 g ry fun w' s3 I3 rw' => ⟨v, H2, I3, rw', q2⟩⟩
theorem pc_din (hu : X.A.units + 1 < cLine) (hi : PE X i ty) (ho : PE X o td) : PC X .In i o (tDIn ty td) := by
  intro pins s σ H Q I h
  refine thn (hi pins s σ H _ I h) fun iv s1 => L2.ex5 fun y H1 I1 ry q1 => thn (ho pins s1 σ H1 _ I1 q1) fun u s2 => L2.ex5 fun x H2 I2 rx hq_ => ?_
  obtain ⟨a, ov, ex, g, q2⟩ := hq_
  subst ex
  obtain rfl : u = Value.ref a := rx
  exact d_in hu I2 g ry fun s3 I3 => ⟨.bl ov.isSome, H2, I3, rfl, q2⟩
theorem ps_dput (hu : X.A.units + 1 < cLine) (ho : PE X o td) (hi : PE X i ty) (hv : PE X value tv) (hs : swapsWith value (some (.Subscript o i pos')) pos.line X.env = pure false) :
    PS X (.Assign [.Subscript o i pos'] value pos) (sDPut td ty tv) := by
  intro pins s σ H D I h
  refine wpAny_Assign_Subscript (thn (hv pins s σ H _ I h) fun r s1 => L2.ex5 fun v H1 I1 rv q1 => thn (ho pins s1 σ H1 _ I1 q1) fun u s2 => L2.ex5 fun x H2 I2 rx q2 => thn (hi pins s2 σ H2 _ I2 q2) fun iv s3 => L2.ex5 fun y H3 I3 ry hq_ => ?_) hs
  obtain ⟨a, H4, ex, g, q3⟩ := hq_
  subst ex
  obtain rfl : u = Value.ref a := rx
  exact d_setItem hu I3 g ry rv fun s4 I4 => ⟨σ, H4, I4, q3⟩
end


/-! ### displays -/
theorem dk_empty {P : Program} {w : World} {H : Hp} (h : Heap) (hb : sysModules < h.objs.size) : ObjOk P w H (h.push { cls := .type "dict", data := .dict #[] }) h.objs.size (.dK []) :=
  ⟨Nat.zero_le _, beq_eq_false_iff_ne.mpr (Ne.symm (Nat.ne_of_lt hb)), [], .nil, Heap.DictOf.new h⟩
theorem dt_empty {P : Program} {w : World} {H : Hp} (h : Heap) (hb : sysModules < h.objs.size) : ObjOk P w H (h.push { cls := .type "dict", data := .dict #[] }) h.objs.size (.dT []) :=
  ⟨Nat.zero_le _, beq_eq_false_iff_ne.mpr (Ne.symm (Nat.ne_of_lt hb)), [], .nil, _, #[], 0, Heap.get?_push_size _ rfl, ⟨rfl, rfl, rfl⟩, rfl, rfl, List.nodup_nil⟩
/-- {}, to be a dict of the kind that is wanted -/
def tDNewK : TE := fun _ H Q => ∀ p, H p = none → Q (.ref p) (upd H p (.dK []))
def tDNewT : TE := fun _ H Q => ∀ p, H p = none → Q (.ref p) (upd H p (.dT []))
section
variable {X : Cx} {pos : Pos}
theorem pe_dnewK : PE X (.Dict [] [] pos) tDNewK := fun pins s σ H Q I h =>
  wpAny_Dict_empty ⟨.ref s.heap.objs.size, _, I.laid (a := s.heap.objs.size) (o := .dK []) (t' := s.toks) (fun _ _ q => Heap.get?_push_of_some _ q) (Nat.le_refl _) (dk_empty s.heap I.big), rfl, h _ (I.hok.fresh (Nat.le_refl _))⟩
theorem pe_dnewT : PE X (.Dict [] [] pos) tDNewT := fun pins s σ H Q I h =>
  wpAny_Dict_empty ⟨.ref s.heap.objs.size, _, I.laid (a := s.heap.objs.size) (o := .dT []) (t' := s.toks) (fun _ _ q => Heap.get?_push_of_some _ q) (Nat.le_refl _) (dt_empty s.heap I.big), rfl, h _ (I.hok.fresh (Nat.le_refl _))⟩
end

/-- the pairs of a display, from the left -/
def tPairs : List (TE × TE) → St → Hp → (List (V × V) → Hp → Prop) → Prop
  | [], _, H, Q => Q [] H
  | (tk, tv) :: r, σ, H, Q => tk σ H fun x H1 => tv σ H1 fun y H2 => tPairs r σ H2 fun ps H3 => Q ((x, y) :: ps) H3
abbrev VV : List (V × V) → List (Value × Value) → Prop := Paired fun p q => RelV p.1 q.1 ∧ RelV p.2 q.2
def PPs (X : Cx) (pos : Pos) (keys : List (Option Expr)) (values : List Expr) (trs : List (TE × TE)) : Prop :=
  ∀ (pins : List (Addr × Obj)) (s : Shared) (σ : St) (H : Hp) (Q : List (V × V) → Hp → Prop), Inv X pins σ H s → tPairs trs σ H Q →
    wpAny (model X.prog X.w) X.A (evalPairs (pairTrees keys values X.env pos)) (fun vs s' => ∃ ps H', Inv X pins σ H' s' ∧ VV ps vs ∧ Q ps H') X.xe s
theorem pps_nil {X : Cx} {pos : Pos} : PPs X pos [] [] [] := fun pins s σ H Q I h => pairTrees_nil_walk ⟨[], H, I, .nil, h⟩
theorem pps_cons {X : Cx} {pos : Pos} {k v : Expr} {ks : List (Option Expr)} {vs : List Expr} {tk tv : TE} {trs : List (TE × TE)} (hk : PE X k tk) (hv : PE X v tv) (hr : PPs X pos ks vs trs) :
    PPs X pos (some k :: ks) (v :: vs) ((tk, tv) :: trs) := fun pins s σ H Q I h =>
  pairTrees_cons_walk (thn (hk pins s σ H _ I h) fun u s1 => L2.ex5 fun x H1 I1 rx q1 => thn (hv pins s1 σ H1 _ I1 q1) fun w2 s2 => L2.ex5 fun y H2 I2 ry q2 =>
    thn (hr pins s2 σ H2 _ I2 q2) fun ws s3 ⟨ps, H3, I3, rel, q3⟩ => ⟨(x, y) :: ps, H3, I3, .cons ⟨rx, ry⟩ rel, q3⟩)

def mergeK (kvs more : List (Key × V)) : List (Key × V) := more.foldl (fun acc kv => putK acc kv.1 kv.2) kvs
theorem KV.merge : ∀ {more : List (Key × V)} {rs : List (Key × Value)} {kvs : List (Key × V)} {vs : List (Key × Value)}, KV more rs → KV kvs vs → KV (mergeK kvs more) (merged vs rs) := by
  intro more rs kvs vs r
  unfold KV at r
  induction r generalizing kvs vs with
  | nil => intro q; exact q
  | @cons p q ps qs h t ih =>
    intro r0
    have e : KV (putK kvs p.1 p.2) (stored vs q.1 q.2) := by
      have := r0.put p.1 h.2
      rw [← h.1]; exact this
    exact ih e
theorem length_mergeK : ∀ (more kvs : List (Key × V)), (mergeK kvs more).length ≤ kvs.length + more.length
  | [], kvs => by show kvs.length ≤ kvs.length + 0; omega
  | p :: r, kvs => by
    have h1 := length_mergeK r (putK kvs p.1 p.2)
    have h2 := length_putK kvs p.1 p.2
    show (mergeK (putK kvs p.1 p.2) r).length ≤ _
    rw [List.length_cons]; omega
theorem carries_of {P : Program} {w : World} : ∀ {kvs : List (Key × V)} {ws : List (Value × Value)}, VV (kvs.map fun kv => (kV kv.1, kv.2)) ws → ∃ rs, Carries (mixKind P w) ws rs ∧ KV kvs rs
  | [], _, r => by rw [List.map_nil] at r; cases r; exact ⟨[], True.intro, .nil⟩
  | p :: kvs, _, r => by
    rw [List.map_cons] at r
    cases r with
    | @cons a b as bs h t =>
      obtain ⟨rs, c, q⟩ := carries_of (P := P) (w := w) t
      obtain ⟨b1, b2⟩ := b
      exact ⟨(p.1, b2) :: rs, ⟨kV_is h.1, rfl, c⟩, .cons ⟨rfl, h.2⟩ q⟩
/-- {k: v, ..} with keys ints and texts; the new dict stands empty while the pairs are made -/
def tDisp (trs : List (TE × TE)) : TE := fun σ H Q => ∀ p, H p = none → tPairs trs σ (upd H p (.dK [])) fun ps H2 => H2 p = some (.dK []) ∧ ∃ kvs : List (Key × V), ps = kvs.map (fun kv => (kV kv.1, kv.2)) ∧ kvs.length ≤ 15 ∧ Q (.ref p) (upd H2 p (.dK (mergeK [] kvs)))
theorem pe_disp {X : Cx} {pos : Pos} {keys : List (Option Expr)} {values : List Expr} {trs : List (TE × TE)} (h : PPs X pos keys values trs) (hall : keys.all (·.isSome) = true) (hl : keys.length = values.length) (h0 : keys ≠ [])
    (h15 : keys.length ≤ 15) : PE X (.Dict keys values pos) (tDisp trs) := by
  intro pins s σ H Q I q
  have hn := I.hok.fresh (Nat.le_refl s.heap.objs.size)
  have I1 := I.laid (a := s.heap.objs.size) (o := .dK []) (h' := s.heap.push { cls := .type "dict", data := .dict #[] }) (t' := s.toks) (fun _ _ q => Heap.get?_push_of_some _ q) (Nat.le_refl _) (dk_empty s.heap I.big)
  refine wpAny_Dict_walk (knd := mixKind X.prog X.w) hall hl h0 h15 (thn (h pins _ σ _ _ I1 (q _ hn)) fun ws s2 => L2.ex5 fun ps H2 I2 rel hq_ => ?_)
  obtain ⟨e, kvs, ep, lk, q2⟩ := hq_
  subst ep
  obtain ⟨rs, c, rk⟩ := carries_of (P := X.prog) (w := X.w) rel
  obtain ⟨z, hd, vs0, r0, dd⟩ := dk_of I2.hok e
  cases r0
  refine ⟨rs, c, dd, fun h' dd' hs => ⟨.ref s.heap.objs.size, _, ?_, rfl, q2⟩⟩
  have hz : (mergeK [] kvs).length ≤ sizeLine := by
    have h1 := length_mergeK kvs []
    rw [List.length_nil] at h1
    rw [sizeLine_eq]; omega
  have he : ∃ q, h'.get? s.heap.objs.size = some q := let ⟨q, _, _, hq, _⟩ := dd'; ⟨q, hq⟩
  exact d_write I2 (by rw [e]; exact True.intro) hs he (dk_new hz hd (rk.merge .nil) dd')


/-! ### methods -/
/-- a method call o.m(e) of a built-in, with one argument: what must be seen of the text -/
structure M1 (X : Cx) (o : Expr) (m : Str) (apos : Pos) (e : Expr) (cpos : Pos) : Prop where
  base : attributeBase o m X.env (eval o X.env) = eval o X.env
  few : ((backTo cpos (starEach [e] X.env)).all (fun x => !x.1) && (backToKw cpos (keywordEach [] X.env)).all (fun x => x.1.isSome)
    && decide (([e] : List Expr).length + ([] : List Keyword).length + (if ([] : List Keyword).isEmpty then 0 else 1) < 30)) = true
  line : (apos.endLine == cpos.line) = true
  trees : backTo cpos (starEach [e] X.env) = [(false, eval e X.env)]
structure M2 (X : Cx) (o : Expr) (m : Str) (apos : Pos) (e f : Expr) (cpos : Pos) : Prop where
  base : attributeBase o m X.env (eval o X.env) = eval o X.env
  few : ((backTo cpos (starEach [e, f] X.env)).all (fun x => !x.1) && (backToKw cpos (keywordEach [] X.env)).all (fun x => x.1.isSome)
    && decide (([e, f] : List Expr).length + ([] : List Keyword).length + (if ([] : List Keyword).isEmpty then 0 else 1) < 30)) = true
  line : (apos.endLine == cpos.line) = true
  trees : backTo cpos (starEach [e, f] X.env) = [(false, eval e X.env), (false, eval f X.env)]

/-- a is a dict, whatever its keys -/
def IsD (H : Hp) (a : Addr) : Prop := (∃ kvs, Rd H a (.dK kvs)) ∨ ∃ kvs, Rd H a (.dT kvs)
theorem isD_at {X : Cx} {pins : List (Addr × Obj)} {σ : St} {H : Hp} {s : Shared} {a : Addr} (I : Inv X pins σ H s) (d : IsD H a) :
    s.TypeIs (.ref a) "dict" ∧ (∀ b, Value.ref a = .ref b → ∃ ob, s.heap.get? b = some ob ∧ ob.dict = none) ∧ (a == sysModules) = false := by
  rcases d with ⟨kvs, e⟩ | ⟨kvs, e⟩
  · obtain ⟨_, hd, vs, _, dd⟩ := dk_rd I.hok e
    refine ⟨dd.typeIs, fun b q => ?_, hd⟩
    cases q
    obtain ⟨ob, _, _, h1, h2, _⟩ := dd
    exact ⟨ob, h1, h2.2.1⟩
  · obtain ⟨_, hd, xs, _, dd⟩ := dt_rd I.hok e
    refine ⟨dd.typeIs, fun b q => ?_, hd⟩
    cases q
    obtain ⟨ob, _, _, h1, h2, _⟩ := dd
    exact ⟨ob, h1, h2.2.1⟩

section
variable {X : Cx} {pins : List (Addr × Obj)} {σ : St} {H : Hp} {s : Shared} {a : Addr} {y d : V} {u r : Value} {o : Option V} {A : Around} {E : Value → Shared → Prop}
/-- d.get(y, x) -/
theorem d_get2 {Q : Value → Shared → Prop} (hu : A.units + 1 < cLine) (I : Inv X pins σ H s) (g : DGet H a y o) (ry : RelV y u) (rd : RelV d r) (h : ∀ w' s', Inv X pins σ H s' → RelV (o.getD d) w' → Q w' s') :
    wpAny (model X.prog X.w) A (call (.builtin "dict.get") [.ref a, u, r]) Q E s := by
  rcases g with ⟨kvs, k, e, ey, l⟩ | ⟨kvs, k, b, e, ey, eb, l⟩
  · subst ey
    obtain ⟨z, hd, vs, rel, dd⟩ := dk_rd I.hok e
    refine call_meetsIn PySem.F.slot_dict_get dd.typeIs PySem.F.entry_dict_get (PySem.F.args_dict_get_3 _ _ _) (meets_dict_get_default (mixKind X.prog X.w) a (kV_is ry) hd r) ⟨_, dd.mapOf, h _ _ (I.tok _) ?_⟩
    rw [l]
    exact (rel.val k).getD rd
  · subst ey
    cases (show u = Value.ref b from ry)
    obtain ⟨z, hd, xs, rel, dd⟩ := dt_rd I.hok e
    refine call_meetsIn PySem.F.slot_dict_get dd.typeIs PySem.F.entry_dict_get (PySem.F.args_dict_get_3 _ _ _) (meetsH_dict_get_default (tupleKind (mixKind X.prog X.w)) a b hd r) ⟨tupleKind_room_in1 hu, k, xs, key_of I.hok eb, dd, h _ _ (I.tok _) ?_⟩
    rw [l]
    exact (rel.val k).getD rd
end

def tDGet1 (td ty : TE) : TE := fun σ H Q => td σ H fun x H1 => ∃ a, x = .ref a ∧ IsD H1 a ∧ ty σ H1 fun y H2 => ∃ o, DGet H2 a y o ∧ Q (o.getD .non) H2
def tDGet2 (td ty tx : TE) : TE := fun σ H Q => td σ H fun x H1 => ∃ a, x = .ref a ∧ IsD H1 a ∧ ty σ H1 fun y H2 => tx σ H2 fun z H3 => ∃ o, DGet H3 a y o ∧ Q (o.getD z) H3
/-- d.pop(k): there; d.pop(k, x): there or not -/
def tDPop1 (td ty : TE) : TE := fun σ H Q => td σ H fun x H1 => ∃ a, x = .ref a ∧ IsD H1 a ∧ ty σ H1 fun y H2 => ∃ kvs k v, H2 a = some (.dK kvs) ∧ y = kV k ∧ valV kvs k = some v ∧ Q v (upd H2 a (.dK (dropK kvs k)))
def tDPop2 (td ty tx : TE) : TE := fun σ H Q => td σ H fun x H1 => ∃ a, x = .ref a ∧ IsD H1 a ∧ ty σ H1 fun y H2 => tx σ H2 fun z H3 => ∃ kvs k, H3 a = some (.dK kvs) ∧ y = kV k ∧
  (∀ v, valV kvs k = some v → Q v (upd H3 a (.dK (dropK kvs k)))) ∧ (valV kvs k = none → Q z H3)
section
variable {X : Cx} {o e f : Expr} {apos cpos : Pos} {td ty tx : TE}
theorem pe_dget2 (hu : X.A.units + 1 < cLine) (ho : PE X o td) (he : PE X e ty) (hf : PE X f tx) (m : M2 X o "get" apos e f cpos) : PE X (.Call (.Attribute o "get" apos) [e, f] [] cpos) (tDGet2 td ty tx) := by
  intro pins s σ H Q I h
  refine wpAny_Call_method m.base m.few m.line PySem.F.plainAttrs_dict PySem.F.slot_dict_get PySem.F.type_dict_get (thn (ho pins s σ H _ I h) fun u s1 => L2.ex5 fun x H1 I1 rx hq_ => ?_)
  obtain ⟨a, ex, d, q1⟩ := hq_
  subst ex
  obtain rfl : u = Value.ref a := rx
  obtain ⟨t1, t2, _⟩ := isD_at I1 d
  refine ⟨t1, t2, ?_⟩
  rw [m.trees]
  refine Calls.callWith_builtin rfl (Calls.evalArgs_plain (Calls.spliced_cons (thn (he pins s1 σ H1 _ I1 q1) fun iv s2 => L2.ex5 fun y H2 I2 ry q2 =>
    Calls.spliced_cons (thn (hf pins s2 σ H2 _ I2 q2) fun fv s3 ⟨z, H3, I3, rz, ov, g, q3⟩ => Calls.spliced_nil ?_))))
  exact d_get2 hu I3 g ry rz fun w' s4 I4 rw' => ⟨_, H3, I4, rw', q3⟩
end

/-! ### dict(d): a copy -/
section
variable {X : Cx} {pins : List (Addr × Obj)} {σ : St} {H : Hp} {s : Shared} {a : Addr} {kvs : List (Key × V)} {A : Around} {E : Value → Shared → Prop}
end


section
variable {X : Cx} {pins : List (Addr × Obj)} {σ : St} {H : Hp} {s : Shared} {a : Addr} {y : V} {u : Value} {A : Around} {E : Value → Shared → Prop}
end
end L2

namespace Att
open PySem PySem.W PySem.Calls PyProof.Rows

/-! ### the script -/
theorem ints_of_wellAll {P : Params} {h : Heap} : ∀ (ns : List Int) (vs : List Value), WellAll P h vs (ns.map WData.int) → IntsAre vs ns := by
  intro ns
  induction ns with
  | nil =>
    intro vs w
    rw [List.map_nil] at w
    cases w
    exact .nil
  | cons n ns ih =>
    intro vs w
    rw [List.map_cons] at w
    cases w with
    | cons a b =>
      cases a
      exact .cons _ _ (ih _ b)

theorem script_of {l : OpenLaw} {n : Nat} (hn : l.most = some n) {P : Params} {h : Heap} {args : List WData} {vals : List Value}
    (hpre : l.row.toRowW.claim.pre args = true) (hwl : WellAll P h vals args) :
    ∃ a vs ns, vals = [Value.ref a] ∧ args = [WData.list (ns.map WData.int)] ∧ h.get? a = some { cls := .type "list", data := .seq vs.toArray } ∧ IntsAre vs ns ∧ ns.length ≤ n := by
  have hsh : WShape.hasAll [] args [.list .int] = true := (pre_splitW hpre).1
  have hc : l.pre.holds [] { args := args } = true := (pre_splitW hpre).2
  obtain ⟨d, r, rfl, h1, h2⟩ := hasAllW_cons hsh
  obtain rfl := hasAllW_nil h2
  obtain ⟨xs, rfl, h3⟩ := hasW_list h1
  obtain ⟨ns, rfl⟩ := items_int h3
  have hlen : ns.length ≤ n := by
    unfold OpenLaw.pre at hc
    have h4 : (WTm.not (.lt (.lit (.int (n : Int))) (.len (.arg 0)))).holds [] { args := [.list (ns.map .int)] } = true := by
      have h4 := (holds_andW hc).1
      rw [hn] at h4
      exact h4
    have h5 := condW_of h4 (w_not (w_lt w_lit (w_len_list (w_arg rfl))))
    rw [List.length_map] at h5
    refine Nat.le_of_not_lt fun q => ?_
    have q' : (n : Int) < ((ns.length : Nat) : Int) := by omega
    first
      | (rw [decide_eq_true q'] at h5; exact absurd h5 (by decide))
      | (simp at h5; omega)
  cases hwl with
  | cons w1 w2 =>
    cases w2
    cases w1 with
    | list ho hall => exact ⟨_, _, ns, rfl, rfl, ho, ints_of_wellAll ns _ hall, hlen⟩

theorem post_true (l : OpenLaw) (args : List WData) : l.row.toRowW.claim.post args (.bool true) args = true :=
  postW_of (r := l.row.toRowW) (X := (true == true))
    (show WShape.has [] (.bool true) .bool = true by first | rfl | decide | simp [WShape.has, WShape.arms, WShape.armsAll])
    (show (WTm.eq .res (.lit (.bool true))).value [] { args := args, res := some (.bool true), after := args } = some (.bool (true == true)) from w_eq_bool (w_res rfl) w_lit) rfl

/-! ### the attachment: holds_open's last premise (the goal 'hc' behind k_head) from a wpAny of the law's body -/
/-- the same from a codeAny of the CALL (for a layer whose function contracts speak of calls) -/
theorem attach_call {l : OpenLaw} {n : Nat} {q : Program} {loose : List Str} {XP : (Str → Option Value) → Heap → Prop} {YP : World → Heap → Prop} {d : DefRec}
    (hn : l.most = some n) (hdf : d.params.defaults = [])
    (call : ∀ (w : World) (s₀ s₁ : Shared) (mg mb : Str → Option Value) (fa : Addr) (o : Obj) (pm cd doc : Value) (a : Addr) (vs : List Value) (ns : List Int),
      Ground q loose [] XP w s₀ mg mb s₁.heap → YP w s₁.heap →
      s₁.heap.get? fa = some o → o.data = .func (docDef d.name d.params d.body d.scope pm cd doc) → s₁.heap.CodeRec cd d.name → mg d.name = some (.ref fa) →
      s₁.heap.get? a = some { cls := .type "list", data := .seq vs.toArray } → IntsAre vs ns → ns.length ≤ n → s₁.gens = #[] →
      codeAny (model l.prog w) callerA (.call (.ref fa) ⟨[.ref a], []⟩) (fun r s' => r = .ok (.ret (.bool true)) ∧ OldK s₁.heap s'.heap ∧ s'.os = s₁.os ∧ AllBare s'.gens) s₁) :
    WalkO q loose XP YP l.row.toRowW d [] (fun f vs => PySem.call f vs) := by
  intro w s₀ s₁ mg mb G Y fa o pm cd doc dV kV ho hd hcd hD hmg hg args vals as hpre hlay hrd hwl hlo
  obtain rfl : dV = .none := Dflts.none hD hdf
  obtain rfl : kV = .none := Dflts.noKw hD
  obtain ⟨a, vs, ns, rfl, rfl, hobj, hints, hlen⟩ := script_of hn hpre hwl
  refine enter_call (codeAny_mono (call w s₀ s₁ mg mb fa o pm cd doc a vs ns G Y ho (fd_plain hd) hcd hmg hobj hints hlen hg) fun r s' hq => ?_)
  obtain ⟨rfl, h2, h3, h4⟩ := hq
  exact ⟨.inl ⟨.bool true, .bool true, [], rfl, fun _ => rfl, .bool true, post_true l _, fun _ => ⟨List.Pairwise.nil, fun _ hm => (nomatch hm)⟩⟩, h2, h3, h4⟩

/-! ### rules over ANY heap (no ledger) from facts about the written part K: the library's own take a ledger (News) for what they write -/
section
variable {prog : Program} {w : World} {A : Around} {E : Value → Shared → Prop} {s : Shared} {K : Frag}

/-! the whole heap as the ledger: makes every rule that writes through a ledger a rule over any heap -/
def noObjs (h : Heap) : Heap := { h with objs := #[] }
def ledger (h : Heap) (L d : Addr) : List (Addr × Obj) := (List.range h.objs.size).filterMap fun a => if a = L ∨ a = d then none else (h.get? a).map fun o => (a, o)
end
end Att

namespace L2
open PySem PySem.Spec PyProof.Rows

theorem vals_ints : ∀ {vs : List Value} {ns : List Int}, IntsAre vs ns → Vals (ns.map V.int) vs
  | _, _, .nil => .nil
  | _, _, .cons n t h => .cons ⟨t, rfl⟩ (vals_ints h)

/-- nothing is tracked but the script, known to the object (or it is an object of the module) -/
def Only (H : Hp) : Prop := ∀ b, H b = none ∨ ∃ o xs, H b = some (.frz o (.lst xs))

/-- THE HEAD: the law's promise, at the heap behind the top. F, the promise of the law's def, may use that base is part of the heap (so K.In base, base.Ns mainGlobals mg stand in Mod) -/
theorem law_call {P : Program} {w : World} {K : PySem.W.Frag} {mg mb : Str → Option Value} {CX : CXT} {k : Nat} {fa a : Addr} {fd : FuncData} {x : Str} {sp : Sp} {s₁ : Shared} {vs : List Value} {ns : List Int}
    (KX : K.In s₁.heap) (hns : s₁.heap.Ns mainGlobals mg) (hb : s₁.heap.Ns builtinsNs mb) (hbb : ∀ x : Str, x ≠ "__name__" → mb x = bootBuiltins x) (hlim : s₁.heap.NoLimit) (hg : s₁.gens = #[])
    (ha : s₁.heap.get? a = some { cls := .type "list", data := .seq vs.toArray }) (hi : IntsAre vs ns) (hl : ns.length ≤ sizeLine) (hr : Room k callerA)
    (F : ∀ base : Heap, K.In base → base.Ns mainGlobals mg → FnOk P w K mg base CX k fa fd [x] sp) (hbind : ∀ (s : Shared) (u : Value), BindsTo s fd ⟨[u], []⟩ [(x, u)])
    (hsp : ∀ H : Hp, Only H → SqL K H a (ns.map V.int) → sp [.ref a] H (fun v _ => v = .bl true) fun _ _ _ => False)
    (hCX : ∀ H e s', CX [] H s₁ (fun _ _ _ => False) e s' → False) :
    codeAny (model P w) callerA (.call (.ref fa) ⟨[.ref a], []⟩) (fun r s' => r = .ok (.ret (.bool true)) ∧ OldK s₁.heap s'.heap ∧ s'.os = s₁.os ∧ AllBare s'.gens) s₁ := by
  have rv := vals_ints hi
  have lenV := hi.length
  -- from an abstract heap in which nothing but the script may be tracked
  have core : ∀ H : Hp, Only H → SqL K H a (ns.map V.int) → HOk P w H s₁.heap → (∀ b, H b ≠ none → b = a) → (H a ≠ none → K.lookup a = none) →
      codeAny (model P w) callerA (.call (.ref fa) ⟨[.ref a], []⟩) (fun r s' => r = .ok (.ret (.bool true)) ∧ OldK s₁.heap s'.heap ∧ s'.os = s₁.os ∧ AllBare s'.gens) s₁ := by
    intro H hO hS hok hA hK
    have base_of : ∀ {b : Addr} {o : Obj}, s₁.heap.get? b = some o → H b = none → (hidT s₁.heap H).get? b = some o := fun e n => hidT_get e n
    have noA : ∀ {b : Addr} {o : Obj} {es : Array DictEntry} {ep : Nat}, s₁.heap.get? b = some o → o.data = .dict es ep → H b = none := fun {b o es ep} e d => by
      cases q : H b with
      | none => rfl
      | some u =>
        have e' : b = a := hA b (by rw [q]; simp)
        subst e'
        rw [ha] at e; cases e
        have d' : Data.seq vs.toArray _ = Data.dict es ep := d
        cases d'
    have nsK : ∀ {b : Addr} {m : Str → Option Value}, s₁.heap.Ns b m → (hidT s₁.heap H).Ns b m := fun {b m} ⟨o, es, ep, e, d, r⟩ => ⟨o, es, ep, base_of e (noA e d), d, r⟩
    have hKb : K.In (hidT s₁.heap H) := fun b o e => base_of (KX b o e) (by
      cases q : H b with
      | none => rfl
      | some u =>
        have e' : b = a := hA b (by rw [q]; simp)
        subst e'
        rw [hK (by rw [q]; simp)] at e; cases e)
    have hM : Mod K mg (hidT s₁.heap H) := ⟨hKb, nsK hns, ⟨mb, nsK hb, hbb⟩, let ⟨mc, h1, h2⟩ := hlim; ⟨mc, nsK h1, h2⟩⟩
    have e0 : Env0 P w K mg (hidT s₁.heap H) callerA [] s₁ H := ⟨rfl, hM, fun b o e => of_hidT e, Nat.le_of_eq (hidT_size _ _), trivial, fun b hb => absurd (show b ∈ ([] : List Addr) from hb) (by simp), hok, .of_eq hg, .inl rfl⟩
    refine codeAny_mono ((F _ hKb (nsK hns)).run callerA [] s₁ H ⟨[.ref a], []⟩ [.ref a] [.ref a] _ _ hr e0 (hbind s₁ (.ref a)) (.cons rfl .nil) (hsp H hO hS)) fun r s' h => ?_
    cases r with
    | error e => exact (hCX H e s' h).elim
    | ok fl =>
      cases fl with
      | next => exact False.elim h
      | brk => exact False.elim h
      | cont => exact False.elim h
      | ret u =>
        obtain ⟨v, H', os, bare, un, hok', r', q⟩ := h
        have q' : v = .bl true := q
        subst q'
        obtain rfl : u = Value.bool true := r'
        refine ⟨rfl, OldK.of_keep fun b o e => ?_, os, bare⟩
        cases q : H b with
        | none => exact un.keep b o e q (by intro z; exact absurd (show b ∈ ([] : List Addr) from z) (by simp)) (by simp)
        | some u =>
          rcases hO b with z | ⟨ob, xs, z⟩
          · rw [q] at z; cases z
          · have z2 := un.frzs b ob _ z
            obtain ⟨e1, _⟩ := hok b _ z
            obtain ⟨e2, _⟩ := hok' b _ z2
            rw [e] at e1; cases e1
            exact e2
  cases hk : K.lookup a with
  | some o =>
    -- the script is one of the module's own objects
    have e := KX a o hk
    rw [ha] at e
    cases e
    refine core (fun _ => none) (fun _ => .inl rfl) (.inr ⟨_, vs.toArray, _, hk, rfl, rfl, rfl, by rw [List.size_toArray, lenV]; exact hl, by simpa using rv⟩) (fun b u z => by have z' : (none : Option HO) = some u := z; cases z') (fun b z => absurd rfl z) fun z => absurd rfl z
  | none =>
    refine core (fun b => if b = a then some (.frz { cls := .type "list", data := .seq vs.toArray } (.lst (ns.map V.int))) else none) (fun b => ?_) (.inl (.inr ⟨{ cls := .type "list", data := .seq vs.toArray }, if_pos rfl⟩)) (fun b u z => ?_) (fun b z => ?_) fun _ => hk
    · by_cases hb : b = a
      · exact .inr ⟨_, _, if_pos hb⟩
      · exact .inl (if_neg hb)
    · by_cases hb : b = a
      · have z' := (if_pos hb).symm.trans z
        cases z'
        subst hb
        exact ⟨ha, by rw [List.length_map]; exact hl, vs, _, rv, ha⟩
      · have z' := (if_neg hb).symm.trans z
        cases z'
    · by_cases hb : b = a
      · exact hb
      · exact absurd (if_neg hb) z
end L2

namespace L2
open PySem PySem.Spec PyProof.Rows

abbrev KOf {K : PySem.W.Frag} {h : Heap} (_ : K.In h) : PySem.W.Frag := K

/-- the goal that k_head leaves (case hc), from the law's promise. F gives the function object fd (K's own) once, then the promise over every base -/
theorem walk_of {l : PySem.W.OpenLaw} {n k : Nat} {q : Program} {loose : List Str} {XP : (Str → Option Value) → Heap → Prop} {YP : World → Heap → Prop} {d : DefRec} {K : Params → PySem.W.Frag} {CX : World → CXT} {sp : World → Sp} {x : Str}
    (hn : l.most = some n) (hn2 : n ≤ sizeLine) (hdf : d.params.defaults = []) (hr : Room k callerA)
    (hY : ∀ (w : World) (h : Heap), YP w h → (K w.params).In h)
    (F : ∀ (w : World) (mg : Str → Option Value) (fa : Addr) (h : Heap), (K w.params).In h → h.Ns mainGlobals mg → mg d.name = some (.ref fa) →
      ∃ fd : FuncData, (∀ (s : Shared) (u : Value), BindsTo s fd ⟨[u], []⟩ [(x, u)]) ∧
        ∀ base : Heap, (K w.params).In base → base.Ns mainGlobals mg → FnOk l.prog w (K w.params) mg base (CX w) k fa fd [x] (sp w))
    (hsp : ∀ (w : World) (H : Hp) (a : Addr) (ns : List Int), ns.length ≤ n → Only H → SqL (K w.params) H a (ns.map V.int) → sp w [.ref a] H (fun v _ => v = .bl true) fun _ _ _ => False)
    (hCX : ∀ (w : World) (H : Hp) (s : Shared) (e : Value) (s' : Shared), CX w [] H s (fun _ _ _ => False) e s' → False) :
    PySem.W.WalkO q loose XP YP l.row.toRowW d [] (fun f vs => PySem.call f vs) := by
  refine Att.attach_call hn hdf fun w s₀ s₁ mg mb fa o pm cd doc a vs ns G Y ho hd hcd hmg hobj hints hlen hg => ?_
  have KX := hY w _ Y
  obtain ⟨fd, hb, hF⟩ := F w mg fa _ KX G.T.g hmg
  exact law_call KX G.T.g G.T.b G.T.builtins G.T.nolimit hg hobj hints (Nat.le_trans hlen hn2) hr hF hb (fun H hO hS => hsp w H a ns hlen hO hS) fun H e s' => hCX w H s₁ e s'
end L2

/- THE LAST THEOREM (shape; LID, My.* are yours):
   My.Adr: a structure of the addresses that your layer names (classes, functions); My.Txt K t: a structure (Prop) of the equations over K;
   My.txt_mk : {K} {implicit addresses ..} (e1 : nsIn K mainGlobals "law" = some (some (.ref f))) (e2 : K.lookup f = some ⟨oc, od, .func (fnOf "law" "law" params body scope dV kV doc pm an cdv ct), sl⟩) (e3 : codeIn K cdv "law" = true) .. : ∃ t, My.Txt K t

set_option maxRecDepth 100000 in
set_option maxHeartbeats 0 in
theorem PySem.Challenge.cw_LID_holds : PySem.Challenge.rw_LID.Holds := by
  w_on; o_law; k_head; (case hw => w_witness2)
  k_fill
  refine L2.walk_of (l := PySem.Challenge.rw_LID) (n := 63) (k := 40) (x := "script") (CX := fun w => ..) (sp := fun _ => My.sp_law) rfl (by decide) rfl ⟨rfl, by decide, by decide⟩ (fun w h Y => PySem.W.kIn_of Y) ?F ?S ?C
  case F =>
    intro w mg fa h KX G hmg
    have T : ∃ t, My.Txt (L2.KOf KX) t := by
      dsimp only [L2.KOf]                          -- K must stand as «<heap const> w.params» for k_is
      refine' My.txt_mk ?e1 ?e2 ?e3 ..
      (case e1 => PySem.W.k_is)                    -- in the order: a name -> its address -> its object -> its parts
      (case e2 => PySem.W.k_is)
      ..
    obtain ⟨t, T⟩ := T
    have e0 := hmg.symm.trans (PySem.W.mg_of KX G T.law)
    cases e0                                       -- fa is the law's own address
    exact ⟨_, fun s u => .of_eq rfl, fun base kb nb => My.law_fn T kb nb⟩     -- if «.of_eq rfl» comes too early: refine' ⟨_, ?b, fun base kb nb => My.law_fn T kb nb⟩; exact fun s u => .of_eq rfl
  case S => exact fun w H a ns hl hO hS => ..
  case C => exact ..
(the tactic k_is has no namespace: write k_is) -/

/-! SHORT WORDS over the layer: a def of the text, its body, what a loop and a test want. -/
namespace L2
open PySem PySem.Spec PyProof.Rows

/-! ### the text by places -/
/-- the j-th statement of a class's body -/
def inClass (s : Stmt) (j : Nat) : Stmt := match s with
  | .ClassDef _ _ _ body _ _ _ _ _ _ _ => body.getD j (.Pass ⟨0, 0, 0, 0⟩)
  | _ => .Pass ⟨0, 0, 0, 0⟩
def defArgs (s : Stmt) : Arguments := match s with
  | .FunctionDef _ a _ _ _ _ _ _ _ _ => a
  | _ => { posonlyargs := [], args := [], vararg := none, kwonlyargs := [], kw_defaults := [], kwarg := none, defaults := [] }
def defBody (s : Stmt) : List Stmt := match s with
  | .FunctionDef _ _ b _ _ _ _ _ _ _ => b
  | _ => []
def defScope (s : Stmt) : Scope := match s with
  | .FunctionDef _ _ _ _ _ _ sc _ _ _ => sc
  | _ => { kind := .function, names := [], isGenerator := false, isCoroutine := false }

/-! ### no exception leaves a def -/
abbrev CX0 : CXT := fun _ _ _ _ _ _ => False
abbrev E0 : XK := fun _ _ _ => False
theorem pass0 {X : Cx} : Passes CX0 X E0 := fun _ _ _ _ _ _ _ h => h.elim

/-! ### a def (or method) of the text as it stands behind the top -/
structure Fun (K : PySem.W.Frag) (x qual : Str) (st : Stmt) (f : Addr) (fd : FuncData) : Prop where
  ex : ∃ (oc : Value) (od : Option Addr) (kV doc pm : Value) (an : Option Addr) (cdv ct : Value) (osl : Array (Option Value)),
    fd = PySem.W.fnOf x qual (defArgs st) (defBody st) (defScope st) .none kV doc pm an cdv ct ∧ K.lookup f = some ⟨oc, od, .func fd, osl⟩ ∧ PySem.W.codeIn K cdv qual = true
  kp : PySem.W.keepIn K (.ref f) = true
section
variable {P : Program} {w : World} {K : PySem.W.Frag} {mg : Str → Option Value} {base : Heap}
end
theorem hu_of {A : Around} {k : Nat} (hr : Room k A) : A.units + 1 < cLine := Nat.lt_of_le_of_lt (Nat.add_le_add_left (by decide : 1 ≤ 64) _) hr.units
/-! ### expressions in short: the name that stands in the i-th slot -/
section
variable {X : Cx}
theorem pv (i : Nat) {x : Str} {pos : Pos} (hN : X.N[i]? = some x := by rfl) (hv : Vis X.env.scope x := by first | exact Or.inl rfl | exact Or.inr (Or.inl rfl) | exact Or.inr (Or.inr rfl)) (hd : (x == ("__debug__" : Str)) = false := by decide)
    (hcd : (x == ("__classdict__" : Str)) = false := by decide) : PE X (.Name x pos) (tVar i) := pe_var hN hv hd hcd
end

/-! ### tests -/
theorem iteF {A B : Prop} (h : B) : if false = true then A else B := by
  rw [if_neg Bool.false_ne_true]
  exact h
theorem iteT {A B : Prop} (h : A) : if true = true then A else B := by
  rw [if_pos rfl]
  exact h
/-! ### heaps -/
/-- all that was tracked is as it was -/
def Same (H H' : Hp) : Prop := ∀ b o, H b = some o → H' b = some o
theorem Same.refl (H : Hp) : Same H H := fun _ _ h => h
theorem Same.trans {H H1 H2 : Hp} (a : Same H H1) (b : Same H1 H2) : Same H H2 := fun c o h => b c o (a c o h)
theorem Same.seq {K : PySem.W.Frag} {H H' : Hp} {a : Addr} {xs : List V} (e : Same H H') (h : SqL K H a xs) : SqL K H' a xs := by
  rcases h with (h | ⟨o, h⟩) | h
  · exact .inl (.inl (e _ _ h))
  · exact .inl (.inr ⟨o, e _ _ h⟩)
  · exact .inr h

/-! ### a dict's pairs: keys that differ -/
section
variable {κ : Type} [DecidableEq κ]
end
end L2

/-! ### list comprehensions: the block's own context, its entry, the loop -/
namespace L2
open PySem PySem.Spec PyProof.Rows

/-- the cells that the block is handed -/
def closL (cells : List (Str × Addr)) : List (Str × NameKind) → List (Str × Addr) → List (Str × Addr)
  | [], acc => acc
  | (n, k) :: r, acc => closL cells r (if (k == NameKind.free) = true then (n, (cells.lookup n).getD 0) :: acc else acc)
theorem closureFor_clos {scope : Scope} {env : Env} (h : ∀ y ∈ scope.names, y.2 = .free → (env.cells.lookup y.1).isSome = true) :
    closureFor scope env = pure (closL env.cells scope.names []) := by
  simp only [closureFor]
  generalize scope.names = l at h ⊢
  generalize ([] : List (Str × Addr)) = acc
  induction l generalizing acc with
  | nil => rfl
  | cons x r ih =>
    obtain ⟨n, k⟩ := x
    have hr := fun y hy => h y (List.mem_cons_of_mem _ hy)
    by_cases hk : k = .free
    · subst hk
      obtain ⟨c, hc⟩ := Option.isSome_iff_exists.mp (h (n, .free) List.mem_cons_self rfl)
      have ih' := ih hr ((n, c) :: acc)
      simp only [List.forIn_cons, cellOf, hc, closL, beq_self_eq_true, if_true, Option.getD_some] at ih' ⊢
      exact ih'
    · have hb : (k == NameKind.free) = false := by simpa using hk
      have ih' := ih hr acc
      simp only [List.forIn_cons, closL, hb, Bool.false_eq_true, if_false] at ih' ⊢
      exact ih'
theorem closL_in {cells : List (Str × Addr)} {x : Str} {c : Addr} : ∀ {l : List (Str × NameKind)} {acc : List (Str × Addr)}, (∀ y ∈ l, y.2 = .free → (cells.lookup y.1).isSome = true) →
    (closL cells l acc).lookup x = some c → acc.lookup x = some c ∨ cells.lookup x = some c
  | [], _, _, h => .inl h
  | (n, k) :: r, acc, hf, h => by
    have hr : ∀ y ∈ r, y.2 = .free → (cells.lookup y.1).isSome = true := fun y hy => hf y (List.mem_cons_of_mem _ hy)
    by_cases hk : k = .free
    · subst hk
      rcases closL_in (l := r) hr (show (closL cells r ((n, (cells.lookup n).getD 0) :: acc)).lookup x = some c from h) with q | q
      · rw [List.lookup_cons] at q
        by_cases hx : x = n
        · subst hx
          rw [beq_self_eq_true] at q
          obtain ⟨c', hc⟩ := Option.isSome_iff_exists.mp (hf (x, .free) List.mem_cons_self rfl)
          have hc : cells.lookup x = some c' := hc
          rw [hc] at q ⊢
          exact .inr q
        · rw [beq_eq_false_iff_ne.mpr hx] at q
          exact .inl q
      · exact .inr q
    · have hb : ¬ (k == NameKind.free) = true := by simpa using hk
      have h' : (closL cells r (if (k == NameKind.free) = true then (n, (cells.lookup n).getD 0) :: acc else acc)).lookup x = some c := h
      rw [if_neg hb] at h'
      exact closL_in hr h'
theorem closL_has {cells : List (Str × Addr)} {x : Str} : ∀ {l : List (Str × NameKind)} {acc : List (Str × Addr)}, ((x, NameKind.free) ∈ l ∨ (acc.lookup x).isSome = true) → ((closL cells l acc).lookup x).isSome = true
  | [], _, h => by
    rcases h with h | h
    · cases h
    · exact h
  | (n, k) :: r, acc, h => by
    show ((closL cells r (if (k == NameKind.free) = true then (n, (cells.lookup n).getD 0) :: acc else acc)).lookup x).isSome = true
    refine closL_has ?_
    rcases h with h | h
    · rcases List.mem_cons.mp h with e | e
      · cases e
        right
        rw [if_pos (by rfl), List.lookup_cons, beq_self_eq_true]
        rfl
      · exact .inl e
    · right
      by_cases hb : (k == NameKind.free) = true
      · rw [if_pos hb, List.lookup_cons]
        cases hx : x == n with
        | true => rfl
        | false => exact h
      · rw [if_neg hb]
        exact h

/-- what a name of the block is behind the new labels -/
theorem head_lookup (c : Bool) {n x : Str} {k : NameKind} {r : List (Str × NameKind)} (hx : (x == n) = true) : ((if c = true then (n, NameKind.cell) else (n, k)) :: r).lookup x = some (if c = true then .cell else k) := by
  cases c <;> simp [List.lookup_cons, hx]
theorem head_skip (c : Bool) {n x : Str} {k : NameKind} {r : List (Str × NameKind)} (hx : (x == n) = false) : ((if c = true then (n, NameKind.cell) else (n, k)) :: r).lookup x = r.lookup x := by
  cases c <;> simp [List.lookup_cons, hx]
theorem relabel_free {env : Env} : ∀ {names : List (Str × NameKind)} {x : Str}, names.lookup x = some .free →
    (names.map fun (n, k) => if (k == NameKind.free && env.scope.kind == .function && env.kindOf n == some .cell) then (n, NameKind.cell) else (n, k)).lookup x = some .cell ∨
    (names.map fun (n, k) => if (k == NameKind.free && env.scope.kind == .function && env.kindOf n == some .cell) then (n, NameKind.cell) else (n, k)).lookup x = some .free
  | [], _, h => by simp at h
  | (n, k) :: r, x, h => by
    have ih := @relabel_free env r x
    rw [List.lookup_cons] at h
    rw [List.map_cons]
    cases hx : x == n with
    | true =>
      rw [hx] at h
      cases h
      dsimp only
      rw [head_lookup _ hx]
      cases (NameKind.free == NameKind.free && env.scope.kind == .function && env.kindOf n == some .cell) with
      | true => exact .inl rfl
      | false => exact .inr rfl
    | false =>
      rw [hx] at h
      dsimp only
      rw [head_skip _ hx]
      exact ih h
theorem relabel_back {env : Env} : ∀ {names : List (Str × NameKind)} {x : Str} {k' : NameKind}, (k' = .cell ∨ k' = .free) →
    (names.map fun (n, k) => if (k == NameKind.free && env.scope.kind == .function && env.kindOf n == some .cell) then (n, NameKind.cell) else (n, k)).lookup x = some k' →
    ∃ k, (k = .free ∨ k = .cell) ∧ (x, k) ∈ names
  | [], _, _, _, h => by simp at h
  | (n, k) :: r, x, k', hk, h => by
    have ih := @relabel_back env r x k' hk
    rw [List.map_cons] at h
    dsimp only at h
    cases hx : x == n with
    | true =>
      have e : x = n := eq_of_beq hx
      subst e
      rw [head_lookup _ hx] at h
      cases hc : (k == NameKind.free && env.scope.kind == .function && env.kindOf x == some .cell) with
      | true =>
        simp only [Bool.and_eq_true, beq_iff_eq] at hc
        obtain ⟨⟨rfl, _⟩, _⟩ := hc
        exact ⟨.free, .inl rfl, List.mem_cons_self⟩
      | false =>
        rw [hc] at h
        have h : some k = some k' := h
        cases h
        rcases hk with rfl | rfl
        · exact ⟨_, .inr rfl, List.mem_cons_self⟩
        · exact ⟨_, .inl rfl, List.mem_cons_self⟩
    | false =>
      rw [head_skip _ hx] at h
      obtain ⟨k2, h1, h2⟩ := ih h
      exact ⟨k2, h1, List.mem_cons_of_mem _ h2⟩

/-- the block's context: its names N, its frame at C, handed the cells cl; entered at s with H; the iterators fp -/
def compCx (X : Cx) (scope : Scope) (cl : List (Str × Addr)) (C : Addr) (N : List Str) (s : Shared) (H : Hp) (fp : List Addr) (pins : List (Addr × Obj)) : Cx :=
  { X with N := N, s₀ := s, H₀ := H, env := compEnvC scope cl C X.env, outer := X.stack, stack := X.stack, ex := fp, fn := fun _ => false, pn := X.pn ++ pins, xe := fun _ _ => False }
/-- the values at the block's entry: cap tells, name by name, the slot it is taken from -/
def capS (cap : List (Option Nat)) (σ : St) : St := cap.map fun o => o.bind fun j => (σ[j]?).join
def isCF : Option NameKind → Bool
  | some .cell => true
  | some .free => true
  | _ => false
def capAt (sc : Scope) (XN : List Str) : List (Option Nat) → List Str → Bool
  | [], [] => true
  | some j :: r, x :: xs => (XN[j]? == some x) && (sc.names.lookup x == some NameKind.free) && capAt sc XN r xs
  | none :: r, _ :: xs => capAt sc XN r xs
  | _, _ => false
/-- osc, XN: the scope and the names around; sc, N: the block's -/
def capOk (osc sc : Scope) (XN N : List Str) (cap : List (Option Nat)) : Bool :=
  (sc.kind == ScopeKind.function) && sc.names.all (fun y => y.2 != NameKind.cell) && sc.names.all (fun y => y.2 != NameKind.local || sc.names.lookup y.1 == some NameKind.local) &&
  sc.names.all (fun y => y.2 != NameKind.free || isCF (osc.names.lookup y.1)) && capAt sc XN cap N
theorem capAt_len {sc : Scope} {XN : List Str} : ∀ {cap : List (Option Nat)} {N : List Str}, capAt sc XN cap N = true → cap.length = N.length
  | [], [], _ => rfl
  | some _ :: r, _ :: xs, h => by
    simp only [capAt, Bool.and_eq_true] at h
    simp [capAt_len h.2]
  | none :: r, _ :: xs, h => by
    simp only [capAt] at h
    simp [capAt_len h]
  | [], _ :: _, h => by simp [capAt] at h
  | some _ :: _, [], h => by simp [capAt] at h
  | none :: _, [], h => by simp [capAt] at h
theorem capAt_get {sc : Scope} {XN : List Str} : ∀ {cap : List (Option Nat)} {N : List Str} {i j : Nat} {x : Str}, capAt sc XN cap N = true → cap[i]? = some (some j) → N[i]? = some x → XN[j]? = some x ∧ sc.names.lookup x = some .free
  | [], _, i, _, _, _, h, _ => by simp at h
  | some _ :: r, y :: xs, 0, j, x, h, h1, h2 => by
    simp only [capAt, Bool.and_eq_true, beq_iff_eq] at h
    simp at h1 h2
    subst h1; subst h2
    exact ⟨h.1.1, h.1.2⟩
  | some _ :: r, y :: xs, i + 1, j, x, h, h1, h2 => by
    simp only [capAt, Bool.and_eq_true] at h
    exact capAt_get (i := i) h.2 (by simpa using h1) (by simpa using h2)
  | none :: r, y :: xs, 0, j, x, h, h1, h2 => by simp at h1
  | none :: r, y :: xs, i + 1, j, x, h, h1, h2 => by
    simp only [capAt] at h
    exact capAt_get (i := i) h (by simpa using h1) (by simpa using h2)
  | some _ :: _, [], _, _, _, h, _, _ => by simp [capAt] at h
  | none :: _, [], _, _, _, h, _, _ => by simp [capAt] at h

section
variable {X : Cx} {pins : List (Addr × Obj)} {σ : St} {H : Hp} {s : Shared} {scope : Scope} {N : List Str} {cap : List (Option Nat)} {fp : List Addr}
theorem Inv.clos (I : Inv X pins σ H s) (ok : capOk X.env.scope scope X.N N cap = true) : ∀ y ∈ scope.names, y.2 = .free → (X.env.cells.lookup y.1).isSome = true := fun y hy hf => by
  simp only [capOk, Bool.and_eq_true, List.all_eq_true] at ok
  have h := ok.1.2 y hy
  rw [hf] at h
  have h' : isCF (X.env.scope.names.lookup y.1) = true := by simpa using h
  have hk : X.env.kindOf y.1 = some .cell ∨ X.env.kindOf y.1 = some .free := by
    show X.env.scope.names.lookup y.1 = _ ∨ X.env.scope.names.lookup y.1 = _
    cases e : X.env.scope.names.lookup y.1 with
    | none => rw [e] at h'; cases h'
    | some k =>
      rw [e] at h'
      cases k <;> first | exact .inl rfl | exact .inr rfl | cases h'
  obtain ⟨c, e⟩ := I.ok.has y.1 hk
  rw [e]
  rfl
/-- the block is entered: the list at D is laid, its frame at C -/
theorem Inv.comp (I : Inv X pins σ H s) (ok : capOk X.env.scope scope X.N N cap = true) (f : ∀ b ∈ fp, FpOk X pins H b) (fo : ∀ b ∈ fp, ∃ o, s.heap.get? b = some o) {h₁ : Heap} {tk : Nat} {fo' : Obj}
    (hn : h₁.Ns (s.heap.push { cls := .type "list", data := .seq #[] }).objs.size (fun _ => none))
    (hs : Heap.SameBut (s.heap.push { cls := .type "list", data := .seq #[] }).objs.size ((s.heap.push { cls := .type "list", data := .seq #[] }).push fo') h₁) :
    Inv (compCx X scope (closL X.env.cells scope.names []) (s.heap.push { cls := .type "list", data := .seq #[] }).objs.size N { s with heap := s.heap.push { cls := .type "list", data := .seq #[] } } (upd H s.heap.objs.size (.lst [])) fp pins)
      [] (capS cap σ) (upd H s.heap.objs.size (.lst [])) { s with heap := h₁, toks := tk } := by
  have okC := ok
  simp only [capOk, Bool.and_eq_true, List.all_eq_true, beq_iff_eq] at ok
  obtain ⟨⟨⟨⟨hkind, hcell⟩, _⟩, _⟩, hcap⟩ := ok
  have cl := I.clos okC
  have hC : (s.heap.push { cls := .type "list", data := .seq #[] }).objs.size = s.heap.objs.size + 1 := Heap.size_push ..
  generalize hCC : (s.heap.push { cls := .type "list", data := .seq #[] }).objs.size = C at hn hs hC ⊢
  have below : ∀ b o, s.heap.get? b = some o → b ≠ C ∧ b ≠ s.heap.objs.size := fun b o e => by
    have := Heap.lt_size e
    exact ⟨by rw [hC]; exact Nat.ne_of_lt (Nat.lt_succ_of_lt this), Nat.ne_of_lt this⟩
  have old : ∀ b o, s.heap.get? b = some o → h₁.get? b = some o := fun b o e => hs.extBut b o (below b o e).1 (Heap.get?_push_of_some _ (Heap.get?_push_of_some _ e))
  have up3 : ∀ b o, s.heap.get? b = some o → (s.heap.push { cls := .type "list", data := .seq #[] }).get? b = some o := fun b o e => Heap.get?_push_of_some _ e
  have old3 : ∀ b o, (s.heap.push { cls := .type "list", data := .seq #[] }).get? b = some o → h₁.get? b = some o := fun b o e => by
    have : b < C := by rw [← hCC]; exact Heap.lt_size e
    exact hs.extBut b o (Nat.ne_of_lt this) (Heap.get?_push_of_some _ e)
  have hD : H s.heap.objs.size = none := I.hok.fresh (Nat.le_refl _)
  have free3 : ∀ b o, s.heap.get? b = some o → H b = none → upd H s.heap.objs.size (.lst []) b = none := fun b o e n => by rw [upd_ne (below b o e).2]; exact n
  have hCn : upd H s.heap.objs.size (.lst []) C = none := by
    rw [upd_ne (by rw [hC]; exact Nat.ne_of_gt (Nat.lt_succ_self _))]
    exact I.hok.fresh (by rw [hC]; exact Nat.le_succ _)
  have cellsIn : ∀ x c, (closL X.env.cells scope.names []).lookup x = some c → X.env.cells.lookup x = some c := fun x c e => by
    rcases closL_in cl e with q | q
    · simp at q
    · exact q
  have cellO : ∀ x c, (closL X.env.cells scope.names []).lookup x = some c → ∃ v o, s.heap.IsCell c v ∧ s.heap.get? c = some o := fun x c e => by
    obtain ⟨v, q⟩ := I.cell x c (cellsIn x c e)
    obtain ⟨o, ho, _⟩ := id q
    exact ⟨v, o, q, ho⟩
  have hok3 : HOk X.prog X.w (upd H s.heap.objs.size (.lst [])) h₁ := I.hok.laid old (Nat.le_refl _) (show ObjOk X.prog X.w _ h₁ s.heap.objs.size (.lst []) from ⟨Nat.zero_le _, [], 0, .nil, old3 _ _ (Heap.get?_push_size _ rfl)⟩)
  have stkb : ∀ b ∈ frs X.stack, ∃ o, s.heap.get? b = some o := fun b hb => by
    obtain ⟨_, o, ho, _⟩ := I.stack.mem hb
    exact ⟨o, ho⟩
  refine ⟨⟨I.ok.mod, hkind, I.ok.glob, I.ok.blt, Nat.le_of_eq hCC, fun y z c h1 h2 => I.ok.inj y z c (cellsIn y c h1) (cellsIn z c h2), fun y hy => ?_, fun y c hf _ => Bool.noConfusion hf, I.hdAt.new hD, I.ok.frames, .inl rfl, fun b hb => ?_,
      fun b o e => ⟨up3 b o (I.bs b o e).1, free3 b o (I.bs b o e).1 (I.bs b o e).2⟩, ?_, fun b o e hb => ?_, fun b hb hb2 => ?_, ?_, fun b hb => ?_⟩,
    rfl, I.bare, Un.kept old3, ⟨_, hn, fun i x v h1 h2 h3 => ?_⟩, fun x c e => ?_, hCn, fun x c e => ?_, fun p hp => ?_, hok3, ?_⟩
  · -- has
    have hy : (relabel scope X.env).names.lookup y = some .cell ∨ (relabel scope X.env).names.lookup y = some .free := hy
    have : (y, NameKind.free) ∈ scope.names := by
      rcases hy with q | q
      · obtain ⟨k, hk, hm⟩ := relabel_back (.inl rfl) q
        rcases hk with rfl | rfl
        · exact hm
        · exact absurd (show (NameKind.cell != NameKind.cell) = true from hcell _ hm) (by decide)
      · obtain ⟨k, hk, hm⟩ := relabel_back (.inr rfl) q
        rcases hk with rfl | rfl
        · exact hm
        · exact absurd (show (NameKind.cell != NameKind.cell) = true from hcell _ hm) (by decide)
    exact Option.isSome_iff_exists.mp (closL_has (.inl this))
  · -- exf
    obtain ⟨o, e⟩ := fo b hb
    exact ⟨(below b o e).1, fun x c q => (f b hb).2.2.2.2.1 x c (cellsIn x c q)⟩
  · -- bsz
    show X.base.objs.size ≤ (s.heap.push { cls := .type "list", data := .seq #[] }).objs.size
    rw [Heap.size_push]
    exact Nat.le_succ_of_le (Nat.le_trans I.ok.bsz I.sz)
  · -- noex
    rcases (f b hb).2.2.2.1 with q | q
    · exact I.ok.noex b o e q
    · exact absurd (Nat.lt_of_lt_of_le (Heap.lt_size (I.ok.bs b o e).1) q) (Nat.lt_irrefl _)
  · -- exfs
    rcases List.mem_cons.mp (I.stkSub b hb2) with q | q
    · exact (f b hb).2.1 q
    · exact (f b hb).2.2.1 q
  · -- funs
    exact I.stack.of_keeps fun b o e _ => ⟨o, up3 b o e, rfl⟩
  · -- frf
    obtain ⟨o, e⟩ := stkb b hb
    exact free3 b o e (I.stkFree b hb)
  · -- loc
    have hi : ∃ j, cap[i]? = some (some j) ∧ σ[j]? = some (some v) := by
      unfold capS at h2
      rw [List.getElem?_map] at h2
      cases e : cap[i]? with
      | none => rw [e] at h2; cases h2
      | some o =>
        rw [e] at h2
        cases o with
        | none => cases h2
        | some j =>
          refine ⟨j, rfl, ?_⟩
          have h2' : (σ[j]?).join = some v := Option.some.inj h2
          cases e2 : σ[j]? with
          | none => rw [e2] at h2'; cases h2'
          | some o2 => rw [e2] at h2'; rw [show o2 = some v from h2']
    obtain ⟨j, hj, hv⟩ := hi
    obtain ⟨hX, hfr⟩ := capAt_get hcap hj h1
    have hmem : (x, NameKind.free) ∈ scope.names := PySem.mem_of_lookup hfr
    have hcf := okC
    simp only [capOk, Bool.and_eq_true, List.all_eq_true] at hcf
    have h' : isCF (X.env.scope.names.lookup x) = true := by simpa using hcf.1.2 _ hmem
    have hk : X.env.scope.names.lookup x = some .cell ∨ X.env.scope.names.lookup x = some .free := by
      cases e : X.env.scope.names.lookup x with
      | none => rw [e] at h'; cases h'
      | some k =>
        rw [e] at h'
        cases k <;> first | exact .inl rfl | exact .inr rfl | cases h'
    obtain ⟨m, _, hl⟩ := I.loc
    obtain ⟨u, ru, lk⟩ := hl j x v hX hv (hk.elim (fun q => .inr (.inl q)) fun q => .inr (.inr q))
    refine ⟨u, ru, .inr ⟨relabel_free hfr, ?_⟩⟩
    rcases lk with ⟨q, _⟩ | ⟨_, c, hc, hcell2⟩
    · have q' : X.env.scope.names.lookup x = some .local := q
      rcases hk with z | z
      · rw [z] at q'; cases q'
      · rw [z] at q'; cases q'
    · obtain ⟨c', hc'⟩ := Option.isSome_iff_exists.mp (closL_has (cells := X.env.cells) (acc := []) (.inl hmem))
      have : c' = c := by
        have := cellsIn x c' hc'
        rw [hc] at this
        exact (Option.some.inj this).symm
      subst this
      obtain ⟨o, ho, hd⟩ := hcell2
      exact ⟨c', hc', o, old c' o ho, hd⟩
  · -- cell
    obtain ⟨v, o, ⟨o', ho, hd⟩, _⟩ := cellO x c e
    exact ⟨v, o', old c o' ho, hd⟩
  · -- freeC
    obtain ⟨v, o, _, ho⟩ := cellO x c e
    exact free3 c o ho (I.freeC x c (cellsIn x c e))
  · -- pins
    have hp' : p ∈ X.pn ++ pins := by simpa [compCx] using hp
    obtain ⟨e, n, ne, nf, d⟩ := I.pin p hp'
    refine ⟨old _ _ e, free3 _ _ e n, (below _ _ e).1, fun z => ?_, d⟩
    rcases List.mem_cons.mp (I.stkSub p.1 z) with q | q
    · exact ne q
    · exact nf q
  · -- len
    show (capS cap σ).length = N.length
    unfold capS
    rw [List.length_map]
    exact capAt_len hcap
end

/-! ### the loop of a comprehension -/
section
variable {prog : Program} {w : World} {A : Around} {R : Result → Shared → Prop} {s : Shared}
theorem compLoop_go {elt target iter : Expr} {ifs : List Expr} {scope : Scope} {pos : Pos} {it acc : Value} {env : Env} (J : Nat → Shared → Prop)
    (turn : ∀ n s, J n s → wpAny (model prog w) A (pyNext it) (fun r s₁ => match r with
      | none => R (.ok .next) s₁
      | some v => wpAny (model prog w) A (letOwnedTupleGo target it v) (fun _ s₂ => wpAny (model prog w) A (assign target env v) (fun _ s₃ =>
          wpAny (model prog w) A (forIn ifs true fun c r => if r = true then do let ok ← isTrue c env (eval c env); pure (ForInStep.yield ok) else pure (ForInStep.yield r)) (fun ok s₄ =>
            if ok = true then wpAny (model prog w) A (eval elt env) (fun x s₅ =>
              wpAny (model prog w) A (call (.builtin "list.append") [acc, x]) (fun _ s₆ => ∃ m, m < n ∧ J m s₆) (fun _ _ => False) s₅) (fun _ _ => False) s₄
            else ∃ m, m < n ∧ J m s₄) (fun _ _ => False) s₃) (fun _ _ => False) s₂) (fun _ _ => False) s₁) (fun _ _ => False) s)
    (n : Nat) (h : J n s) : codeAny (model prog w) A (.compLoop (.ListComp elt [⟨target, iter, ifs, 0⟩] scope pos) 0 it acc env) R s := by
  have no : ∀ {E : Value → Shared → Prop} (e : Value) (s' : Shared), (fun (_ : Value) (_ : Shared) => False) e s' → E e s' := fun _ _ z => z.elim
  refine codeAny_loop rfl J (fun n s hI => ?_) n h
  show wpAny _ A ((compTurn (.ListComp elt [⟨target, iter, ifs, 0⟩] scope pos) 0 it acc env).onRaise (fun x => do noteFrame x env; theTreesLotGoes x)) _ _ s
  refine wpAny_noted ?_
  rw [compTurn_list]
  refine wpAny_bind (wpAny_standAt (wpAny_bind (wpAny_mono (turn n s hI) (fun r s₁ h₁ => ?_) no)))
  cases r with
  | none => exact wpAny_pure h₁
  | some v =>
    refine wpAny_bind (wpAny_mono h₁ (fun _ s₂ h₂ => wpAny_bind (wpAny_mono h₂ (fun _ s₃ h₃ => wpAny_bind (wpAny_mono h₃ (fun ok s₄ h₄ => ?_) no)) no)) no)
    cases ok with
    | false => exact wpAny_pure ⟨rfl, h₄⟩
    | true =>
      exact wpAny_bind (wpAny_bind (wpAny_mono h₄ (fun x s₅ h₅ => wpAny_bind (wpAny_mono h₅ (fun _ s₆ h₆ => wpAny_pure (wpAny_pure ⟨rfl, h₆⟩)) no)) no))
end

/-- the tests of a comprehension's clause: none, or one -/
def PIf (X : Cx) (cs : List Expr) (t : TT) : Prop :=
  ∀ (pins : List (Addr × Obj)) (s : Shared) (σ : St) (H : Hp) (Q : Bool → Hp → Prop), Inv X pins σ H s → t σ H Q →
    wpAny (model X.prog X.w) X.A (forIn cs true fun c r => if r = true then do let ok ← isTrue c X.env (eval c X.env); pure (ForInStep.yield ok) else pure (ForInStep.yield r)) (TP X pins σ Q) X.xe s
def tYes : TT := fun _ H Q => Q true H
theorem pif_nil {X : Cx} : PIf X [] tYes := fun _ _ _ H _ I h => wpAny_tests_nil ⟨H, I, h⟩
theorem pif_one {X : Cx} {c : Expr} {t : TT} (h : PT X c t) : PIf X [c] t := fun pins s σ H Q I hq => wpAny_tests_one (h pins s σ H Q I hq)

/-- what a comprehension's walk asks: an invariant W by the turn and a measure, over the block's values and the heap in which the list grows at D -/
def CompW (J : It) (D : Addr) (τ : St) (H : Hp) (g : TG) (tt : TT) (te : TE) (Q : VK) : Prop :=
  ∃ W : Nat → Nat → St → Hp → Prop, (∃ m, W 0 m τ H) ∧ ∀ i m τ H, W i m τ H →
    (J.stop i H ∧ Q (.ref D) H) ∨ (J.go i H ∧ ∃ M : St → Hp → Prop, (∀ τ' H', M τ' H' → ∃ m', m' < m ∧ W (i + 1) m' τ' H') ∧ ∀ x H', J.yld i H x H' → g x τ H' fun τ2 H2 => tt τ2 H2 fun b H3 =>
      if b = true then te τ2 H3 fun y H4 => ∃ ys, H4 D = some (.lst ys) ∧ ys.length < sizeLine ∧ M τ2 (upd H4 D (.lst (ys ++ [y]))) else M τ2 H3)
def tComp (wi : TI) (cap : List (Option Nat)) (g : TG) (tt : TT) (te : TE) : TE := fun σ H Q => wi σ H fun J H1 => ∀ D, H1 D = none → CompW J D (capS cap σ) (upd H1 D (.lst [])) g tt te Q

section
variable {X : Cx} {elt tg iter : Expr} {ifs : List Expr} {scope : Scope} {pos : Pos} {N : List Str} {cap : List (Option Nat)} {wi : TI} {g : TG} {tt : TT} {te : TE}
theorem comp_block {pins : List (Addr × Obj)} {σ : St} {H : Hp} {s : Shared} {J : It} {fp : List Addr} {it : Addr} {tn : Nat → Heap → Prop} {Q : VK} {E : Value → Shared → Prop} {RR : Value → Addr → Result → Shared → Prop}
    (hc : X.calm = true) (ok : capOk X.env.scope scope X.N N cap = true)
    (hg : ∀ cl C s H fp pins, PG (compCx X scope cl C N s H fp pins) tg g) (hf : ∀ cl C s H fp pins, PIf (compCx X scope cl C N s H fp pins) ifs tt) (he : ∀ cl C s H fp pins, PE (compCx X scope cl C N s H fp pins) elt te)
    (I : Inv X pins σ H s) (T : Turn X.prog X.w X.K tg J fp it tn) (st : tn 0 s.heap) (f : ∀ b ∈ fp, FpOk X pins H b)
    (q : ∀ D, H D = none → CompW J D (capS cap σ) (upd H D (.lst [])) g tt te Q)
    (fin : ∀ D C H' s' m, Inv X pins σ H' s' → FpOk X pins H' C → s'.heap.Ns C m → Q (.ref D) H' → RR (.ref D) C (.ok .next) s') :
    wpAny (model X.prog X.w) X.A (newList []) (fun acc s₃ => wpAny (model X.prog X.w) X.A (newFunctionEnv scope X.env.globals (closL X.env.cells scope.names []) [] X.env.qual none .none (some X.env)) (fun cenv s₄ =>
      codeAny (model X.prog X.w) X.A (.compStart (.ListComp elt [⟨tg, iter, ifs, 0⟩] scope pos) 0 (.ref it) acc { cenv with scope := relabel scope X.env }) (RR acc cenv.locals) s₄) E s₃) E s := by
  have ok' := ok
  simp only [capOk, Bool.and_eq_true, List.all_eq_true, beq_iff_eq] at ok'
  obtain ⟨⟨⟨⟨hkind, hcell⟩, _⟩, _⟩, hcap⟩ := ok'
  refine wpAny_newObj_type (wpAny_newFunctionEnv (fun y hy => by simpa using hcell y hy) (by intro y hy; simp at hy) (fun h₁ hns₁ hsb₁ => ?_) hkind)
  dsimp only at hns₁ hsb₁ ⊢
  have fo : ∀ b ∈ fp, ∃ o, s.heap.get? b = some o := fun b hb => let ⟨o, e, _⟩ := T.obj _ _ st b hb; ⟨o, e⟩
  have J0 := I.comp (h₁ := h₁) (tk := s.toks + ([] : List (Str × Value)).length) ok f fo hns₁ hsb₁
  have hDfree : H s.heap.objs.size = none := I.hok.fresh (Nat.le_refl _)
  obtain ⟨W, ⟨m0, w0⟩, turn⟩ := q _ hDfree
  generalize hY : compCx X scope (closL X.env.cells scope.names []) (s.heap.push { cls := .type "list", data := .seq #[] }).objs.size N { s with heap := s.heap.push { cls := .type "list", data := .seq #[] } } (upd H s.heap.objs.size (.lst [])) fp pins = Y at J0
  have below : ∀ b ∈ fp, b < s.heap.objs.size := fun b hb => let ⟨o, e⟩ := fo b hb; Heap.lt_size e
  have cl := I.clos ok
  have stat : ∀ {H' : Hp}, (∀ b ∈ fp, H' b = none) → ∀ b ∈ fp, FpOk Y [] H' b := fun {H'} hn b hb => by
    subst hY
    refine ⟨hn b hb, ?_, fun z => ?_, .inl hb, fun x c e => ?_, fun p hp => ?_⟩
    · show b ≠ (s.heap.push { cls := .type "list", data := .seq #[] }).objs.size
      rw [Heap.size_push]
      exact Nat.ne_of_lt (Nat.lt_succ_of_lt (below b hb))
    · rcases List.mem_cons.mp (I.stkSub b z) with q | q
      · exact (f b hb).2.1 q
      · exact (f b hb).2.2.1 q
    · refine (f b hb).2.2.2.2.1 x c ?_
      rcases closL_in cl e with z | z
      · simp at z
      · exact z
    · exact (f b hb).2.2.2.2.2 p (by simpa [compCx] using hp)
  have hgY : PG Y tg g := hY ▸ hg _ _ _ _ _ _
  have hfY : PIf Y ifs tt := hY ▸ hf _ _ _ _ _ _
  have heY : PE Y elt te := hY ▸ he _ _ _ _ _ _
  have e1 : Y.prog = X.prog := by subst hY; rfl
  have e2 : Y.w = X.w := by subst hY; rfl
  have e3 : Y.K = X.K := by subst hY; rfl
  have e4 : Y.calm = true := by subst hY; exact hc
  have e5 : Y.A = X.A := by subst hY; rfl
  have e6 : Y.env = compEnvC scope (closL X.env.cells scope.names []) (s.heap.push { cls := .type "list", data := .seq #[] }).objs.size X.env := by subst hY; rfl
  have e7 : Y.xe = fun _ _ => False := by subst hY; rfl
  have hfp0 : ∀ b ∈ fp, upd H s.heap.objs.size (.lst []) b = none := fun b hb => by rw [upd_ne (Nat.ne_of_lt (below b hb))]; exact (f b hb).1
  have st0 : tn 0 h₁ := T.keep _ _ _ st fun b hb o e => hsb₁.extBut b o (by
    have := below b hb
    rw [Heap.size_push]
    exact Nat.ne_of_lt (Nat.lt_succ_of_lt this)) (Heap.get?_push_of_some _ (Heap.get?_push_of_some _ e))
  have loop : ∀ s₃ : Shared, s₃ = { s with heap := h₁, toks := s.toks + ([] : List (Str × Value)).length } →
      codeAny (model X.prog X.w) X.A (.compLoop (.ListComp elt [⟨tg, iter, ifs, 0⟩] scope pos) 0 (.ref it) (.ref s.heap.objs.size)
        (compEnvC scope (closL X.env.cells scope.names []) (s.heap.push { cls := .type "list", data := .seq #[] }).objs.size X.env)) (RR (.ref s.heap.objs.size) (s.heap.push { cls := .type "list", data := .seq #[] }).objs.size) s₃ := by
    rintro s₃ rfl
    refine compLoop_go (fun n s' => ∃ i τ H', Inv Y [] τ H' s' ∧ tn i s'.heap ∧ (∀ b ∈ fp, H' b = none) ∧ W i n τ H') ?_ m0 ⟨0, _, _, J0, st0, hfp0, w0⟩
    rintro n s' ⟨i, τ, H', I', st', fr', w'⟩
    rcases turn i n τ H' w' with ⟨stop, qn⟩ | ⟨go, M, hM, step⟩
    · have z := T.done Y e1 e2 e3 e4 i [] s' τ H' (fun _ _ => False) I' (stat fr') st' stop
      rw [e5] at z
      refine thn z fun r s4 ⟨hr, I4⟩ => ?_
      subst hr
      subst hY
      obtain ⟨m, hn4, _⟩ := I4.loc
      have ho : s4.os = s.os := I4.os
      have un : Un (frs X.stack) fp H H' s.heap s4.heap := by
        have u1 : Un (frs X.stack) fp H (upd H s.heap.objs.size (.lst [])) s.heap (s.heap.push { cls := .type "list", data := .seq #[] }) := Un.laid (fun b u e => Heap.get?_push_of_some _ e) (Nat.le_refl _) hDfree
        exact u1.trans I4.base
      have IX : Inv X pins σ H' s4 := I.call' ho un I4.hok I4.bare fun b hb => ⟨(f b hb).2.2.2.1, (f b hb).2.1, (f b hb).2.2.2.2.1, (f b hb).2.2.2.2.2⟩
      exact fin _ _ H' s4 m IX (I.fpOk (by rw [Heap.size_push]; exact Nat.le_succ _) I4.free) hn4 qn
    · have z := T.item Y e1 e2 e3 e4 i [] s' τ H' (fun _ _ => False) I' (stat fr') st' go
      rw [e5] at z
      refine thn z fun r s4 ⟨u, hr, h4⟩ => ?_
      subst hr
      refine thn h4 fun _ s5 => L2.ex5 fun x H5 I5 r5 hq_ => ?_
      obtain ⟨y5, st5, fr5⟩ := hq_
      have I5' := I5.pinned (stat fr5) (T.obj _ _ st5)
      have zg := hgY _ s5 τ H5 x u _ I5' r5 (step x H5 y5)
      rw [e1, e2, e5, e6, e7] at zg
      refine thn zg fun _ s6 ⟨τ6, H6, I6, q6⟩ => ?_
      have zf := hfY _ s6 τ6 H6 _ I6 q6
      rw [e1, e2, e5, e6, e7] at zf
      refine thn zf fun b s7 => L2.ex3 fun H7 I7 q7 => ?_
      have again : ∀ {H8 : Hp} {s8 : Shared}, Inv Y ([] ++ pinsAt fp s5.heap) τ6 H8 s8 → M τ6 H8 → ∃ m, m < n ∧ ∃ i τ H', Inv Y [] τ H' s8 ∧ tn i s8.heap ∧ (∀ b ∈ fp, H' b = none) ∧ W i m τ H' := fun {H8 s8} I8 w8 => by
        obtain ⟨m', hm, w8⟩ := hM _ _ w8
        refine ⟨m', hm, i + 1, τ6, H8, I8.unpinned, T.keep _ _ _ st5 fun b hb o e => (I8.pin (b, o) (List.mem_append_right _ (List.mem_append_right _ (mem_pinsAt hb e)))).1, fun b hb => ?_, w8⟩
        obtain ⟨o, e, d⟩ := T.obj _ _ st5 b hb
        exact (I8.pin (b, o) (List.mem_append_right _ (List.mem_append_right _ (mem_pinsAt hb e)))).2.1
      cases b with
      | false => exact again I7 q7
      | true =>
        have ze := heY _ s7 τ6 H7 _ I7 q7
        rw [e1, e2, e5, e6, e7] at ze
        refine thn ze fun v s8 => L2.ex5 fun y H8 I8 r8 hq_ => ?_
        obtain ⟨ys, hD, hz, q8⟩ := hq_
        have za := mt_append (X := Y) _ s8 τ6 H8 (.ref s.heap.objs.size) [y] (.ref s.heap.objs.size) [v] (fun _ H9 => H9 = upd H8 s.heap.objs.size (.lst (ys ++ [y]))) I8 rfl (.cons r8 .nil) ⟨_, ys, y, rfl, rfl, hD, hz, rfl⟩
        rw [e1, e2, e5, e7] at za
        refine thn za fun _ s9 ⟨_, H9, I9, _, e9⟩ => ?_
        subst e9
        exact again I9 q8
  exact codeAny_compStart_list (loop _ rfl) (T.self X.A 0 _ _ _ st0 (loop _ rfl))

theorem cap_ok {osc : Scope} {XN : List Str} (h1 : X.env.scope = osc) (h2 : X.N = XN) (ok : capOk osc scope XN N cap = true) : capOk X.env.scope scope X.N N cap = true := by
  rw [h1, h2]
  exact ok
theorem pe_comp (hc : X.calm = true) (ok : capOk X.env.scope scope X.N N cap = true) (hi : PI X tg iter wi)
    (hg : ∀ cl C s H fp pins, PG (compCx X scope cl C N s H fp pins) tg g) (hf : ∀ cl C s H fp pins, PIf (compCx X scope cl C N s H fp pins) ifs tt) (he : ∀ cl C s H fp pins, PE (compCx X scope cl C N s H fp pins) elt te)
    (hs : ∀ x, foldedSetIterable iter X.env x = pure x := by intro _; rfl) : PE X (.ListComp elt [⟨tg, iter, ifs, 0⟩] scope pos) (tComp wi cap g tt te) := by
  intro pins s σ H Q I h
  have ok' := ok
  simp only [capOk, Bool.and_eq_true, List.all_eq_true, beq_iff_eq] at ok'
  obtain ⟨⟨⟨⟨hkind, _⟩, hnames⟩, _⟩, _⟩ := ok'
  rw [eval_ListComp]
  refine wpAny_comprehension_free (use := none) rfl hs (closureFor_clos (I.clos ok)) hkind (fun y hy hl => by simpa [hl] using hnames y hy) (thn (hi pins s σ H _ I h) fun xv s1 h1 => thn h1 fun itv s2 h2 => ?_)
  obtain ⟨it, fp, tn, J, H2, e, I2, T, st2, f2, q⟩ := h2
  subst e
  refine comp_block (RR := fun acc C => compPost (model X.prog X.w) X.A X.xe none (EP X pins σ Q) acc C) hc ok hg hf he I2 T st2 f2 q ?_
  intro D C H' s' m I' fC hn qn
  obtain ⟨f0, f1, f2', f3, f4, f5⟩ := fC
  exact ⟨m, hn, fun h' sb => ⟨.ref D, H', I'.turned (t' := s'.toks) (fun b o hb e => sb.extBut b o hb e) f0 f1 f3 f4 f5, rfl, qn⟩⟩

/-- name = [ .. ] on one row, the name a plain local: it is stored ahead of the block's end -/
theorem ps_setC {i : Nat} {x : Str} {pos' spos : Pos} (hN : X.N.Nodup) (hi' : X.N[i]? = some x) (hx : X.env.scope.names.lookup x = some .local) (hc : X.calm = true) (ok : capOk X.env.scope scope X.N N cap = true) (hi : PI X tg iter wi)
    (hg : ∀ cl C s H fp pins, PG (compCx X scope cl C N s H fp pins) tg g) (hf : ∀ cl C s H fp pins, PIf (compCx X scope cl C N s H fp pins) ifs tt) (he : ∀ cl C s H fp pins, PE (compCx X scope cl C N s H fp pins) elt te)
    (hsw : swapsWith (.ListComp elt [⟨tg, iter, ifs, 0⟩] scope pos) (some (.Name x pos')) spos.line X.env = pure true)
    (hs : ∀ x, foldedSetIterable iter X.env x = pure x := by intro _; rfl) :
    PS X (.Assign [.Name x pos'] (.ListComp elt [⟨tg, iter, ifs, 0⟩] scope pos) spos) (tAsg (tComp wi cap g tt te) (gName i)) := by
  intro pins s σ H D I h
  have ok' := ok
  simp only [capOk, Bool.and_eq_true, List.all_eq_true, beq_iff_eq] at ok'
  obtain ⟨⟨⟨⟨hkind, _⟩, hnames⟩, _⟩, _⟩ := ok'
  rw [exec_Assign_Name_used _ _ _ _ hsw]
  refine wpAny_bind (wpAny_standAt (wpAny_bind ?_))
  show wpAny _ X.A (do let _ ← comprehension (.ListComp elt [⟨tg, iter, ifs, 0⟩] scope pos) scope X.env _ (newList []) false (eval iter X.env) (some (assign (.Name x pos') X.env))) _ _ s
  refine wpAny_bind (wpAny_mono (wpAny_comprehension_free (use := some (assign (.Name x pos') X.env)) (Q := fun _ s' => SP X pins D .next s') rfl hs (closureFor_clos (I.clos ok)) hkind (fun y hy hl => by simpa [hl] using hnames y hy)
    (thn (hi pins s σ H _ I h) fun xv s1 h1 => thn h1 fun itv s2 h2 => ?_)) (fun _ s' hq => wpAny_pure (wpAny_pure hq)) fun _ _ e => e)
  obtain ⟨it, fp, tn, J, H2, e, I2, T, st2, f2, q⟩ := h2
  subst e
  refine comp_block (RR := fun acc C => compPost (model X.prog X.w) X.A X.xe (some (assign (.Name x pos') X.env)) (fun _ s' => SP X pins D .next s') acc C) hc ok hg hf he I2 T st2 f2 q ?_
  intro Dd C H' s' m I' fC hn qn
  obtain ⟨f0, f1, f2', f3, f4, f5⟩ := fC
  show wpAny _ X.A (assign (.Name x pos') X.env (.ref Dd)) _ _ _
  refine wpAny_assign_Name (store_ok2 I' hN hi' (.inl hx) (v := .ref Dd) rfl (fun s3 I3 ⟨a, sb, ha⟩ => ?_) (.inr hx))
  have hCa : C ≠ a := by
    rcases ha with z | z
    · rw [z]; exact f1
    · exact fun w => f4 x a z w.symm
  refine ⟨m, hn.sameBut sb hCa, fun h' sb2 => ?_⟩
  exact ⟨_, H', I3.turned (t' := s3.toks) (fun b o hb e => sb2.extBut b o hb e) f0 f1 f3 f4 f5, qn⟩

/-! the forms one uses: over a list, a tuple, a range -/
/-- over a list that the block leaves as it is -/
theorem comp_list {K : PySem.W.Frag} {a D : Addr} {xs : List V} {τ : St} {H : Hp} {Q : VK} (Pv : Nat → St → Hp → Prop) (h0 : Pv 0 τ H) (hl : ∀ i τ H, i ≤ xs.length → Pv i τ H → SqL K H a xs)
    (hs : ∀ i x τ H, xs[i]? = some x → Pv i τ H → g x τ H fun τ2 H2 => tt τ2 H2 fun b H3 =>
      if b = true then te τ2 H3 fun y H4 => ∃ ys, H4 D = some (.lst ys) ∧ ys.length < sizeLine ∧ Pv (i + 1) τ2 (upd H4 D (.lst (ys ++ [y]))) else Pv (i + 1) τ2 H3)
    (hd : ∀ τ H, Pv xs.length τ H → Q (.ref D) H) : CompW (Itl K a) D τ H g tt te Q := by
  refine ⟨fun i m τ H => m = xs.length - i ∧ i ≤ xs.length ∧ Pv i τ H, ⟨xs.length, by simp, Nat.zero_le _, h0⟩, ?_⟩
  rintro i m τ H ⟨rfl, hi, p⟩
  have q := hl i τ H hi p
  by_cases hlt : i < xs.length
  · refine .inr ⟨⟨xs, xs[i], q, by simp [hlt]⟩, Pv (i + 1), fun τ' H' p' => ⟨xs.length - (i + 1), by omega, rfl, hlt, p'⟩, fun x H' y => ?_⟩
    obtain ⟨e, y⟩ := y
    subst e
    exact hs i x τ _ (y xs q) p
  · have e : i = xs.length := by omega
    subst e
    exact .inl ⟨⟨xs, q, Nat.le_refl _⟩, hd τ H p⟩
theorem comp_range {lo : Int} {n : Nat} {D : Addr} {τ : St} {H : Hp} {Q : VK} (Pv : Nat → St → Hp → Prop) (h0 : Pv 0 τ H)
    (hs : ∀ i τ H, i < n → Pv i τ H → g (.int (lo + i)) τ H fun τ2 H2 => tt τ2 H2 fun b H3 =>
      if b = true then te τ2 H3 fun y H4 => ∃ ys, H4 D = some (.lst ys) ∧ ys.length < sizeLine ∧ Pv (i + 1) τ2 (upd H4 D (.lst (ys ++ [y]))) else Pv (i + 1) τ2 H3)
    (hd : ∀ τ H, Pv n τ H → Q (.ref D) H) : CompW (Itr lo n) D τ H g tt te Q := by
  refine ⟨fun i m τ H => m = n - i ∧ i ≤ n ∧ Pv i τ H, ⟨n, by simp, Nat.zero_le _, h0⟩, ?_⟩
  rintro i m τ H ⟨rfl, hi, p⟩
  by_cases hlt : i < n
  · refine .inr ⟨hlt, Pv (i + 1), fun τ' H' p' => ⟨n - (i + 1), by omega, rfl, hlt, p'⟩, fun x H' y => ?_⟩
    obtain ⟨e, y⟩ := y
    subst e y
    exact hs i τ _ hlt p
  · have e : i = n := by omega
    subst e
    exact .inl ⟨Nat.le_refl _, hd τ H p⟩
end
end L2

/-! ### plain data: None, bools, ints, texts, lists and tuples of these; == and != of them -/
namespace L2
open PySem PySem.Spec PyProof.Rows PySem.SeqAt

inductive Dt where
  | non | bl (b : Bool) | int (i : Int) | str (x : Str) | lst (xs : List Dt) | tup (xs : List Dt)

mutual
/-- the value x stands for the datum -/
def DtV (K : PySem.W.Frag) (H : Hp) : Dt → V → Prop
  | .non, x => x = .non
  | .bl b, x => x = .bl b
  | .int i, x => x = .int i
  | .str z, x => x = .str z
  | .lst ds, x => ∃ a xs, x = .ref a ∧ SqL K H a xs ∧ DtVs K H ds xs
  | .tup ds, x => ∃ a xs, x = .ref a ∧ SqT K H a xs ∧ DtVs K H ds xs
def DtVs (K : PySem.W.Frag) (H : Hp) : List Dt → List V → Prop
  | [], xs => xs = []
  | d :: ds, xs => ∃ y ys, xs = y :: ys ∧ DtV K H d y ∧ DtVs K H ds ys
end
mutual
/-- how deep, at most -/
def DeepLe : Nat → Dt → Prop
  | n + 1, .lst ds => DeepsLe n ds
  | n + 1, .tup ds => DeepsLe n ds
  | 0, .lst _ => False
  | 0, .tup _ => False
  | _, .non => True
  | _, .bl _ => True
  | _, .int _ => True
  | _, .str _ => True
def DeepsLe : Nat → List Dt → Prop
  | _, [] => True
  | n, d :: ds => DeepLe n d ∧ DeepsLe n ds
end
mutual
def eqD : Dt → Dt → Bool
  | .non, .non => true
  | .bl a, .bl b => a == b
  | .bl a, .int b => (if a then 1 else 0) == b
  | .int a, .bl b => a == (if b then 1 else 0)
  | .int a, .int b => a == b
  | .str a, .str b => a == b
  | .lst xs, .lst ys => eqDs xs ys
  | .tup xs, .tup ys => eqDs xs ys
  | _, _ => false
def eqDs : List Dt → List Dt → Bool
  | [], [] => true
  | x :: xs, y :: ys => eqD x y && eqDs xs ys
  | _, _ => false
end
mutual
theorem eqD_refl : ∀ d : Dt, eqD d d = true
  | .non => rfl
  | .bl b => by simp [eqD]
  | .int i => by simp [eqD]
  | .str x => by simp [eqD]
  | .lst xs => by
    rw [eqD]
    exact eqDs_refl xs
  | .tup xs => by
    rw [eqD]
    exact eqDs_refl xs
theorem eqDs_refl : ∀ ds : List Dt, eqDs ds ds = true
  | [] => rfl
  | d :: ds => by rw [eqDs, eqD_refl d, eqDs_refl ds]; rfl
end
theorem DtVs.length {K : PySem.W.Frag} {H : Hp} : ∀ {ds : List Dt} {xs : List V}, DtVs K H ds xs → ds.length = xs.length
  | [], xs, h => by
    have e : xs = [] := h
    subst e
    rfl
  | d :: ds, xs, h => by
    obtain ⟨y, ys, e, _, h2⟩ := h
    subst e
    simp [DtVs.length h2]
theorem DtVs.get {K : PySem.W.Frag} {H : Hp} : ∀ {ds : List Dt} {xs : List V} {j : Nat} {d : Dt}, DtVs K H ds xs → ds[j]? = some d → ∃ x, xs[j]? = some x ∧ DtV K H d x
  | [], _, _, _, _, e => by simp at e
  | d :: ds, xs, j, d', h, e => by
    obtain ⟨y, ys, e2, h1, h2⟩ := h
    subst e2
    cases j with
    | zero =>
      simp at e
      subst e
      exact ⟨y, rfl, h1⟩
    | succ j =>
      obtain ⟨x, hx, hd⟩ := DtVs.get (j := j) h2 (by simpa using e)
      exact ⟨x, by simpa using hx, hd⟩
theorem DtVs.snoc {K : PySem.W.Frag} {H : Hp} {d : Dt} {x : V} (hd : DtV K H d x) : ∀ {ds : List Dt} {xs : List V}, DtVs K H ds xs → DtVs K H (ds ++ [d]) (xs ++ [x])
  | [], xs, h => by
    have e : xs = [] := h
    subst e
    exact ⟨x, [], rfl, hd, rfl⟩
  | e :: ds, xs, h => by
    obtain ⟨y, ys, e2, h1, h2⟩ := h
    subst e2
    exact ⟨y, ys ++ [x], rfl, h1, h2.snoc hd⟩
theorem DeepsLe.get {n : Nat} : ∀ {ds : List Dt} {j : Nat} {d : Dt}, DeepsLe n ds → ds[j]? = some d → DeepLe n d
  | [], _, _, _, e => by simp at e
  | d :: ds, j, d', h, e => by
    cases j with
    | zero =>
      simp at e
      subst e
      exact h.1
    | succ j => exact DeepsLe.get (j := j) h.2 (by simpa using e)
theorem DeepsLe.of {n : Nat} : ∀ {ds : List Dt}, (∀ d ∈ ds, DeepLe n d) → DeepsLe n ds
  | [], _ => trivial
  | d :: ds, h => ⟨h d List.mem_cons_self, DeepsLe.of fun e he => h e (List.mem_cons_of_mem _ he)⟩
/-- what was tracked is as it was: the data stand -/
theorem Same.sqL {K : PySem.W.Frag} {H H' : Hp} {a : Addr} {xs : List V} (e : Same H H') (h : SqL K H a xs) : SqL K H' a xs := e.seq h
theorem Same.sqT {K : PySem.W.Frag} {H H' : Hp} {a : Addr} {xs : List V} (e : Same H H') (h : SqT K H a xs) : SqT K H' a xs := by
  rcases h with (h | ⟨o, h⟩) | h
  · exact .inl (.inl (e _ _ h))
  · exact .inl (.inr ⟨o, e _ _ h⟩)
  · exact .inr h
mutual
theorem Same.dt {K : PySem.W.Frag} {H H' : Hp} (e : Same H H') : ∀ {d : Dt} {x : V}, DtV K H d x → DtV K H' d x
  | .non, _, h => h
  | .bl _, _, h => h
  | .int _, _, h => h
  | .str _, _, h => h
  | .lst ds, _, h => by
    obtain ⟨a, xs, e1, h1, h2⟩ := h
    exact ⟨a, xs, e1, e.sqL h1, e.dts h2⟩
  | .tup ds, _, h => by
    obtain ⟨a, xs, e1, h1, h2⟩ := h
    exact ⟨a, xs, e1, e.sqT h1, e.dts h2⟩
theorem Same.dts {K : PySem.W.Frag} {H H' : Hp} (e : Same H H') : ∀ {ds : List Dt} {xs : List V}, DtVs K H ds xs → DtVs K H' ds xs
  | [], _, h => h
  | d :: ds, _, h => by
    obtain ⟨y, ys, e1, h1, h2⟩ := h
    exact ⟨y, ys, e1, e.dt h1, e.dts h2⟩
end
theorem Same.new {H : Hp} {p : Addr} {o : HO} (h : H p = none) : Same H (upd H p o) := fun b u e => by
  rw [upd_ne (ne_of_none e h)]
  exact e

section
variable {X : Cx} {pins : List (Addr × Obj)} {σ : St} {H : Hp} {s : Shared}
theorem Inv.notBoth (I : Inv X pins σ H s) {a : Addr} {xs ys : List V} (h : SqL X.K H a xs) (h' : SqT X.K H a ys) : False := by
  obtain ⟨its, _, pl, _⟩ := I.list h
  obtain ⟨its', _, pt, _⟩ := I.tuple h'
  obtain ⟨o, n, e, c, _⟩ := pl
  obtain ⟨o', e', c', _⟩ := pt
  rw [e] at e'
  cases e'
  rw [c] at c'
  exact absurd c' (by simp)
mutual
theorem Inv.dtUniq (I : Inv X pins σ H s) : ∀ {d e : Dt} {x : V}, DtV X.K H d x → DtV X.K H e x → d = e
  | .non, e, _, h, h' => by
    have h : _ = V.non := h
    subst h
    cases e with
    | non => rfl
    | bl _ => exact nomatch (show V.non = _ from h')
    | int _ => exact nomatch (show V.non = _ from h')
    | str _ => exact nomatch (show V.non = _ from h')
    | lst _ => obtain ⟨_, _, q, _⟩ := h'; cases q
    | tup _ => obtain ⟨_, _, q, _⟩ := h'; cases q
  | .bl b, e, _, h, h' => by
    have h : _ = V.bl b := h
    subst h
    cases e with
    | non => exact nomatch (show V.bl b = _ from h')
    | bl c =>
      have q : V.bl b = V.bl c := h'
      cases q
      rfl
    | int _ => exact nomatch (show V.bl b = _ from h')
    | str _ => exact nomatch (show V.bl b = _ from h')
    | lst _ => obtain ⟨_, _, q, _⟩ := h'; cases q
    | tup _ => obtain ⟨_, _, q, _⟩ := h'; cases q
  | .int b, e, _, h, h' => by
    have h : _ = V.int b := h
    subst h
    cases e with
    | non => exact nomatch (show V.int b = _ from h')
    | bl c => exact nomatch (show V.int b = _ from h')
    | int c =>
      have q : V.int b = V.int c := h'
      cases q
      rfl
    | str _ => exact nomatch (show V.int b = _ from h')
    | lst _ => obtain ⟨_, _, q, _⟩ := h'; cases q
    | tup _ => obtain ⟨_, _, q, _⟩ := h'; cases q
  | .str b, e, _, h, h' => by
    have h : _ = V.str b := h
    subst h
    cases e with
    | non => exact nomatch (show V.str b = _ from h')
    | bl c => exact nomatch (show V.str b = _ from h')
    | int _ => exact nomatch (show V.str b = _ from h')
    | str c =>
      have q : V.str b = V.str c := h'
      cases q
      rfl
    | lst _ => obtain ⟨_, _, q, _⟩ := h'; cases q
    | tup _ => obtain ⟨_, _, q, _⟩ := h'; cases q
  | .lst ds, e, _, h, h' => by
    obtain ⟨a, xs, e1, h1, h2⟩ := h
    subst e1
    cases e with
    | non => exact nomatch (show V.ref a = _ from h')
    | bl c => exact nomatch (show V.ref a = _ from h')
    | int _ => exact nomatch (show V.ref a = _ from h')
    | str _ => exact nomatch (show V.ref a = _ from h')
    | lst es =>
      obtain ⟨b, ys, e2, h3, h4⟩ := h'
      cases e2
      have q := I.list_inj h1 h3
      subst q
      rw [I.dtsUniq h2 h4]
    | tup es =>
      obtain ⟨b, ys, e2, h3, h4⟩ := h'
      cases e2
      exact (I.notBoth h1 h3).elim
  | .tup ds, e, _, h, h' => by
    obtain ⟨a, xs, e1, h1, h2⟩ := h
    subst e1
    cases e with
    | non => exact nomatch (show V.ref a = _ from h')
    | bl c => exact nomatch (show V.ref a = _ from h')
    | int _ => exact nomatch (show V.ref a = _ from h')
    | str _ => exact nomatch (show V.ref a = _ from h')
    | lst es =>
      obtain ⟨b, ys, e2, h3, h4⟩ := h'
      cases e2
      exact (I.notBoth h3 h1).elim
    | tup es =>
      obtain ⟨b, ys, e2, h3, h4⟩ := h'
      cases e2
      have q := I.tuple_inj h1 h3
      subst q
      rw [I.dtsUniq h2 h4]
theorem Inv.dtsUniq (I : Inv X pins σ H s) : ∀ {ds es : List Dt} {xs : List V}, DtVs X.K H ds xs → DtVs X.K H es xs → ds = es
  | [], es, _, h, h' => by
    have h : _ = [] := h
    subst h
    cases es with
    | nil => rfl
    | cons e es => obtain ⟨_, _, q, _⟩ := h'; cases q
  | d :: ds, es, _, h, h' => by
    obtain ⟨y, ys, e1, h1, h2⟩ := h
    subst e1
    cases es with
    | nil => exact nomatch (show y :: ys = [] from h')
    | cons e es =>
      obtain ⟨z, zs, q, h3, h4⟩ := h'
      cases q
      rw [I.dtUniq h1 h3, I.dtsUniq h2 h4]
end
def pairD (ds es : List Dt) (j : Nat) : Bool := eqD (ds.getD j .non) (es.getD j .non)
theorem eqDs_all : ∀ ds es : List Dt, ((List.range (min ds.length es.length)).all (pairD ds es) && ds.length == es.length) = eqDs ds es
  | [], [] => rfl
  | [], _ :: _ => by simp [eqDs]
  | _ :: _, [] => by simp [eqDs]
  | d :: ds, e :: es => by
    have ih := eqDs_all ds es
    have e1 : min (d :: ds).length (e :: es).length = min ds.length es.length + 1 := by simp only [List.length_cons]; omega
    have e2 : ((d :: ds).length == (e :: es).length) = (ds.length == es.length) := by simp
    have e3 : (List.range (min ds.length es.length + 1)).all (pairD (d :: ds) (e :: es)) = (eqD d e && (List.range (min ds.length es.length)).all (pairD ds es)) := by
      rw [List.range_succ_eq_map, List.all_cons, List.all_map]
      rfl
    rw [e1, e2, e3, eqDs, ← ih, Bool.and_assoc]
theorem eqDs_len {ds es : List Dt} (h : ds.length = es.length) : (List.range ds.length).all (pairD ds es) = eqDs ds es := by
  have := eqDs_all ds es
  rw [← h, Nat.min_self] at this
  simpa using this
theorem eqDs_nolen {ds es : List Dt} (h : ds.length ≠ es.length) : eqDs ds es = false := by
  rw [← eqDs_all ds es]
  simp [h]
end
section
variable {X : Cx} {pins : List (Addr × Obj)} {σ : St} {H : Hp} {s : Shared}
theorem Inv.isL (I : Inv X pins σ H s) {a : Addr} {xs : List V} (h : SqL X.K H a xs) : ∃ its : List Value, Vals xs its ∧ s.heap.IsList a its.toArray :=
  let ⟨its, r, pl, _⟩ := I.list h
  ⟨its, r, pl.isList⟩
theorem Inv.isT (I : Inv X pins σ H s) {a : Addr} {xs : List V} (h : SqT X.K H a xs) : ∃ its : List Value, Vals xs its ∧ s.heap.IsTuple a its.toArray :=
  let ⟨its, r, pt, _⟩ := I.tuple h
  ⟨its, r, pt⟩
theorem pairD_get {ds es : List Dt} {j : Nat} {d e : Dt} (h1 : ds[j]? = some d) (h2 : es[j]? = some e) : pairD ds es j = eqD d e := by
  unfold pairD
  rw [List.getD_eq_getElem?_getD, List.getD_eq_getElem?_getD, h1, h2]
  rfl
theorem get_of {α : Type} {l : List α} {j : Nat} (h : j < l.length) : ∃ x, l[j]? = some x := ⟨l[j], by simp [h]⟩
mutual
theorem Inv.eqAt (I : Inv X pins σ H s) : ∀ {d e : Dt} {x y : V} {u v : Value} {n : Nat} {A : Around}, DtV X.K H d x → DtV X.K H e y → RelV x u → RelV y v → DeepLe n d → A.units + n < cLine → EqAt A s u v (eqD d e)
  | .non, e, x, y, u, v, n, A, h, h', rx, ry, _, hu => by
    have hu : A.units < cLine := Nat.lt_of_le_of_lt (Nat.le_add_right _ _) hu
    have h : x = V.non := h
    subst h
    cases e with
    | non =>
      have h' : y = V.non := h'
      subst h'
      exact eqAt_V rx ry rfl rfl
    | bl c =>
      have h' : y = V.bl c := h'
      subst h'
      exact eqAt_V rx ry rfl rfl
    | int c =>
      have h' : y = V.int c := h'
      subst h'
      exact eqAt_V rx ry rfl rfl
    | str c =>
      have h' : y = V.str c := h'
      subst h'
      exact eqAt_V rx ry rfl rfl
    | lst es =>
      obtain ⟨a, ys, rfl, h1, _⟩ := h'
      obtain rfl : v = Value.ref a := ry
      obtain ⟨its, _, hl⟩ := I.isL h1
      obtain rfl : u = Value.none := rx
      exact EqAt.none_list hl hu
    | tup es =>
      obtain ⟨a, ys, rfl, h1, _⟩ := h'
      obtain rfl : v = Value.ref a := ry
      obtain ⟨its, _, hl⟩ := I.isT h1
      obtain rfl : u = Value.none := rx
      exact EqAt.none_tuple hl hu
  | .bl b, e, x, y, u, v, n, A, h, h', rx, ry, _, hu => by
    have hu : A.units < cLine := Nat.lt_of_le_of_lt (Nat.le_add_right _ _) hu
    have h : x = V.bl b := h
    subst h
    cases e with
    | non =>
      have h' : y = V.non := h'
      subst h'
      exact eqAt_V rx ry rfl rfl
    | bl c =>
      have h' : y = V.bl c := h'
      subst h'
      exact eqAt_V rx ry rfl rfl
    | int c =>
      have h' : y = V.int c := h'
      subst h'
      exact eqAt_V rx ry rfl rfl
    | str c =>
      have h' : y = V.str c := h'
      subst h'
      exact eqAt_V rx ry rfl rfl
    | lst es =>
      obtain ⟨a, ys, rfl, h1, _⟩ := h'
      obtain rfl : v = Value.ref a := ry
      obtain ⟨its, _, hl⟩ := I.isL h1
      obtain rfl : u = Value.bool b := rx
      exact EqAt.bool_list b hl hu
    | tup es =>
      obtain ⟨a, ys, rfl, h1, _⟩ := h'
      obtain rfl : v = Value.ref a := ry
      obtain ⟨its, _, hl⟩ := I.isT h1
      obtain rfl : u = Value.bool b := rx
      exact EqAt.bool_tuple b hl hu
  | .int b, e, x, y, u, v, n, A, h, h', rx, ry, _, hu => by
    have hu : A.units < cLine := Nat.lt_of_le_of_lt (Nat.le_add_right _ _) hu
    have h : x = V.int b := h
    subst h
    cases e with
    | non =>
      have h' : y = V.non := h'
      subst h'
      exact eqAt_V rx ry rfl rfl
    | bl c =>
      have h' : y = V.bl c := h'
      subst h'
      exact eqAt_V rx ry rfl rfl
    | int c =>
      have h' : y = V.int c := h'
      subst h'
      exact eqAt_V rx ry rfl rfl
    | str c =>
      have h' : y = V.str c := h'
      subst h'
      exact eqAt_V rx ry rfl rfl
    | lst es =>
      obtain ⟨a, ys, rfl, h1, _⟩ := h'
      obtain rfl : v = Value.ref a := ry
      obtain ⟨its, _, hl⟩ := I.isL h1
      obtain ⟨t, rfl⟩ := rx
      exact EqAt.int_list b t hl hu
    | tup es =>
      obtain ⟨a, ys, rfl, h1, _⟩ := h'
      obtain rfl : v = Value.ref a := ry
      obtain ⟨its, _, hl⟩ := I.isT h1
      obtain ⟨t, rfl⟩ := rx
      exact EqAt.int_tuple b t hl hu
  | .str b, e, x, y, u, v, n, A, h, h', rx, ry, _, hu => by
    have hu : A.units < cLine := Nat.lt_of_le_of_lt (Nat.le_add_right _ _) hu
    have h : x = V.str b := h
    subst h
    cases e with
    | non =>
      have h' : y = V.non := h'
      subst h'
      exact eqAt_V rx ry rfl rfl
    | bl c =>
      have h' : y = V.bl c := h'
      subst h'
      exact eqAt_V rx ry rfl rfl
    | int c =>
      have h' : y = V.int c := h'
      subst h'
      exact eqAt_V rx ry rfl rfl
    | str c =>
      have h' : y = V.str c := h'
      subst h'
      exact eqAt_V rx ry rfl rfl
    | lst es =>
      obtain ⟨a, ys, rfl, h1, _⟩ := h'
      obtain rfl : v = Value.ref a := ry
      obtain ⟨its, _, hl⟩ := I.isL h1
      obtain ⟨t, rfl⟩ := rx
      exact EqAt.str_list b t hl hu
    | tup es =>
      obtain ⟨a, ys, rfl, h1, _⟩ := h'
      obtain rfl : v = Value.ref a := ry
      obtain ⟨its, _, hl⟩ := I.isT h1
      obtain ⟨t, rfl⟩ := rx
      exact EqAt.str_tuple b t hl hu
  | .lst ds, e, x, y, u, v, n, A, h, h', rx, ry, hd, hu => by
    obtain ⟨a, xs, rfl, g1, g2⟩ := h
    obtain rfl : u = Value.ref a := rx
    obtain ⟨its, rv, hl⟩ := I.isL g1
    cases n with
    | zero => exact False.elim hd
    | succ n =>
    have hu0 : A.units < cLine := Nat.lt_of_le_of_lt (Nat.le_add_right _ _) hu
    cases e with
    | non =>
      have h' : y = V.non := h'
      subst h'
      obtain rfl : v = Value.none := ry
      exact EqAt.list_none hl hu0
    | bl c =>
      have h' : y = V.bl c := h'
      subst h'
      obtain rfl : v = Value.bool c := ry
      exact EqAt.list_bool c hl hu0
    | int c =>
      have h' : y = V.int c := h'
      subst h'
      obtain ⟨t, rfl⟩ := ry
      exact EqAt.list_int c t hl hu0
    | str c =>
      have h' : y = V.str c := h'
      subst h'
      obtain ⟨t, rfl⟩ := ry
      exact EqAt.list_str c t hl hu0
    | tup es =>
      obtain ⟨b, ys, rfl, h1, _⟩ := h'
      obtain rfl : v = Value.ref b := ry
      obtain ⟨its', _, hl'⟩ := I.isT h1
      exact EqAt.list_tuple hl hl' hu0
    | lst es =>
      obtain ⟨b, ys, rfl, h1, h2⟩ := h'
      obtain rfl : v = Value.ref b := ry
      obtain ⟨its', rv', hl'⟩ := I.isL h1
      show EqAt A s (.ref a) (.ref b) (eqDs ds es)
      by_cases hab : a = b
      · subst hab
        have e : Dt.lst ds = Dt.lst es := I.dtUniq ⟨a, xs, rfl, g1, g2⟩ ⟨a, ys, rfl, h1, h2⟩
        injection e with e
        subst e
        rw [eqDs_refl]
        exact EqAt.same _
      · have n1 : ds.length = its.length := g2.length.trans rv.length
        have n2 : es.length = its'.length := h2.length.trans rv'.length
        have items : ∀ j (h1 : j < its.toArray.size) (h2 : j < its'.toArray.size), EqAt A.in1 s its.toArray[j] its'.toArray[j] (pairD ds es j) := fun j j1 j2 => by
          have j1 : j < its.length := by simpa using j1
          have j2 : j < its'.length := by simpa using j2
          obtain ⟨d', hd'⟩ := get_of (l := ds) (j := j) (by omega)
          obtain ⟨e', he'⟩ := get_of (l := es) (j := j) (by omega)
          obtain ⟨x', hx', kx⟩ := g2.get hd'
          obtain ⟨y', hy', ky⟩ := h2.get he'
          obtain ⟨u', hu', ru⟩ := rv.get hx'
          obtain ⟨v', hv', rv2⟩ := rv'.get hy'
          have q1 : its.toArray[j] = u' := by
            have := List.getElem?_eq_some_iff.mp hu'
            simpa using this.2
          have q2 : its'.toArray[j] = v' := by
            have := List.getElem?_eq_some_iff.mp hv'
            simpa using this.2
          rw [q1, q2, pairD_get hd' he']
          exact Inv.eqAtI I ds j hd' kx ky ru rv2 (DeepsLe.get hd hd') (show A.units + 1 + n < cLine by omega)
        by_cases hsz : its.toArray.size = its'.toArray.size
        · have hsz' : ds.length = es.length := by simpa [n1, n2] using hsz
          rw [← eqDs_len hsz', n1, ← List.size_toArray]
          exact EqAt.of_refs hab (RcAt.lists hl hl' hsz hu0 items)
        · rw [eqDs_nolen (by simpa [n1, n2] using hsz)]
          exact EqAt.of_refs hab (RcAt.lists_lengths hl hl' (by simpa using hsz) hu0)
  | .tup ds, e, x, y, u, v, n, A, h, h', rx, ry, hd, hu => by
    obtain ⟨a, xs, rfl, g1, g2⟩ := h
    obtain rfl : u = Value.ref a := rx
    obtain ⟨its, rv, hl⟩ := I.isT g1
    cases n with
    | zero => exact False.elim hd
    | succ n =>
    have hu0 : A.units < cLine := Nat.lt_of_le_of_lt (Nat.le_add_right _ _) hu
    cases e with
    | non =>
      have h' : y = V.non := h'
      subst h'
      obtain rfl : v = Value.none := ry
      exact EqAt.tuple_none hl hu0
    | bl c =>
      have h' : y = V.bl c := h'
      subst h'
      obtain rfl : v = Value.bool c := ry
      exact EqAt.tuple_bool c hl hu0
    | int c =>
      have h' : y = V.int c := h'
      subst h'
      obtain ⟨t, rfl⟩ := ry
      exact EqAt.tuple_int c t hl hu0
    | str c =>
      have h' : y = V.str c := h'
      subst h'
      obtain ⟨t, rfl⟩ := ry
      exact EqAt.tuple_str c t hl hu0
    | lst es =>
      obtain ⟨b, ys, rfl, h1, _⟩ := h'
      obtain rfl : v = Value.ref b := ry
      obtain ⟨its', _, hl'⟩ := I.isL h1
      exact EqAt.tuple_list hl hl' hu0
    | tup es =>
      obtain ⟨b, ys, rfl, h1, h2⟩ := h'
      obtain rfl : v = Value.ref b := ry
      obtain ⟨its', rv', hl'⟩ := I.isT h1
      show EqAt A s (.ref a) (.ref b) (eqDs ds es)
      by_cases hab : a = b
      · subst hab
        have e : Dt.tup ds = Dt.tup es := I.dtUniq ⟨a, xs, rfl, g1, g2⟩ ⟨a, ys, rfl, h1, h2⟩
        injection e with e
        subst e
        rw [eqDs_refl]
        exact EqAt.same _
      · have n1 : ds.length = its.length := g2.length.trans rv.length
        have n2 : es.length = its'.length := h2.length.trans rv'.length
        have items : ∀ j (h1 : j < its.toArray.size) (h2 : j < its'.toArray.size), EqAt A.in1 s its.toArray[j] its'.toArray[j] (pairD ds es j) := fun j j1 j2 => by
          have j1 : j < its.length := by simpa using j1
          have j2 : j < its'.length := by simpa using j2
          obtain ⟨d', hd'⟩ := get_of (l := ds) (j := j) (by omega)
          obtain ⟨e', he'⟩ := get_of (l := es) (j := j) (by omega)
          obtain ⟨x', hx', kx⟩ := g2.get hd'
          obtain ⟨y', hy', ky⟩ := h2.get he'
          obtain ⟨u', hu', ru⟩ := rv.get hx'
          obtain ⟨v', hv', rv2⟩ := rv'.get hy'
          have q1 : its.toArray[j] = u' := by
            have := List.getElem?_eq_some_iff.mp hu'
            simpa using this.2
          have q2 : its'.toArray[j] = v' := by
            have := List.getElem?_eq_some_iff.mp hv'
            simpa using this.2
          rw [q1, q2, pairD_get hd' he']
          exact Inv.eqAtI I ds j hd' kx ky ru rv2 (DeepsLe.get hd hd') (show A.units + 1 + n < cLine by omega)
        have q := EqAt.of_refs hab (RcAt.tuples hl hl' hu0 items)
        rw [← eqDs_all ds es, n1, n2]
        simpa using q
theorem Inv.eqAtI (I : Inv X pins σ H s) : ∀ (ds : List Dt) (j : Nat) {d e : Dt} {x y : V} {u v : Value} {n : Nat} {A : Around}, ds[j]? = some d → DtV X.K H d x → DtV X.K H e y → RelV x u → RelV y v → DeepLe n d → A.units + n < cLine → EqAt A s u v (eqD d e)
  | [], j, _, _, _, _, _, _, _, _, h, _, _, _, _, _, _ => by simp at h
  | c :: _, 0, d, e, x, y, u, v, n, A, h, hx, hy, ru, rv, hd, hu => by
    simp at h
    subst h
    exact Inv.eqAt I hx hy ru rv hd hu
  | _ :: cs, j + 1, d, e, x, y, u, v, n, A, h, hx, hy, ru, rv, hd, hu => Inv.eqAtI I cs j (by simpa using h) hx hy ru rv hd hu
end
theorem Inv.items (I : Inv X pins σ H s) {ds es : List Dt} {xs ys : List V} {its its' : List Value} {n : Nat} {A : Around} (g2 : DtVs X.K H ds xs) (h2 : DtVs X.K H es ys) (rv : Vals xs its) (rv' : Vals ys its') (hd : DeepsLe n ds)
    (hu : A.units + 1 + n < cLine) : ∀ j (h1 : j < its.toArray.size) (h2 : j < its'.toArray.size), EqAt A.in1 s its.toArray[j] its'.toArray[j] (pairD ds es j) := fun j j1 j2 => by
  have n1 : ds.length = its.length := g2.length.trans rv.length
  have n2 : es.length = its'.length := h2.length.trans rv'.length
  have j1 : j < its.length := by simpa using j1
  have j2 : j < its'.length := by simpa using j2
  obtain ⟨d', hd'⟩ := get_of (l := ds) (j := j) (by omega)
  obtain ⟨e', he'⟩ := get_of (l := es) (j := j) (by omega)
  obtain ⟨x', hx', kx⟩ := g2.get hd'
  obtain ⟨y', hy', ky⟩ := h2.get he'
  obtain ⟨u', hu', ru⟩ := rv.get hx'
  obtain ⟨v', hv', rv2⟩ := rv'.get hy'
  have q1 : its.toArray[j] = u' := by
    have := List.getElem?_eq_some_iff.mp hu'
    simpa using this.2
  have q2 : its'.toArray[j] = v' := by
    have := List.getElem?_eq_some_iff.mp hv'
    simpa using this.2
  rw [q1, q2, pairD_get hd' he']
  exact I.eqAt kx ky ru rv2 (DeepsLe.get hd hd') hu
/-- lists or tuples -/
def isBox : Dt → Bool
  | .lst _ => true
  | .tup _ => true
  | _ => false
theorem Inv.rcAt (I : Inv X pins σ H s) {d e : Dt} {x y : V} {u v : Value} {n : Nat} {A : Around} (bd : isBox d = true) (be : isBox e = true) (h : DtV X.K H d x) (h' : DtV X.K H e y) (rx : RelV x u) (ry : RelV y v) (hd : DeepLe n d) (hu : A.units + n < cLine) :
    RcAt A s u v (eqD d e) ∧ RcNeAt A s u v (!eqD d e) := by
  cases n with
  | zero => cases d <;> first | exact False.elim hd | cases bd
  | succ n =>
  have hu0 : A.units < cLine := Nat.lt_of_le_of_lt (Nat.le_add_right _ _) hu
  have hu1 : A.units + 1 + n < cLine := by omega
  cases d with
  | lst ds =>
    obtain ⟨a, xs, rfl, g1, g2⟩ := h
    obtain rfl : u = Value.ref a := rx
    obtain ⟨its, rv, hl⟩ := I.isL g1
    cases e with
    | lst es =>
      obtain ⟨b, ys, rfl, h1, h2⟩ := h'
      obtain rfl : v = Value.ref b := ry
      obtain ⟨its', rv', hl'⟩ := I.isL h1
      have n1 : ds.length = its.length := g2.length.trans rv.length
      have n2 : es.length = its'.length := h2.length.trans rv'.length
      show RcAt A s (.ref a) (.ref b) (eqDs ds es) ∧ RcNeAt A s (.ref a) (.ref b) (!eqDs ds es)
      by_cases hsz : its.toArray.size = its'.toArray.size
      · have hsz' : ds.length = es.length := by simpa [n1, n2] using hsz
        rw [← eqDs_len hsz', n1, ← List.size_toArray]
        exact ⟨RcAt.lists hl hl' hsz hu0 (I.items g2 h2 rv rv' hd hu1), RcNeAt.lists hl hl' hsz hu0 (I.items g2 h2 rv rv' hd hu1)⟩
      · rw [eqDs_nolen (by simpa [n1, n2] using hsz)]
        exact ⟨RcAt.lists_lengths hl hl' (by simpa using hsz) hu0, RcNeAt.lists_lengths hl hl' (by simpa using hsz) hu0⟩
    | tup es =>
      obtain ⟨b, ys, rfl, h1, _⟩ := h'
      obtain rfl : v = Value.ref b := ry
      obtain ⟨its', _, hl'⟩ := I.isT h1
      exact ⟨RcAt.list_tuple hl hl' hu0, RcNeAt.list_tuple hl hl' hu0⟩
    | _ => cases be
  | tup ds =>
    obtain ⟨a, xs, rfl, g1, g2⟩ := h
    obtain rfl : u = Value.ref a := rx
    obtain ⟨its, rv, hl⟩ := I.isT g1
    cases e with
    | tup es =>
      obtain ⟨b, ys, rfl, h1, h2⟩ := h'
      obtain rfl : v = Value.ref b := ry
      obtain ⟨its', rv', hl'⟩ := I.isT h1
      have n1 : ds.length = its.length := g2.length.trans rv.length
      have n2 : es.length = its'.length := h2.length.trans rv'.length
      have q := RcAt.tuples hl hl' hu0 (I.items g2 h2 rv rv' hd hu1)
      have q' := RcNeAt.tuples hl hl' hu0 (I.items g2 h2 rv rv' hd hu1)
      show RcAt A s (.ref a) (.ref b) (eqDs ds es) ∧ RcNeAt A s (.ref a) (.ref b) (!eqDs ds es)
      rw [← eqDs_all ds es, n1, n2]
      exact ⟨by simpa using q, by simpa using q'⟩
    | lst es =>
      obtain ⟨b, ys, rfl, h1, _⟩ := h'
      obtain rfl : v = Value.ref b := ry
      obtain ⟨its', _, hl'⟩ := I.isL h1
      exact ⟨RcAt.tuple_list hl hl' hu0, RcNeAt.tuple_list hl hl' hu0⟩
    | _ => cases be
  | _ => cases bd
/-- x == y, x != y of two lists or tuples -/
def rEqD (K : PySem.W.Frag) (neg : Bool) : R2 := fun x y H Q => ∃ d e, isBox d = true ∧ isBox e = true ∧ DtV K H d x ∧ DtV K H e y ∧ DeepLe 60 d ∧ Q (.bl (if neg then !eqD d e else eqD d e)) H
theorem op_neD (hu : X.A.units + 64 < cLine) : OpR X (compareOp .NotEq) (rEqD X.K true) := by
  intro pins s σ H x y v u Q I rx ry h
  obtain ⟨d, e, bd, be, h1, h2, hd, q⟩ := h
  exact (I.rcAt bd be h1 h2 rx ry hd (by omega)).2 X.prog X.w _ _ ⟨.bl _, H, I, rfl, q⟩
end
end L2

/-! ### isinstance, join, and their like -/
namespace L2
open PySem PySem.Spec PyProof.Rows
section
variable {X : Cx}
/-- a class as it is handed to isinstance -/
def clsOf : V → Option Value
  | .ref a => some (.ref a)
  | .ty n => some (.type n)
  | _ => none
/-- sep.join(list of texts) -/
theorem strsAre_of {ys : List Str} : ∀ {us : List Value}, Vals (ys.map V.str) us → StrsAre us ys := by
  induction ys with
  | nil =>
    intro us r
    cases r
    exact .nil
  | cons y ys ih =>
    intro us r
    cases r with
    | cons r1 r2 =>
      obtain ⟨t, rfl⟩ := r1
      exact .cons _ _ (ih r2)
def rJoin (K : PySem.W.Frag) : V → List V → Hp → VK → Prop := fun x vs H Q => ∃ z a ys, x = .str z ∧ vs = [.ref a] ∧ SqL K H a (ys.map V.str) ∧ (ys.map (·.length)).sum + ys.length * z.length ≤ 16777216 ∧ Q (.str (Txt.join z ys)) H
end
end L2

/-! ### exceptions: an object that flies, is noted, lands; how it lies behind a call -/
namespace L2
open PySem PySem.Spec PyProof.Rows

/-- what stands at a: an exception of class c, its own dict dd, its contexts; tb: its newest traceback entry and what that says of flight -/
structure ExcAt (H : Hp) (h : Heap) (a : Addr) (c : Value) (dd : Option Addr) (tb : Option (Addr × Value)) : Prop where
  ob : ∃ o vs, h.get? a = some o ∧ o.cls = c ∧ o.dict = dd ∧ o.data = .fields vs ∧ vs.size = 6 ∧ (∃ cs, ChnH H cs ∧ vs[2]? = some (nxt cs 0)) ∧ vs[1]? = some (match tb with | none => .none | some p => .ref p.1)
  tr : ∀ p, tb = some p → p.1 ≠ a ∧ ∃ oT ts, h.get? p.1 = some oT ∧ oT.data = .fields ts ∧ ts[3]? = some p.2
/-- .. and nobody tracks it -/
structure Exc (X : Cx) (pins : List (Addr × Obj)) (H : Hp) (h : Heap) (a : Addr) (c : Value) (dd : Option Addr) (tb : Option (Addr × Value)) : Prop where
  fp : FpOk X pins H a
  fpT : ∀ p, tb = some p → FpOk X pins H p.1
  at_ : ExcAt H h a c dd tb

theorem dict_mapFields (o : Obj) (f : Array Value → Array Value) : (o.mapFields f).dict = o.dict := by
  obtain ⟨c, d, dt, sl⟩ := o
  cases dt <;> rfl
section
variable {X : Cx} {pins : List (Addr × Obj)} {σ : St} {H : Hp} {s : Shared} {a : Addr} {c : Value} {dd : Option Addr}
/-- the frames' slots and the records at ch have turned, all else is as it was -/
theorem Inv.slot0 {h' : Heap} {ch : List Addr} {tk : Nat} (I : Inv X pins σ H s) (hch : ∀ b ∈ ch, FpOk X pins H b) (keep : ∀ b o, b ∉ frs X.stack → b ∉ ch → s.heap.get? b = some o → h'.get? b = some o)
    (slot : ∀ b o, b ∈ frs X.stack → s.heap.get? b = some o → ∃ sl, h'.get? b = some { o with slots := sl }) : Inv X pins σ H { s with heap := h', toks := tk } := by
  have any : ∀ b o, b ∉ ch → s.heap.get? b = some o → ∃ sl, h'.get? b = some { o with slots := sl } := fun b o hc e => by
    by_cases hb : b ∈ frs X.stack
    · exact slot b o hb e
    · exact ⟨o.slots, keep b o hb hc e⟩
  have sub : ∀ b, b ∈ frs X.stack → b = X.env.locals ∨ b ∈ X.fs := fun b hb => List.mem_cons.mp (I.stkSub b hb)
  refine I.step (g' := s.gens) (d' := s.drawn) (ch := ch) (fun b hb => ?_) (fun b o hL hf hc e _ => keep b o (fun z => (sub b z).elim hL hf) hc e) (fun b o _ _ hc e _ => any b o hc e) (fun _ _ _ _ n => n) (fun b o hc e => ?_)
    (fun _ _ e => e) (fun _ _ _ e => e) (fun b ps e => ⟨#[], by rw [e]; simp⟩) (fun m hm => ?_) (fun b u e => ?_) I.bare
  · obtain ⟨_, f1, _, f3, f4, f5⟩ := hch b hb
    exact ⟨f3, f1, f4, f5⟩
  · obtain ⟨sl, q⟩ := any b o hc e
    exact ⟨_, q⟩
  · obtain ⟨o, es, ep, ho, r⟩ := hm
    obtain ⟨sl, q⟩ := any _ o (fun z => (hch _ z).2.1 rfl) ho
    exact ⟨_, es, ep, q, r⟩
  · have nf : ∀ d v, H d = some v → d ∉ frs X.stack ∧ d ∉ ch := fun d v q => ⟨fun z => (by rw [I.stkFree d z] at q; cases q), fun z => (by rw [(hch d z).1] at q; cases q)⟩
    refine (I.hok b u e).stay (fun d v hd q => ?_) (fun _ q => q) fun _ _ q => q
    rcases hd with z | z
    · subst z
      exact keep d v (nf d _ e).1 (nf d _ e).2 q
    · exact keep d v (nf d _ z).1 (nf d _ z).2 q
theorem Inv.slots {h' : Heap} {ch : List Addr} {tk : Nat} (I : Inv X pins σ H s) (hch : ∀ b ∈ ch, FpOk X pins H b) (keep : ∀ b o, b ∉ frs X.stack → b ∉ ch → s.heap.get? b = some o → h'.get? b = some o)
    (slot : ∀ b o, b ∈ frs X.stack → s.heap.get? b = some o → ∃ sl, h'.get? b = some { o with slots := sl }) (_ : ∀ b ∈ ch, ∀ o, s.heap.get? b = some o → ∃ o', h'.get? b = some o') : Inv X pins σ H { s with heap := h', toks := tk } := I.slot0 hch keep slot
/-- a def's own body (not a comprehension's block) -/
def Body (X : Cx) : Prop := X.stack = X.env :: X.outer ∧ X.env.frame = some X.env.locals
theorem note_entry {M : Model} {E : Value → Shared → Prop} {Q : Unit → Shared → Prop} {o : Obj} {vs : Array Value} {head : Value} {hadNext : Bool} (B : Body X) (I : Inv X pins σ H s) (fp : FpOk X pins H a) (he : s.heap.get? a = some o) (hd : o.data = .fields vs) (hz : vs.size = 6)
    (hQ : ∀ s' T, Inv X pins σ H s' → s.heap.objs.size ≤ T → FpOk X pins H T → T ≠ a → s'.heap.get? a = some (o.mapFields (·.setIfInBounds 1 (.ref T))) → (∃ oT ts, s'.heap.get? T = some oT ∧ oT.data = .fields ts ∧ ts[3]? = some (rawInt X.env.locals)) → Q () s') :
    wpAny M X.A (do let f ← frameOf X.env; let pl ← entryPlaceOf X.env.locals hadNext; let b ← EntryCells.newEntry head f .none (rawInt X.env.locals) .none pl; setField (.ref a) 1 b) Q E s := by
  have hl := I.stack
  rw [B.1] at hl
  have hfr : X.A.frames = some (X.env :: X.outer) := by rw [I.ok.frames, B.1]
  have nfr : ∀ b, FpOk X pins H b → b ∉ frs X.stack := fun b f z => (List.mem_cons.mp (I.stkSub b z)).elim f.2.1 f.2.2.1
  refine wpAny_bind (wpAny_frameOf_fun hfr hl B.2 fun h₁ hs₁ => ?_)
  rw [← B.1] at hs₁
  refine wpAny_bind (wpAny_entryPlaceOf fun pl hpl => ?_)
  simp only [EntryCells.newEntry, newFields]
  refine wpAny_bind (wpAny_newObj_type ?_ (hpl.sizeOk5 _ _ _ _ _))
  generalize hoT : ({ cls := .type "traceback", dict := none, data := .fields ([head, .ref X.env.locals, .none, rawInt X.env.locals, .none] ++ (if pl.isEmpty then List.replicate 6 Value.none else pl)).toArray } : Obj) = oT
  have e1 : h₁.get? a = some o := (hs₁.2.1 a (nfr a fp)).trans he
  have e2 : (h₁.push oT).get? a = some o := Heap.get?_push_of_some _ e1
  have hsz : s.heap.objs.size = h₁.objs.size := hs₁.1.symm
  have hTa : h₁.objs.size ≠ a := Nat.ne_of_gt (Heap.lt_size e1)
  have hd3 := Obj.data_mapFields hd (·.setIfInBounds 1 (Value.ref h₁.objs.size))
  have e3 := Heap.get?_update_self (Obj.mapFields (·.setIfInBounds 1 (Value.ref h₁.objs.size))) e2 (Obj.isFreed_of_fields hd3)
  have eT : ((h₁.push oT).update a (Obj.mapFields (·.setIfInBounds 1 (Value.ref h₁.objs.size)))).get? h₁.objs.size = some oT :=
    (Heap.get?_update_other _ _ (Ne.symm hTa)).trans (Heap.get?_push_size h₁ (by rw [← hoT]; rfl))
  have kp : ∀ b q, b ≠ a → h₁.get? b = some q → ((h₁.push oT).update a (Obj.mapFields (·.setIfInBounds 1 (Value.ref h₁.objs.size)))).get? b = some q := fun b q hb e =>
    (Heap.get?_update_other _ _ (Ne.symm hb)).trans (Heap.get?_push_of_some _ e)
  refine wpAny_setField e2 hd (by rw [hz]; decide) ?_
  refine hQ _ h₁.objs.size (I.slots (ch := [a]) (tk := s.toks) (fun b hb => ?_) (fun b q hb hc e => ?_) (fun b q hb e => ?_) (fun b hb q e => ?_)) (Nat.le_of_eq hsz) (I.fpOk (Nat.le_of_eq hsz) (I.hok.fresh (Nat.le_of_eq hsz))) hTa e3 ⟨oT, _, eT, by rw [← hoT], ?_⟩
  · rw [List.mem_singleton.mp hb]; exact fp
  · exact kp b q (fun z => hc (by simp [z])) ((hs₁.2.1 b hb).trans e)
  · obtain ⟨sl, q'⟩ := hs₁.2.2 b q e
    refine ⟨sl, kp b _ (fun z => ?_) q'⟩
    subst z
    exact nfr b fp hb
  · rw [List.mem_singleton.mp hb]; exact ⟨_, e3⟩
  · first | (simp; done) | (rcases hpl with rfl | ⟨_, _, _, _, _, _, _, rfl⟩ <;> simp)
theorem vs_set {vs : Array Value} {v : Value} {H : Hp} (hz : vs.size = 6) (h2 : ∃ cs, ChnH H cs ∧ vs[2]? = some (nxt cs 0)) : (vs.setIfInBounds 1 v).size = 6 ∧ (∃ cs, ChnH H cs ∧ (vs.setIfInBounds 1 v)[2]? = some (nxt cs 0)) ∧ (vs.setIfInBounds 1 v)[1]? = some v := by
  refine ⟨by simpa using hz, ?_, ?_⟩
  · obtain ⟨cs, hc, h2⟩ := h2
    exact ⟨cs, hc, by rw [Array.getElem?_setIfInBounds_ne (by decide)]; exact h2⟩
  · simp [hz]
/-- noteFrame: the entry of this frame is there -/
theorem Inv.note {M : Model} {E : Value → Shared → Prop} {Q : Unit → Shared → Prop} {tb : Option (Addr × Value)} (B : Body X) (I : Inv X pins σ H s) (x : Exc X pins H s.heap a c dd tb) (hfl : ∀ p, tb = some p → p.2 = .none ∨ p.2 = rawInt X.env.locals)
    (hQ : ∀ s' T, Inv X pins σ H s' → Exc X pins H s'.heap a c dd (some (T, rawInt X.env.locals)) → Q () s') : wpAny M X.A (noteFrame (.ref a) X.env) Q E s := by
  obtain ⟨o, vs, h1, hc, hdd, hd, hz, h2, hv1⟩ := x.at_.ob
  have fin : ∀ s' T, Inv X pins σ H s' → FpOk X pins H T → T ≠ a → s'.heap.get? a = some (o.mapFields (·.setIfInBounds 1 (.ref T))) → (∃ oT ts, s'.heap.get? T = some oT ∧ oT.data = .fields ts ∧ ts[3]? = some (rawInt X.env.locals)) → Q () s' := fun s' T I' fT ne e' tr => by
    obtain ⟨z1, z2, z3⟩ := vs_set (v := .ref T) hz h2
    refine hQ s' T I' ⟨x.fp, fun p q => ?_, ⟨_, _, e', (Obj.cls_mapFields _ _).trans hc, (dict_mapFields _ _).trans hdd, Obj.data_mapFields hd _, z1, z2, z3⟩, fun p q => ?_⟩
    · cases q; exact fT
    · cases q; exact ⟨ne, tr⟩
  unfold noteFrame
  simp only [B.2]
  cases tb with
  | none =>
    refine wpAny_bind (wpAny_field h1 hd hv1 ?_)
    rw [if_neg (by decide)]
    exact note_entry B I x.fp h1 hd hz fun s' T I' _ fT ne e' tr => fin s' T I' fT ne e' tr
  | some p =>
    obtain ⟨T, fl⟩ := p
    obtain ⟨ne, oT, ts, hT, hdT, h3⟩ := x.at_.tr _ rfl
    refine wpAny_bind (wpAny_field h1 hd hv1 ?_)
    rw [if_pos (show (Value.ref T != Value.none) = true from by simp)]
    refine wpAny_bind (wpAny_field hT hdT h3 ?_)
    rcases hfl _ rfl with z | z
    · have z : fl = .none := z
      subst z
      rw [if_neg (show ¬ ((Value.none == rawInt X.env.locals) = true) from by simp [rawInt])]
      refine wpAny_bind (wpAny_setField hT hdT (Array.getElem?_eq_some_iff.mp h3).1 ?_)
      have other : ∀ b, b ≠ T → (s.heap.update T (Obj.mapFields (·.setIfInBounds 3 Value.none))).get? b = s.heap.get? b := fun b hb => Heap.get?_update_other _ _ (Ne.symm hb)
      have nfr : T ∉ frs X.stack := fun z => (List.mem_cons.mp (I.stkSub T z)).elim (x.fpT _ rfl).2.1 (x.fpT _ rfl).2.2.1
      have I1 : Inv X pins σ H { s with heap := s.heap.update T (Obj.mapFields (·.setIfInBounds 3 Value.none)) } := I.slots (ch := [T]) (tk := s.toks) (fun b hb => by rw [List.mem_singleton.mp hb]; exact x.fpT _ rfl)
        (fun b q _ hc e => (other b fun z => hc (by simp [z])).trans e) (fun b q hb e => ⟨q.slots, (other b fun z => nfr (z ▸ hb)).trans e⟩)
        (fun b hb q e => (by obtain rfl := List.mem_singleton.mp hb; exact ⟨_, Heap.get?_update_self _ hT (Obj.isFreed_of_fields (Obj.data_mapFields hdT _))⟩))
      exact note_entry B I1 x.fp ((other a (Ne.symm ne)).trans h1) hd hz fun s' T' I' _ fT' ne' e' tr => fin s' T' I' fT' ne' e' tr
    · have z : fl = rawInt X.env.locals := z
      subst z
      rw [if_pos (show (rawInt X.env.locals == rawInt X.env.locals) = true from beq_self_eq_true _)]
      exact wpAny_pure (hQ s T I x)
/-- setFlight .. none: it lands -/
theorem Inv.land {M : Model} {E : Value → Shared → Prop} {Q : Unit → Shared → Prop} {T : Addr} {fl : Value} {A : Around} (I : Inv X pins σ H s) (x : Exc X pins H s.heap a c dd (some (T, fl)))
    (hQ : ∀ s', Inv X pins σ H s' → Exc X pins H s'.heap a c dd (some (T, .none)) → Q () s') : wpAny M A (setFlight (.ref a) none) Q E s := by
  obtain ⟨o, vs, h1, hc, hdd, hd, hz, h2, hv1⟩ := x.at_.ob
  obtain ⟨ne, oT, ts, hT, hdT, h3⟩ := x.at_.tr _ rfl
  have h33 : 3 < ts.size := (Array.getElem?_eq_some_iff.mp h3).1
  unfold setFlight
  refine wpAny_bind (wpAny_field h1 hd hv1 ?_)
  rw [if_pos (show (Value.ref T != Value.none) = true from by simp)]
  refine wpAny_setField hT hdT h33 ?_
  have other : ∀ b, b ≠ T → (s.heap.update T (Obj.mapFields (·.setIfInBounds 3 ((none : Option Addr).elim Value.none fun f => rawInt f)))).get? b = s.heap.get? b := fun b hb => Heap.get?_update_other _ _ (Ne.symm hb)
  have self := Heap.get?_update_self (Obj.mapFields (·.setIfInBounds 3 ((none : Option Addr).elim Value.none fun f => rawInt f))) hT (Obj.isFreed_of_fields (Obj.data_mapFields hdT _))
  have nfr : T ∉ frs X.stack := fun z => (List.mem_cons.mp (I.stkSub T z)).elim (x.fpT _ rfl).2.1 (x.fpT _ rfl).2.2.1
  refine hQ _ (I.slots (ch := [T]) (tk := s.toks) (fun b hb => by rw [List.mem_singleton.mp hb]; exact x.fpT _ rfl) (fun b q _ hc e => (other b fun z => hc (by simp [z])).trans e)
    (fun b q hb e => ⟨q.slots, (other b fun z => nfr (z ▸ hb)).trans e⟩) (fun b hb q e => (by obtain rfl := List.mem_singleton.mp hb; exact ⟨_, self⟩))) ⟨x.fp, fun p q => ?_, ⟨o, vs, (other a (Ne.symm ne)).trans h1, hc, hdd, hd, hz, h2, hv1⟩, fun p q => ?_⟩
  · cases q; exact x.fpT (T, fl) rfl
  · cases q; exact ⟨ne, _, _, self, Obj.data_mapFields hdT _, by simp [h33]⟩
end

/-- an exception behind a call: what it has left; E: what is wanted of its class, its dict and the heap -/
def CXe (P : Program) (w : World) : CXT := fun outer H s E e s' => ∃ a c dd T H', e = .ref a ∧ s'.os = s.os ∧ AllBare s'.gens ∧ Un (frs outer) [] H H' s.heap s'.heap ∧ HOk P w H' s'.heap ∧
  (s.heap.objs.size ≤ a ∧ H' a = none) ∧ (s.heap.objs.size ≤ T ∧ H' T = none) ∧ ExcAt H' s'.heap a c dd (some (T, .none)) ∧ E c dd H'
/-- what is wanted of an exception in this body: R, by the names' values -/
abbrev RK := St → XK
def PX (X : Cx) (R : RK) : Prop := ∀ (pins : List (Addr × Obj)) (σ : St) (H : Hp) (s : Shared) (a : Addr) (c : Value) (dd : Option Addr) (tb : Option Addr), Inv X pins σ H s → Exc X pins H s.heap a c dd (tb.map fun T => (T, Value.none)) → R σ c dd H → X.xe (.ref a) s
theorem map_tb {tb : Option Addr} {v : Value} : ∀ p, (tb.map fun T => (T, Value.none)) = some p → p.2 = Value.none ∨ p.2 = v := fun p e => by
  cases tb with
  | none => cases e
  | some T => cases e; exact .inl rfl
/-- out of a def's body -/
theorem px_body {P : Program} {w : World} {K : PySem.W.Frag} {mg : Str → Option Value} {base : Heap} {N : List Str} {qual : Str} {scope : Scope} {f : Addr} {cd : Value} {A : Around} {outer : List Env} {s : Shared} {H : Hp} {E : XK} :
    PX (cxOf (CXe P w) P w K mg base N qual scope f cd A outer s H E) (fun _ => E) := by
  intro pins σ H' s1 a c dd tb I x hE
  have B : Body (cxOf (CXe P w) P w K mg base N qual scope f cd A outer s H E) := ⟨rfl, rfl⟩
  show wpAny _ _ (leaving _ (.ref a)) _ _ s1
  unfold leaving
  refine wpAny_bind (I.note B x map_tb fun s2 T I2 x2 => ?_)
  refine I2.land x2 fun s3 I3 x3 => ?_
  have sz : ∀ b, FpOk (cxOf (CXe P w) P w K mg base N qual scope f cd A outer s H E) pins H' b → s.heap.objs.size ≤ b ∧ H' b = none := fun b fb => by
    refine ⟨?_, fb.1⟩
    rcases fb.2.2.2.1 with z | z
    · exact absurd (show b ∈ ([] : List Addr) from z) (by simp)
    · exact z
  exact ⟨a, c, dd, T, H', rfl, I3.os, I3.bare, I3.base, I3.hok, sz a x3.fp, sz T (x3.fpT _ rfl), x3.at_, hE⟩
/-- into a caller's body -/
theorem px_call {X : Cx} {R : RK} (hp : PX X R) : ∀ (pins : List (Addr × Obj)) (σ : St) (H : Hp) (s : Shared) (e : Value) (s' : Shared), Inv X pins σ H s → CXe X.prog X.w X.stack H s (R σ) e s' → X.xe e s' := by
  intro pins σ H s e s' I h
  obtain ⟨a, c, dd, T, H', rfl, os, bare, un, hok, ha, hT, x, hE⟩ := h
  have I' : Inv X pins σ H' s' := I.call' os un hok bare fun b z => absurd z (by simp)
  refine hp pins σ H' s' a c dd (some T) I' ⟨I.fpOk ha.1 ha.2, fun p q => ?_, x⟩ hE
  cases q
  exact I.fpOk hT.1 hT.2
end L2

/-! ### exceptions of the program's own classes: made, raised -/
namespace L2
open PySem PySem.Spec PyProof.Rows

section
variable {prog : Program} {w : World} {A : Around} {E : Value → Shared → Prop} {h : Heap} {g : Array GenState} {d : Drawn} {t : Nat} {os : OsState}
variable {nm q : Str} {C N : Addr} {bs bm bmB : List Value} {hdct : Bool} {sn : List Str} {sub : List Value} {ab : Bool} {col : Option Bool} {dd : Option Addr} {k0 k1 k2 k3 k5 : Option Value} {B newId initId : String}
/-- the new exception as __new__ lays it -/
abbrev excNew (C t : Addr) : Obj := { cls := .ref C, data := .fields #[.ref t, .none, .none, .none, .bool false, .none] }
abbrev tupNew (rest : List Value) : Obj := { cls := .type "tuple", data := .seq rest.toArray }
/-- C(..) where no class of the program's own has an __init__ -/
theorem call_exc0 (F : ExcBaseFacts B newId initId bmB) (T : OwnTail h bmB bm) {rest : List Value} {Q : Value → Shared → Prop}
    (oC : h.get? C = some (excClassObj nm q C N bs bm hdct sn sub ab col dd k0 k1 k2 k3 k5 newId)) (lk : PySem.W.Looks (model prog w) h (typeLookup (.ref C) "__init__") (some (.builtin initId))) (few : rest.length ≤ sizeLine)
    (fin : ∀ h', (∀ b o, h.get? b = some o → h'.get? b = some o) → h'.get? (h.objs.size + 1) = some (excNew C (h.objs.size + 2)) → Q (.ref (h.objs.size + 1)) ⟨h', g, d, t, os⟩) :
    wpAny (model prog w) A (call (.ref C) rest) Q E ⟨h, g, d, t, os⟩ := by
  have l1 := tc_lookup
  have l2 := tc_bind (.ref C)
  have tyC : (⟨h, g, d, t, os⟩ : Shared).TypeIs (.ref C) "type" := ⟨_, oC, rfl⟩
  refine wpAny_call (codeAny_of_tree ?_)
  show wpAny _ _ (callAny (.ref C) _) _ _ _
  repeat (any_goals (first | assumption | (with_reducible refine wpAny_loadPart_at oC ?_) | wp_step))
  refine ⟨rfl, codeAny_call_builtin_at (Code.quiet_builtin _ (by decide +kernel)) entry_typeCall (wpAny_check_type_call_sub oC ?_)⟩
  show wpAny _ (A.under (.builtin "type.__call__" ⟨.ref C :: rest, []⟩)) (Builtin.«type.__call__» ⟨.ref C :: rest, []⟩) _ _ _
  repeat (first | (with_reducible refine wpAny_loadPart_at oC ?_) | (with_reducible refine wpAny_madeBy_exc oC ?_) | wp_step)
  refine codeAny_call_builtin_code (Code.quiet_builtin _ F.quiet) (wpAny_check_new_subT F T oC (codeAny_exc_new_subT F T oC ?_ few))
  show wpAny _ _ _ _ _ _
  have kk : ∀ b o, h.get? b = some o → ((h.push (tupNew rest)).push (excNew C h.objs.size)).get? b = some o := fun b o e => Heap.get?_push_of_some _ (Heap.get?_push_of_some _ e)
  have oC1 := kk _ _ oC
  have oX : ((h.push (tupNew rest)).push (excNew C h.objs.size)).get? (h.objs.size + 1) = some { cls := .ref C, data := .fields #[.ref h.objs.size, .none, .none, .none, .bool false, .none] } := by heap_get
  have isC : (Value.ref C :: bm).contains (.ref C) = true := by simp
  have T1 := T.keeps kk
  unfold isInstance
  repeat (first | (with_reducible refine wpAny_loadPart_at oX ?_) | (with_reducible refine wpAny_isSubtype_exc oC1 ?_; rw [isC]) | wp_step)
  show wpAny _ _ (typeLookup (.ref C) _) _ _ _
  refine lk _ _ _ _ kk ?_
  refine wpAny_holding (wpAny_bind (wpAny_of_eq (F.init.bind _) (wpAny_bind (wpAny_call (codeAny_call_builtin F.init.plain F.initEntry (wpAny_check_init_subT F T1 oC1 oX rfl ?_))))))
  wp_walk
  refine fin _ (fun b o hb => ?_) ?_
  · rw [Heap.get?_update_other _ _ (Nat.ne_of_gt (Nat.lt_succ_of_lt (Heap.lt_size hb)))]
    exact Heap.get?_push_of_some _ (kk b o hb)
  · rw [Heap.get?_update_self _ (Heap.get?_push_of_some _ oX) rfl]
    simp only [Heap.size_push]; rfl
/-- raise with an exception just made -/
theorem raise_made {M : Model} {env : Env} {s : Shared} {x : Sem Value} {Q : Flow → Shared → Prop} (hb : bm.contains (.type "BaseException") = true)
    (hx : wpAny M A x (fun v s₁ => ∃ e t dx, v = .ref e ∧ s₁.heap.get? C = some (excClassObj nm q C N bs bm hdct sn sub ab col dd k0 k1 k2 k3 k5 newId) ∧ s₁.heap.get? e = some { cls := .ref C, dict := dx, data := .fields #[.ref t, .none, .none, .none, .bool false, .none] } ∧ wpAny M A (raiseNew (.ref e) : Sem Flow) Q E s₁) E s) :
    wpAny M A (raiseStmt env (some x) none) Q E s := by
  have isB : (Value.ref C :: bm).contains (.type "BaseException") = true := by rw [List.contains_cons, hb, Bool.or_true]
  unfold raiseStmt
  refine wpAny_bind (wpAny_mono hx (fun v s₁ z => ?_) fun _ _ y => y)
  obtain ⟨e, t, dx, rfl, oC, oe, z⟩ := z
  obtain ⟨hp, g, d, tk, os⟩ := s₁
  repeat (first | exact z | (with_reducible refine wpAny_loadPart_at oe ?_) | (with_reducible refine wpAny_loadPart_at oC ?_) | (with_reducible refine wpAny_isSubtype_exc oC ?_; rw [isB]) | wp_step)
end

/-- what the program's part tells of an exception class -/
def excAt (K : PySem.W.Frag) (C : Addr) (bmB : List Value) (newId : String) : Bool := match K.lookup C with
  | some ⟨.type "type", _, .cls cd, sl⟩ => (match cd.mro, sl.toList with
    | .ref C1 :: bm, [_, _, _, _, some (.builtin n), _] => C1 == C && n == newId && !cd.hasDel && PySem.W.tailIn K bmB bm
    | _, _ => false)
  | _ => false
/-- the class stands there -/
structure XCls (h : Heap) (C : Addr) (bmB bm : List Value) (newId : String) : Prop where
  obj : ∃ nm q N bs hdct sn sub ab col dd k0 k1 k2 k3 k5, h.get? C = some (excClassObj nm q C N bs bm hdct sn sub ab col dd k0 k1 k2 k3 k5 newId)
  tail : OwnTail h bmB bm
theorem excAt_of {K : PySem.W.Frag} {h : Heap} {C : Addr} {bmB : List Value} {newId : String} (X : K.In h) (e : excAt K C bmB newId = true) : ∃ bm, XCls h C bmB bm newId := by
  unfold excAt at e
  split at e
  · rename_i d1 c1 s1 at1
    split at e
    · rename_i C1 bm j0 j1 j2 j3 n1 j5 m1 z1
      simp only [Bool.and_eq_true, beq_iff_eq, Bool.not_eq_true'] at e
      obtain ⟨⟨⟨rfl, rfl⟩, nd⟩, tl⟩ := e
      obtain ⟨f1, f2, f3, f4, f5, f6, f7, f8, f9, f10, f11⟩ := c1
      dsimp only at m1 nd
      subst m1 nd
      obtain rfl : s1 = #[j0, j1, j2, j3, some (.builtin n1), j5] := by
        obtain ⟨l1⟩ := s1
        simp only at z1
        rw [z1]
      exact ⟨bm, ⟨f1, f5, f4, f2, f6, f7, f8, f9, f10, d1, j0, j1, j2, j3, j5, X _ _ at1⟩, PySem.W.tail_of_in X tl⟩
    · cases e
  · cases e
end L2

/-! ### an exception's own attributes -/
namespace L2
open PySem PySem.Spec PyProof.Rows PySem.Builtin.ObjectAttr
abbrev bmV : List Value := [.type "ValueError", .type "Exception", .type "BaseException", .type "object"]
/-- the classes of the program's own ahead of ValueError -/
def ownV : List Value → Bool
  | .ref _ :: r => ownV r
  | l => l == bmV
def ownVIn (K : PySem.W.Frag) (C : Addr) : Bool := (PySem.W.clsIn K C).any fun cd => ownV cd.mro
/-- what stores an attribute on an exception asks of its class -/
structure XSet (K : PySem.W.Frag) (C : Addr) (f : Str) : Prop where
  sa : PySem.W.findIn K (.ref C) "__setattr__" = some (some (.builtin "object.__setattr__"))
  ov : ownVIn K C = true
  tk : PySem.W.takerIn K C f = some none
  hd : PySem.W.hasDictIn K C = true
section
variable {prog : Program} {w : World} {A : Around} {E : Value → Shared → Prop} {s : Shared} {K : PySem.W.Frag} {C x : Addr} {name : Str} {v : Value} {vs : Array Value}
end
/-- what reads an attribute of an exception asks of its class -/
structure XGet (K : PySem.W.Frag) (C : Addr) (f : Str) : Prop where
  ga : PySem.W.findIn K (.ref C) "__getattribute__" = some (some (.builtin "BaseException.__getattribute__"))
  gt : PySem.W.findIn K (.ref C) "__getattr__" = some none
  ba : PySem.W.mroIn K C (.type "BaseException") = some true
  na : PySem.W.findIn K (.ref C) f = some none
  hd : PySem.W.hasDictIn K C = true
section
variable {prog : Program} {w : World} {A : Around} {E : Value → Shared → Prop} {s : Shared} {K : PySem.W.Frag} {C x dx : Addr} {name : Str} {v : Value} {o : Obj} {mA : Str → Option Value}
end
end L2

/-! ### raise -/
namespace L2
open PySem PySem.Spec PyProof.Rows
/-- nothing is said of a any more -/
def del (H : Hp) (a : Addr) : Hp := fun b => if b = a then none else H b
/-- an exception that its class is just making -/
def XObj (C t a : Addr) (dx : Option Addr) : HO := .ext fun h => h.get? a = some { cls := .ref C, dict := dx, data := .fields #[.ref t, .none, .none, .none, .bool false, .none] }
section
variable {X : Cx} {pins : List (Addr × Obj)} {σ : St} {H : Hp} {s : Shared}
/-- the exception at a, made just now, is raised -/
theorem raise_new {R : RK} {C t a : Addr} {dx : Option Addr} {Q : Flow → Shared → Prop} (hp : PX X R) (I : Inv X pins σ H s) (fp : FpOk X pins H a)
    (he : s.heap.get? a = some { cls := .ref C, dict := dx, data := .fields #[.ref t, .none, .none, .none, .bool false, .none] }) (hR : R σ (.ref C) dx H) : wpAny (model X.prog X.w) X.A (raiseNew (.ref a) : Sem Flow) Q X.xe s := by
  obtain ⟨f0, f1, f2, f3, f4, f5⟩ := id fp
  refine raise_hd (s := s) ?_ he rfl (by simp) fun h' o' vs' k1 k2 k3 k4 k5 k6 k7 k8 => ?_
  · rcases I.hdAt with z | ⟨b, cs, z, c⟩
    · exact .inl z
    · exact .inr ⟨b, cs, z, c.chn I.hok, c.not_mem f0⟩
  · have I' : Inv X pins σ H { s with heap := h' } := I.turned (t' := s.toks) k1 f0 f1 f3 f4 f5
    refine hp pins σ H _ a (.ref C) dx none I' ⟨fp, fun p q => (by cases q), ⟨⟨o', vs', k2, k3, k4, k5, k6, ?_, ?_⟩, fun p q => (by cases q)⟩⟩ hR
    · rcases I.hdAt with z | ⟨b, cs, z, c⟩
      · rw [z] at k8
        exact ⟨[], ⟨List.nodup_nil, fun j a q => by simp at q⟩, k8⟩
      · rw [z] at k8
        exact ⟨b :: cs, c, k8⟩
    · exact k7
end
/-- an exception class that has no __init__ of its own -/
structure XC0 (K : PySem.W.Frag) (C : Addr) : Prop where
  at_ : excAt K C bmV "ValueError.__new__" = true
  kp : PySem.W.keepIn K (.ref C) = true
  init : PySem.W.findIn K (.ref C) "__init__" = some (some (.builtin "ValueError.__init__"))
/-- .. that has one -/
structure XCI (K : PySem.W.Frag) (C f : Addr) : Prop where
  at_ : excAt K C bmV "ValueError.__new__" = true
  kp : PySem.W.keepIn K (.ref C) = true
  init : PySem.W.findIn K (.ref C) "__init__" = some (some (.ref f))
  fn : PySem.W.isFn K (.ref f) = true
def sRaise0 (C : Addr) (R : RK) (t : TA) : TS := fun _ σ H => t σ H fun vs H1 => vs.length ≤ sizeLine ∧ R σ (.ref C) none H1
def sRaiseI (C : Addr) (sp : Sp) (dvs : List V) (R : RK) (t : TA) : TS := fun _ σ H => t σ H fun vs H1 => vs.length ≤ sizeLine ∧ ∀ a t', H1 a = none →
  sp (.ref a :: (vs ++ dvs)) (upd H1 a (XObj C t' a none)) (fun v H2 => v = .non ∧ ∃ dx, H2 a = some (XObj C t' a dx) ∧ R σ (.ref C) dx (del H2 a)) (R σ)
section
variable {X : Cx} {R : RK} {C : Addr} {x : Str} {np cpos pos : Pos} {e : Expr} {es : List Expr} {t : TA}
theorem raise_at {a : List Expr} {s : Shared} {bm : List Value} {Q : Flow → Shared → Prop} (hx : XCls s.heap C bmV bm "ValueError.__new__")
    (h : wpAny (model X.prog X.w) X.A (eval (.Call (.Name x np) a [] cpos) X.env) (fun v s₁ => ∃ b t dx, v = .ref b ∧ (∀ o, s.heap.get? C = some o → s₁.heap.get? C = some o) ∧ s₁.heap.get? b = some { cls := .ref C, dict := dx, data := .fields #[.ref t, .none, .none, .none, .bool false, .none] } ∧ wpAny (model X.prog X.w) X.A (raiseNew (.ref b) : Sem Flow) Q X.xe s₁) X.xe s) :
    wpAny (model X.prog X.w) X.A (exec (.Raise (some (.Call (.Name x np) a [] cpos)) none pos) X.env) Q X.xe s := by
  obtain ⟨⟨nm, q, N, bs, hdct, sn, sub, ab, col, dd, k0, k1, k2, k3, k5, oC⟩, T⟩ := hx
  rw [arm_exec_Raise]
  refine wpAny_bind (wpAny_standAt (raise_made (C := C) (nm := nm) (q := q) (N := N) (bs := bs) (bm := bm) (hdct := hdct) (sn := sn) (sub := sub) (ab := ab) (col := col) (dd := dd) (k0 := k0) (k1 := k1) (k2 := k2) (k3 := k3) (k5 := k5) (newId := "ValueError.__new__") (T.hasType rfl) (wpAny_bind (wpAny_mono h (fun v s1 z => wpAny_bind (wpAny_standAt (wpAny_pure ?_))) fun _ _ y => y))))
  obtain ⟨b, t, dx, z1, z2, z3, z4⟩ := z
  exact ⟨b, t, dx, z1, z2 _ oC, z3, z4⟩
theorem raise0_end {pins : List (Addr × Obj)} {σ : St} {H : Hp} {s0 s : Shared} {us : List Value} {Q : Flow → Shared → Prop} (hp : PX X R) (c : XC0 X.K C) (I : Inv X pins σ H s) (hz : us.length ≤ sizeLine) (hs : ∀ o, s0.heap.get? C = some o → s.heap.get? C = some o) (hR : R σ (.ref C) none H) :
    wpAny (model X.prog X.w) X.A (call (.ref C) us) (fun v s₁ => ∃ b t dx, v = .ref b ∧ (∀ o, s0.heap.get? C = some o → s₁.heap.get? C = some o) ∧ s₁.heap.get? b = some { cls := .ref C, dict := dx, data := .fields #[.ref t, .none, .none, .none, .bool false, .none] } ∧ wpAny (model X.prog X.w) X.A (raiseNew (.ref b) : Sem Flow) Q X.xe s₁) X.xe s := by
  obtain ⟨bm, ⟨nm, q, N, bs, hdct, sn, sub, ab, col, dd, k0, k1, k2, k3, k5, oC⟩, T⟩ := excAt_of I.kIn c.at_
  have I0 := I
  obtain ⟨h, g, d, tk, os⟩ := s
  refine call_exc0 PySem.F.excBase_ValueError T oC (PySem.W.looks_findIn I.kIn c.init) hz fun h' k' e' => ?_
  have I' : Inv X pins σ H ⟨h', g, d, tk, os⟩ := I0.kept (t' := tk) k'
  refine ⟨_, _, none, rfl, fun o q => k' _ _ (hs o q), e', raise_new hp I' ?_ e' hR⟩
  exact I0.fpOk (s := ⟨h, g, d, tk, os⟩) (Nat.le_succ _) (I0.hok.fresh (Nat.le_succ _))
/-- raise C(..), raise C() -/
theorem ps_raise0 (hp : PX X R) (c : XC0 X.K C) (hg : Gl X x) (hm : X.mg x = some (.ref C)) (hdb : (x == ("__debug__" : Str)) = false := by decide) : PS X (.Raise (some (.Call (.Name x np) [] [] cpos)) none pos) (sRaise0 C R tNil) := by
  intro pins s σ H D I h
  obtain ⟨bm, xc⟩ := excAt_of I.kIn c.at_
  refine raise_at xc (wpAny_Call_Name_kw (ld_glob I hg hm ?_ hdb))
  exact PySem.W.callWith_K0 I.kIn c.kp (raise0_end hp c I h.1 (fun _ q => q) h.2)
variable {CX : CXT} {k : Nat} {f : Addr} {fd : FuncData} {ps : List Str} {sp : Sp} {dvs : List V} {ds : List Value}
/-- self.f = e in an exception's __init__ -/
def sFldX (K : PySem.W.Frag) (ta tv : TE) (f : Str) : TS := fun D σ H => tv σ H fun y H1 => ta σ H1 fun x H2 => ∃ a C t, x = .ref a ∧ H2 a = some (XObj C t a none) ∧ XSet K C f ∧
  ∀ dx, H2 dx = none → D.nx σ (upd (upd H2 dx (.xd [(f, y)])) a (XObj C t a (some dx)))
end
end L2

/-! ### isinstance of exceptions -/
namespace L2
open PySem PySem.Spec PyProof.Rows PySem.Builtin.ObjectAttr
/-- what isinstance asks of an exception's class -/
structure XIs (K : PySem.W.Frag) (C : Addr) : Prop where
  ga : PySem.W.findIn K (.ref C) "__getattribute__" = some (some (.builtin "BaseException.__getattribute__"))
  gt : PySem.W.findIn K (.ref C) "__getattr__" = some none
  ba : PySem.W.mroIn K C (.type "BaseException") = some true
  ob : PySem.W.mroIn K C (.type "object") = some true
  cl : PySem.W.findIn K (.ref C) "__class__" = some (some (.builtin "object.__class__"))
  gs : PySem.W.specialIn K (.builtin "object.__class__") "__get__" = some (some (.builtin "getset_descriptor.__get__"))
  tk : PySem.W.takesIn K (.builtin "object.__class__") = some true
  hd : PySem.W.hasDictIn K C = true
section
variable {prog : Program} {w : World} {A : Around} {E : Value → Shared → Prop} {s : Shared} {K : PySem.W.Frag} {C x : Addr} {ox : Obj} {od : Option Obj}
end
/-- an exception that is held by a name: frozen -/
structure IsX (H : Hp) (a C : Addr) (dd : Option Addr) : Prop where
  at_ : ∃ o u, H a = some (.frz o u) ∧ o.cls = .ref C ∧ o.dict = dd ∧ ∃ vs, o.data = .fields vs
section
variable {X : Cx}
/-- the exception's dict stands, if it has one -/
def XDs (H : Hp) : Option Addr → Prop
  | none => True
  | some dx => ∃ fs, H dx = some (.xd fs)
/-- e.f of an exception -/
def tFldX (K : PySem.W.Frag) (ta : TE) (f : Str) : TE := fun σ H Q => ta σ H fun x H1 => ∃ a C dx fs v, x = .ref a ∧ IsX H1 a C (some dx) ∧ H1 dx = some (.xd fs) ∧ XGet K C f ∧ fs.lookup f = some v ∧ Q v H1
end
end L2

/-! ### try .. except -/
namespace L2
open PySem PySem.Spec PyProof.Rows
/-- the body of a try; the suite of an except -/
abbrev Cx.tr (X : Cx) (pn : List (Addr × Obj)) (E : Value → Shared → Prop) : Cx := { X with pn := pn, xe := E }
abbrev Cx.hnd (X : Cx) (a : Addr) (H₀ : Hp) : Cx := { X with A := X.A.mark (some (.ref a)), H₀ := H₀, xe := fun _ _ => False }
/-- what is frozen in H, else what H₀ has -/
def frzO (H H₀ : Hp) : Hp := fun b => match H b with | some (.frz o u) => some (.frz o u) | _ => H₀ b
section
variable {X : Cx} {pins : List (Addr × Obj)} {σ : St} {H : Hp} {s : Shared} {a : Addr} {c : Value} {dd : Option Addr} {tb : Option (Addr × Value)}
end
/-- the handlers' readings: the class, the name's slot, the suite -/
abbrev Hd1 := Addr × Option Nat × TS
def Ends.as (D : Ends) (i : Nat) : Ends := ⟨fun σ H => D.nx (σ.set i none) H, D.rt, fun σ H => D.bk (σ.set i none) H, fun σ H => D.ct (σ.set i none) H⟩
def tHand (K : PySem.W.Frag) : List Hd1 → Ends → RK
  | [], _, _, _, _, _ => False
  | (D, i, t) :: r, En, σ, c, dd, H => ∃ C b, c = .ref C ∧ PySem.W.mroIn K C (.ref D) = some b ∧ if b = true then ∀ a o, H a = none → o.cls = c → o.dict = dd → (∃ vs, o.data = .fields vs) →
      (match i with | none => t En σ (upd H a (.frz o (.own a))) | some i => t (En.as i) (σ.set i (some (.ref a))) (upd H a (.frz o (.own a)))) else tHand K r En σ c dd H
/-- the handlers -/
inductive PHs (X : Cx) : List ExceptHandler → List Hd1 → Prop where
  | nil : PHs X [] []
  | one {x : Str} {np pos : Pos} {b₀ : Stmt} {su : List Stmt} {D : Addr} {t : TS} {hs : List ExceptHandler} {ts : List Hd1} (hg : Gl X x) (hm : X.mg x = some (.ref D)) (hB : PySem.W.mroIn X.K D (.type "BaseException") = some true) (hT : PySem.W.typeIn X.K (.ref D) = some (.type "type"))
      (hdb : (x == ("__debug__" : Str)) = false) (hb : ∀ a H₀, PSs (X.hnd a H₀) (b₀ :: su) t) (r : PHs X hs ts) : PHs X (.ExceptHandler (some (.Name x np)) none (b₀ :: su) pos :: hs) ((D, none, t) :: ts)
  | as_ {x n : Str} {i : Nat} {np pos : Pos} {b₀ : Stmt} {su : List Stmt} {D : Addr} {t : TS} {hs : List ExceptHandler} {ts : List Hd1} (hg : Gl X x) (hm : X.mg x = some (.ref D)) (hB : PySem.W.mroIn X.K D (.type "BaseException") = some true) (hT : PySem.W.typeIn X.K (.ref D) = some (.type "type"))
      (hdb : (x == ("__debug__" : Str)) = false) (hN : X.N.Nodup) (hi : X.N[i]? = some n) (hk : X.env.kindOf n = some .local) (hb : ∀ a H₀, PSs (X.hnd a H₀) (b₀ :: su) t) (r : PHs X hs ts) : PHs X (.ExceptHandler (some (.Name x np)) (some n) (b₀ :: su) pos :: hs) ((D, some i, t) :: ts)
section
variable {X : Cx}
/-- try .. except .. else -/
def tTry (K : PySem.W.Frag) (ts : List Hd1) (tb : RK → TS) (te : TS) : TS := fun D σ H => tb (tHand K ts D) { D with nx := fun σ H => te D σ H } σ H
end
end L2

/-! ### defs, methods, classes of the text as their callers see them -/
namespace L2
open PySem PySem.Spec PyProof.Rows
/-- a def of the text, with what stands for its defaults -/
structure FunD (K : PySem.W.Frag) (x qual : Str) (st : Stmt) (f : Addr) (fd : FuncData) : Prop where
  ex : ∃ (oc : Value) (od : Option Addr) (dV kV doc pm : Value) (an : Option Addr) (cdv ct : Value) (osl : Array (Option Value)),
    fd = PySem.W.fnOf x qual (defArgs st) (defBody st) (defScope st) dV kV doc pm an cdv ct ∧ K.lookup f = some ⟨oc, od, .func fd, osl⟩ ∧ PySem.W.codeIn K cdv qual = true
theorem funD_mk {K : PySem.W.Frag} {x qual : Str} {st : Stmt} {f : Addr} {oc : Value} {od an : Option Addr} {osl : Array (Option Value)} {dV kV doc pm cdv ct : Value} (l : K.lookup f = some ⟨oc, od, .func (PySem.W.fnOf x qual (defArgs st) (defBody st) (defScope st) dV kV doc pm an cdv ct), osl⟩)
    (c : PySem.W.codeIn K cdv qual = true) : FunD K x qual st f (PySem.W.fnOf x qual (defArgs st) (defBody st) (defScope st) dV kV doc pm an cdv ct) := ⟨⟨oc, od, dV, kV, doc, pm, an, cdv, ct, osl, rfl, l, c⟩⟩
section
variable {P : Program} {w : World} {K : PySem.W.Frag} {mg : Str → Option Value} {base : Heap}
/-- a def that lets no exception out -/
theorem FunD.ok {x qual : Str} {st : Stmt} {f : Addr} {fd : FuncData} {N ps : List Str} {k : Nat} {sp : Sp} (F : FunD K x qual st f fd) (S : FnScope N ps (defScope st)) (len : ∀ vs H Q E, sp vs H Q E → vs.length = ps.length)
    (hbody : ∀ (cdv : Value) (A : Around) (outer : List Env) (s : Shared) (H : Hp) (vs : List V) (Q : VK) (E : XK), Room k (A.deeper (envOfC qual (defScope st) s.heap.objs.size f cdv)) → sp vs H Q E →
      ∃ t, PSs (cxOf CX0 P w K mg base N qual (defScope st) f cdv A outer s H E).nox (defBody st) t ∧ t { nx := fun _ H' => Q .non H', rt := Q } (start N vs) H) : FnOk P w K mg base CX0 (k + 1) f fd ps sp := by
  obtain ⟨oc, od, dV, kV, doc, pm, an, cdv, ct, osl, rfl, lk, hcd⟩ := F.ex
  refine fn_of lk hcd S len fun A outer s H vs Q E hr hsp => ?_
  obtain ⟨t, h, q⟩ := hbody cdv A outer s H vs Q E hr hsp
  exact ⟨t, h.nox, q⟩
/-- a def that may raise -/
theorem FunD.okX {x qual : Str} {st : Stmt} {f : Addr} {fd : FuncData} {N ps : List Str} {k : Nat} {sp : Sp} (F : FunD K x qual st f fd) (S : FnScope N ps (defScope st)) (len : ∀ vs H Q E, sp vs H Q E → vs.length = ps.length)
    (hbody : ∀ (cdv : Value) (A : Around) (outer : List Env) (s : Shared) (H : Hp) (vs : List V) (Q : VK) (E : XK), Room k (A.deeper (envOfC qual (defScope st) s.heap.objs.size f cdv)) → sp vs H Q E →
      ∃ t, PSs (cxOf (CXe P w) P w K mg base N qual (defScope st) f cdv A outer s H E) (defBody st) t ∧ t { nx := fun _ H' => Q .non H', rt := Q } (start N vs) H) : FnOk P w K mg base (CXe P w) (k + 1) f fd ps sp := by
  obtain ⟨oc, od, dV, kV, doc, pm, an, cdv, ct, osl, rfl, lk, hcd⟩ := F.ex
  exact fn_of lk hcd S len fun A outer s H vs Q E hr hsp => hbody cdv A outer s H vs Q E hr hsp
end
/-- a def at the text's top: dvs the defaults that a call leaves to be filled in -/
structure Def (K : PySem.W.Frag) (mg : Str → Option Value) (x : Str) (st : Stmt) (ps : List Str) (dvs : List V) : Prop where
  ex : ∃ f fd ds, FunD K x x st f fd ∧ mg x = some (.ref f) ∧ PySem.W.keepIn K (.ref f) = true ∧ Binds K fd ps ds ∧ Vals dvs ds
/-- a method -/
structure Met (K : PySem.W.Frag) (C : Addr) (m qual : Str) (st : Stmt) (ps : List Str) (dvs : List V) : Prop where
  ex : ∃ f fd ds, FunD K m qual st f fd ∧ Meth K C m f ∧ Binds K fd ps ds ∧ Vals dvs ds
/-- a class that is made by its own __init__ -/
structure Ini (K : PySem.W.Frag) (mg : Str → Option Value) (C : Addr) (x qual : Str) (st : Stmt) (ps : List Str) : Prop where
  ex : ∃ f fd, FunD K "__init__" qual st f fd ∧ Mk K C f ∧ mg x = some (.ref C) ∧ Binds K fd ps []
/-- an exception class with its own __init__ -/
structure XIni (K : PySem.W.Frag) (mg : Str → Option Value) (C : Addr) (x qual : Str) (st : Stmt) (ps : List Str) : Prop where
  ex : ∃ f fd, FunD K "__init__" qual st f fd ∧ XCI K C f ∧ mg x = some (.ref C) ∧ Binds K fd ps []
/-- .. with a promise -/
structure Cal (P : Program) (w : World) (K : PySem.W.Frag) (mg : Str → Option Value) (base : Heap) (CX : CXT) (k : Nat) (x : Str) (ps : List Str) (dvs : List V) (sp : Sp) : Prop where
  ex : ∃ f fd ds, FnOk P w K mg base CX k f fd ps sp ∧ mg x = some (.ref f) ∧ PySem.W.keepIn K (.ref f) = true ∧ Binds K fd ps ds ∧ Vals dvs ds
structure CalM (P : Program) (w : World) (K : PySem.W.Frag) (mg : Str → Option Value) (base : Heap) (CX : CXT) (k : Nat) (C : Addr) (m : Str) (ps : List Str) (dvs : List V) (sp : Sp) : Prop where
  ex : ∃ f fd ds, FnOk P w K mg base CX k f fd ps sp ∧ Meth K C m f ∧ Binds K fd ps ds ∧ Vals dvs ds
structure CalI (P : Program) (w : World) (K : PySem.W.Frag) (mg : Str → Option Value) (base : Heap) (CX : CXT) (k : Nat) (C : Addr) (x : Str) (ps : List Str) (sp : Sp) : Prop where
  ex : ∃ f fd, FnOk P w K mg base CX k f fd ps sp ∧ Mk K C f ∧ mg x = some (.ref C) ∧ Binds K fd ps []
structure CalXI (P : Program) (w : World) (K : PySem.W.Frag) (mg : Str → Option Value) (base : Heap) (CX : CXT) (k : Nat) (C : Addr) (x : Str) (ps : List Str) (sp : Sp) : Prop where
  ex : ∃ f fd, FnOk P w K mg base CX k f fd ps sp ∧ XCI K C f ∧ mg x = some (.ref C) ∧ Binds K fd ps []
section
variable {P : Program} {w : World} {K : PySem.W.Frag} {mg : Str → Option Value} {base : Heap} {CX : CXT} {k : Nat} {C : Addr} {x m qual : Str} {st : Stmt} {ps : List Str} {dvs : List V} {sp : Sp}
theorem Def.cal (D : Def K mg x st ps dvs) (h : ∀ f fd, FunD K x x st f fd → FnOk P w K mg base CX k f fd ps sp) : Cal P w K mg base CX k x ps dvs sp :=
  let ⟨f, fd, ds, F, r⟩ := D.ex; ⟨f, fd, ds, h f fd F, r⟩
end
/-- calls whose exceptions are wanted by R, by the names' values -/
def tCallR (sp : Sp) (dvs : List V) (R : RK) (t : TA) : TE := fun σ H Q => t σ H fun vs H1 => sp (vs ++ dvs) H1 Q (R σ)
def tMethR (C : Addr) (m : Str) (sp : Sp) (dvs : List V) (R : RK) (ta : TE) (t : TA) : TE := fun σ H Q => ta σ H fun x H1 => ∃ a dx fs, x = .ref a ∧ H1 a = some (.ins C dx fs) ∧ fs.lookup m = none ∧
  t σ H1 fun vs H2 => sp (x :: (vs ++ dvs)) H2 Q (R σ)
section
variable {X : Cx} {CX : CXT} {k : Nat} {C : Addr} {ps : List Str} {sp : Sp} {dvs : List V} {R : RK} {x m : Str} {p pos apos : Pos} {e o : Expr} {es : List Expr} {ta : TE} {t : TA}
/-- where no exception may be -/
theorem px_never : PX X (fun _ _ _ _ => False) := fun _ _ _ _ _ _ _ _ _ _ h => h.elim
/-- the callee runs; it may raise -/
theorem run_fnR {f : Addr} {fd : FuncData} {ds : List Value} {pins : List (Addr × Obj)} {σ : St} {H : Hp} {s : Shared} {Q : VK} {us : List Value} {vs : List V} (F : FnOk X.prog X.w X.K X.mg X.base (CXe X.prog X.w) k f fd ps sp) (hp : PX X R) (hr : Room k X.A)
    (hb : Binds X.K fd ps ds) (hd : Vals dvs ds) (I : Inv X pins σ H s) (r : Vals vs us) (h : sp (vs ++ dvs) H Q (R σ)) : wpAny (model X.prog X.w) X.A (call (.ref f) us) (EP X pins σ Q) X.xe s := by
  have r2 : Vals (vs ++ dvs) (us ++ ds) := r.append hd
  have hl : (us ++ ds).length = ps.length := by rw [← r2.length]; exact F.len _ _ _ _ h
  refine wpAny_call (codeAny_mono (F.run X.A X.stack s H ⟨us, []⟩ (us ++ ds) (vs ++ dvs) Q (R σ) hr I.env0 (hb s us I.kIn hl) r2 h) fun r s' hq => ?_)
  cases r with
  | error e => exact px_call hp pins σ H s e s' I hq
  | ok fl => cases fl <;> first | exact I.after hq | exact False.elim hq
/-- f(e, ..), f lets no exception out -/
theorem pe_cal (c : Cal X.prog X.w X.K X.mg X.base CX0 k x ps dvs sp) (hr : Room k X.A) (hg : Gl X x) (ha : PA X (e :: es) t) (hdb : (x == ("__debug__" : Str)) = false := by decide)
    (he : starEach (e :: es) X.env = (false, eval e X.env) :: starEach es X.env := by rfl) (hpl : (backTo pos (starEach es X.env)).any (·.1) = false := by rfl) : PE X (.Call (.Name x p) (e :: es) [] pos) (tCall sp dvs E0 t) := by
  obtain ⟨f, fd, ds, F, hm, hk, hb, hd⟩ := c.ex
  exact pe_call F hr hg hm hk hb hd pass0 ha hdb he hpl
/-- f(e, ..), f may raise -/
theorem pe_calX (c : Cal X.prog X.w X.K X.mg X.base (CXe X.prog X.w) k x ps dvs sp) (hp : PX X R) (hr : Room k X.A) (hg : Gl X x) (ha : PA X (e :: es) t) (hdb : (x == ("__debug__" : Str)) = false := by decide)
    (he : starEach (e :: es) X.env = (false, eval e X.env) :: starEach es X.env := by rfl) (hpl : (backTo pos (starEach es X.env)).any (·.1) = false := by rfl) : PE X (.Call (.Name x p) (e :: es) [] pos) (tCallR sp dvs R t) := by
  obtain ⟨f, fd, ds, F, hm, hk, hb, hd⟩ := c.ex
  intro pins s σ H Q I h
  refine wpAny_Call_Name_kw (ld_glob I hg hm ?_ hdb)
  refine PySem.W.callWith_K (h₀ := X.base) I.ok.mod.kin hk (thn (ha pos pins s σ H _ I h) fun us s1 => L2.ex5 fun vs H1 I1 r q => ⟨I1.kIn, ?_⟩) he hpl
  exact run_fnR F hp hr hb hd I1 r q
/-- a number, a text of the text's top -/
theorem pe_gInt {i : Int} (hg : Gl X x) (hm : ∃ t, X.mg x = some (.int i t)) (hd : (x == ("__debug__" : Str)) = false := by decide) : PE X (.Name x pos) (tC (.int i)) := let ⟨t, h⟩ := hm; pe_glob hg h ⟨t, rfl⟩ hd
end
end L2

/-! ### walks while an exception is handled: the chain of contexts is one of the things that stay -/
namespace L2
open PySem PySem.Spec PyProof.Rows
def HdC (A : Around) (cs : List Addr) : Prop := (A.handled = none ∧ cs = []) ∨ ∃ a r, cs = a :: r ∧ A.handled = some (.ref a)
theorem Hd.chain {A : Around} {h : Heap} (x : Hd A h) : ∃ cs, HdC A cs ∧ Chn h cs := by
  rcases x with e | ⟨a, cs, e, c⟩
  · exact ⟨[], .inl ⟨e, rfl⟩, List.nodup_nil, fun j a z => by simp at z⟩
  · exact ⟨a :: cs, .inr ⟨a, cs, rfl, e⟩, c⟩
theorem HdC.hd {A : Around} {h : Heap} {cs : List Addr} (x : HdC A cs) (c : Chn h cs) : Hd A h := by
  rcases x with ⟨e, rfl⟩ | ⟨a, r, rfl, e⟩
  · exact .inl e
  · exact .inr ⟨a, r, e, c⟩
theorem Chn.but {h h' : Heap} {cs : List Addr} {it : Addr} (c : Chn h cs) (hI : it ∉ cs) (k : ∀ b o, b ≠ it → h.get? b = some o → h'.get? b = some o) : Chn h' cs :=
  c.mono fun b o hb e => k b o (fun z => hI (z ▸ hb)) e
section
variable {prog : Program} {w : World} {A : Around} {E : Value → Shared → Prop} {s : Shared} {cs : List Addr}
theorem walks_list (hc : HdC A cs) (I ax : Addr) (hne : ax ≠ I) (hI : I ∉ cs) (items : Array Value) :
    Walks prog w A I (I :: ax :: cs) [I] items.size (fun i v => items[i]? = some v) (fun i h => h.IsListIter I ax i ∧ h.IsList ax items ∧ Chn h cs) where
  sub := fun b hb => by simp at hb; simp [hb]
  frame := fun _ _ _ st hk => ⟨st.1.at fun o e => hk I (by simp) o e, st.2.1.at fun o e => hk ax (by simp) o e, st.2.2.mono fun b o hb e => hk b (by simp [hb]) o e⟩
  item := fun i s Q E hi st hQ => by
    refine wpAny_pyNext_list_item st.1 st.2.1 (x := items[i]) (by simp [hi]) fun h' hit' hs' => ?_
    exact hQ _ h' s.toks (by simp [hi]) ⟨hit', st.2.1.extBut hs'.extBut hne, st.2.2.but hI hs'.extBut⟩ fun b o hb e => hs'.extBut b o (fun h => hb (by simp [h])) e
  done := fun s Q E st hQ => list_endH (hc.hd st.2.2) st.1 st.2.1 (by simp) fun h' he' => hQ h' s.toks fun b o hb e => he' b o (fun h => hb (by simp [h])) e
  self := fun _ _ _ _ st hQ => wpAny_pyIter_listiter st.1 hQ

/-- an iterator over a text, at the i-th sign -/
def StrIt (h : Heap) (I : Addr) (x : Str) (t : Tok) (i : Nat) : Prop := h.IsStrIter I "str_ascii_iterator" x t i ∨ h.IsStrIter I "str_iterator" x t i
/-- zip of two lists: its end -/
theorem next_endH {it l : Addr} {i : Nat} {items} {Q : Value → Shared → Prop} (hd : Hd A s.heap) (hit : s.heap.IsListIter it l i) (hl : s.heap.IsList l items) (hx : items[i]? = none)
    (hE : ∀ h' e, Heap.ExtBut it s.heap h' → (∃ o, h'.get? e = some o ∧ o.cls = .type "StopIteration") → E (.ref e) { s with heap := h' }) : wpAny (model prog w) A (Builtin.SmallTypes.nextOf (.ref it)) Q E s := by
  obtain ⟨o, ho, hc, hdat⟩ := id hit
  obtain ⟨ol, hol, _, nl, hdl⟩ := hl
  unfold Builtin.SmallTypes.nextOf
  refine wpAny_bind (wpAny_callSpecial?_slot (name := Str.ofString "__next__") hit.typeIs slot_listiter_next (wpAny_call_entry slot_listiter_next hit.typeIs entry_listiter_next ?_ (args_listiter_next _)))
  refine (show wpAny _ _ (field (.ref it) 0 >>= _) _ _ s from wpAny_bind (wpAny_field ho hdat (x := .ref l) rfl ?_))
  refine (show wpAny _ _ (if (Value.ref l == Value.none) = true then _ else _) _ _ s from ?_)
  rw [if_neg (show ¬ ((Value.ref l == Value.none) = true) from Bool.false_ne_true)]
  refine (show wpAny _ _ (field (.ref it) 1 >>= _) _ _ s from wpAny_bind (wpAny_field ho hdat (x := .int i 0) rfl ?_))
  refine (show wpAny _ _ (seqItems? (.ref l) >>= _) _ _ s from wpAny_bind (wpAny_seqItems hol hdl ?_))
  simp only [Int.toNat_natCast, hx]
  refine wpAny_bind (wpAny_rule (wpAny_bind (wpAny_setField ho hdat (by simp) ?_)))
  refine stop_hd (A := A.in1) (hd.but ho (fun vs q => .inl (by rw [hdat] at q; cases q; simp)) (Heap.SameBut.update ..).extBut) fun h' e k' x => hE h' e (fun b q hb hq => k' b q ((Heap.SameBut.update ..).extBut b q hb hq)) x
section
variable {κ : Type} [DecidableEq κ] {knd : KeyKind prog w κ}
end
end
end L2

/-! ### walking texts, two lists at once, a dict's pairs; all, any, list(d), slices of texts -/
namespace L2
open PySem PySem.Spec PyProof.Rows
/-- the signs of a text -/
def Its (x : Str) : It := ⟨fun i _ => i < x.cps.size, fun i H v H' => H' = H ∧ ∃ c, x.cps[i]? = some c ∧ v = .str ⟨#[c]⟩, fun i _ => x.cps.size ≤ i⟩
def iStr (tl : TE) : TI := fun σ H R => tl σ H fun x H1 => ∃ z, x = .str z ∧ R (Its z) H1
section
variable {X : Cx} {tg : Expr}
end
section
variable {g : TG} {tt : TT} {te : TE}
end
/-! zip of two lists -/
def Itz (K : PySem.W.Frag) (l1 l2 : Addr) : It :=
  ⟨fun i H => ∃ xs ys x y, SqL K H l1 xs ∧ SqL K H l2 ys ∧ xs[i]? = some x ∧ ys[i]? = some y,
   fun i H v H' => ∃ T x y, v = .ref T ∧ H T = none ∧ H' = upd H T (.tup [x, y]) ∧ (∀ xs, SqL K H l1 xs → xs[i]? = some x) ∧ ∀ ys, SqL K H l2 ys → ys[i]? = some y,
   fun i H => ∃ xs ys, SqL K H l1 xs ∧ SqL K H l2 ys ∧ (xs.length ≤ i ∨ ys.length ≤ i)⟩
def ZipIt (h : Heap) (z TI TO i1 i2 l1 l2 : Addr) (i : Nat) : Prop := IsZip h z TI TO .none ∧ IsPair h TI (.ref i1) (.ref i2) ∧ (∃ a b, IsPair h TO a b) ∧ h.IsListIter i1 l1 i ∧ h.IsListIter i2 l2 i
def iZip (K : PySem.W.Frag) (ta : TA) : TI := fun σ H R => ta σ H fun vs H1 => ∃ l1 l2, vs = [.ref l1, .ref l2] ∧ (∃ xs, SqL K H1 l1 xs) ∧ (∃ ys, SqL K H1 l2 ys) ∧ R (Itz K l1 l2) H1
section
variable {X : Cx}
/-! freezing a dict, and letting it go -/
/-- an expression that freezes the dict at d meanwhile -/
def tThaw (t : TE) : TE := fun σ H Q => ∃ d kvs, H d = some (.dK kvs) ∧ t σ H fun v H1 => ∃ o, H1 d = some (.frz o (.dK kvs)) ∧ Q v (upd H1 d (.dK kvs))
/-! a dict's pairs -/
/-- the view d.items() -/
def ViewO (v d : Addr) : HO := .ext fun h => h.IsItemsView v d
def rItems : V → List V → Hp → VK → Prop := fun x vs H Q => ∃ d kvs, x = .ref d ∧ vs = [] ∧ H d = some (.dK kvs) ∧ ∀ v, H v = none → Q (.ref v) (upd H v (ViewO v d))
end
def Iti (d : Addr) (o : Obj) (kvs : List (Key × V)) : It :=
  ⟨fun i H => H d = some (.frz o (.dK kvs)) ∧ i < kvs.length, fun i H v H' => ∃ T k x, v = .ref T ∧ H T = none ∧ kvs[i]? = some (k, x) ∧ H' = upd H T (.tup [kV k, x]), fun i H => H d = some (.frz o (.dK kvs)) ∧ kvs.length ≤ i⟩
def ItemIt (h : Heap) (it d : Addr) (o : Obj) (n i : Nat) : Prop := ∃ es ep ok ov, o.data = .dict es ep ∧ IsItemIter h it d i n ep ok ov
def iView (tl : TE) : TI := fun σ H R => tl σ H fun x H1 => ∃ v d kvs, x = .ref v ∧ H1 v = some (ViewO v d) ∧ H1 d = some (.dK kvs) ∧ ∀ o, R (Iti d o kvs) (upd H1 d (.frz o (.dK kvs)))
section
variable {X : Cx}
end
end L2
namespace L2
open PySem PySem.Spec PyProof.Rows
section
variable {g : TG} {tt : TT} {te : TE}
end
end L2

/-! ### all, any, list(d), slices of texts, names of Python's own -/
namespace L2
open PySem PySem.Spec PyProof.Rows
theorem bt_str : bootBuiltins "str" = some (.type "str") := by decide +kernel
theorem bt_list : bootBuiltins "list" = some (.type "list") := by decide +kernel
theorem bt_len : bootBuiltins "len" = some (.builtin "len") := by decide +kernel
theorem bt_min : bootBuiltins "min" = some (.builtin "min") := by decide +kernel
theorem bt_sorted : bootBuiltins "sorted" = some (.builtin "sorted") := by decide +kernel
theorem bt_sum : bootBuiltins "sum" = some (.builtin "sum") := by decide +kernel
section
variable {X : Cx}
end
end L2

/-! ### rules for a block's own context: what hangs on the text stands by its name -/
namespace L2
open PySem PySem.Spec PyProof.Rows
section
variable {X : Cx} {K : PySem.W.Frag} (hK : X.K = K)
include hK
theorem ixK_tup : IxR X (rIxT K) := hK ▸ ix_tup
theorem pgK_tup {es : List Expr} {k : Nat} {pos : Pos} {t : TGs} {n : Nat} (hc : X.calm = true) (h : PGs X es t) (hn : (assignEach es X.env).length = n := by rfl) (hst : (assignEach es X.env).findIdx? (·.1) = none := by rfl) : PG X (.Tuple es k pos) (gTup K n t) := hK ▸ pg_tup hc h hn hst
def rLenSeq (K : PySem.W.Frag) : List V → Hp → VK → Prop := fun xs H Q => ∃ p ys, xs = [.ref p] ∧ (SqL K H p ys ∨ SqT K H p ys) ∧ Q (.int ys.length) H
def rIsi (K : PySem.W.Frag) : List V → Hp → VK → Prop := fun xs H Q => ∃ x c k t b, xs = [x, c] ∧ clsOf c = some k ∧ TyOf K H x t ∧ PySem.W.kitOne K t k = some b ∧ Q (.bl b) H
def rListOf (K : PySem.W.Frag) : List V → Hp → VK → Prop := fun xs H Q => ∃ p ys, xs = [.ref p] ∧ (SqL K H p ys ∨ SqT K H p ys) ∧ ∀ l, H l = none → Q (.ref l) (upd H l (.lst ys))
theorem peK_bm {o e : Expr} {es : List Expr} {to : TE} {t : TA} {name : Str} {apos cpos : Pos} {T id : String} {r : V → List V → Hp → VK → Prop} (pa : PlainAttrs T) (slot : Slot T name id) (hty : typeOf (.builtin id) = pure (.type "method_descriptor")) (hm : MtR X id r) (ho : PE X o to) (ha : PA X (e :: es) t)
    (hbase : attributeBase o name X.env (eval o X.env) = eval o X.env := by rfl)
    (hfew : ((backTo cpos (starEach (e :: es) X.env)).all (fun x => !x.1) && (backToKw cpos (keywordEach [] X.env)).all (fun x => x.1.isSome) && decide ((e :: es).length + ([] : List Keyword).length + (if ([] : List Keyword).isEmpty then 0 else 1) < 30)) = true := by rfl)
    (hline : (apos.endLine == cpos.line) = true := by rfl) (hs : starEach (e :: es) X.env = (false, eval e X.env) :: starEach es X.env := by rfl) (hplain : (backTo cpos (starEach es X.env)).any (·.1) = false := by rfl) :
    PE X (.Call (.Attribute o name apos) (e :: es) [] cpos) (tBM K T r to t) := hK ▸ pe_bm pa slot hty hm ho ha hbase hfew hline hs hplain
end
end L2

/-! ### min of two, sorted of a dict of ints, index of True; all while an exception may be handled -/
namespace L2
open PySem PySem.Spec PyProof.Rows
section
variable {prog : Program} {w : World} {A : Around} {E : Value → Shared → Prop} {s : Shared} {cs : List Addr}
section
variable {κ : Type} [DecidableEq κ] {knd : KeyKind prog w κ}
end
end
section
variable {X : Cx}
def rIndexT (K : PySem.W.Frag) : V → List V → Hp → VK → Prop := fun x vs H Q => ∃ l, ∃ bs : List Bool, ∃ j : Nat, x = .ref l ∧ vs = [.bl true] ∧ H l = some (.lst (bs.map V.bl)) ∧ bs[j]? = some true ∧ (∀ i, i < j → bs[i]? = some false) ∧ Q (.int (j : Int)) H
end
end L2

/-! ### max of two, sum of a list of ints, is of truths; all while an exception may be handled -/
namespace L2
open PySem PySem.Spec PyProof.Rows
section
variable {prog : Program} {w : World} {A : Around} {E : Value → Shared → Prop} {s : Shared} {cs : List Addr}
end
section
variable {X : Cx}
theorem ints_get {ns : List Int} {us : List Value} (r : Vals (ns.map V.int) us) {i : Nat} {v : Value} (h : us[i]? = some v) : ∃ t, v = .int (ns.getD i 0) t := by
  induction ns generalizing us i with
  | nil =>
    cases r
    simp at h
  | cons n ns ih =>
    cases r with
    | cons rv rr =>
      cases i with
      | zero =>
        obtain ⟨t, rfl⟩ := rv
        simp at h
        exact ⟨t, h.symm⟩
      | succ i => exact ih rr (by simpa using h)
theorem preSum_nil (f : Nat → Int) (ns : List Int) (h : ∀ i, f i = ns.getD i 0) : preSum f ns.length = ns.sum := by
  have e : f = fun i => ns.getD i 0 := funext h
  rw [e, preSum_getD, List.take_length]
theorem call_sum : CallR X (.builtin "sum") (fun xs H Q => ∃ p, ∃ ns : List Int, xs = [.ref p] ∧ SqL X.K H p (ns.map V.int) ∧ Q (.int ns.sum) H) := by
  intro pins s σ H xs us Q I r h
  obtain ⟨p, ns, rfl, hq, q⟩ := h
  obtain ⟨u, rfl, ru⟩ := vals1 r
  obtain rfl : u = Value.ref p := ru
  obtain ⟨its, rv, pl, _⟩ := I.list hq
  obtain ⟨cs, hcs, ch⟩ := I.hd.chain
  have hlt : p < s.heap.objs.size := by obtain ⟨o, e, _⟩ := pl.isList; exact Heap.lt_size e
  have hnc : s.heap.objs.size ∉ cs := fun z => Nat.lt_irrefl _ (ch.lt _ z)
  have hlen : its.length = ns.length := by rw [← rv.length, List.length_map]
  refine call_sum_walkG (wpAny_pyIter_list pl.isList ⟨s.heap.objs.size, _, _, _, _, _, fun i => ns.getD i 0, rfl, walks_list (A := X.A.in1) hcs s.heap.objs.size p (Nat.ne_of_lt hlt) hnc its.toArray, ⟨⟨_, Heap.get?_push_size _ rfl, rfl, rfl⟩, pl.isList.push _, ch.mono fun b o _ e => Heap.get?_push_of_some _ e⟩, ?_, ?_, fun h' tk t' hk => ?_⟩)
  · intro b hb
    show b < (s.heap.push _).objs.size
    rw [Heap.size_push]
    rcases List.mem_cons.mp hb with rfl | hb
    · exact Nat.lt_succ_self _
    · rcases List.mem_cons.mp hb with rfl | hb
      · exact Nat.lt_succ_of_lt hlt
      · exact Nat.lt_succ_of_lt (ch.lt _ hb)
  · intro i v hv
    exact ints_get rv (by simpa using hv)
  · have e : preSum (fun i => ns.getD i 0) its.toArray.size = ns.sum := by rw [List.size_toArray, hlen]; exact preSum_nil _ _ fun _ => rfl
    rw [e]
    exact ⟨.int _, H, I.kept fun b o e => hk b o (fun z => by
      have : b = s.heap.objs.size := by simpa using z
      exact absurd (Heap.lt_size e) (by rw [this]; exact Nat.lt_irrefl _)) (Heap.get?_push_of_some _ e), ⟨_, rfl⟩, q⟩
end
end L2

/-! ### lists, tuples and data on the heap, for every law -/
namespace L2
open PySem
/-! lists of a length -/
theorem len1 {P : List Value → Prop} (h : ∀ a0, P [a0]) : ∀ us : List Value, us.length = 1 → P us
  | [a0], _ => h a0
theorem len2 {P : List Value → Prop} (h : ∀ a0 a1, P [a0, a1]) : ∀ us : List Value, us.length = 2 → P us
  | [a0, a1], _ => h a0 a1
theorem len3 {P : List Value → Prop} (h : ∀ a0 a1 a2, P [a0, a1, a2]) : ∀ us : List Value, us.length = 3 → P us
  | [a0, a1, a2], _ => h a0 a1 a2
theorem len4 {P : List Value → Prop} (h : ∀ a0 a1 a2 a3, P [a0, a1, a2, a3]) : ∀ us : List Value, us.length = 4 → P us
  | [a0, a1, a2, a3], _ => h a0 a1 a2 a3
theorem iteOr {A B : Prop} {b : Bool} (hb : b = false) (h : B) : if b = true then A else B := by
  subst hb
  exact iteF h
theorem iteB {A B : Prop} {b : Bool} (h1 : b = true → A) (h2 : b = false → B) : if b = true then A else B := by
  cases b with
  | true => exact iteT (h1 rfl)
  | false => exact iteF (h2 rfl)
/-- tuples are kept -/
def isTup : HO → Bool
  | .tup _ => true
  | .frz _ (.tup _) => true
  | _ => false
def Tk (H H' : Hp) : Prop := ∀ b o, H b = some o → isTup o = true → H' b = some o
theorem Tk.upd {H : Hp} {c : Addr} {u o : HO} (h : H c = some u) (n : isTup u = false) : Tk H (L2.upd H c o) := fun b w e z => by
  have : b ≠ c := fun q => by subst q; rw [h] at e; cases e; rw [n] at z; cases z
  rw [upd_ne this]
  exact e
theorem Tk.sqT {K : PySem.W.Frag} {H H' : Hp} {a : Addr} {xs : List V} (e : Tk H H') (h : SqT K H a xs) : SqT K H' a xs := by
  rcases h with (h | ⟨o, h⟩) | h
  · exact .inl (.inl (e _ _ h rfl))
  · exact .inl (.inr ⟨o, e _ _ h rfl⟩)
  · exact .inr h
mutual
def noLst : Dt → Bool
  | .lst _ => false
  | .tup ds => noLsts ds
  | _ => true
def noLsts : List Dt → Bool
  | [] => true
  | d :: ds => noLst d && noLsts ds
end
mutual
theorem Tk.dt {K : PySem.W.Frag} {H H' : Hp} (e : Tk H H') : ∀ {d : Dt} {x : V}, noLst d = true → DtV K H d x → DtV K H' d x
  | .non, _, _, h => h
  | .bl _, _, _, h => h
  | .int _, _, _, h => h
  | .str _, _, _, h => h
  | .lst ds, _, z, h => by cases z
  | .tup ds, _, z, h => by
    obtain ⟨a, xs, e1, h1, h2⟩ := h
    exact ⟨a, xs, e1, e.sqT h1, e.dts z h2⟩
theorem Tk.dts {K : PySem.W.Frag} {H H' : Hp} (e : Tk H H') : ∀ {ds : List Dt} {xs : List V}, noLsts ds = true → DtVs K H ds xs → DtVs K H' ds xs
  | [], _, _, h => h
  | d :: ds, _, z, h => by
    obtain ⟨y, ys, e1, h1, h2⟩ := h
    have z' := (Bool.and_eq_true _ _).mp z
    exact ⟨y, ys, e1, e.dt z'.1 h1, e.dts z'.2 h2⟩
end
theorem noLsts_map {α : Type} {f : α → Dt} (h : ∀ x, noLst (f x) = true) : ∀ l : List α, noLsts (l.map f) = true
  | [] => rfl
  | x :: l => by
    show (noLst (f x) && noLsts (l.map f)) = true
    rw [h x, noLsts_map h l]
    rfl
theorem deeps_map {α : Type} {f : α → Dt} {n : Nat} (h : ∀ x, DeepLe n (f x)) (l : List α) : DeepsLe n (l.map f) := DeepsLe.of fun d hd => by
  obtain ⟨x, _, rfl⟩ := List.mem_map.mp hd
  exact h x
theorem dts_get {K : PySem.W.Frag} {H : Hp} {α : Type} {f : α → Dt} {l : List α} {xs : List V} {i : Nat} {x : V} (h : DtVs K H (l.map f) xs) (e : xs[i]? = some x) : ∃ q, l[i]? = some q ∧ DtV K H (f q) x := by
  have hi : i < l.length := by
    have h1 := h.length
    rw [List.length_map] at h1
    have := (List.getElem?_eq_some_iff.mp e).1
    omega
  obtain ⟨q, hq⟩ := get_of hi
  obtain ⟨y, hy, hd⟩ := h.get (j := i) (d := f q) (by rw [List.getElem?_map, hq]; rfl)
  rw [e] at hy
  cases hy
  exact ⟨q, hq, hd⟩
theorem take_snoc {α : Type} {l : List α} {i : Nat} {q : α} (h : l[i]? = some q) : l.take (i + 1) = l.take i ++ [q] := by
  rw [List.take_add_one, h]
  rfl
/-- sames, mosts, arrows: the asker's own -/
def Tps (H : Hp) (xs : List V) : Prop := ∀ x ∈ xs, ∃ q zs, x = V.ref q ∧ H q = some (.tup zs)
theorem at_int {ns : List Int} {k : Int} (h0 : 0 ≤ k) (h1 : k < ns.length) : ∃ c, atI (ns.map V.int) k = some (.int c) := by
  refine ⟨ns.getD k.toNat 0, ?_⟩
  unfold atI ixN
  rw [if_pos h0, if_pos (by rw [List.length_map]; exact h1)]
  show (ns.map V.int)[k.toNat]? = _
  rw [List.getElem?_map, List.getD_eq_getElem?_getD, List.getElem?_eq_getElem (show k.toNat < ns.length by omega)]
  rfl
theorem at_str {ss : List Str} {k : Int} (h0 : 0 ≤ k) (h1 : k < ss.length) : ∃ s, s ∈ ss ∧ atI (ss.map V.str) k = some (.str s) := by
  have hk : k.toNat < ss.length := by omega
  refine ⟨ss[k.toNat], List.getElem_mem hk, ?_⟩
  unfold atI ixN
  rw [if_pos h0, if_pos (by rw [List.length_map]; exact h1)]
  show (ss.map V.str)[k.toNat]? = _
  rw [List.getElem?_map, List.getElem?_eq_getElem hk]
  rfl
theorem at_cons0 {x : V} {r : List V} : atI (x :: r) 0 = some x := by
  unfold atI ixN
  rw [if_pos (by decide), if_pos (by rw [List.length_cons]; omega)]
  rfl
theorem at_cons1 {x y : V} {r : List V} : atI (x :: y :: r) 1 = some y := by
  unfold atI ixN
  rw [if_pos (by decide), if_pos (by rw [List.length_cons, List.length_cons]; omega)]
  rfl
theorem join {C I : Hp → Prop} {G : Prop} (h : ∀ H, I H → C H) (g : (∀ H, I H → C H) → G) : G := g h
theorem cut_ints (ns : List Int) (lo hi : Option Int) : ∃ ms : List Int, cutV (ns.map V.int) lo hi = ms.map V.int ∧ ms.length ≤ ns.length := by
  refine ⟨(ns.drop (HT.sIx (ns.map V.int).length 0 lo)).take (HT.sIx (ns.map V.int).length (ns.map V.int).length hi - HT.sIx (ns.map V.int).length 0 lo), ?_, ?_⟩
  · unfold cutV
    rw [List.map_take, List.map_drop]
  · rw [List.length_take, List.length_drop]
    omega
/-- what follows an if is proved once: by the values that differ -/
theorem joinS {α : Type} {f : St → Hp → Prop} (σ : α → St) (I : α → Hp → Prop) {G : Prop} (h : ∀ x H, I x H → f (σ x) H) (g : (∀ x H, I x H → f (σ x) H) → G) : G := g h
/-- an int out of a list of ints -/
def pz (ps : List Int) (k : Int) : Int := ps.getD k.toNat 0
end L2

/-! ### enumerate of a list; for over zip and enumerate; min and max of a list of ints -/
namespace L2
open PySem PySem.Spec PyProof.Rows
def Ite (K : PySem.W.Frag) (l : Addr) : It :=
  ⟨fun i H => ∃ xs x, SqL K H l xs ∧ xs[i]? = some x,
   fun i H v H' => ∃ T x, v = .ref T ∧ H T = none ∧ H' = upd H T (.tup [.int i, x]) ∧ ∀ xs, SqL K H l xs → xs[i]? = some x,
   fun i H => ∃ xs, SqL K H l xs ∧ xs.length ≤ i⟩
section
variable {prog : Program} {w : World} {A : Around} {E : Value → Shared → Prop} {s : Shared}
theorem enum_endH {e it l : Addr} {i : Nat} {items : Array Value} {old : Value} {Q : Option Value → Shared → Prop} (hd : Hd A s.heap)
    (he : IsEnum s.heap e it i old) (hit : s.heap.IsListIter it l i) (hl : s.heap.IsList l items) (hx : items[i]? = none)
    (hQ : ∀ h', Heap.ExtBut it s.heap h' → Q none { s with heap := h' }) : wpAny (model prog w) A (pyNext (.ref e)) Q E s := by
  have ht : s.TypeIs (.ref e) "enumerate" := ⟨_, he, rfl⟩
  unfold pyNext
  refine wpAny_bind (wpAny_attempt (wpAny_callSpecial?_slot (name := Str.ofString "__next__") ht F.slot_enumerate_next (wpAny_call_entry F.slot_enumerate_next ht F.entry_enumerate_next ?_ (F.args_enumerate_next_1 _))))
  refine (show wpAny _ _ (field (.ref e) 2 >>= _) _ _ _ from wpAny_bind (wpAny_field he rfl (x := .ref it) rfl ?_))
  refine wpAny_bind (next_endH (A := A.in1) hd hit hl hx fun h' x he' hx' => ?_)
  obtain ⟨o, ho, hc⟩ := hx'
  exact wpAny_bind (wpAny_isInstance (T := "StopIteration") (b := true) ⟨o, ho, hc⟩ isSubtype_stop (wpAny_pure (hQ _ he')))
end
def EnumIt (h : Heap) (e it l : Addr) (i : Nat) : Prop := ∃ old, IsEnum h e it (i : Int) old ∧ h.IsListIter it l i
theorem turn_enum {P : Program} {w : World} {K : PySem.W.Frag} {es : List Expr} {k : Nat} {pos : Pos} {e it l : Addr} (hne : e ≠ it) :
    Turn P w K (.Tuple es k pos) (Ite K l) [e, it] e (fun i h => EnumIt h e it l i) where
  mem := by simp
  obj := fun i h st b hb => by
    obtain ⟨old, he, ⟨o1, e1, c1, d1⟩⟩ := st
    simp only [List.mem_cons, List.not_mem_nil, or_false] at hb
    rcases hb with rfl | rfl
    · exact ⟨_, he, fun v q => by simp at q⟩
    · exact ⟨_, e1, fun v q => by rw [d1] at q; cases q⟩
  keep := fun i h h' st k => by
    obtain ⟨old, he, h1⟩ := st
    exact ⟨old, k e (by simp) _ he, h1.at fun o q => k it (by simp) o q⟩
  item := by
    intro X hP hw hK hc i pins s σ H E I hf st hg
    subst hP hw hK
    obtain ⟨xs, x, q1, hx⟩ := hg
    obtain ⟨old, he, h1⟩ := st
    obtain ⟨its, rv, pl, _⟩ := I.list q1
    obtain ⟨u, hu, ru⟩ := rv.get hx
    have nf : ∀ b ∈ [e, it], b ∉ frs X.stack := fun b hb q => (List.mem_cons.mp (I.stkSub b q)).elim (hf b hb).2.1 (hf b hb).2.2.1
    refine wpAny_pyNext_enum_item he h1 pl.isList (x := u) (by simpa using hu) hne fun h' a1 a2 a3 a4 hk => ⟨_, rfl, ?_⟩
    refine wpAny_letOwnedTupleGo_enum (s := { s with heap := h', toks := s.toks + 1 }) a1 fun h'' hz' hs' => ?_
    replace hs' : Heap.SameBut e h' h'' := hs'
    have hTn : H s.heap.objs.size = none := I.hok.fresh (Nat.le_refl _)
    have lte := Heap.lt_size he
    have old' : ∀ b o, b ≠ e → b ≠ it → s.heap.get? b = some o → h''.get? b = some o := fun b o n1 n2 q => hs'.extBut b o n1 (hk b o n1 n2 q)
    have I1 : Inv X pins σ (upd H s.heap.objs.size (.tup [.int i, x])) { s with heap := s.heap.push { cls := .type "tuple", data := .seq #[.int i s.toks, u] }, toks := s.toks + 1 } :=
      I.laid (t' := s.toks + 1) (fun b o q => Heap.get?_push_of_some _ q) (Nat.le_refl _) ⟨by show 2 ≤ sizeLine; decide, [.int i s.toks, u], .cons ⟨_, rfl⟩ (.cons ru .nil), ⟨_, Heap.get?_push_size _ rfl, rfl, _, rfl⟩⟩
    have fp1 : ∀ b ∈ [e, it], FpOk X pins (upd H s.heap.objs.size (.tup [.int i, x])) b := fun b hb => by
      obtain ⟨f0, r⟩ := hf b hb
      refine ⟨?_, r⟩
      have lt : b < s.heap.objs.size := by
        simp only [List.mem_cons, List.not_mem_nil, or_false] at hb
        rcases hb with rfl | rfl
        · exact lte
        · obtain ⟨o, q, _⟩ := h1; exact Heap.lt_size q
      rw [upd_ne (Nat.ne_of_lt lt)]; exact f0
    have I2 : Inv X pins σ (upd H s.heap.objs.size (.tup [.int i, x])) { s with heap := h'', toks := s.toks + 1 } := by
      have back : ∀ b o, (s.heap.push { cls := .type "tuple", data := .seq #[.int i s.toks, u] }).get? b = some o → b ≠ e → b ≠ it → h''.get? b = some o := fun b o q n1 n2 => by
        rcases Heap.get?_push_cases q with ⟨rfl, rfl⟩ | q
        · exact hs'.extBut _ _ n1 a3
        · exact old' b o n1 n2 q
      refine I1.slots (ch := [e, it]) (tk := s.toks + 1) fp1 (fun b o _ hc q => ?_) (fun b o hb q => ⟨o.slots, ?_⟩) (fun b hb o q => ?_)
      · simp only [List.mem_cons, List.not_mem_nil, or_false, not_or] at hc
        exact back b o q hc.1 hc.2
      · exact back b o q (fun z => nf e (by simp) (z ▸ hb)) (fun z => nf it (by simp) (z ▸ hb))
      · simp only [List.mem_cons, List.not_mem_nil, or_false] at hb
        rcases hb with rfl | rfl
        · exact ⟨_, hz'⟩
        · obtain ⟨o, q, _⟩ := a2; exact ⟨_, hs'.extBut _ _ hne.symm q⟩
    refine ⟨.ref s.heap.objs.size, _, I2, rfl, ⟨_, x, rfl, hTn, rfl, fun xs' q => by rw [I.list_inj q q1]; exact hx⟩, ?_, fun b hb => (fp1 b hb).1⟩
    exact ⟨u, hz', a2.extBut hs'.extBut hne.symm⟩
  done := by
    intro X hP hw hK hc i pins s σ H E I hf st hg
    subst hP hw hK
    obtain ⟨xs, q1, hlen⟩ := hg
    obtain ⟨old, he, h1⟩ := st
    obtain ⟨its, rv, pl, _⟩ := I.list q1
    have e1 := rv.length
    have nf : ∀ b ∈ [e, it], b ∉ frs X.stack := fun b hb q => (List.mem_cons.mp (I.stkSub b q)).elim (hf b hb).2.1 (hf b hb).2.2.1
    refine enum_endH I.hd he h1 pl.isList (by simp; omega) fun h' hk => ⟨rfl, ?_⟩
    refine I.slot0 (ch := [e, it]) (tk := s.toks) hf (fun b o _ hc q => ?_) (fun b o hb q => ⟨o.slots, ?_⟩)
    · simp only [List.mem_cons, List.not_mem_nil, or_false, not_or] at hc
      exact hk b o hc.2 q
    · exact hk b o (fun z => nf it (by simp) (z ▸ hb)) q
  self := fun _ _ s _ _ st h => by
    obtain ⟨old, he, _⟩ := st
    exact wpAny_pyIter_enum he h
def iEnum (K : PySem.W.Frag) (ta : TA) : TI := fun σ H R => ta σ H fun vs H1 => ∃ l, vs = [.ref l] ∧ (∃ xs, SqL K H1 l xs) ∧ R (Ite K l) H1
section
variable {X : Cx}
theorem pi_enumerate {es : List Expr} {k : Nat} {tpos p pos : Pos} {a : Expr} {ta : TA} (hg : Gl X "enumerate") (hm : X.mg "enumerate" = none) (ha : PA X [a] ta) (hs : starEach [a] X.env = [(false, eval a X.env)] := by rfl) :
    PI X (.Tuple es k tpos) (.Call (.Name "enumerate" p) [a] [] pos) (iEnum X.K ta) := by
  intro pins s σ H R I h
  refine Call_ (ld_blt I hg hm boot_enumerate (PyProof.Rows.callWith_type1 (thn (ha pos pins s σ H _ I h) fun us s1 => L2.ex5 fun vs H1 I1 r1 hq_ => ?_) hs rfl))
  obtain ⟨l, e, ⟨xs, q1⟩, q⟩ := hq_
  subst e
  obtain ⟨u, rfl, ru⟩ := vals1 r1
  obtain rfl : u = Value.ref l := ru
  obtain ⟨its, rv, pl, _⟩ := I1.list q1
  refine call_enumerate_list pl.isList fun h' b1 b2 b3 hk => ?_
  refine wpAny_pyIter_enum (s := { s1 with heap := h' }) b1 ?_
  refine ⟨s1.heap.objs.size + 1, [s1.heap.objs.size + 1, s1.heap.objs.size], _, _, H1, rfl, I1.kept (t' := s1.toks) hk, turn_enum (Nat.ne_of_gt (Nat.lt_succ_self _)), ⟨_, b1, b2⟩, fun b hb => ?_, q⟩
  have ge : s1.heap.objs.size ≤ b := by
    simp only [List.mem_cons, List.not_mem_nil, or_false] at hb
    rcases hb with rfl | rfl
    · exact Nat.le_add_right _ _
    · exact Nat.le_refl _
  exact I1.fpOk ge (I1.hok.fresh ge)
theorem for_enum {K : PySem.W.Frag} {l : Addr} {xs : List V} {g : TG} {tb : TS} {D : Ends} {σ : St} {H : Hp} (Pv : Nat → St → Hp → Prop) (h0 : Pv 0 σ H) (hl : ∀ i σ H, i ≤ xs.length → Pv i σ H → SqL K H l xs)
    (hs : ∀ i x T σ H, xs[i]? = some x → H T = none → Pv i σ H → g (.ref T) σ (upd H T (.tup [.int i, x])) fun σ2 H2 => tb { D with nx := Pv (i + 1), ct := Pv (i + 1), bk := D.nx } σ2 H2) (hd : ∀ σ H, Pv xs.length σ H → D.nx σ H) :
    ∃ W : Nat → Nat → St → Hp → Prop, (∃ m, W 0 m σ H) ∧ ∀ i m σ H, W i m σ H →
      ((Ite K l).stop i H ∧ D.nx σ H) ∨ ((Ite K l).go i H ∧ ∃ N : St → Hp → Prop, (∀ σ' H', N σ' H' → ∃ m', m' < m ∧ W (i + 1) m' σ' H') ∧ ∀ x H', (Ite K l).yld i H x H' → g x σ H' fun σ2 H2 => tb { D with nx := N, ct := N, bk := D.nx } σ2 H2) := by
  refine ⟨fun i m σ H => m = xs.length - i ∧ i ≤ xs.length ∧ Pv i σ H, ⟨xs.length, by simp, Nat.zero_le _, h0⟩, ?_⟩
  rintro i m σ H ⟨rfl, hi, p⟩
  have q := hl i σ H hi p
  by_cases hlt : i < xs.length
  · refine .inr ⟨⟨xs, xs[i], q, by simp [hlt]⟩, Pv (i + 1), fun σ' H' p' => ⟨xs.length - (i + 1), by omega, rfl, hlt, p'⟩, fun v H' y => ?_⟩
    obtain ⟨T, x, rfl, hT, rfl, hx⟩ := y
    exact hs i x T σ H (hx xs q) hT p
  · have e : i = xs.length := by omega
    subst e
    exact .inl ⟨⟨xs, q, Nat.le_refl _⟩, hd σ H p⟩
end
end L2

/-! ### min and max of a list of ints, with a default too -/
namespace L2
open PySem PySem.Spec PyProof.Rows
theorem getD_mem {ns : List Int} {i : Nat} (h : i < ns.length) : ns.getD i 0 ∈ ns := by
  rw [List.getD_eq_getElem?_getD, List.getElem?_eq_getElem h]
  exact List.getElem_mem h
theorem mem_getD {ns : List Int} {x : Int} (h : x ∈ ns) : ∃ j, j < ns.length ∧ ns.getD j 0 = x := by
  obtain ⟨j, hj, e⟩ := List.getElem_of_mem h
  exact ⟨j, hj, by rw [List.getD_eq_getElem?_getD, List.getElem?_eq_getElem hj]; exact e⟩
theorem argBest_lt (f : Nat → Int) : ∀ k, argBest (fun i j => decide (f i < f j)) k ≤ k ∧ ∀ j, j ≤ k → f (argBest (fun i j => decide (f i < f j)) k) ≤ f j
  | 0 => ⟨Nat.le_refl _, fun j hj => by rw [Nat.le_zero.mp hj]; exact Int.le_refl _⟩
  | k + 1 => by
    obtain ⟨h1, h2⟩ := argBest_lt f k
    by_cases hb : f (k + 1) < f (argBest (fun i j => decide (f i < f j)) k)
    · have e : argBest (fun i j => decide (f i < f j)) (k + 1) = k + 1 := by simp [argBest, hb]
      rw [e]
      refine ⟨Nat.le_refl _, fun j hj => ?_⟩
      rcases Nat.lt_or_ge j (k + 1) with z | z
      · have := h2 j (by omega); omega
      · rw [show j = k + 1 by omega]; exact Int.le_refl _
    · have e : argBest (fun i j => decide (f i < f j)) (k + 1) = argBest (fun i j => decide (f i < f j)) k := by simp [argBest, hb]
      rw [e]
      refine ⟨by omega, fun j hj => ?_⟩
      rcases Nat.lt_or_ge j (k + 1) with z | z
      · exact h2 j (by omega)
      · rw [show j = k + 1 by omega]; omega
section
variable {prog : Program} {w : World} {A : Around} {R : Result → Shared → Prop} {I : Addr} {fp wr : List Addr} {n : Nat} {P : Nat → Value → Prop} {St : Nat → Heap → Prop}
end
section
variable {X : Cx}
/-- a list of ints, one at least -/
theorem call_minL : CallR X (.builtin "min") (fun xs H Q => ∃ p, ∃ ns : List Int, xs = [.ref p] ∧ SqL X.K H p (ns.map V.int) ∧ ns ≠ [] ∧ ∀ m ∈ ns, (∀ x ∈ ns, m ≤ x) → Q (.int m) H) := by
  intro pins s σ H xs us Q I r h
  obtain ⟨p, ns, rfl, hq, hne, q⟩ := h
  obtain ⟨u, rfl, ru⟩ := vals1 r
  obtain rfl : u = Value.ref p := ru
  obtain ⟨its, rv, pl, _⟩ := I.list hq
  obtain ⟨cs, hcs, ch⟩ := I.hd.chain
  have hlt : p < s.heap.objs.size := by obtain ⟨o, e, _⟩ := pl.isList; exact Heap.lt_size e
  have hnc : s.heap.objs.size ∉ cs := fun z => Nat.lt_irrefl _ (ch.lt _ z)
  have hlen : its.length = ns.length := by rw [← rv.length, List.length_map]
  have hpos : 0 < ns.length := List.length_pos_iff.mpr hne
  refine call_min_walk (wpAny_pyIter_list pl.isList ⟨s.heap.objs.size, _, _, _, _, _, fun i j => decide (ns.getD i 0 < ns.getD j 0), rfl, walks_list (A := X.A.in1) hcs s.heap.objs.size p (Nat.ne_of_lt hlt) hnc its.toArray, ⟨⟨_, Heap.get?_push_size _ rfl, rfl, rfl⟩, pl.isList.push _, ch.mono fun b o _ e => Heap.get?_push_of_some _ e⟩, ?_, by simp; omega, CmpOf.ints_lt (fun i => ns.getD i 0) fun i v hv => ints_get rv (by simpa using hv), fun v h' tk hv hk => ?_⟩)
  · intro b hb
    show b < (s.heap.push _).objs.size
    rw [Heap.size_push]
    rcases List.mem_cons.mp hb with rfl | hb
    · exact Nat.lt_succ_self _
    · rcases List.mem_cons.mp hb with rfl | hb
      · exact Nat.lt_succ_of_lt hlt
      · exact Nat.lt_succ_of_lt (ch.lt _ hb)
  · have hv' : its.toArray[argBest (fun i j => decide (ns.getD i 0 < ns.getD j 0)) (its.toArray.size - 1)]? = some v := hv
    rw [List.getElem?_toArray] at hv'
    obtain ⟨t, rfl⟩ := ints_get rv hv'
    obtain ⟨b1, b2⟩ := argBest_lt (fun i => ns.getD i 0) (its.toArray.size - 1)
    have e1 : its.toArray.size = ns.length := by simp [hlen]
    rw [e1] at b1 b2
    have hk2 : ∀ b o, s.heap.get? b = some o → h'.get? b = some o := fun b o e => hk b o (fun z => by
      have : b = s.heap.objs.size := by simpa using z
      exact absurd (Heap.lt_size e) (by rw [this]; exact Nat.lt_irrefl _)) (Heap.get?_push_of_some _ e)
    refine ⟨.int _, H, I.kept hk2, ⟨_, rfl⟩, ?_⟩
    rw [e1]
    exact q _ (getD_mem (by omega)) fun x hx => by
      obtain ⟨j, hj, rfl⟩ := mem_getD hx
      exact b2 j (by omega)
end

section
variable {prog : Program} {w : World} {A : Around} {R : Result → Shared → Prop} {I : Addr} {fp wr : List Addr} {n : Nat} {P : Nat → Value → Prop} {St : Nat → Heap → Prop}
end
section
variable {X : Cx}
end
section
variable {X : Cx}
def rGetL (K : PySem.W.Frag) : V → V → Hp → VK → Prop := fun o i H Q => ∃ p xs k v, o = .ref p ∧ i = .int k ∧ SqL K H p xs ∧ 0 ≤ k ∧ xs[k.toNat]? = some v ∧ Q v H
end
end L2

/-! ### in, not in: a list of data (tuples) -/
namespace L2
open PySem PySem.Spec PyProof.Rows
def rInD (K : PySem.W.Frag) (neg : Bool) : R2 := fun x y H Q => ∃ p ds xs d, y = .ref p ∧ SqL K H p xs ∧ DtVs K H ds xs ∧ DtV K H d x ∧ DeepsLe 50 ds ∧ Q (.bl (if neg then !(ds.any fun e => eqD e d) else ds.any fun e => eqD e d)) H
section
variable {X : Cx} {pins : List (Addr × Obj)} {σ : St} {H : Hp} {s : Shared}
open Classical in
end
end L2

/-! ### set of a list of ints, its len; all while an exception may be handled -/
namespace L2
open PySem PySem.Spec PyProof.Rows
section
variable {prog : Program} {w : World} {A : Around} {E : Value → Shared → Prop} {s : Shared} {cs : List Addr}
end
section
variable {X : Cx}
end
end L2

/-! ### list(reversed(l)); all while an exception may be handled -/
namespace L2
open PySem PySem.Spec PyProof.Rows
section
variable {prog : Program} {w : World} {A : Around} {E : Value → Shared → Prop} {s : Shared} {cs : List Addr}
end
section
variable {X : Cx}
end
end L2

/-! ### sorted of a list of strings -/
namespace L2
open PySem PySem.Spec PyProof.Rows
section
variable {X : Cx}
theorem vals_of_strs : ∀ {ns : List Str} {us : List Value}, StrsAre us ns → Vals (ns.map V.str) us
  | _, _, .nil => .nil
  | _, _, .cons n t r => .cons ⟨_, rfl⟩ (vals_of_strs r)
theorem call_sortedS : CallR X (.builtin "sorted") (fun xs H Q => ∃ l, ∃ ss : List Str, xs = [.ref l] ∧ H l = some (.lst (ss.map V.str)) ∧ ss.length < 64 ∧
    ∀ (r : Addr) (ss' : List Str), H r = none → ss'.Perm ss → sortedS ss' = true → Q (.ref r) (upd H r (.lst (ss'.map V.str)))) := by
  intro pins s σ H xs us Q I r h
  obtain ⟨l, ss, rfl, hl, h64, q⟩ := h
  obtain ⟨u, rfl, ru⟩ := vals1 r
  obtain rfl : u = Value.ref l := ru
  obtain ⟨z, its, n, rv, hn, e⟩ := I.lstM hl
  rw [List.length_map] at hn
  refine sorted_strs (vs := its) ⟨_, e, rfl, n, rfl⟩ (strsAre_of rv) (by omega) fun out ss' a1 a2 a3 => ?_
  obtain ⟨ep, he⟩ := sortedAll_at s.heap its out
  have le : s.heap.objs.size ≤ s.heap.objs.size + 1 := Nat.le_succ _
  have hz' : ss'.length ≤ sizeLine := by rw [a2.length_eq, sizeLine_eq]; omega
  have I' : Inv X pins σ (upd H (s.heap.objs.size + 1) (.lst (ss'.map V.str))) { s with heap := sortedAll s.heap its out, toks := s.toks } :=
    I.laid (fun _ _ => sortedAll_old) le ⟨by rw [List.length_map]; exact hz', out.toList, ep, vals_of_strs a1, by simpa using he⟩
  exact ⟨.ref (s.heap.objs.size + 1), _, I', rfl, q _ _ (I.hok.fresh le) a2 a3⟩
end
theorem rising_all : ∀ (p : Str) (l : List Str), risingS p l = true → (p :: l).Pairwise (fun a b => ¬ b.cps.toList < a.cps.toList)
  | p, [], _ => List.pairwise_singleton ..
  | p, x :: r, h => by
    have h' : (!ltCps x.cps.toList p.cps.toList && risingS x r) = true := h
    rw [Bool.and_eq_true, ltCps_eq] at h'
    have h1 : ¬ x.cps.toList < p.cps.toList := by simpa using h'.1
    have h2 := rising_all x r h'.2
    refine List.pairwise_cons.mpr ⟨fun y hy => ?_, h2⟩
    rcases List.mem_cons.mp hy with rfl | hy
    · exact h1
    · intro z
      exact h1 (List.lt_of_le_of_lt (List.not_lt.mp ((List.pairwise_cons.mp h2).1 y hy)) z)
theorem sorted_all {l : List Str} (h : sortedS l = true) : l.Pairwise (fun a b => ¬ b.cps.toList < a.cps.toList) := by
  cases l with
  | nil => exact .nil
  | cons x r => exact rising_all x r h
theorem sorted_uniq {a b : List Str} (ha : sortedS a = true) (hb : sortedS b = true) (hp : a.Perm b) : a = b := by
  refine hp.eq_of_pairwise (fun x y _ _ h1 h2 => ?_) (sorted_all ha) (sorted_all hb)
  have e := List.le_antisymm (List.not_lt.mp h1) (List.not_lt.mp h2)
  cases x
  cases y
  exact congrArg Str.mk (Array.toList_inj.mp e)
end L2

/-! ### list.insert, list.index of texts, zip of two lists of unlike lengths -/
namespace L2
open PySem PySem.Spec PyProof.Rows
section
variable {X : Cx}
def rInsert : V → List V → Hp → VK → Prop := fun x vs H Q => ∃ l xs i y, x = .ref l ∧ vs = [.int i, y] ∧ H l = some (.lst xs) ∧ 0 ≤ i ∧ i ≤ xs.length ∧ xs.length < sizeLine ∧ Q .non (upd H l (.lst (xs.take i.toNat ++ y :: xs.drop i.toNat)))
theorem mt_insert : MtM X "list.insert" rInsert := by
  intro pins s σ H x vs v us Q I rx rv h
  obtain ⟨l, xs, i, y, rfl, rfl, hH, h0, h1, hz, q⟩ := h
  cases rx
  obtain ⟨u, w', rfl, ⟨t, rfl⟩, ru⟩ := vals2 rv
  obtain ⟨z, its, n, r, hl, e⟩ := I.lstM hH
  have hf : Builtin.List.listFitsIndex i = true := by
    unfold Builtin.List.listFitsIndex
    rw [sizeLine_eq] at hz
    simp only [Bool.and_eq_true, decide_eq_true_eq]
    constructor <;> omega
  refine call_meets F.slot_list_insert ⟨_, e, rfl⟩ F.entry_list_insert (F.args_list_insert_3 _ _ _) (AutoSeq1.list_insert_list_int_val_1 l its.toArray n i t w' (by simp [hf]) (by rw [List.size_toArray]; omega)) ⟨e, ?_⟩
  refine ⟨.non, _, I.lset (its' := its.take i.toNat ++ w' :: its.drop i.toNat) hH e ?_ ((r.take _).append (.cons ru (r.drop _))) ?_, rfl, q⟩
  · show (its.toArray.extract 0 (if i < 0 then (i + (its.toArray.size : Int)).toNat else min i.toNat its.toArray.size)).push w' ++ its.toArray.extract (if i < 0 then (i + (its.toArray.size : Int)).toNat else min i.toNat its.toArray.size) = _
    rw [if_neg (by omega), List.size_toArray, Nat.min_eq_left (by omega)]
    apply Array.toList_inj.mp
    simp
    exact List.take_of_length_le (by simp)
  · rw [List.length_append, List.length_cons, List.length_take, List.length_drop]
    omega
def rIndexS : V → List V → Hp → VK → Prop := fun x vs H Q => ∃ l, ∃ ss : List Str, ∃ y, ∃ j : Nat, x = .ref l ∧ vs = [.str y] ∧ H l = some (.lst (ss.map V.str)) ∧ ss[j]? = some y ∧ (∀ i, i < j → ss[i]? ≠ some y) ∧ Q (.int (j : Int)) H
theorem mt_indexS : MtR X "list.index" rIndexS := by
  intro pins s σ H x xs v us Q I rx r h
  obtain ⟨l, ss, y, j, rfl, rfl, hH, hj, hno, q⟩ := h
  cases rx
  obtain ⟨u, rfl, t0, rfl⟩ := vals1 r
  obtain ⟨z, its, n, rv, hl, e⟩ := I.lstM hH
  have hlen : its.length = ss.length := by rw [← rv.length, List.length_map]
  have at_ : ∀ (i : Nat) (b : Str), ss[i]? = some b → ∃ t, its[i]? = some (.str b t) := fun i b hb => by
    obtain ⟨u, hu, t, ru⟩ := rv.get (i := i) (x := .str b) (by rw [List.getElem?_map, hb]; rfl)
    exact ⟨t, by rw [hu, ru]⟩
  obtain ⟨tj, hj'⟩ := at_ j y hj
  have hjl : j < its.length := (List.getElem?_eq_some_iff.mp hj').1
  have isB : ∀ u ∈ its, ∃ b t, u = Value.str b t := fun u hu => by
    obtain ⟨i, hi⟩ := List.mem_iff_getElem?.mp hu
    have hil := (List.getElem?_eq_some_iff.mp hi).1
    obtain ⟨b, hb⟩ := get_of (l := ss) (j := i) (by omega)
    obtain ⟨t, ht⟩ := at_ i b hb
    rw [hi] at ht
    cases ht
    exact ⟨b, t, rfl⟩
  have hsm : (j : Int) < 2 ^ 63 - 1 := by
    rw [sizeLine_eq, List.length_map] at z
    omega
  let eb : Value → Bool := fun u => match u with | .str b _ => b == y | _ => false
  refine call_meets F.slot_list_index ⟨_, e, rfl⟩ F.entry_list_index (F.args_list_index_2 _ _) (PySem.SeqAt.list_indexAt l its.toArray n none #[] (.str y t0) eb j (by simpa using hjl) hsm ?_ ?_) ⟨e, fun u hu => ?_, ?_⟩
  · have : its[j] = .str y tj := by
      have := List.getElem?_eq_getElem hjl
      rw [hj'] at this
      exact (Option.some.inj this).symm
    simp [this, eb]
  · intro i hi hlt
    have hil : i < its.length := by simpa using hi
    obtain ⟨b, hb⟩ := get_of (l := ss) (j := i) (by omega)
    obtain ⟨t, ht⟩ := at_ i b hb
    have : its[i] = .str b t := by
      have := List.getElem?_eq_getElem hil
      rw [ht] at this
      exact (Option.some.inj this).symm
    have ne : b ≠ y := fun c => hno i hlt (by rw [hb, c])
    simp [this, eb, ne]
  · obtain ⟨b, t, rfl⟩ := isB u (by simpa using hu)
    exact PySem.SeqAt.EqAt.str_str b t y t0
  · exact ⟨.int j, H, I.tok _, ⟨_, rfl⟩, q⟩
end
theorem dget_k {H : Hp} {a : Addr} {kvs : List (Key × V)} {k : Key} {v : V} (e : H a = some (.dK kvs)) (h : valV kvs k = some v) : DGet H a (kV k) (some v) := h ▸ DGet.k e
theorem none_of {H H' : Hp} {r : Addr} (s : Same H H') (h : H' r = none) : H r = none := by
  cases e : H r with
  | none => rfl
  | some o =>
    rw [s _ _ e] at h
    cases h
theorem same_upd {H H' : Hp} {d : Addr} {o : HO} (nd : H d = none) (s : Same H H') : Same H (upd H' d o) := fun b u e => by
  rw [upd_ne (ne_of_none e nd)]
  exact s b u e
theorem refs_at {rs : List Addr} {i : Nat} {x : V} (h : (rs.map V.ref)[i]? = some x) : ∃ r, rs[i]? = some r ∧ x = .ref r := by
  rw [List.getElem?_map] at h
  cases e : rs[i]? with
  | none => rw [e] at h; cases h
  | some n => rw [e] at h; exact ⟨n, rfl, (Option.some.inj h).symm⟩
theorem strs_at {ss : List Str} {i : Nat} {x : V} (h : (ss.map V.str)[i]? = some x) : ∃ r, ss[i]? = some r ∧ x = .str r := by
  rw [List.getElem?_map] at h
  cases e : ss[i]? with
  | none => rw [e] at h; cases h
  | some n => rw [e] at h; exact ⟨n, rfl, (Option.some.inj h).symm⟩
theorem dts_strs {K : PySem.W.Frag} {H : Hp} : ∀ ns : List Str, DtVs K H (ns.map Dt.str) (ns.map V.str)
  | [] => rfl
  | _ :: r => ⟨_, _, rfl, rfl, dts_strs r⟩
end L2

/-! ### a dict's keys in turn; a copy of a dict -/
namespace L2
open PySem PySem.Spec PyProof.Rows
def Itk (d : Addr) (o : Obj) (kvs : List (Key × V)) : It :=
  ⟨fun i H => H d = some (.frz o (.dK kvs)) ∧ i < kvs.length, fun i H v H' => H' = H ∧ ∃ k x, v = kV k ∧ kvs[i]? = some (k, x), fun i H => H d = some (.frz o (.dK kvs)) ∧ kvs.length ≤ i⟩
def KeyIt (h : Heap) (it d : Addr) (o : Obj) (n i : Nat) : Prop := ∃ es ep, o.data = .dict es ep ∧ h.IsKeyIter it d i n ep
def iKeys (tl : TE) : TI := fun σ H R => tl σ H fun x H1 => ∃ d kvs, x = .ref d ∧ H1 d = some (.dK kvs) ∧ ∀ o, R (Itk d o kvs) (upd H1 d (.frz o (.dK kvs)))
section
variable {X : Cx}
/-- a statement that freezes the dict at d meanwhile; where it leaves the def the dict stays so -/
def sThaw (t : TS) : TS := fun D σ H => ∃ d kvs, H d = some (.dK kvs) ∧ t { D with nx := fun σ1 H1 => ∃ o, H1 d = some (.frz o (.dK kvs)) ∧ D.nx σ1 (upd H1 d (.dK kvs)), ct := fun _ _ => False, bk := fun _ _ => False, rt := fun v H1 => ∃ o, H1 d = some (.frz o (.dK kvs)) ∧ D.rt v (upd H1 d (.dK kvs)) } σ H
end
end L2

/-! ### dict.setdefault -/
namespace L2
open PySem PySem.Spec PyProof.Rows
section
variable {X : Cx}
def rSetD : V → List V → Hp → VK → Prop := fun x vs H Q => ∃ d kvs k v, x = .ref d ∧ vs = [kV k, v] ∧ H d = some (.dK kvs) ∧ kvs.length < sizeLine ∧ (∀ u, valV kvs k = some u → Q u H) ∧ (valV kvs k = none → Q v (upd H d (.dK (putK kvs k v))))
theorem mt_setdefault : MtR X "dict.setdefault" rSetD := by
  intro pins s σ H x xs v us Q I rx r h
  obtain ⟨d, kvs, k, y, rfl, rfl, e, hl, h1, h2⟩ := h
  obtain rfl : v = Value.ref d := rx
  obtain ⟨u, w', rfl, rk, rv⟩ := vals2 r
  obtain ⟨z, hd, vs, rel, dd⟩ := dk_of I.hok e
  have hz : vs.length ≤ sizeLine := by rw [← rel.length]; exact z
  have hlp : (putK kvs k y).length ≤ sizeLine := by have := length_putK kvs k y; omega
  have rel' := rel.val k
  refine call_meetsIn PySem.F.slot_dict_setdefault dd.typeIs PySem.F.entry_dict_setdefault (PySem.F.args_dict_setdefault_3 _ _ _) (kt_meets_setdefault (mixKind X.prog X.w) d (kV_is rk) hd w') ⟨vs, dd, hz, fun u' hu => ?_, fun hn h' dd' hs => ?_⟩
  · rw [hu] at rel'
    cases ex : valV kvs k with
    | none => rw [ex] at rel'; exact rel'.elim
    | some x' =>
      rw [ex] at rel'
      exact ⟨x', H, I.tok _, rel', h1 x' ex⟩
  · rw [hn] at rel'
    cases ex : valV kvs k with
    | some x' => rw [ex] at rel'; exact rel'.elim
    | none =>
      have he : ∃ q, h'.get? d = some q := let ⟨q, _, _, hq, _⟩ := dd'; ⟨q, hq⟩
      exact ⟨y, _, d_write I (by rw [e]; exact True.intro) hs he (dk_new hlp hd (rel.put k rv) dd'), rv, h2 ex⟩
end
end L2

/-! ### lists of texts -/
namespace L2
open PySem PySem.Spec PyProof.Rows
def strsOf : List Expr → Option (List Str)
  | [] => some []
  | .Constant (.str x) _ _ :: es => (strsOf es).map (x :: ·)
  | _ => none
section
variable {X : Cx}
end
end L2
namespace L2
open PySem PySem.Spec PyProof.Rows
end L2

/-! ### isinstance of exceptions within a handler -/
namespace L2
open PySem PySem.Spec PyProof.Rows
section
variable {X : Cx} {K : PySem.W.Frag} (hK : X.K = K)
include hK
def rIsX (K : PySem.W.Frag) : List V → Hp → VK → Prop := fun xs H Q => ∃ a C dd vc c b, xs = [.ref a, vc] ∧ IsX H a C dd ∧ XDs H dd ∧ XIs K C ∧ (∀ u, RelV vc u → u = c) ∧ PySem.W.kitOne K (.ref C) c = some b ∧ Q (.bl b) H
def rIsXT (K : PySem.W.Frag) : List V → Hp → VK → Prop := fun xs H Q => ∃ a C dd p vcs cs b, xs = [.ref a, .ref p] ∧ IsX H a C dd ∧ XDs H dd ∧ XIs K C ∧ H p = some (.tup vcs) ∧ (∀ us, Vals vcs us → us = cs) ∧ PySem.W.kitAny K (.ref C) cs = some b ∧ Q (.bl b) H
end
end L2

/-! ### dict of a list of pairs -/
namespace L2
open PySem PySem.Spec PyProof.Rows
section
variable {prog : Program} {w : World} {A : Around} {E : Value → Shared → Prop} {s : Shared} {cs : List Addr}
end
end L2

/-! ### dict of a list of pairs: the loop -/
namespace L2
open PySem PySem.Spec PyProof.Rows
section
variable {prog : Program} {w : World} {A : Around} {R : Result → Shared → Prop} {κ : Type} [DecidableEq κ] {knd : KeyKind prog w κ} {I d : Addr} {fp wr : List Addr} {G : Array GenState → Array GenState → Prop} {n : Nat} {P : Nat → Value → Prop} {St : Nat → Shared → Prop}
end
section
variable {prog : Program} {w : World} {A : Around} {E : Value → Shared → Prop} {s : Shared} {cs : List Addr} {κ : Type} [DecidableEq κ] {knd : KeyKind prog w κ}
end
end L2

/-! ### dict of a list of pairs: the rule -/
namespace L2
open PySem PySem.Spec PyProof.Rows
/-- at ys stand pairs: a key and a value each -/
def PairsAt (K : PySem.W.Frag) (H : Hp) : List (Key × V) → List V → Prop
  | [], ys => ys = []
  | kv :: r, ys => ∃ t ys', ys = .ref t :: ys' ∧ SqT K H t [kV kv.1, kv.2] ∧ PairsAt K H r ys'
def put1 (m : List (Key × V)) (kv : Key × V) : List (Key × V) := putK m kv.1 kv.2
def mkD (kvs : List (Key × V)) : List (Key × V) := kvs.foldl put1 []
def stN (us : List (Key × Value)) : Nat → List (Key × Value)
  | 0 => []
  | i + 1 => stored (stN us i) (us.getD i (Sum.inl 0, .none)).1 (us.getD i (Sum.inl 0, .none)).2
section
variable {X : Cx} {pins : List (Addr × Obj)} {σ : St} {H : Hp} {s : Shared}
end
section
variable {X : Cx}
end
end L2

/-! ### three lists of texts in a list -/
namespace L2
open PySem PySem.Spec PyProof.Rows
end L2

/-! ### tuples of data and dicts that are alike -/
namespace L2
open PySem PySem.Spec PyProof.Rows PySem.SeqAt
open AutoSeq1 (wpAny_loadPart')
section
variable {prog : Program} {w : World} {A : Around} {s : Shared}
/-- within this program -/
def EqP (prog : Program) (w : World) (A : Around) (s : Shared) (u v : Value) : Prop :=
  ∀ (E : Value → Shared → Prop) (Q : Bool → Shared → Prop), Q true s → wpAny (model prog w) A (eqBool u v) Q E s
end
section
variable {X : Cx} {pins : List (Addr × Obj)} {σ : St} {H : Hp} {s : Shared} {A : Around}
/-- all values are data -/
def FlatK (K : PySem.W.Frag) (H : Hp) (kvs : List (Key × V)) : Prop := ∀ p ∈ kvs, ∃ d, DtV K H d p.2 ∧ DeepLe 20 d
/-- two values that are alike: data, or dicts with the same keys and values -/
def Alike (K : PySem.W.Frag) (H : Hp) (x y : V) : Prop := (∃ d, DtV K H d x ∧ DtV K H d y ∧ DeepLe 30 d) ∨ ∃ a b kvs, x = .ref a ∧ y = .ref b ∧ H a = some (.dK kvs) ∧ H b = some (.dK kvs) ∧ FlatK K H kvs
def Alikes (K : PySem.W.Frag) (H : Hp) : List V → List V → Prop
  | [], [] => True
  | x :: xs, y :: ys => Alike K H x y ∧ Alikes K H xs ys
  | _, _ => False
/-- x == y of two tuples of which each two items are alike -/
def rEqT (K : PySem.W.Frag) : R2 := fun x y H Q => ∃ a b xs ys, x = .ref a ∧ y = .ref b ∧ SqT K H a xs ∧ SqT K H b ys ∧ Alikes K H xs ys ∧ Q (.bl true) H
/-- x == y, x != y of two dicts with the same keys and values -/
def rEqK (K : PySem.W.Frag) : R2 := fun x y H Q => ∃ a b kvs, x = .ref a ∧ y = .ref b ∧ H a = some (.dK kvs) ∧ H b = some (.dK kvs) ∧ FlatK K H kvs ∧ Q (.bl true) H
end
end L2

/-! ### int.bit_length, dict.clear -/
namespace L2
open PySem PySem.Spec PyProof.Rows
section
variable {X : Cx}
def rBitLen : V → List V → Hp → VK → Prop := fun x vs H Q => ∃ n : Nat, x = .int n ∧ vs = [] ∧ Q (.int (Builtin.Int.intBits n : Nat)) H
theorem mt_bit_length : MtR X "int.bit_length" rBitLen := by
  intro pins s σ H x vs v us Q I rx rv h
  obtain ⟨n, rfl, rfl, q⟩ := h
  obtain ⟨t, rfl⟩ := rx
  cases rv
  exact call_int_bit_length ⟨.int _, H, I.tok _, ⟨_, rfl⟩, q⟩
def rClearD : V → List V → Hp → VK → Prop := fun x vs H Q => ∃ d kvs, x = .ref d ∧ vs = [] ∧ H d = some (.dK kvs) ∧ Q .non (upd H d (.dK []))
end
end L2

/-! ### comprehensions whose own names are read by a comprehension within -/
namespace L2
open PySem PySem.Spec PyProof.Rows
/-- as compCx; its own cells may be stored -/
def compCxG (X : Cx) (scope : Scope) (cl : List (Str × Addr)) (C : Addr) (N : List Str) (s : Shared) (H : Hp) (fp : List Addr) (pins : List (Addr × Obj)) : Cx :=
  { compCx X scope cl C N s H fp pins with fn := fun x => scope.names.lookup x == some NameKind.cell }
def capOkG (osc sc : Scope) (XN N : List Str) (cap : List (Option Nat)) : Bool :=
  (sc.kind == ScopeKind.function) && sc.names.all (fun y => y.2 != NameKind.cell || sc.names.lookup y.1 == some NameKind.cell) && sc.names.all (fun y => y.2 != NameKind.local || sc.names.lookup y.1 == some NameKind.local) &&
  sc.names.all (fun y => y.2 != NameKind.free || isCF (osc.names.lookup y.1)) && capAt sc XN cap N
section
variable {X : Cx} {pins : List (Addr × Obj)} {σ : St} {H : Hp} {s : Shared} {scope : Scope} {N : List Str} {cap : List (Option Nat)} {fp : List Addr}
end
section
variable {X : Cx} {elt tg iter : Expr} {ifs : List Expr} {scope : Scope} {pos : Pos} {N : List Str} {cap : List (Option Nat)} {wi : TI} {g : TG} {tt : TT} {te : TE}
end
end L2

/-! ### xs[::-1] -/
namespace L2
open PySem PySem.Spec PyProof.Rows
theorem filterMap_some {α β : Type} {f : α → Option β} {g : α → β} : ∀ {l : List α}, (∀ k ∈ l, f k = some (g k)) → l.filterMap f = l.map g
  | [], _ => rfl
  | x :: l, h => by
    rw [List.filterMap_cons, h x List.mem_cons_self, List.map_cons, filterMap_some fun k hk => h k (List.mem_cons_of_mem _ hk)]
theorem pick_rev (its : List Value) : slicePick its.toArray none none (some (-1)) = its.reverse.toArray := by
  unfold slicePick
  have b : sliceBounds none none (some (-1)) its.toArray.size = ((its.length : Int) - 1, -1, -1) := by
    unfold sliceBounds
    simp
  rw [b]
  have r : sliceRange ((its.length : Int) - 1) (-1) (-1) = (List.range its.length).map fun k => its.length - 1 - k := by
    unfold sliceRange
    have c : (if (-1 : Int) > 0 then if (its.length : Int) - 1 < -1 then (-1 - ((its.length : Int) - 1) + -1 - 1) / -1 else 0
        else if (its.length : Int) - 1 > -1 then ((its.length : Int) - 1 - -1 - -1 - 1) / (- -1) else 0) = its.length := by
      rw [if_neg (by decide)]
      by_cases z : its.length = 0
      · rw [z]; rfl
      · rw [if_pos (by omega), show (- -1 : Int) = 1 from rfl, Int.ediv_one]
        omega
    dsimp only
    rw [c, Int.toNat_natCast]
    refine List.map_congr_left fun k hk => ?_
    have := List.mem_range.mp hk
    omega
  rw [r]
  congr 1
  rw [List.filterMap_map]
  refine List.ext_getElem? fun i => ?_
  have e : (List.range its.length).filterMap ((fun x => its.toArray[x]?) ∘ fun k => its.length - 1 - k) = (List.range its.length).map fun k => its.getD (its.length - 1 - k) .none := by
    refine filterMap_some fun k hk => ?_
    have := List.mem_range.mp hk
    show its.toArray[its.length - 1 - k]? = some _
    rw [List.getElem?_toArray, List.getD_eq_getElem?_getD, List.getElem?_eq_getElem (by omega)]
    rfl
  rw [e, List.getElem?_map]
  by_cases c : i < its.length
  · rw [List.getElem?_range c, List.getElem?_reverse c, List.getElem?_eq_getElem (by omega)]
    show some (its.getD (its.length - 1 - i) .none) = _
    rw [List.getD_eq_getElem?_getD, List.getElem?_eq_getElem (by omega)]
    rfl
  · rw [List.getElem?_eq_none (by simpa using c), List.getElem?_eq_none (by simpa using c)]
    rfl
theorem paired_app {α β : Type} {F : α → β → Prop} {m₁ : List α} {m₂ : List β} (h : Paired F m₁ m₂) : ∀ {l₁ : List α} {l₂ : List β}, Paired F l₁ l₂ → Paired F (l₁ ++ m₁) (l₂ ++ m₂)
  | _, _, .nil => h
  | _, _, .cons r t => .cons r (paired_app h t)
theorem Paired.rev' {α β : Type} {F : α → β → Prop} : ∀ {l₁ : List α} {l₂ : List β}, Paired F l₁ l₂ → Paired F l₁.reverse l₂.reverse
  | _, _, .nil => .nil
  | _, _, .cons (l₁ := l₁) (l₂ := l₂) r t => by
    rw [List.reverse_cons, List.reverse_cons]
    exact paired_app (.cons r .nil) (Paired.rev' t)
def tRevL (K : PySem.W.Frag) (te ts : TE) : TE := fun σ H Q => te σ H fun x H1 => ts σ H1 fun y H2 => ∃ a xs, x = .ref a ∧ y = .int (-1) ∧ SqL K H2 a xs ∧ ∀ p, H2 p = none → Q (.ref p) (upd H2 p (.lst xs.reverse))
section
variable {X : Cx} {e st : Expr} {te ts : TE} {pos p2 : Pos}
theorem pe_rev (he : PE X e te) (hst : PE X st ts) : PE X (.Subscript e (.Slice none none (some st) p2) pos) (tRevL X.K te ts) := by
  intro pins s σ H Q I h
  refine Subscript_ (thn (he pins s σ H _ I h) fun v s1 => L2.ex5 fun x H1 I1 r1 q1 => ?_)
  refine wpAny_Slice ?_
  rw [evalPart_none]
  refine wpAny_pure (wpAny_pure ?_)
  rw [evalPart_some]
  refine thn (hst pins s1 σ H1 _ I1 q1) fun vs s3 => L2.ex5 fun y H3 I3 r3 hq_ => ?_
  obtain ⟨a, xs, ex, ey, hx, q⟩ := hq_
  subst ex ey
  obtain ⟨t, rfl⟩ := r3
  cases r1
  have I4 : Inv X pins σ H3 { s3 with heap := s3.heap.push { cls := .type "slice", data := .fields #[.none, .none, .int (-1) t] } } := I3.kept (t' := s3.toks) fun b ob q => Heap.get?_push_of_some _ q
  obtain ⟨its, r, ht, hz⟩ := I4.list hx
  have hlen := r.length
  show wpAny (model X.prog X.w) X.A (subscriptTail e (.Slice none none (some st) p2) (.ref a) (.ref s3.heap.objs.size)) (EP X pins σ Q) X.xe { s3 with heap := s3.heap.push { cls := .type "slice", data := .fields #[.none, .none, .int (-1) t] } }
  refine tail_any (ops := [.ref a, .ref s3.heap.objs.size]) ht.isList.typeIs slot_list_getitem.lookup ?_ (by with_unfolding_all rfl)
  refine wpAny_getItem_list_slice ht.isList (Heap.IsSliceOf.new ..) .none .none (.int (-1) t) (by simp) ?_ (by rw [List.size_toArray] <;> omega)
  rw [pick_rev]
  refine ⟨.ref _, _, I4.laid (t' := s3.toks) (o := .lst xs.reverse) (fun b ob q => Heap.get?_push_of_some _ q) (Nat.le_refl _) ?_, rfl, q _ (I4.hok.fresh (Nat.le_refl _))⟩
  exact ⟨by rw [List.length_reverse]; exact hz, _, 0, Paired.rev' r, Heap.get?_push_size _ rfl⟩
end
end L2

/-! ### // by a divisor below 2 ** 62 -/
namespace L2
open PySem PySem.Spec PyProof.Rows
theorem op_fdivW {X : Cx} : OpR X (binaryOp .FloorDiv) (rI (fun _ j => 0 < j ∧ j < 2 ^ 62) fun i j => .int (i / j)) := opI fun i j _ _ _ _ _ hc q => by
  have h1 : (0 : Int) < j := hc.1
  have h2 : j < 2 ^ 62 := hc.2
  refine floordiv_int (by omega) (by rw [Int.fdiv_eq_ediv_of_nonneg i (by omega)]; exact q) (.inl (PyProof.noPylong_of_log2 ?_))
  exact (Nat.log2_lt (by omega)).mpr (Nat.lt_of_lt_of_le (by omega : j.natAbs < 2 ^ 62) (Nat.pow_le_pow_right (by decide) (by decide)))
end L2

namespace K55
open PySem L2
def top (i : Nat) : Stmt := PySem.Challenge.pw_layerdraw_k55_whole_no_order_has_less.main.body.getD i (.Pass ⟨0, 0, 0, 0⟩)
abbrev s_places_of : Stmt := top 4
theorem sc_places_of : FnScope ["rows", "places", "row", "place", "mark"] ["rows"] (defScope s_places_of) := ⟨rfl, rfl, rfl, by decide +kernel, rfl, by decide +kernel, by decide +kernel⟩
abbrev s_crossings : Stmt := top 5
theorem sc_crossings : FnScope ["upper", "lower", "lines", "above", "below", "ends", "total", "high", "low"] ["upper", "lower", "lines"] (defScope s_crossings) := ⟨rfl, rfl, rfl, by decide +kernel, rfl, by decide +kernel, by decide +kernel⟩
abbrev s_ends_across : Stmt := top 6
theorem sc_ends_across : FnScope ["lines", "above", "below", "upper", "lower"] ["lines"] (defScope s_ends_across) := ⟨rfl, rfl, rfl, by decide +kernel, rfl, by decide +kernel, by decide +kernel⟩
abbrev s_crossed : Stmt := top 7
theorem sc_crossed : FnScope ["ahead", "behind", "total", "place"] ["ahead", "behind"] (defScope s_crossed) := ⟨rfl, rfl, rfl, by decide +kernel, rfl, by decide +kernel, by decide +kernel⟩
abbrev s_members : Stmt := top 10
theorem sc_members : FnScope ["group"] ["group"] (defScope s_members) := ⟨rfl, rfl, rfl, by decide +kernel, rfl, by decide +kernel, by decide +kernel⟩
abbrev s_costs_of : Stmt := top 11
theorem sc_costs_of : FnScope ["fixed", "free", "lines", "far", "ends", "places", "mark", "costs", "g", "ahead", "h", "behind"] ["fixed", "free", "lines"] (defScope s_costs_of) := ⟨rfl, rfl, rfl, by decide +kernel, rfl, by decide +kernel, by decide +kernel⟩
abbrev s_cost_with_last : Stmt := top 12
theorem sc_cost_with_last : FnScope ["table", "costs", "group", "h", "rest"] ["table", "costs", "group", "h"] (defScope s_cost_with_last) := ⟨rfl, rfl, rfl, by decide +kernel, rfl, by decide +kernel, by decide +kernel⟩
abbrev s_table_of : Stmt := top 13
theorem sc_table_of : FnScope ["costs", "count", "table", "group"] ["costs", "count"] (defScope s_table_of) := ⟨rfl, rfl, rfl, by decide +kernel, rfl, by decide +kernel, by decide +kernel⟩
abbrev s_order_by : Stmt := top 14
theorem sc_order_by : FnScope ["table", "costs", "free", "order", "group", "best"] ["table", "costs", "free"] (defScope s_order_by) := ⟨rfl, rfl, rfl, by decide +kernel, rfl, by decide +kernel, by decide +kernel⟩
abbrev s_least_order : Stmt := top 15
theorem sc_least_order : FnScope ["fixed", "free", "lines", "costs", "table"] ["fixed", "free", "lines"] (defScope s_least_order) := ⟨rfl, rfl, rfl, by decide +kernel, rfl, by decide +kernel, by decide +kernel⟩
abbrev s__law_cell_at : Stmt := top 17
theorem sc__law_cell_at : FnScope ["_law_script", "_law_k"] ["_law_script", "_law_k"] (defScope s__law_cell_at) := ⟨rfl, rfl, rfl, by decide +kernel, rfl, by decide +kernel, by decide +kernel⟩
abbrev s__law_mix : Stmt := top 18
theorem sc__law_mix : FnScope ["_law_cell", "_law_k", "_law_base", "_law_left", "_law_step", "_law_number"] ["_law_cell", "_law_k"] (defScope s__law_mix) := ⟨rfl, rfl, rfl, by decide +kernel, rfl, by decide +kernel, by decide +kernel⟩
abbrev s__law_row : Stmt := top 19
theorem sc__law_row : FnScope ["_law_first", "_law_k", "_law_many", "_law_ahead", "_law_row_here", "_law_j"] ["_law_first", "_law_k", "_law_many", "_law_ahead"] (defScope s__law_row) := ⟨rfl, rfl, rfl, by decide +kernel, rfl, by decide +kernel, by decide +kernel⟩
abbrev s__law_lines : Stmt := top 20
theorem sc__law_lines : FnScope ["_law_fixed", "_law_free", "_law_cells", "_law_lines_here", "_law_cell", "_law_line"] ["_law_fixed", "_law_free", "_law_cells"] (defScope s__law_lines) := ⟨rfl, rfl, rfl, by decide +kernel, rfl, by decide +kernel, by decide +kernel⟩
abbrev s__law_count : Stmt := top 21
theorem sc__law_count : FnScope ["_law_fixed", "_law_order_here", "_law_lines_here", "_law_pairs", "_law_found", "_law_one"] ["_law_fixed", "_law_order_here", "_law_lines_here"] (defScope s__law_count) := ⟨rfl, rfl, rfl, by decide +kernel, rfl, by decide +kernel, by decide +kernel⟩
abbrev s__law_order : Stmt := top 22
theorem sc__law_order : FnScope ["_law_told", "_law_free", "_law_cell", "_law_found", "_law_mark", "_law_k"] ["_law_told", "_law_free", "_law_cell"] (defScope s__law_order) := ⟨rfl, rfl, rfl, by decide +kernel, rfl, by decide +kernel, by decide +kernel⟩
abbrev s_law : Stmt := top 23
theorem sc_law : FnScope ["_law_script", "_law_first", "_law_fixed", "_law_many", "_law_free", "_law_lines_here", "_law_number", "_law_told", "_law_table", "_law_cell", "_law_order_here", "_law_due"] ["_law_script"] (defScope s_law) := ⟨rfl, rfl, rfl, by decide +kernel, rfl, by decide +kernel, by decide +kernel⟩
structure Adr where
  DrawError : Addr
  TooMany : Addr
structure Tx (K : PySem.W.Frag) (mg : Str → Option Value) (a : Adr) : Prop where
  g_DrawError : mg "DrawError" = some (.ref a.DrawError)
  xb_DrawError : PySem.W.mroIn K a.DrawError (.type "BaseException") = some true
  xt_DrawError : PySem.W.typeIn K (.ref a.DrawError) = some (.type "type")
  g_TooMany : mg "TooMany" = some (.ref a.TooMany)
  xb_TooMany : PySem.W.mroIn K a.TooMany (.type "BaseException") = some true
  xt_TooMany : PySem.W.typeIn K (.ref a.TooMany) = some (.type "type")
  x_TooMany : XC0 K a.TooMany
  d_places_of : Def K mg "places_of" s_places_of ["rows"] []
  d_crossings : Def K mg "crossings" s_crossings ["upper", "lower", "lines"] []
  d_ends_across : Def K mg "ends_across" s_ends_across ["lines"] []
  d_crossed : Def K mg "crossed" s_crossed ["ahead", "behind"] []
  d_members : Def K mg "members" s_members ["group"] []
  d_costs_of : Def K mg "costs_of" s_costs_of ["fixed", "free", "lines"] []
  d_cost_with_last : Def K mg "cost_with_last" s_cost_with_last ["table", "costs", "group", "h"] []
  d_table_of : Def K mg "table_of" s_table_of ["costs", "count"] []
  d_order_by : Def K mg "order_by" s_order_by ["table", "costs", "free"] []
  d_least_order : Def K mg "least_order" s_least_order ["fixed", "free", "lines"] []
  d__law_cell_at : Def K mg "_law_cell_at" s__law_cell_at ["_law_script", "_law_k"] []
  d__law_mix : Def K mg "_law_mix" s__law_mix ["_law_cell", "_law_k"] []
  d__law_row : Def K mg "_law_row" s__law_row ["_law_first", "_law_k", "_law_many", "_law_ahead"] []
  d__law_lines : Def K mg "_law_lines" s__law_lines ["_law_fixed", "_law_free", "_law_cells"] []
  d__law_count : Def K mg "_law_count" s__law_count ["_law_fixed", "_law_order_here", "_law_lines_here"] []
  d__law_order : Def K mg "_law_order" s__law_order ["_law_told", "_law_free", "_law_cell"] []
  d_law : Def K mg "law" s_law ["_law_script"] []
  k_MOST_FREE : ∃ t, mg "MOST_FREE" = some (.int 8 t)
  n_enumerate : mg "enumerate" = none
  n_len : mg "len" = none
  n_list : mg "list" = none
  n_min : mg "min" = none
  n_range : mg "range" = none
  n_sorted : mg "sorted" = none
  n_str : mg "str" = none
  n_sum : mg "sum" = none

end K55
namespace K55
open PySem L2
/-! rows of marks, lines, what crosses -/
abbrev Kvs := List (Key × V)
abbrev Ln := Str × Str
abbrev Row := List Str
def lnD (q : Ln) : Dt := .tup [.str q.1, .str q.2]
def rowD (r : Row) : Dt := .lst (r.map Dt.str)
theorem deep_row {n : Nat} (r : Row) : DeepLe (n + 1) (rowD r) := deeps_map (fun _ => by cases n <;> trivial) _
/-- the lists at rs are the rows -/
def Rw (H : Hp) : List Addr → List Row → Prop
  | [], [] => True
  | r :: rs, row :: rows => H r = some (.lst (row.map V.str)) ∧ Rw H rs rows
  | _, _ => False
theorem Rw.len {H : Hp} : ∀ {rs : List Addr} {rows : List Row}, Rw H rs rows → rs.length = rows.length
  | [], [], _ => rfl
  | r :: rs, row :: rows, h => by rw [List.length_cons, List.length_cons, Rw.len h.2]
  | [], _ :: _, h => h.elim
  | _ :: _, [], h => h.elim
theorem Rw.at {H : Hp} : ∀ {rs : List Addr} {rows : List Row} {i : Nat} {r : Addr}, Rw H rs rows → rs[i]? = some r → ∃ row, rows[i]? = some row ∧ H r = some (.lst (row.map V.str))
  | [], [], _, _, _, e => by simp at e
  | r :: rs, row :: rows, 0, _, h, e => by
    cases e
    exact ⟨row, rfl, h.1⟩
  | r :: rs, row :: rows, i + 1, _, h, e => Rw.at (i := i) h.2 (by simpa using e)
  | [], _ :: _, _, _, h, _ => h.elim
  | _ :: _, [], _, _, h, _ => h.elim
/-- where a text stands -/
def pl : Row → Str → Option Nat
  | [], _ => none
  | x :: l, s => if x = s then some 0 else (pl l s).map (· + 1)
theorem pl_some : ∀ {l : Row} {s : Str} {j : Nat}, pl l s = some j → l[j]? = some s ∧ ∀ i, i < j → l[i]? ≠ some s
  | [], _, _, h => by cases h
  | x :: l, s, j, h => by
    unfold pl at h
    by_cases e : x = s
    · rw [if_pos e] at h
      cases h
      exact ⟨by rw [e]; rfl, fun i hi => absurd hi (Nat.not_lt_zero _)⟩
    · rw [if_neg e] at h
      cases q : pl l s with
      | none => rw [q] at h; cases h
      | some m =>
        rw [q] at h
        cases h
        obtain ⟨h1, h2⟩ := pl_some q
        refine ⟨by simpa using h1, fun i hi => ?_⟩
        cases i with
        | zero => simpa using e
        | succ i => simpa using h2 i (Nat.lt_of_succ_lt_succ hi)
theorem pl_none : ∀ {l : Row} {s : Str}, pl l s = none → s ∉ l
  | [], _, _ => by simp
  | x :: l, s, h => by
    unfold pl at h
    by_cases e : x = s
    · rw [if_pos e] at h
      cases h
    · rw [if_neg e] at h
      have q : pl l s = none := by
        cases q : pl l s with
        | none => rfl
        | some m => rw [q] at h; cases h
      rw [List.mem_cons, not_or]
      exact ⟨fun z => e z.symm, pl_none q⟩
/-- each text once -/
def Uq (row : Row) : Prop := ∀ (j j' : Nat) (s : Str), row[j]? = some s → row[j']? = some s → j = j'
theorem Uq.vl {row : Row} (u : Uq row) {j : Nat} {s : Str} (h : row[j]? = some s) : pl row s = some j := by
  cases e : K55.pl row s with
  | none => exact absurd (List.mem_of_getElem? h) (pl_none e)
  | some i => rw [u i j s (pl_some e).1 h]
def Dis (rows : List Row) : Prop := ∀ (i i' j j' : Nat) (r r' : Row) (s : Str), rows[i]? = some r → rows[i']? = some r' → r[j]? = some s → r'[j']? = some s → i = i' ∧ j = j'
theorem Dis.one {row : Row} (u : Uq row) : Dis [row] := fun i i' j j' r r' s h h' e e' => by
  have hi := (List.getElem?_eq_some_iff.mp h).1
  have hi' := (List.getElem?_eq_some_iff.mp h').1
  have z : i = 0 := by simpa using hi
  have z' : i' = 0 := by simpa using hi'
  subst z z'
  cases h
  cases h'
  exact ⟨rfl, u _ _ _ e e'⟩
/-- a dict of places -/
structure PlAt (kvs : Kvs) (rows : List Row) : Prop where
  yes : ∀ row ∈ rows, ∀ (j : Nat) (s : Str), row[j]? = some s → valV kvs (Sum.inr s) = some (.int (j : Int))
  no : ∀ s, (∀ row ∈ rows, s ∉ row) → valV kvs (Sum.inr s) = none
theorem PlAt.put {kvs : Kvs} {A : List Row} {row : Row} {j : Nat} {s : Str} (h : PlAt kvs (A ++ [row.take j])) (hs : row[j]? = some s) (hA : ∀ r ∈ A, s ∉ r) (hn : ∀ i, i < j → row[i]? ≠ some s) : PlAt (putK kvs (Sum.inr s) (.int (j : Int))) (A ++ [row.take (j + 1)]) := by
  have e1 : row.take (j + 1) = row.take j ++ [s] := take_snoc hs
  refine ⟨fun r hr m t ht => ?_, fun t ht => ?_⟩
  · rw [valV_put]
    rcases List.mem_append.mp hr with hr | hr
    · have ne : t ≠ s := fun z => hA r hr (z ▸ List.mem_of_getElem? ht)
      rw [if_neg (fun z => ne (Sum.inr.inj z))]
      exact h.yes r (List.mem_append_left _ hr) m t ht
    · rw [List.mem_singleton.mp hr, List.getElem?_take] at ht
      by_cases hm : m < j + 1
      · rw [if_pos hm] at ht
        by_cases e : m = j
        · subst e
          rw [hs] at ht
          cases ht
          rw [if_pos rfl]
        · have hm' : m < j := by omega
          have ne : t ≠ s := fun z => hn m hm' (z ▸ ht)
          rw [if_neg (fun z => ne (Sum.inr.inj z))]
          exact h.yes _ (List.mem_append_right _ (List.mem_singleton.mpr rfl)) m t (by rw [List.getElem?_take, if_pos hm']; exact ht)
      · rw [if_neg hm] at ht
        cases ht
  · have hl : t ∉ row.take (j + 1) := ht _ (List.mem_append_right _ (List.mem_singleton.mpr rfl))
    rw [e1, List.mem_append, not_or, List.mem_singleton] at hl
    rw [valV_put, if_neg (fun z => hl.2 (Sum.inr.inj z))]
    refine h.no t fun r hr => ?_
    rcases List.mem_append.mp hr with hr | hr
    · exact ht r (List.mem_append_left _ hr)
    · rw [List.mem_singleton.mp hr]
      exact hl.1
theorem PlAt.vl {kvs : Kvs} {row : Row} (h : PlAt kvs [row]) (s : Str) : valV kvs (Sum.inr s) = (pl row s).map fun j => V.int (j : Int) := by
  cases e : K55.pl row s with
  | none =>
    refine h.no s fun r hr => ?_
    rw [List.mem_singleton.mp hr]
    exact pl_none e
  | some j => exact h.yes row (List.mem_singleton.mpr rfl) j s (pl_some e).1
section
variable {P : Program} {w : World} {K : PySem.W.Frag} {mg : Str → Option Value} {base : Heap} {a : Adr}
def spPlaces : Sp := fun vs H Q _ => ∃ l rs rows, vs = [.ref l] ∧ H l = some (.lst ((rs : List Addr).map V.ref)) ∧ Rw H rs rows ∧ Dis rows ∧ rows.length ≤ 30 ∧ (∀ row ∈ rows, row.length ≤ 60) ∧ ∀ d kvs H', Same H H' → H d = none → H' d = some (.dK kvs) → PlAt kvs rows → kvs.length ≤ 1800 → Q (.ref d) H'
theorem ok_places_of (T : Tx K mg a) : Cal P w K mg base CX0 1 "places_of" ["rows"] [] spPlaces := T.d_places_of.cal fun f fd F => by
  refine F.ok sc_places_of (fun vs H Q E h => ?_) (fun cdv A outer s H vs Q E hr h => ?_)
  · obtain ⟨l, rs, rows, rfl, _⟩ := h
    rfl
  · obtain ⟨l, rs, rows, rfl, hl, hrw, dis, hk, hm, k⟩ := h
    have hlen := hrw.len
    refine ⟨_, (pss_cons (ps_set (i := 1) sc_places_of.nd rfl (by first | exact Or.inl rfl | exact Or.inr rfl) pe_dnewK)
      (pss_cons (ps_for PassesOwn.never rfl (pi_list (pv 0)) (pg_name (i := 2) sc_places_of.nd rfl (by first | exact Or.inl rfl | exact Or.inr rfl)) (pss_one (ps_for PassesOwn.never rfl (pi_enumerate rfl T.n_enumerate (pa_cons (pv 2) pa_nil)) (pg_tup rfl (pgs_cons (pg_name (i := 3) sc_places_of.nd rfl (by first | exact Or.inl rfl | exact Or.inr rfl)) (pgs_cons (pg_name (i := 4) sc_places_of.nd rfl (by first | exact Or.inl rfl | exact Or.inr rfl)) pgs_nil))) (pss_one (ps_dput (hu_of hr) (pv 1) (pv 4) (pv 3) rfl)))))
      (pss_one (ps_ret (pv 1))))), ?_⟩
    intro d nd
    have s1 : Same H (upd H d (.dK [])) := Same.new nd
    have h1 : upd H d (.dK []) d = some (.dK []) := upd_same
    generalize upd H d (.dK []) = H1 at s1 h1 ⊢
    refine ⟨_, rfl, l, rfl, ⟨_, SqL.of (s1 _ _ hl)⟩, for_list (K := K) (a := l) (xs := rs.map V.ref) (fun i σ H' => ∃ v2 v3 v4 kvs, σ = [some (.ref l), some (.ref d), v2, v3, v4] ∧ Same H H' ∧ H' d = some (.dK kvs) ∧ PlAt kvs (rows.take i) ∧ kvs.length ≤ 60 * i)
      ⟨none, none, none, [], rfl, s1, h1, ⟨fun row hr => by simp at hr, fun s _ => rfl⟩, Nat.zero_le _⟩ ?_ ?_ ?_⟩
    · rintro i σ H' _ ⟨_, _, _, _, rfl, sm, _⟩
      exact SqL.of (sm _ _ hl)
    · rintro i x σ H' hx ⟨v2, v3, v4, kvs, rfl, sm, hd, pk, kl⟩
      obtain ⟨r, hr', rfl⟩ := refs_at hx
      obtain ⟨row, hrow, hrr⟩ := hrw.at hr'
      have hil : i < rows.length := (List.getElem?_eq_some_iff.mp hrow).1
      have hrl := hm row (List.mem_of_getElem? hrow)
      dsimp only [gName]
      refine ⟨_, rfl, r, rfl, ⟨_, SqL.of (sm _ _ hrr)⟩, for_enum (K := K) (l := r) (xs := row.map V.str) (fun j σ H'' => ∃ v3 v4 kvs, σ = [some (.ref l), some (.ref d), some (.ref r), v3, v4] ∧ Same H H'' ∧ H'' d = some (.dK kvs) ∧ PlAt kvs (rows.take i ++ [row.take j]) ∧ kvs.length ≤ 60 * i + j)
        ⟨v3, v4, kvs, rfl, sm, hd, ⟨fun r' hr m t ht => ?_, fun t ht => pk.no t fun r' hr => ht r' (List.mem_append_left _ hr)⟩, by omega⟩ ?_ ?_ ?_⟩
      · rcases List.mem_append.mp hr with hr | hr
        · exact pk.yes r' hr m t ht
        · rw [List.mem_singleton.mp hr] at ht
          simp at ht
      · rintro j σ H'' _ ⟨_, _, _, rfl, s2, _⟩
        exact SqL.of (s2 _ _ hrr)
      · rintro j y tt σ H2 hy nt ⟨u3, u4, kvs2, rfl, s2, h2d, pk2, kl2⟩
        obtain ⟨t, ht, rfl⟩ := strs_at hy
        have hj : j < row.length := (List.getElem?_eq_some_iff.mp ht).1
        have s3 : Same H2 (upd H2 tt (.tup [.int j, .str t])) := Same.new nt
        have h3t : upd H2 tt (.tup [.int j, .str t]) tt = some (.tup [.int j, .str t]) := upd_same
        generalize upd H2 tt (.tup [.int j, .str t]) = H3 at s3 h3t ⊢
        refine ⟨tt, _, rfl, SqT.of h3t, rfl, _, _, rfl, _, _, rfl, rfl, ?_⟩
        refine ⟨_, rfl, _, rfl, _, rfl, d, _, rfl, DPut.k (k := Sum.inr t) (s3 _ _ h2d) (by rw [sizeLine_eq]; omega), ?_⟩
        refine ⟨_, _, _, rfl, same_upd nd (s2.trans s3), upd_same, pk2.put ht (fun r' hr' hs => ?_) (fun m hmj e => ?_), by have := length_putK kvs2 (Sum.inr t) (.int (j : Int)); omega⟩
        · obtain ⟨i', hi'⟩ := List.mem_iff_getElem?.mp hr'
          rw [List.getElem?_take] at hi'
          by_cases hlt : i' < i
          · rw [if_pos hlt] at hi'
            obtain ⟨m, hm'⟩ := List.mem_iff_getElem?.mp hs
            have := (dis i' i m j r' row t hi' hrow hm' ht).1
            omega
          · rw [if_neg hlt] at hi'
            cases hi'
        · have := (dis i i m j row row t hrow hrow e ht).2
          omega
      · rintro σ H2 ⟨u3, u4, kvs2, rfl, s2, h2d, pk2, kl2⟩
        rw [List.length_map] at pk2 kl2
        refine ⟨_, _, _, kvs2, rfl, s2, h2d, ?_, by omega⟩
        rw [take_snoc hrow]
        rw [List.take_length] at pk2
        exact pk2
    · rintro σ H2 ⟨v2, v3, v4, kvs, rfl, s2, h2d, pk, kl⟩
      rw [List.length_map, hlen, List.take_length] at pk
      rw [List.length_map] at kl
      exact ⟨_, rfl, k d kvs H2 s2 nd h2d pk (by omega)⟩
end
end K55
namespace K55
open PySem L2
/-! what a change of two neighbours takes away -/
theorem countP_sum {α : Type} (p : α → Bool) : ∀ l : List α, l.countP p = (l.map fun x => if p x then 1 else 0).sum
  | [] => rfl
  | x :: l => by
    rw [List.countP_cons, List.map_cons, List.sum_cons, countP_sum p l, Nat.add_comm]
theorem sum_add {α : Type} (f g : α → Nat) : ∀ l : List α, (l.map fun x => f x + g x).sum = (l.map f).sum + (l.map g).sum
  | [] => rfl
  | x :: l => by
    rw [List.map_cons, List.map_cons, List.map_cons, List.sum_cons, List.sum_cons, List.sum_cons, sum_add f g l]
    omega
theorem sum_zero {α : Type} : ∀ l : List α, (l.map fun _ => 0).sum = 0
  | [] => rfl
  | x :: l => by rw [List.map_cons, List.sum_cons, sum_zero l]
theorem sum_comm {α β : Type} (f : α → β → Nat) (bs : List β) : ∀ as : List α, (as.map fun x => (bs.map (f x)).sum).sum = (bs.map fun y => (as.map fun x => f x y).sum).sum
  | [] => (sum_zero bs).symm
  | x :: as => by
    rw [List.map_cons, List.sum_cons, sum_comm f bs as]
    rw [← sum_add]
    congr 1
/-- over all pairs of lines -/
def DD (ls : List Ln) (f : Ln → Ln → Nat) : Nat := (ls.map fun p => (ls.map fun q => f p q).sum).sum
theorem DD_add (ls : List Ln) (f g : Ln → Ln → Nat) : DD ls (fun p q => f p q + g p q) = DD ls f + DD ls g := by
  unfold DD
  rw [← sum_add]
  congr 1
  exact List.map_congr_left fun p _ => sum_add _ _ _
theorem DD_congr {ls : List Ln} {f g : Ln → Ln → Nat} (h : ∀ p ∈ ls, ∀ q ∈ ls, f p q = g p q) : DD ls f = DD ls g := by
  unfold DD
  congr 1
  refine List.map_congr_left fun p hp => ?_
  congr 1
  exact List.map_congr_left fun q hq => h p hp q hq
theorem DD_swap (ls : List Ln) (f : Ln → Ln → Nat) : DD ls f = DD ls fun p q => f q p := sum_comm f ls ls
/-- crossed: of two lists of places -/
def XX (as bs : List Nat) : Nat := (as.map fun x => bs.countP fun y => decide (y < x)).sum
theorem sum_filter {α : Type} (c : α → Bool) (h : α → Nat) : ∀ l : List α, ((l.filter c).map h).sum = (l.map fun x => if c x then h x else 0).sum
  | [] => rfl
  | x :: l => by
    rw [List.filter_cons, List.map_cons, List.sum_cons, ← sum_filter c h l]
    by_cases e : c x = true
    · rw [if_pos e, if_pos e, List.map_cons, List.sum_cons]
    · rw [if_neg e, if_neg e, Nat.zero_add]
theorem XX_eq (ls : List Ln) (c d : Ln → Bool) (f g : Ln → Nat) : XX ((ls.filter c).map f) ((ls.filter d).map g) = DD ls fun p q => if c p = true ∧ d q = true ∧ g q < f p then 1 else 0 := by
  unfold XX DD
  rw [List.map_map, sum_filter]
  congr 1
  refine List.map_congr_left fun p _ => ?_
  show (if c p = true then ((ls.filter d).map g).countP (fun y => decide (y < f p)) else 0) = _
  rw [List.countP_map, List.countP_filter, countP_sum]
  by_cases e : c p = true
  · rw [if_pos e]
    congr 1
    refine List.map_congr_left fun q _ => ?_
    by_cases e1 : d q = true
    · by_cases e2 : g q < f p
      · simp [e, e1, e2]
      · simp [e2]
    · simp [e1]
  · rw [if_neg e]
    show 0 = (ls.map fun q => if c p = true ∧ d q = true ∧ g q < f p then 1 else 0).sum
    have z : (ls.map fun q => if c p = true ∧ d q = true ∧ g q < f p then 1 else 0) = ls.map fun _ => 0 := List.map_congr_left fun q _ => if_neg fun z => e z.1
    rw [z, sum_zero]
def tops (ls : List Ln) (m : Str) : List Str := (ls.filter fun q => decide (q.2 = m)).map (·.1)
def bots (ls : List Ln) (m : Str) : List Str := (ls.filter fun q => decide (q.1 = m)).map (·.2)
/-- by how much the crossings become fewer -/
def GG (P : Str → Nat) (ls : List Ln) (l r : Str) : Int := ((XX ((tops ls l).map P) ((tops ls r).map P) : Nat) : Int) - (XX ((tops ls r).map P) ((tops ls l).map P) : Nat) + (((XX ((bots ls l).map P) ((bots ls r).map P) : Nat) : Int) - (XX ((bots ls r).map P) ((bots ls l).map P) : Nat))
/-! places in rows -/
def At (rows : List Row) (s : Str) (i j : Nat) : Prop := ∃ r, rows[i]? = some r ∧ r[j]? = some s
def plc : List Row → Str → Nat
  | [], _ => 0
  | r :: rs, s => match pl r s with
    | some j => j
    | none => plc rs s
def lvl : List Row → Str → Nat
  | [], _ => 0
  | r :: rs, s => match pl r s with
    | some _ => 0
    | none => lvl rs s + 1
/-- each line goes from a row to the next one -/
def Adj (rows : List Row) (ls : List Ln) : Prop := ∀ q ∈ ls, ∃ i j j', At rows q.1 i j ∧ At rows q.2 (i + 1) j'
/-! two neighbours change places -/
def tr (k j : Nat) : Nat := if j = k then k + 1 else if j = k + 1 then k else j
def swR (row : Row) (k : Nat) : Row := match row[k]?, row[k + 1]? with
  | some l, some r => (row.set k r).set (k + 1) l
  | _, _ => row
def swA (rows : List Row) (n k : Nat) : List Row := match rows[n]? with
  | some row => rows.set n (swR row k)
  | none => rows
section
variable {rows : List Row} {n k : Nat} {row : Row} {l r : Str}
/-- the measure -/
def io (P L : Str → Nat) (p q : Ln) : Nat := if L p.1 = L q.1 ∧ P p.1 < P q.1 ∧ P q.2 < P p.2 then 1 else 0
def MM (rows : List Row) (ls : List Ln) : Nat := DD ls (io (plc rows) (lvl rows))
end
/-- what the change at a place is worth -/
def Fa (rows : List Row) (ls : List Ln) (n k : Nat) (v : Int) : Prop := ∃ row l r, rows[n]? = some row ∧ row[k]? = some l ∧ row[k + 1]? = some r ∧ v = GG (plc rows) ls l r
abbrev Ch := Nat × Nat × Int
/-- the first change that is worth it, from a row on -/
def First (rows : List Row) (ls : List Ln) (start : Nat) : Option Ch → Prop
  | none => ∀ n k v, start ≤ n → Fa rows ls n k v → v ≤ 0
  | some c => start ≤ c.1 ∧ Fa rows ls c.1 c.2.1 c.2.2 ∧ 0 < c.2.2 ∧ ∀ n k v, start ≤ n → (n < c.1 ∨ n = c.1 ∧ k < c.2.1) → Fa rows ls n k v → v ≤ 0
end K55
namespace K55
open PySem L2
section
variable {P : Program} {w : World} {K : PySem.W.Frag} {mg : Str → Option Value} {base : Heap} {a : Adr}
theorem un_ln {H : Hp} {x : V} {q : Ln} (h : DtV K H (lnD q) x) : ∃ t, x = .ref t ∧ SqT K H t [.str q.1, .str q.2] := by
  obtain ⟨t, xs, rfl, h1, y1, ys1, rfl, rfl, y2, ys2, rfl, rfl, h2⟩ := h
  rw [show ys2 = [] from h2] at h1
  exact ⟨t, rfl, h1⟩
/-- at l there is a list of these lines -/
def LsAt (K : PySem.W.Frag) (H : Hp) (l : Addr) (ls : List Ln) : Prop := ∃ xs, H l = some (.lst xs) ∧ DtVs K H (ls.map lnD) xs
theorem LsAt.same {H H' : Hp} {l : Addr} {ls : List Ln} (h : LsAt K H l ls) (s : Same H H') : LsAt K H' l ls := by
  obtain ⟨xs, h1, h2⟩ := h
  exact ⟨xs, s _ _ h1, s.dts h2⟩
/-- a dict from marks to lists of marks, all of it new since H0 -/
structure Sd (H0 H : Hp) (kvs : Kvs) (g : Str → List Str) : Prop where
  cov : ∀ s, (valV kvs (Sum.inr s) = none ∧ g s = []) ∨ ∃ a, valV kvs (Sum.inr s) = some (.ref a) ∧ H a = some (.lst ((g s).map V.str)) ∧ H0 a = none
  inj : ∀ s t a, valV kvs (Sum.inr s) = some (.ref a) → valV kvs (Sum.inr t) = some (.ref a) → s = t
theorem Sd.lst {H0 H : Hp} {kvs : Kvs} {g : Str → List Str} (h : Sd H0 H kvs g) {s : Str} {a : Addr} (e : valV kvs (Sum.inr s) = some (.ref a)) : H a = some (.lst ((g s).map V.str)) ∧ H0 a = none := by
  rcases h.cov s with ⟨z, _⟩ | ⟨a', z, h1, h2⟩
  · rw [z] at e
    cases e
  · rw [z] at e
    cases e
    exact ⟨h1, h2⟩
theorem Sd.keep {H0 H H' : Hp} {kvs : Kvs} {g : Str → List Str} (h : Sd H0 H kvs g) (k : ∀ s a, valV kvs (Sum.inr s) = some (.ref a) → H' a = H a) : Sd H0 H' kvs g := ⟨fun s => by
  rcases h.cov s with z | ⟨a, z, h1, h2⟩
  · exact .inl z
  · exact .inr ⟨a, z, by rw [k s a z]; exact h1, h2⟩, h.inj⟩
def ap (g : Str → List Str) (m x : Str) : Str → List Str := fun s => if s = m then g s ++ [x] else g s
/-- two of them -/
structure Two (H0 H : Hp) (A B : Addr) (kA kB : Kvs) (gA gB : Str → List Str) : Prop where
  hA : H A = some (.dK kA)
  hB : H B = some (.dK kB)
  nAB : A ≠ B
  sA : Sd H0 H kA gA
  sB : Sd H0 H kB gB
  dj : ∀ s t a, valV kA (Sum.inr s) = some (.ref a) → valV kB (Sum.inr t) = some (.ref a) → False
theorem Two.symm {H0 H : Hp} {A B : Addr} {kA kB : Kvs} {gA gB : Str → List Str} (h : Two H0 H A B kA kB gA gB) : Two H0 H B A kB kA gB gA := ⟨h.hB, h.hA, h.nAB.symm, h.sB, h.sA, fun s t a e1 e2 => h.dj t s a e2 e1⟩
theorem Two.same {H0 H H' : Hp} {A B : Addr} {kA kB : Kvs} {gA gB : Str → List Str} (h : Two H0 H A B kA kB gA gB) (e : Same H H') : Two H0 H' A B kA kB gA gB :=
  ⟨e _ _ h.hA, e _ _ h.hB, h.nAB, h.sA.keep fun s a z => by rw [(h.sA.lst z).1]; exact e _ _ (h.sA.lst z).1, h.sB.keep fun s a z => by rw [(h.sB.lst z).1]; exact e _ _ (h.sB.lst z).1, h.dj⟩
theorem Two.put {H0 H : Hp} {A B : Addr} {kA kB : Kvs} {gA gB : Str → List Str} (h : Two H0 H A B kA kB gA gB) {m x : Str} {c : Addr} (e : valV kA (Sum.inr m) = some (.ref c)) : Two H0 (upd H c (.lst ((gA m).map V.str ++ [.str x]))) A B kA kB (ap gA m x) gB := by
  obtain ⟨hc, nc⟩ := h.sA.lst e
  refine ⟨by rw [upd_ne (ne_of h.hA hc (by intro z; cases z))]; exact h.hA, by rw [upd_ne (ne_of h.hB hc (by intro z; cases z))]; exact h.hB, h.nAB, ⟨fun s => ?_, h.sA.inj⟩, h.sB.keep fun s a z => upd_ne fun q => h.dj m s c e (by rw [← q]; exact z), h.dj⟩
  unfold ap
  by_cases es : s = m
  · subst es
    rw [if_pos rfl]
    exact .inr ⟨c, e, by rw [upd_same, List.map_append]; rfl, nc⟩
  · rw [if_neg es]
    rcases h.sA.cov s with z | ⟨a', z, h1, h2⟩
    · exact .inl z
    · exact .inr ⟨a', z, by rw [upd_ne (fun q => es (h.sA.inj s m c (by rw [← q]; exact z) e))]; exact h1, h2⟩
theorem Two.new {H0 H : Hp} {A B : Addr} {kA kB : Kvs} {gA gB : Str → List Str} (h : Two H0 H A B kA kB gA gB) {m x : Str} {c : Addr} (e : valV kA (Sum.inr m) = none) (nc : H c = none) (n0 : H0 c = none) :
    Two H0 (upd (upd (upd H c (.lst [])) A (.dK (putK kA (Sum.inr m) (.ref c)))) c (.lst ([] ++ [.str x]))) A B (putK kA (Sum.inr m) (.ref c)) kB (ap gA m x) gB := by
  have cA : A ≠ c := ne_of_none h.hA nc
  have cB : B ≠ c := ne_of_none h.hB nc
  have lA : ∀ s a', valV kA (Sum.inr s) = some (.ref a') → a' ≠ c ∧ a' ≠ A := fun s a' z => ⟨ne_of_none (h.sA.lst z).1 nc, ne_of (h.sA.lst z).1 h.hA (by intro z; cases z)⟩
  have lB : ∀ s a', valV kB (Sum.inr s) = some (.ref a') → a' ≠ c ∧ a' ≠ A := fun s a' z => ⟨ne_of_none (h.sB.lst z).1 nc, ne_of (h.sB.lst z).1 h.hA (by intro z; cases z)⟩
  have gm : gA m = [] := by
    rcases h.sA.cov m with ⟨_, z⟩ | ⟨a', z, _⟩
    · exact z
    · rw [e] at z
      cases z
  refine ⟨by rw [upd_ne cA, upd_same], by rw [upd_ne cB, upd_ne h.nAB.symm, upd_ne cB]; exact h.hB, h.nAB, ⟨fun s => ?_, fun s t a' z1 z2 => ?_⟩, h.sB.keep fun s a' z => by rw [upd_ne (lB s a' z).1, upd_ne (lB s a' z).2, upd_ne (lB s a' z).1], fun s t a' z1 z2 => ?_⟩
  · unfold ap
    rw [valV_put]
    by_cases es : s = m
    · subst es
      rw [if_pos rfl, if_pos rfl]
      exact .inr ⟨c, rfl, by rw [upd_same, gm]; rfl, n0⟩
    · rw [if_neg es, if_neg (fun q => es (Sum.inr.inj q))]
      rcases h.sA.cov s with z | ⟨a', z, h1, h2⟩
      · exact .inl z
      · exact .inr ⟨a', z, by rw [upd_ne (lA s a' z).1, upd_ne (lA s a' z).2, upd_ne (lA s a' z).1]; exact h1, h2⟩
  · rw [valV_put] at z1 z2
    by_cases e1 : s = m
    · by_cases e2 : t = m
      · rw [e1, e2]
      · rw [if_pos (by rw [e1])] at z1
        rw [if_neg (fun q => e2 (Sum.inr.inj q))] at z2
        cases z1
        exact absurd rfl (lA t _ z2).1
    · rw [if_neg (fun q => e1 (Sum.inr.inj q))] at z1
      by_cases e2 : t = m
      · rw [if_pos (by rw [e2])] at z2
        cases z2
        exact absurd rfl (lA s _ z1).1
      · rw [if_neg (fun q => e2 (Sum.inr.inj q))] at z2
        exact h.sA.inj s t a' z1 z2
  · rw [valV_put] at z1
    by_cases e1 : s = m
    · rw [if_pos (by rw [e1])] at z1
      cases z1
      exact absurd rfl (lB t _ z2).1
    · rw [if_neg (fun q => e1 (Sum.inr.inj q))] at z1
      exact h.dj s t a' z1 z2
theorem tops_snoc {ls : List Ln} {i : Nat} {q : Ln} (h : ls[i]? = some q) : tops (ls.take (i + 1)) = ap (tops (ls.take i)) q.2 q.1 := by
  funext s
  unfold tops ap
  rw [take_snoc h, List.filter_append, List.map_append]
  by_cases e : s = q.2
  · rw [if_pos e]
    simp [e]
  · rw [if_neg e]
    simp [Ne.symm e]
theorem bots_snoc {ls : List Ln} {i : Nat} {q : Ln} (h : ls[i]? = some q) : bots (ls.take (i + 1)) = ap (bots (ls.take i)) q.1 q.2 := by
  funext s
  unfold bots ap
  rw [take_snoc h, List.filter_append, List.map_append]
  by_cases e : s = q.1
  · rw [if_pos e]
    simp [e]
  · rw [if_neg e]
    simp [Ne.symm e]
/-- the two dicts of the lines' ends -/
def Sides (H0 H : Hp) (A B : Addr) (kA kB : Kvs) (ls : List Ln) : Prop := Two H0 H A B kA kB (tops ls) (bots ls) ∧ H0 A = none ∧ H0 B = none
def spEnds (K : PySem.W.Frag) : Sp := fun vs H Q _ => ∃ l ls, vs = [.ref l] ∧ LsAt K H l ls ∧ ls.length ≤ 63 ∧ ∀ t A B kA kB H', Same H H' → H t = none → H' t = some (.tup [.ref A, .ref B]) → Sides H H' A B kA kB ls → Q (.ref t) H'
set_option maxHeartbeats 4000000 in
theorem ok_ends_across (T : Tx K mg a) : Cal P w K mg base CX0 1 "ends_across" ["lines"] [] (spEnds K) := T.d_ends_across.cal fun f fd F => by
  refine F.ok sc_ends_across (fun vs H Q E h => ?_) (fun cdv A outer s H vs Q E hr h => ?_)
  · obtain ⟨l, ls, rfl, _⟩ := h
    rfl
  · obtain ⟨l, ls, rfl, ⟨xs, hl, hds⟩, hk, k⟩ := h
    have hlx : ls.length = xs.length := by rw [← hds.length, List.length_map]
    refine ⟨_, (pss_cons (ps_set (i := 1) sc_ends_across.nd rfl (by first | exact Or.inl rfl | exact Or.inr rfl) pe_dnewK)
      (pss_cons (ps_set (i := 2) sc_ends_across.nd rfl (by first | exact Or.inl rfl | exact Or.inr rfl) pe_dnewK)
      (pss_cons (ps_for PassesOwn.never rfl (pi_list (pv 0)) (pg_tup rfl (pgs_cons (pg_name (i := 3) sc_ends_across.nd rfl (by first | exact Or.inl rfl | exact Or.inr rfl)) (pgs_cons (pg_name (i := 4) sc_ends_across.nd rfl (by first | exact Or.inl rfl | exact Or.inr rfl)) pgs_nil))) (pss_cons (ps_expr (pe_bm PySem.F.plainAttrs_list PySem.F.slot_list_append PySem.F.type_list_append mt_append (pe_bm PySem.F.plainAttrs_dict PySem.F.slot_dict_setdefault PySem.F.type_dict_setdefault mt_setdefault (pv 1) (pa_cons (pv 4) (pa_cons (pe_lst pa_nil) pa_nil))) (pa_cons (pv 3) pa_nil)))
      (pss_one (ps_expr (pe_bm PySem.F.plainAttrs_list PySem.F.slot_list_append PySem.F.type_list_append mt_append (pe_bm PySem.F.plainAttrs_dict PySem.F.slot_dict_setdefault PySem.F.type_dict_setdefault mt_setdefault (pv 2) (pa_cons (pv 3) (pa_cons (pe_lst pa_nil) pa_nil))) (pa_cons (pv 4) pa_nil))))))
      (pss_one (ps_ret (pe_tup (pa_cons (pv 1) (pa_cons (pv 2) pa_nil)))))))), ?_⟩
    intro A nA
    have s1 : Same H (upd H A (.dK [])) := Same.new nA
    have h1 : upd H A (.dK []) A = some (.dK []) := upd_same
    generalize upd H A (.dK []) = H1 at s1 h1 ⊢
    intro B nB
    have s2 : Same H1 (upd H1 B (.dK [])) := Same.new nB
    have h2 : upd H1 B (.dK []) B = some (.dK []) := upd_same
    have nAB : A ≠ B := ne_of_none h1 nB
    generalize upd H1 B (.dK []) = H2 at s2 h2 ⊢
    have t2 := s1.trans s2
    have nB0 := none_of s1 nB
    have two0 : Two H H2 A B [] [] (tops (ls.take 0)) (bots (ls.take 0)) := ⟨s2 _ _ h1, h2, nAB, ⟨fun s => .inl ⟨rfl, rfl⟩, fun s t a z => by cases z⟩, ⟨fun s => .inl ⟨rfl, rfl⟩, fun s t a z => by cases z⟩, fun s t a z => by cases z⟩
    refine ⟨_, rfl, l, rfl, ⟨_, SqL.of (t2 _ _ hl)⟩, for_list (K := K) (a := l) (xs := xs) (fun i σ H' => ∃ v3 v4 kA kB, σ = [some (.ref l), some (.ref A), some (.ref B), v3, v4] ∧ Same H H' ∧ Two H H' A B kA kB (tops (ls.take i)) (bots (ls.take i)) ∧ kA.length ≤ i ∧ kB.length ≤ i ∧ ∀ s, (tops (ls.take i) s).length ≤ i ∧ (bots (ls.take i) s).length ≤ i)
      ⟨none, none, [], [], rfl, t2, two0, Nat.le_refl _, Nat.le_refl _, fun s => ⟨Nat.le_refl _, Nat.le_refl _⟩⟩ ?_ ?_ ?_⟩
    · rintro i σ H' _ ⟨_, _, _, _, rfl, sm, _⟩
      exact SqL.of (sm _ _ hl)
    · rintro i x σ H' hx ⟨v3, v4, kA, kB, rfl, sm, two, k1, k2, k3⟩
      have hi : i < xs.length := (List.getElem?_eq_some_iff.mp hx).1
      obtain ⟨q, hq, dq⟩ := dts_get hds hx
      obtain ⟨t, rfl, ht⟩ := un_ln (sm.dt dq)
      -- one entry
      have there : ∀ (H' : Hp) (A B : Addr) (kA kB : Kvs) (gA gB : Str → List Str) (m x : Str), Same H H' → Two H H' A B kA kB gA gB → ∀ z, H' z = none → ∀ u, valV kA (Sum.inr m) = some u →
          ∃ c, u = .ref c ∧ upd H' z (.lst []) c = some (.lst ((gA m).map V.str)) ∧ Same H (upd (upd H' z (.lst [])) c (.lst ((gA m).map V.str ++ [.str x]))) ∧ Two H (upd (upd H' z (.lst [])) c (.lst ((gA m).map V.str ++ [.str x]))) A B kA kB (ap gA m x) gB := fun H' A B kA kB gA gB m x sm two z nz u hu => by
        have s3 : Same H' (upd H' z (.lst [])) := Same.new nz
        rcases two.sA.cov m with ⟨z, _⟩ | ⟨c, z, c1, c2⟩
        · rw [z] at hu
          cases hu
        · rw [z] at hu
          cases hu
          exact ⟨c, rfl, s3 _ _ c1, same_upd c2 (sm.trans s3), (two.same s3).put z⟩
      refine ⟨t, _, rfl, ht, rfl, _, _, rfl, _, _, rfl, rfl, ?_⟩
      apply join (I := fun H3 => ∃ kA', Same H H3 ∧ Two H H3 A B kA' kB (ap (tops (ls.take i)) q.2 q.1) (bots (ls.take i)) ∧ kA'.length ≤ i + 1)
      case g =>
        intro rest
        refine ⟨_, rfl, .inr (.inr (.inl ⟨rfl, .inl ⟨_, two.hA⟩⟩)), _, rfl, (by show 0 ≤ sizeLine; decide), fun z nz => ?_⟩
        refine ⟨A, kA, Sum.inr q.2, .ref z, rfl, rfl, Same.new nz _ _ two.hA, by rw [sizeLine_eq]; omega, fun u hu => ?_, fun hn => ?_⟩
        · obtain ⟨c, rfl, c1, s3, two3⟩ := there H' A B kA kB _ _ q.2 q.1 sm two z nz u hu
          have := (k3 q.2).1
          refine ⟨.inl ⟨rfl, _, SqL.of c1⟩, _, rfl, c, _, _, rfl, rfl, c1, by rw [List.length_map, sizeLine_eq]; omega, ?_⟩
          exact rest _ ⟨kA, s3, two3, by omega⟩
        · have hz : upd (upd H' z (.lst [])) A (.dK (putK kA (Sum.inr q.2) (.ref z))) z = some (.lst []) := by rw [upd_ne (ne_of_none two.hA nz).symm, upd_same]
          refine ⟨.inl ⟨rfl, _, SqL.of hz⟩, _, rfl, z, _, _, rfl, rfl, hz, by show 0 < sizeLine; decide, ?_⟩
          have nz0 := none_of sm nz
          exact rest _ ⟨_, same_upd nz0 (same_upd nA (sm.trans (Same.new nz))), two.new hn nz nz0, by have := length_putK kA (Sum.inr q.2) (.ref z); omega⟩
      case h =>
      rintro H3 ⟨kA', s3, two3, k1'⟩
      apply join (I := fun H4 => ∃ kB', Same H H4 ∧ Two H H4 B A kB' kA' (ap (bots (ls.take i)) q.1 q.2) (ap (tops (ls.take i)) q.2 q.1) ∧ kB'.length ≤ i + 1)
      case g =>
        intro rest
        refine ⟨_, rfl, .inr (.inr (.inl ⟨rfl, .inl ⟨_, two3.hB⟩⟩)), _, rfl, (by show 0 ≤ sizeLine; decide), fun z nz => ?_⟩
        refine ⟨B, kB, Sum.inr q.1, .ref z, rfl, rfl, Same.new nz _ _ two3.hB, by rw [sizeLine_eq]; omega, fun u hu => ?_, fun hn => ?_⟩
        · obtain ⟨c, rfl, c1, s4, two4⟩ := there H3 B A kB kA' _ _ q.1 q.2 s3 two3.symm z nz u hu
          have := (k3 q.1).2
          refine ⟨.inl ⟨rfl, _, SqL.of c1⟩, _, rfl, c, _, _, rfl, rfl, c1, by rw [List.length_map, sizeLine_eq]; omega, ?_⟩
          exact rest _ ⟨kB, s4, two4, by omega⟩
        · have hz : upd (upd H3 z (.lst [])) B (.dK (putK kB (Sum.inr q.1) (.ref z))) z = some (.lst []) := by rw [upd_ne (ne_of_none two3.hB nz).symm, upd_same]
          refine ⟨.inl ⟨rfl, _, SqL.of hz⟩, _, rfl, z, _, _, rfl, rfl, hz, by show 0 < sizeLine; decide, ?_⟩
          have nz0 := none_of s3 nz
          exact rest _ ⟨_, same_upd nz0 (same_upd nB0 (s3.trans (Same.new nz))), two3.symm.new hn nz nz0, by have := length_putK kB (Sum.inr q.1) (.ref z); omega⟩
      case h =>
      rintro H4 ⟨kB', s4, two4, k2'⟩
      refine ⟨_, _, kA', kB', rfl, s4, ?_, k1', k2', fun s => ?_⟩
      · rw [tops_snoc hq, bots_snoc hq]
        exact two4.symm
      · rw [tops_snoc hq, bots_snoc hq]
        unfold ap
        have := k3 s
        constructor
        · split
          · rw [List.length_append]
            show _ + 1 ≤ _
            omega
          · omega
        · split
          · rw [List.length_append]
            show _ + 1 ≤ _
            omega
          · omega
    · rintro σ H' ⟨v3, v4, kA, kB, rfl, sm, two, _, _, _⟩
      rw [← hlx, List.take_length] at two
      refine ⟨_, rfl, _, rfl, (by show 2 ≤ sizeLine; decide), fun t nt => ?_⟩
      have s5 : Same H' (upd H' t (.tup [.ref A, .ref B])) := Same.new nt
      exact k t A B kA kB _ (sm.trans s5) (none_of sm nt) upd_same ⟨two.same s5, nA, nB0⟩
end
end K55
namespace K55
open PySem L2
section
variable {P : Program} {w : World} {K : PySem.W.Frag} {mg : Str → Option Value} {base : Heap} {a : Adr}
def nV (n : Nat) : V := .int (n : Int)
theorem nats_at {ns : List Nat} {i : Nat} {x : V} (h : (ns.map nV)[i]? = some x) : ∃ n, ns[i]? = some n ∧ x = .int (n : Int) := by
  rw [List.getElem?_map] at h
  cases e : ns[i]? with
  | none => rw [e] at h; cases h
  | some n => rw [e] at h; exact ⟨n, rfl, (Option.some.inj h).symm⟩
def spCrossed : Sp := fun vs H Q _ => ∃ x y as bs, vs = [.ref x, .ref y] ∧ H x = some (.lst ((as : List Nat).map nV)) ∧ H y = some (.lst ((bs : List Nat).map nV)) ∧ bs.length ≤ 63 ∧ ∀ H', Same H H' → Q (.int (XX as bs : Nat)) H'
set_option maxHeartbeats 4000000 in
theorem ok_crossed (T : Tx K mg a) : Cal P w K mg base CX0 1 "crossed" ["ahead", "behind"] [] spCrossed := T.d_crossed.cal fun f fd F => by
  refine F.ok sc_crossed (fun vs H Q E h => ?_) (fun cdv A outer s H vs Q E hr h => ?_)
  · obtain ⟨x, y, as, bs, rfl, _⟩ := h
    rfl
  · obtain ⟨x, y, as, bs, rfl, hx, hy, hb, k⟩ := h
    refine ⟨_, (pss_cons (ps_set (i := 2) sc_crossed.nd rfl (by first | exact Or.inl rfl | exact Or.inr rfl) pe_int)
      (pss_cons (ps_for PassesOwn.never rfl (pi_list (pv 0)) (pg_name (i := 3) sc_crossed.nd rfl (by first | exact Or.inl rfl | exact Or.inr rfl)) (pss_one (ps_aug (i := 2) sc_crossed.nd rfl (by first | exact Or.inl rfl | exact Or.inr rfl) (pe_callB call_len_seq rfl T.n_len bt_len (pa_cons (pe_comp (N := ["other", "place"]) (cap := [none, some 3]) rfl (cap_ok (osc := defScope s_crossed) (XN := ["ahead", "behind", "total", "place"]) rfl rfl (by decide +kernel)) (pi_list (pv 1)) (fun cl C s H fp pins => (pg_name (i := 0) (show (["other", "place"] : List Str).Nodup by decide +kernel) rfl (by first | exact Or.inl rfl | exact Or.inr rfl))) (fun cl C s H fp pins => pif_one (pt_cmpR op_lt (pv 0) (pv 1) (nomark _))) (fun cl C s H fp pins => (pv 0))) pa_nil)) ip_add)))
      (pss_one (ps_ret (pv 2))))), ?_⟩
    refine ⟨_, rfl, x, rfl, ⟨_, SqL.of hx⟩, for_list (K := K) (a := x) (xs := as.map nV) (fun i σ H' => ∃ v3, σ = [some (.ref x), some (.ref y), some (.int (XX (as.take i) bs : Nat)), v3] ∧ Same H H') ⟨none, rfl, Same.refl _⟩ ?_ ?_ ?_⟩
    · rintro i σ H' _ ⟨_, rfl, sm⟩
      exact SqL.of (sm _ _ hx)
    · rintro i z σ H' hz ⟨v3, rfl, sm⟩
      obtain ⟨n, hn, rfl⟩ := nats_at hz
      dsimp only [gName]
      refine ⟨_, rfl, _, rfl, y, rfl, ⟨_, SqL.of (sm _ _ hy)⟩, fun D hD => ?_⟩
      refine comp_list (K := K) (a := y) (xs := bs.map nV) (fun j τ H2 => ∃ w1 zs, τ = [w1, some (.int n)] ∧ Same H' H2 ∧ H2 D = some (.lst zs) ∧ zs.length = (bs.take j).countP fun b => decide (b < n)) ⟨none, [], rfl, Same.new hD, upd_same, rfl⟩ ?_ ?_ ?_
      · rintro j τ H2 _ ⟨_, _, rfl, s2, _⟩
        exact SqL.of (s2 _ _ (sm _ _ hy))
      · rintro j u τ H2 hu ⟨w1, zs, rfl, s2, hz', kz⟩
        obtain ⟨b, hb', rfl⟩ := nats_at hu
        have hj : j < bs.length := (List.getElem?_eq_some_iff.mp hb').1
        have st : (bs.take (j + 1)).countP (fun b => decide (b < n)) = (bs.take j).countP (fun b => decide (b < n)) + (if decide (b < n) = true then 1 else 0) := by
          rw [take_snoc hb', List.countP_append, List.countP_singleton]
        have kc := List.countP_le_length (p := fun b => decide (b < n)) (l := bs.take j)
        rw [List.length_take] at kc
        dsimp only [gName]
        refine ⟨_, rfl, _, rfl, _, _, rfl, rfl, _, rfl, ?_⟩
        refine iteB (fun c1 => ?_) (fun c1 => ⟨_, zs, rfl, s2, hz', ?_⟩)
        · have l1 : b < n := by have := of_decide_eq_true c1; omega
          refine ⟨_, rfl, _, hz', by rw [sizeLine_eq]; omega, _, _, rfl, same_upd hD s2, upd_same, ?_⟩
          rw [st, if_pos (decide_eq_true l1), List.length_append, kz]
          rfl
        · have l1 : ¬ b < n := by have := of_decide_eq_false c1; omega
          rw [st, if_neg (by simpa using l1), kz, Nat.add_zero]
      rintro τ H2 ⟨w1, zs, rfl, s2, hz', kz⟩
      rw [List.length_map, List.take_length] at kz
      refine ⟨D, _, rfl, .inl (SqL.of hz'), _, _, rfl, rfl, some (.int n), ?_, sm.trans s2⟩
      have e : (XX (as.take (i + 1)) bs : Int) = ((XX (as.take i) bs : Nat) : Int) + (zs.length : Int) := by
        unfold XX
        rw [take_snoc hn, List.map_append, List.sum_append, kz]
        simp
      rw [e]
      rfl
    · rintro σ H' ⟨v3, rfl, sm⟩
      rw [List.length_map, List.take_length]
      exact ⟨_, rfl, k H' sm⟩
end
end K55
namespace K55
open PySem L2
/-! sets of marks as numbers -/
def mem (n m : Nat) : List Nat := (List.range n).filter fun h => m.testBit h
theorem mem_iff {n m h : Nat} : h ∈ mem n m ↔ h < n ∧ m.testBit h = true := by
  unfold mem
  rw [List.mem_filter, List.mem_range]
theorem mem_nodup (n m : Nat) : (mem n m).Nodup := List.nodup_range.sublist List.filter_sublist
theorem mem_len (n m : Nat) : (mem n m).length ≤ n := by
  have := List.length_filter_le (fun h => m.testBit h) (List.range n)
  rwa [List.length_range] at this
theorem range_filter {p : Nat → Bool} {k n : Nat} (hk : k ≤ n) (hp : ∀ h, k ≤ h → p h = false) : (List.range k).filter p = (List.range n).filter p := by
  obtain ⟨j, rfl⟩ := Nat.exists_eq_add_of_le hk
  rw [List.range_add, List.filter_append]
  have : ((List.range j).map (k + ·)).filter p = [] := by
    rw [List.filter_eq_nil_iff]
    intro x hx
    obtain ⟨y, _, rfl⟩ := List.mem_map.mp hx
    rw [hp _ (Nat.le_add_right _ _)]
    exact Bool.false_ne_true
  rw [this, List.append_nil]
theorem bits_le {n m : Nat} (h : m < 2 ^ n) : Builtin.Int.intBits m ≤ n := by
  unfold Builtin.Int.intBits
  by_cases e : (m : Int) = 0
  · rw [if_pos (by rw [e]; rfl)]
    exact Nat.zero_le _
  · have m0 : m ≠ 0 := by omega
    rw [if_neg (by simpa using e)]
    show m.log2 + 1 ≤ n
    exact (Nat.log2_lt m0).mpr h
theorem bits_off {m h : Nat} (hh : Builtin.Int.intBits m ≤ h) : m.testBit h = false := by
  by_cases m0 : m = 0
  · rw [m0]; exact Nat.zero_testBit h
  · unfold Builtin.Int.intBits at hh
    rw [if_neg (by simpa using m0)] at hh
    have hh' : m.log2 + 1 ≤ h := hh
    exact Nat.testBit_lt_two_pow ((Nat.log2_lt m0).mp hh')
theorem bits_mem {n m : Nat} (h : m < 2 ^ n) : (List.range (Builtin.Int.intBits m)).filter (fun h => m.testBit h) = mem n m := range_filter (bits_le h) fun _ hh => bits_off hh
theorem and_bit (m h : Nat) : Builtin.bitAnd ((m : Int) / 2 ^ (h : Int).toNat) 1 = if m.testBit h then 1 else 0 := by
  have e1 : ((m : Int) / 2 ^ (h : Int).toNat) = ((m / 2 ^ h : Nat) : Int) := by
    rw [Int.toNat_natCast]
    push_cast
    rfl
  rw [e1]
  have e2 : Builtin.bitAnd ((m / 2 ^ h : Nat) : Int) 1 = ((m / 2 ^ h % 2 : Nat) : Int) := by
    unfold Builtin.bitAnd
    rw [decide_eq_true (Int.natCast_nonneg _), show decide ((0 : Int) ≤ 1) = true from rfl]
    show (((m / 2 ^ h) &&& 1 : Nat) : Int) = _
    rw [Nat.and_one_is_mod]
  rw [e2, Nat.testBit_eq_decide_div_mod_eq]
  rcases Nat.mod_two_eq_zero_or_one (m / 2 ^ h) with e | e <;> rw [e] <;> rfl
theorem bit_dec (m i : Nat) : decide (V.int (Builtin.bitAnd ((m : Int) / 2 ^ (i : Int).toNat) 1) = V.int 1) = m.testBit i := by
  rw [and_bit]
  cases m.testBit i <;> rfl
theorem filter_succ (p : Nat → Bool) (i : Nat) : (List.range (i + 1)).filter p = (List.range i).filter p ++ if p i then [i] else [] := by
  rw [List.range_succ, List.filter_append]
  cases e : p i <;> simp [e]
theorem sub_bit8 : ∀ m < 256, ∀ h < 8, m.testBit h = true → 2 ^ h ≤ m ∧ ∀ j < 8, (m - 2 ^ h).testBit j = (m.testBit j && decide (j ≠ h)) := by decide +kernel
theorem pow_le8 {n : Nat} (h : n ≤ 8) : 2 ^ n ≤ 256 := Nat.pow_le_pow_right (n := 2) (by decide) h
section
variable {n m h : Nat} (hn : n ≤ 8) (hm : m < 2 ^ n) (hh : h ∈ mem n m)
include hn hm hh
theorem sub_le : 2 ^ h ≤ m := (sub_bit8 m (Nat.lt_of_lt_of_le hm (pow_le8 hn)) h (by have := (mem_iff.mp hh).1; omega) (mem_iff.mp hh).2).1
theorem sub_lt : m - 2 ^ h < m := by
  have h1 := sub_le hn hm hh
  have h2 : 0 < 2 ^ h := Nat.two_pow_pos h
  omega
theorem sub_mem : mem n (m - 2 ^ h) = (mem n m).filter fun j => decide (j ≠ h) := by
  unfold mem
  rw [List.filter_filter]
  refine List.filter_congr fun j hj => ?_
  rw [(sub_bit8 m (Nat.lt_of_lt_of_le hm (pow_le8 hn)) h (by have := (mem_iff.mp hh).1; omega) (mem_iff.mp hh).2).2 j (by have := List.mem_range.mp hj; omega), Bool.and_comm]
end
theorem sum_out (f : Nat → Nat) : ∀ {l : List Nat} {h : Nat}, l.Nodup → h ∈ l → (l.map f).sum = f h + ((l.filter fun j => decide (j ≠ h)).map f).sum
  | [], _, _, hh => by cases hh
  | x :: l, h, nd, hh => by
    rw [List.nodup_cons] at nd
    by_cases e : x = h
    · subst e
      rw [List.filter_cons, if_neg (by simp), List.map_cons, List.sum_cons]
      congr 3
      rw [List.filter_eq_self.mpr]
      intro y hy
      exact decide_eq_true fun z => nd.1 (z ▸ hy)
    · have hl : h ∈ l := by
        rcases List.mem_cons.mp hh with z | z
        · exact absurd z.symm e
        · exact z
      rw [List.filter_cons, if_pos (decide_eq_true e), List.map_cons, List.sum_cons, List.map_cons, List.sum_cons, sum_out f nd.2 hl]
      omega
theorem mem_some {n m : Nat} (hm : m < 2 ^ n) (h0 : 0 < m) : ∃ h, h ∈ mem n m := by
  obtain ⟨i, hi⟩ := Nat.exists_testBit_of_ne_zero (x := m) (by omega)
  refine ⟨i, mem_iff.mpr ⟨?_, hi⟩⟩
  by_cases c : i < n
  · exact c
  · rw [Nat.testBit_lt_two_pow (Nat.lt_of_lt_of_le hm (Nat.pow_le_pow_right (by decide) (by omega)))] at hi
    cases hi
theorem mem_zero (n : Nat) : mem n 0 = [] := by
  unfold mem
  rw [List.filter_eq_nil_iff]
  intro h _
  rw [Nat.zero_testBit]
  exact Bool.false_ne_true
/-! the table of sets -/
/-- what a set costs with h as its last one -/
def cw (c : Nat → Nat → Nat) (n : Nat) (t : Nat → Nat) (m h : Nat) : Nat := t (m - 2 ^ h) + ((mem n (m - 2 ^ h)).map fun g => c g h).sum
structure IsT (c : Nat → Nat → Nat) (n : Nat) (t : Nat → Nat) (k : Nat) : Prop where
  z : t 0 = 0
  le : ∀ m, 0 < m → m < k → ∀ h ∈ mem n m, t m ≤ cw c n t m h
  at' : ∀ m, 0 < m → m < k → ∃ h ∈ mem n m, t m = cw c n t m h
theorem cw_congr {c : Nat → Nat → Nat} {n m h : Nat} {t t' : Nat → Nat} (e : t (m - 2 ^ h) = t' (m - 2 ^ h)) : cw c n t m h = cw c n t' m h := by
  unfold cw
  rw [e]
theorem IsT.step {c : Nat → Nat → Nat} {n k v : Nat} {t : Nat → Nat} (hn : n ≤ 8) (hk : k < 2 ^ n) (k0 : 0 < k) (a : IsT c n t k) (le : ∀ h ∈ mem n k, v ≤ cw c n t k h) (ex : ∃ h ∈ mem n k, v = cw c n t k h) :
    IsT c n (fun m => if m = k then v else t m) (k + 1) := by
  have same : ∀ m, m ≤ k → ∀ h ∈ mem n m, cw c n (fun m => if m = k then v else t m) m h = cw c n t m h := fun m hm h hh => by
    refine cw_congr ?_
    by_cases m0 : m = 0
    · subst m0
      rw [mem_zero] at hh
      cases hh
    · have := sub_lt hn (Nat.lt_of_le_of_lt hm hk) hh
      exact if_neg (by omega)
  refine ⟨by show (if 0 = k then v else t 0) = 0; rw [if_neg (by omega)]; exact a.z, fun m h0 hm h hh => ?_, fun m h0 hm => ?_⟩
  · rw [same m (by omega) h hh]
    show (if m = k then v else t m) ≤ _
    by_cases e : m = k
    · subst e
      rw [if_pos rfl]
      exact le h hh
    · rw [if_neg e]
      exact a.le m h0 (by omega) h hh
  · show ∃ h ∈ mem n m, (if m = k then v else t m) = _
    by_cases e : m = k
    · subst e
      rw [if_pos rfl]
      obtain ⟨h, hh, q⟩ := ex
      exact ⟨h, hh, by rw [same m (Nat.le_refl _) h hh]; exact q⟩
    · rw [if_neg e]
      obtain ⟨h, hh, q⟩ := a.at' m h0 (by omega)
      exact ⟨h, hh, by rw [same m (by omega) h hh]; exact q⟩
/-- the table as a dict -/
def tb (t : Nat → Nat) (k : Nat) : List (Key × V) := (List.range k).map fun i : Nat => ((Sum.inl (i : Int) : Key), V.int (t i))
theorem tb_len (t : Nat → Nat) (k : Nat) : (tb t k).length = k := by
  unfold tb
  rw [List.length_map, List.length_range]
theorem tb_congr {t t' : Nat → Nat} {k : Nat} (h : ∀ m, m < k → t m = t' m) : tb t k = tb t' k := by
  unfold tb
  refine List.map_congr_left fun i hi => ?_
  rw [h i (List.mem_range.mp hi)]
theorem tb_none (t : Nat → Nat) {k j : Nat} (h : k ≤ j) : valV (tb t k) (Sum.inl (j : Int)) = none := by
  unfold valV
  rw [Option.map_eq_none_iff, List.find?_eq_none]
  intro p hp
  unfold tb at hp
  obtain ⟨i, hi, rfl⟩ := List.mem_map.mp hp
  have := List.mem_range.mp hi
  intro z
  have z' := of_decide_eq_true z
  injection z' with z'
  omega
theorem tb_put (t : Nat → Nat) (k v : Nat) : putK (tb t k) (Sum.inl (k : Int)) (.int v) = tb (fun m => if m = k then v else t m) (k + 1) := by
  have no : ((tb t k).any fun kv => decide (kv.1 = Sum.inl (k : Int))) = false := by
    rw [valV_any, tb_none t (Nat.le_refl _)]
    rfl
  unfold putK
  rw [if_neg (by rw [no]; exact Bool.false_ne_true)]
  have e : tb (fun m => if m = k then v else t m) (k + 1) = tb (fun m => if m = k then v else t m) k ++ [(Sum.inl (k : Int), V.int v)] := by
    unfold tb
    rw [List.range_succ, List.map_append]
    simp
  rw [e, tb_congr (t := t) (t' := fun m => if m = k then v else t m) fun m hm => (if_neg (by omega)).symm]
theorem tb_get (t : Nat → Nat) : ∀ {k j : Nat}, j < k → valV (tb t k) (Sum.inl (j : Int)) = some (.int (t j))
  | 0, _, h => absurd h (Nat.not_lt_zero _)
  | k + 1, j, h => by
    have e : tb t (k + 1) = putK (tb t k) (Sum.inl (k : Int)) (.int (t k)) := by
      rw [tb_put]
      refine tb_congr fun m _ => ?_
      by_cases z : m = k
      · rw [if_pos z, z]
      · rw [if_neg z]
    rw [e, valV_put]
    by_cases z : j = k
    · rw [if_pos (by rw [z]), z]
    · rw [if_neg (fun q => z (by injection q with q; omega))]
      exact tb_get t (by omega)
/-! what an order costs -/
def cI (c : Nat → Nat → Nat) : List Nat → Nat
  | [] => 0
  | h :: l => (l.map (c h)).sum + cI c l
theorem cI_snoc (c : Nat → Nat → Nat) (x : Nat) : ∀ l : List Nat, cI c (l ++ [x]) = cI c l + (l.map fun g => c g x).sum
  | [] => rfl
  | h :: l => by
    show ((l ++ [x]).map (c h)).sum + cI c (l ++ [x]) = (l.map (c h)).sum + cI c l + (c h x + (l.map fun g => c g x).sum)
    rw [cI_snoc c x l, List.map_append, List.sum_append]
    simp only [List.map_cons, List.map_nil, List.sum_cons, List.sum_nil]
    omega
/-! which order is told -/
def lastBest (c : Nat → Nat → Nat) (n : Nat) (t : Nat → Nat) (M : Nat) : Nat := ((mem n M).filter fun h => decide (cw c n t M h = t M)).getLast?.getD 0
def ordF (c : Nat → Nat → Nat) (n : Nat) (t : Nat → Nat) : Nat → Nat → List Nat → List Nat
  | 0, _, ix => ix
  | f + 1, M, ix => if M = 0 then ix else ordF c n t f (M - 2 ^ lastBest c n t M) (lastBest c n t M :: ix)
def ordT (c : Nat → Nat → Nat) (n : Nat) (t : Nat → Nat) : List Nat := ordF c n t (2 ^ n) (2 ^ n - 1) []
theorem ordF_zero (c : Nat → Nat → Nat) (n : Nat) (t : Nat → Nat) (f : Nat) (ix : List Nat) : ordF c n t f 0 ix = ix := by
  cases f with
  | zero => rfl
  | succ f => exact if_pos rfl
theorem ordF_step {c : Nat → Nat → Nat} {n : Nat} {t : Nat → Nat} {f M h : Nat} {ix bi : List Nat} (hM : 0 < M) (hf : M ≤ f) (e : (mem n M).filter (fun h => decide (cw c n t M h = t M)) = bi ++ [h]) : ∃ f', M - 2 ^ h ≤ f' ∧ ordF c n t f' (M - 2 ^ h) (h :: ix) = ordF c n t f M ix := by
  have lb : lastBest c n t M = h := by
    unfold lastBest
    rw [e, List.getLast?_concat]
    rfl
  cases f with
  | zero => omega
  | succ f =>
    have p2 : 0 < 2 ^ h := Nat.two_pow_pos h
    refine ⟨f, by omega, ?_⟩
    show _ = if M = 0 then ix else ordF c n t f (M - 2 ^ lastBest c n t M) (lastBest c n t M :: ix)
    rw [if_neg (by omega), lb]
end K55
namespace K55
open PySem L2
section
variable {P : Program} {w : World} {K : PySem.W.Frag} {mg : Str → Option Value} {base : Heap} {a : Adr}
def spMembers : Sp := fun vs H Q _ => ∃ n m : Nat, vs = [.int m] ∧ n ≤ 8 ∧ m < 2 ^ n ∧ ∀ l H', Same H H' → H' l = some (.lst ((mem n m).map nV)) → Q (.ref l) H'
set_option maxHeartbeats 4000000 in
theorem ok_members (T : Tx K mg a) : Cal P w K mg base CX0 1 "members" ["group"] [] spMembers := T.d_members.cal fun f fd F => by
  refine F.ok sc_members (fun vs H Q E h => ?_) (fun cdv A outer s H vs Q E hr h => ?_)
  · obtain ⟨n, m, rfl, _⟩ := h
    rfl
  · obtain ⟨n, m, rfl, hn, hm, k⟩ := h
    refine ⟨_, (pss_one (ps_ret (pe_comp (N := ["h", "group"]) (cap := [none, some 0]) rfl (cap_ok (osc := defScope s_members) (XN := ["group"]) rfl rfl (by decide +kernel)) (pi_range1 rfl T.n_range (pa_cons (pe_bm0 PySem.F.plainAttrs_int PySem.F.slot_int_bit_length PySem.F.type_int_bit_length mt_bit_length (pv 0)) pa_nil)) (fun cl C s H fp pins => (pg_name (i := 0) (show (["h", "group"] : List Str).Nodup by decide +kernel) rfl (by first | exact Or.inl rfl | exact Or.inr rfl))) (fun cl C s H fp pins => pif_one (pt_cmpR op_eq (pe_op op_and (pe_op op_shr (pv 1) (pv 0)) pe_int) pe_int (nomark _))) (fun cl C s H fp pins => (pv 0))))), ?_⟩
    have hb := bits_le hm
    refine ⟨_, rfl, rfl, m, rfl, rfl, _, rfl, by have := Int.natCast_nonneg (Builtin.Int.intBits m); omega, by omega, fun D hD => ?_⟩
    refine comp_range (n := Builtin.Int.intBits m) (fun i τ H' => ∃ v1, τ = [v1, some (.int m)] ∧ Same H H' ∧ H' D = some (.lst (((List.range i).filter fun h => m.testBit h).map nV))) ⟨none, rfl, Same.new hD, upd_same⟩ ?_ ?_
    · rintro i τ H' hi ⟨v1, rfl, sm, hy⟩
      dsimp only [gName]
      have e0 : (0 : Int) + i = i := Int.zero_add _
      rw [e0]
      refine ⟨_, rfl, _, rfl, _, _, rfl, rfl, by show (0 : Int) ≤ i; omega, _, _, rfl, rfl, rfl, _, rfl, ?_⟩
      have ln := List.length_filter_le (fun h => m.testBit h) (List.range i)
      rw [List.length_range] at ln
      refine iteB (fun c1 => ?_) (fun c1 => ?_)
      · have c2 : m.testBit i = true := (bit_dec m i).symm.trans c1
        refine ⟨_, rfl, _, hy, by rw [List.length_map, sizeLine_eq]; omega, _, rfl, same_upd hD sm, ?_⟩
        rw [upd_same, filter_succ, if_pos c2, List.map_append]
        rfl
      · have c2 : m.testBit i = false := (bit_dec m i).symm.trans c1
        refine ⟨_, rfl, sm, ?_⟩
        rw [hy, filter_succ, c2]
        simp
    · rintro τ H' ⟨v1, rfl, sm, hy⟩
      rw [bits_mem hm] at hy
      exact k D H' sm hy
/-- lists of numbers -/
def Nw (H : Hp) : List Addr → List (List Nat) → Prop
  | [], [] => True
  | r :: rs, ns :: nss => H r = some (.lst (ns.map nV)) ∧ Nw H rs nss
  | _, _ => False
theorem Nw.mono {H H' : Hp} : ∀ {rs : List Addr} {nss : List (List Nat)}, Nw H rs nss → (∀ r ∈ rs, ∀ o, H r = some o → H' r = some o) → Nw H' rs nss
  | [], [], _, _ => trivial
  | r :: rs, _ :: _, h, s => ⟨s r List.mem_cons_self _ h.1, Nw.mono h.2 fun x hx => s x (List.mem_cons_of_mem _ hx)⟩
  | [], _ :: _, h, _ => h.elim
  | _ :: _, [], h, _ => h.elim
theorem Nw.same {H H' : Hp} (s : Same H H') {rs : List Addr} {nss : List (List Nat)} (h : Nw H rs nss) : Nw H' rs nss := h.mono fun r _ o e => s r o e
theorem Nw.upd {H : Hp} {l : Addr} {o : HO} {rs : List Addr} {nss : List (List Nat)} (h : Nw H rs nss) (n : ∀ r ∈ rs, r ≠ l) : Nw (L2.upd H l o) rs nss := h.mono fun r hr o e => by rw [upd_ne (n r hr)]; exact e
theorem Nw.len {H : Hp} : ∀ {rs : List Addr} {nss : List (List Nat)}, Nw H rs nss → rs.length = nss.length
  | [], [], _ => rfl
  | _ :: _, _ :: _, h => by rw [List.length_cons, List.length_cons, Nw.len h.2]
  | [], _ :: _, h => h.elim
  | _ :: _, [], h => h.elim
theorem Nw.at {H : Hp} : ∀ {rs : List Addr} {nss : List (List Nat)} {i : Nat} {r : Addr}, Nw H rs nss → rs[i]? = some r → ∃ ns, nss[i]? = some ns ∧ H r = some (.lst (ns.map nV))
  | [], [], _, _, _, e => by simp at e
  | r :: rs, ns :: nss, 0, _, h, e => by
    cases e
    exact ⟨ns, rfl, h.1⟩
  | r :: rs, ns :: nss, i + 1, _, h, e => Nw.at (i := i) h.2 (by simpa using e)
  | [], _ :: _, _, _, h, _ => h.elim
  | _ :: _, [], _, _, h, _ => h.elim
theorem Nw.snoc {H : Hp} {r : Addr} {ns : List Nat} (e : H r = some (.lst (ns.map nV))) : ∀ {rs : List Addr} {nss : List (List Nat)}, Nw H rs nss → Nw H (rs ++ [r]) (nss ++ [ns])
  | [], [], _ => ⟨e, trivial⟩
  | _ :: _, _ :: _, h => ⟨h.1, Nw.snoc e h.2⟩
  | [], _ :: _, h => h.elim
  | _ :: _, [], h => h.elim
/-- places of a mark's ends, and what one mark costs ahead of another -/
def psn (fx : Row) (ls : List Ln) (m : Str) : List Nat := (tops ls m).map fun s => (pl fx s).getD 0
def ctf (fx fr : Row) (ls : List Ln) (g h : Nat) : Nat := XX (psn fx ls (fr.getD g "")) (psn fx ls (fr.getD h ""))
theorem psn_len (fx : Row) (ls : List Ln) (m : Str) : (psn fx ls m).length ≤ ls.length := by
  unfold psn tops
  rw [List.length_map, List.length_map]
  exact List.length_filter_le _ _
abbrev Kt := List (List Key × V)
def kk (g h : Nat) : List Key := [Sum.inl (g : Int), Sum.inl (h : Int)]
theorem kk_inj {g h g' h' : Nat} (e : kk g h = kk g' h') : g = g' ∧ h = h' := by
  unfold kk at e
  injection e with e1 e2
  injection e2 with e2 _
  injection e1 with e1
  injection e2 with e2
  omega
def CAt (ck : Kt) (n : Nat) (c : Nat → Nat → Nat) : Prop := ∀ g h, g < n → h < n → valV ck (kk g h) = some (.int (c g h))
def spCosts (K : PySem.W.Frag) : Sp := fun vs H Q _ => ∃ fA rA lA fx fr ls, vs = [.ref fA, .ref rA, .ref lA] ∧ H fA = some (.lst ((fx : Row).map V.str)) ∧ H rA = some (.lst ((fr : Row).map V.str)) ∧ LsAt K H lA ls ∧ ls.length ≤ 63 ∧ Uq fx ∧ fx.length ≤ 60 ∧ fr.length ≤ 8 ∧ (∀ q ∈ ls, q.1 ∈ fx) ∧
  ∀ d ck H', Same H H' → H' d = some (.dT ck) → CAt ck fr.length (ctf fx fr ls) → Q (.ref d) H'
set_option maxHeartbeats 8000000 in
theorem ok_costs_of (T : Tx K mg a) : Cal P w K mg base CX0 2 "costs_of" ["fixed", "free", "lines"] [] (spCosts K) := T.d_costs_of.cal fun f fd F => by
  have c_places_of := ok_places_of (P := P) (w := w) (base := base) T
  have c_ends_across := ok_ends_across (P := P) (w := w) (base := base) T
  have c_crossed := ok_crossed (P := P) (w := w) (base := base) T
  refine F.ok sc_costs_of (fun vs H Q E h => ?_) (fun cdv A outer s H vs Q E hr h => ?_)
  · obtain ⟨fA, rA, lA, fx, fr, ls, rfl, _⟩ := h
    rfl
  · obtain ⟨fA, rA, lA, fx, fr, ls, rfl, hf, hrr, hls, hl63, uf, hf60, hf8, hin, k⟩ := h
    refine ⟨_, (pss_cons (ps_set (i := 3) sc_costs_of.nd rfl (by first | exact Or.inl rfl | exact Or.inr rfl) (pe_cal c_places_of (hr.mono (by decide)) rfl (pa_cons (pe_lst (pa_cons (pv 0) pa_nil)) pa_nil)))
      (pss_cons (ps_set (i := 4) sc_costs_of.nd rfl (by first | exact Or.inl rfl | exact Or.inr rfl) (pe_ix ix_tup (pe_cal c_ends_across (hr.mono (by decide)) rfl (pa_cons (pv 2) pa_nil)) pe_int (fun _ _ => rfl)))
      (pss_cons (ps_set (i := 5) sc_costs_of.nd rfl (by first | exact Or.inl rfl | exact Or.inr rfl) (pe_lst pa_nil))
      (pss_cons (ps_for PassesOwn.never rfl (pi_list (pv 1)) (pg_name (i := 6) sc_costs_of.nd rfl (by first | exact Or.inl rfl | exact Or.inr rfl)) (pss_one (ps_expr (pe_bm PySem.F.plainAttrs_list PySem.F.slot_list_append PySem.F.type_list_append mt_append (pv 5) (pa_cons (pe_comp (N := ["end", "far"]) (cap := [none, some 3]) rfl (cap_ok (osc := defScope s_costs_of) (XN := ["fixed", "free", "lines", "far", "ends", "places", "mark", "costs", "g", "ahead", "h", "behind"]) rfl rfl (by decide +kernel)) (pi_list (pe_dget2 (hu_of hr) (pv 4) (pv 6) (pe_lst pa_nil) ⟨rfl, rfl, rfl, rfl⟩)) (fun cl C s H fp pins => (pg_name (i := 0) (show (["end", "far"] : List Str).Nodup by decide +kernel) rfl (by first | exact Or.inl rfl | exact Or.inr rfl))) (fun cl C s H fp pins => pif_nil) (fun cl C s H fp pins => (pe_dget (hu_of hr) (pv 1) (pv 0) (fun _ _ => rfl)))) pa_nil)))))
      (pss_cons (ps_set (i := 7) sc_costs_of.nd rfl (by first | exact Or.inl rfl | exact Or.inr rfl) pe_dnewT)
      (pss_cons (ps_for PassesOwn.never rfl (pi_enumerate rfl T.n_enumerate (pa_cons (pv 5) pa_nil)) (pg_tup rfl (pgs_cons (pg_name (i := 8) sc_costs_of.nd rfl (by first | exact Or.inl rfl | exact Or.inr rfl)) (pgs_cons (pg_name (i := 9) sc_costs_of.nd rfl (by first | exact Or.inl rfl | exact Or.inr rfl)) pgs_nil))) (pss_one (ps_for PassesOwn.never rfl (pi_enumerate rfl T.n_enumerate (pa_cons (pv 5) pa_nil)) (pg_tup rfl (pgs_cons (pg_name (i := 10) sc_costs_of.nd rfl (by first | exact Or.inl rfl | exact Or.inr rfl)) (pgs_cons (pg_name (i := 11) sc_costs_of.nd rfl (by first | exact Or.inl rfl | exact Or.inr rfl)) pgs_nil))) (pss_one (ps_dput (hu_of hr) (pv 7) (pe_tup (pa_cons (pv 8) (pa_cons (pv 10) pa_nil))) (pe_cal c_crossed (hr.mono (by decide)) rfl (pa_cons (pv 9) (pa_cons (pv 11) pa_nil))) rfl)))))
      (pss_one (ps_ret (pv 7))))))))), ?_⟩
    refine ⟨_, rfl, (by show 1 ≤ sizeLine; decide), fun z nz => ?_⟩
    have s1 : Same H (upd H z (.lst [.ref fA])) := Same.new nz
    have h1 : upd H z (.lst [.ref fA]) z = some (.lst [.ref fA]) := upd_same
    generalize upd H z (.lst [.ref fA]) = H1 at s1 h1 ⊢
    refine ⟨z, [fA], [fx], rfl, h1, ⟨s1 _ _ hf, trivial⟩, Dis.one uf, by show 1 ≤ 30; decide, fun row hrow => by rw [List.mem_singleton.mp hrow]; exact hf60, fun far kf H2 s2 nfar hfar plf kfl => ?_⟩
    have t2 := s1.trans s2
    refine ⟨_, rfl, lA, ls, rfl, hls.same t2, hl63, fun t A B kA kB H3 s3 nt ht sd => ?_⟩
    have t3 := t2.trans s3
    refine ⟨t, _, 0, _, rfl, rfl, SqT.of ht, at_cons0, ?_⟩
    refine ⟨(by show 0 ≤ sizeLine; decide), fun p np => ?_⟩
    have s4 : Same H3 (upd H3 p (.lst [])) := Same.new np
    have h4 : upd H3 p (.lst []) p = some (.lst []) := upd_same
    have np0 := none_of t3 np
    generalize upd H3 p (.lst []) = H4 at s4 h4 ⊢
    have t4 := t3.trans s4
    have two := sd.1.same s4
    have far4 := s4 _ _ (s3 _ _ hfar)
    refine ⟨_, rfl, rA, rfl, ⟨_, SqL.of (t4 _ _ hrr)⟩, for_list (K := K) (a := rA) (xs := fr.map V.str) (fun i σ H' => ∃ v6, ∃ rs : List Addr, σ = [some (.ref fA), some (.ref rA), some (.ref lA), some (.ref far), some (.ref A), some (.ref p), v6, none, none, none, none, none] ∧ Same H H' ∧ Same H3 H' ∧ H' p = some (.lst (rs.map V.ref)) ∧ Nw H' rs ((fr.take i).map (psn fx ls)) ∧ ∀ r ∈ rs, r ≠ p)
      ⟨none, [], rfl, t4, s4, h4, trivial, fun r hr => by cases hr⟩ ?_ ?_ ?_⟩
    · rintro i σ H' _ ⟨_, _, rfl, sm, _⟩
      exact SqL.of (sm _ _ hrr)
    · rintro i x σ H' hx ⟨v6, rs, rfl, sm, sm3, hp', hw, hn⟩
      obtain ⟨m, hm, rfl⟩ := strs_at hx
      have hi : i < fr.length := (List.getElem?_eq_some_iff.mp hm).1
      have two' := sd.1.same sm3
      dsimp only [gName]
      refine ⟨_, rfl, .inl ⟨rfl, _, SqL.of hp'⟩, ?_⟩
      refine ⟨_, rfl, A, rfl, .inl ⟨_, .inl two'.hA⟩, _, rfl, (by show 0 ≤ sizeLine; decide), fun y ny => ?_⟩
      have s5 : Same H' (upd H' y (.lst [])) := Same.new ny
      have h5 : upd H' y (.lst []) y = some (.lst []) := upd_same
      generalize upd H' y (.lst []) = H5 at s5 h5 ⊢
      obtain ⟨c1, ec1, hc1⟩ : ∃ c, (valV kA (Sum.inr m)).getD (.ref y) = .ref c ∧ H5 c = some (.lst ((tops ls m).map V.str)) := by
        rcases two'.sA.cov m with ⟨e, e2⟩ | ⟨c, e, h1, _⟩
        · exact ⟨y, by rw [e]; rfl, by rw [e2]; exact h5⟩
        · exact ⟨c, by rw [e]; rfl, s5 _ _ h1⟩
      refine ⟨_, DGet.k (k := Sum.inr m) (s5 _ _ two'.hA), ?_⟩
      rw [ec1]
      refine ⟨c1, rfl, ⟨_, SqL.of hc1⟩, fun D hD => ?_⟩
      have hfar5 := s5 _ _ (sm3 _ _ (s3 _ _ hfar))
      have klen : (tops ls m).length ≤ ls.length := by
        unfold tops
        rw [List.length_map]
        exact List.length_filter_le _ _
      refine comp_list (K := K) (a := c1) (xs := (tops ls m).map V.str) (fun j τ G => ∃ w1, τ = [w1, some (.ref far)] ∧ Same H5 G ∧ G D = some (.lst (((tops ls m).take j).map fun s => nV ((pl fx s).getD 0)))) ⟨none, rfl, Same.new hD, upd_same⟩ ?_ ?_ ?_
      · rintro j τ G _ ⟨_, rfl, sg, _⟩
        exact SqL.of (sg _ _ hc1)
      · rintro j u τ G hu ⟨w1, rfl, sg, hg⟩
        obtain ⟨sx, hsx, rfl⟩ := strs_at hu
        have hj : j < (tops ls m).length := (List.getElem?_eq_some_iff.mp hsx).1
        have hmem : sx ∈ fx := by
          have := List.mem_of_getElem? hsx
          unfold tops at this
          obtain ⟨q, hq, rfl⟩ := List.mem_map.mp this
          exact hin q (List.mem_filter.mp hq).1
        obtain ⟨v, hv⟩ := List.mem_iff_getElem?.mp hmem
        have e1 := uf.vl hv
        have e2 := plf.yes fx (List.mem_singleton.mpr rfl) v sx hv
        dsimp only [gName, tYes]
        rw [if_pos rfl]
        refine ⟨_, rfl, _, rfl, far, _, rfl, dget_k (k := Sum.inr sx) (sg _ _ hfar5) e2, _, hg, by rw [List.length_map, List.length_take, sizeLine_eq]; omega, _, rfl, same_upd hD sg, ?_⟩
        rw [upd_same, take_snoc hsx, List.map_append]
        simp [e1, nV]
      rintro τ G ⟨w1, rfl, sg, hg⟩
      rw [List.length_map, List.take_length] at hg
      have u5 := s5.trans sg
      have hl5 := hw.len
      rw [List.length_map, List.length_take] at hl5
      refine ⟨p, _, _, rfl, rfl, u5 _ _ hp', by rw [List.length_map, sizeLine_eq]; omega, ?_⟩
      have nD : D ≠ p := (ne_of_none (s5 _ _ hp') hD).symm
      have all : ∀ r ∈ rs ++ [D], r ≠ p := fun r hr => by
        rcases List.mem_append.mp hr with hr | hr
        · exact hn r hr
        · rw [List.mem_singleton.mp hr]
          exact nD
      refine ⟨_, rs ++ [D], rfl, same_upd np0 (sm.trans u5), same_upd np (sm3.trans u5), by rw [upd_same, List.map_append]; rfl, ?_, all⟩
      rw [take_snoc hm, List.map_append]
      refine Nw.upd (Nw.snoc ?_ (hw.same u5)) all
      rw [hg, psn, List.map_map]
      rfl
    rintro σ H5 ⟨v6, rs, rfl, sm, sm3, hp, hw, hn⟩
    rw [List.length_map, List.take_length] at hw
    have hlen := hw.len
    rw [List.length_map] at hlen
    intro cA nC
    have s6 : Same H5 (upd H5 cA (.dT [])) := Same.new nC
    have h6 : upd H5 cA (.dT []) cA = some (.dT []) := upd_same
    have nC0 := none_of sm nC
    have nCp : p ≠ cA := ne_of_none hp nC
    have nCr : ∀ r ∈ rs, r ≠ cA := fun r hr => by
      obtain ⟨j, hj⟩ := List.mem_iff_getElem?.mp hr
      obtain ⟨ns, _, e⟩ := hw.at hj
      exact ne_of_none e nC
    generalize upd H5 cA (.dT []) = H6 at s6 h6 ⊢
    have sm6 := sm.trans s6
    have hp6 := s6 _ _ hp
    have hw6 := hw.same s6
    -- what holds in the loops
    have lk : ∀ (i : Nat) (r : Addr) (G : Hp), Nw G rs (fr.map (psn fx ls)) → rs[i]? = some r → i < fr.length ∧ G r = some (.lst ((psn fx ls (fr.getD i "")).map nV)) := fun i r G hg hr => by
      obtain ⟨ns, e1, e2⟩ := hg.at hr
      rw [List.getElem?_map] at e1
      cases e3 : fr[i]? with
      | none => rw [e3] at e1; cases e1
      | some x =>
        rw [e3] at e1
        cases e1
        refine ⟨(List.getElem?_eq_some_iff.mp e3).1, ?_⟩
        rw [e2, List.getD_eq_getElem?_getD, e3]
        rfl
    refine ⟨_, rfl, p, rfl, ⟨_, SqL.of hp6⟩, for_enum (K := K) (l := p) (xs := rs.map V.ref) (fun i σ G => ∃ v8 v9 v10 v11, ∃ ck : Kt, σ = [some (.ref fA), some (.ref rA), some (.ref lA), some (.ref far), some (.ref A), some (.ref p), v6, some (.ref cA), v8, v9, v10, v11] ∧ Same H G ∧ G p = some (.lst (rs.map V.ref)) ∧ Nw G rs (fr.map (psn fx ls)) ∧ G cA = some (.dT ck) ∧ ck.length ≤ 8 * i ∧ ∀ g h, g < i → h < fr.length → valV ck (kk g h) = some (.int (ctf fx fr ls g h)))
      ⟨none, none, none, none, [], rfl, sm6, hp6, hw6, h6, Nat.le_refl _, fun g h hg => absurd hg (Nat.not_lt_zero _)⟩ ?_ ?_ ?_⟩
    · rintro i σ G _ ⟨_, _, _, _, _, rfl, _, hg, _⟩
      exact SqL.of hg
    · rintro i y tt σ G hy nt ⟨v8, v9, v10, v11, ck, rfl, sg, hpg, hwg, hcg, kck, hck⟩
      obtain ⟨r, hr1, rfl⟩ := refs_at hy
      obtain ⟨hi, _⟩ := lk i r G hwg hr1
      have s7 : Same G (upd G tt (.tup [.int i, .ref r])) := Same.new nt
      have h7 : upd G tt (.tup [.int i, .ref r]) tt = some (.tup [.int i, .ref r]) := upd_same
      generalize upd G tt (.tup [.int i, .ref r]) = G7 at s7 h7 ⊢
      refine ⟨tt, _, rfl, SqT.of h7, rfl, _, _, rfl, _, _, rfl, rfl, ?_⟩
      refine ⟨_, rfl, p, rfl, ⟨_, SqL.of (s7 _ _ hpg)⟩, for_enum (K := K) (l := p) (xs := rs.map V.ref) (fun j σ G => ∃ v10 v11, ∃ ck : Kt, σ = [some (.ref fA), some (.ref rA), some (.ref lA), some (.ref far), some (.ref A), some (.ref p), v6, some (.ref cA), some (.int i), some (.ref r), v10, v11] ∧ Same H G ∧ G p = some (.lst (rs.map V.ref)) ∧ Nw G rs (fr.map (psn fx ls)) ∧ G cA = some (.dT ck) ∧ ck.length ≤ 8 * i + j ∧ (∀ g h, g < i → h < fr.length → valV ck (kk g h) = some (.int (ctf fx fr ls g h))) ∧ ∀ h, h < j → valV ck (kk i h) = some (.int (ctf fx fr ls i h)))
        ⟨v10, v11, ck, rfl, sg.trans s7, s7 _ _ hpg, hwg.same s7, s7 _ _ hcg, kck, hck, fun h hh => absurd hh (Nat.not_lt_zero _)⟩ ?_ ?_ ?_⟩
      · rintro j σ G _ ⟨_, _, _, rfl, _, hg, _⟩
        exact SqL.of hg
      · rintro j y' tt' σ G' hy' nt' ⟨w10, w11, ck', rfl, sg', hpg', hwg', hcg', kck', hck', hck2⟩
        obtain ⟨r', hr2, rfl⟩ := refs_at hy'
        obtain ⟨hj, hrj⟩ := lk j r' G' hwg' hr2
        obtain ⟨_, hri⟩ := lk i r G' hwg' hr1
        have s8 : Same G' (upd G' tt' (.tup [.int j, .ref r'])) := Same.new nt'
        have h8 : upd G' tt' (.tup [.int j, .ref r']) tt' = some (.tup [.int j, .ref r']) := upd_same
        generalize upd G' tt' (.tup [.int j, .ref r']) = G8 at s8 h8 ⊢
        refine ⟨tt', _, rfl, SqT.of h8, rfl, _, _, rfl, _, _, rfl, rfl, ?_⟩
        refine ⟨_, rfl, _, rfl, r, r', _, _, rfl, s8 _ _ hri, s8 _ _ hrj, Nat.le_trans (psn_len _ _ _) hl63, fun G9 s9 => ?_⟩
        have u9 := s8.trans s9
        refine ⟨_, rfl, _, rfl, _, rfl, (by show 2 ≤ sizeLine; decide), fun q nq => ?_⟩
        have s10 : Same G9 (upd G9 q (.tup [.int i, .int j])) := Same.new nq
        have h10 : upd G9 q (.tup [.int i, .int j]) q = some (.tup ((kk i j).map kV)) := upd_same
        generalize upd G9 q (.tup [.int i, .int j]) = G10 at s10 h10 ⊢
        have u10 := u9.trans s10
        refine ⟨cA, _, rfl, DPut.t (k := kk i j) (u10 _ _ hcg') h10 (by rw [sizeLine_eq]; omega), ?_⟩
        refine ⟨_, _, _, rfl, same_upd nC0 (sg'.trans u10), by rw [upd_ne nCp]; exact u10 _ _ hpg', Nw.upd (hwg'.same u10) nCr, upd_same, ?_, fun g h hg hh => ?_, fun h hh => ?_⟩
        · have := length_putK ck' (kk i j) (.int (XX (psn fx ls (fr.getD i "")) (psn fx ls (fr.getD j "")) : Nat))
          omega
        · rw [valV_put, if_neg (fun z => by have := kk_inj z; omega)]
          exact hck' g h hg hh
        · rw [valV_put]
          by_cases e : h = j
          · subst e
            rw [if_pos rfl]
            rfl
          · rw [if_neg (fun z => e (kk_inj z).2)]
            exact hck2 h (by omega)
      · rintro σ G' ⟨w10, w11, ck', rfl, sg', hpg', hwg', hcg', kck', hck', hck2⟩
        rw [List.length_map, hlen] at kck' hck2
        refine ⟨_, _, _, _, ck', rfl, sg', hpg', hwg', hcg', by omega, fun g h hg hh => ?_⟩
        by_cases e : g = i
        · subst e
          exact hck2 h hh
        · exact hck' g h (by omega) hh
    · rintro σ G ⟨v8, v9, v10, v11, ck, rfl, sg, hpg, hwg, hcg, kck, hck⟩
      rw [List.length_map, hlen] at hck
      exact ⟨_, rfl, k cA ck G sg hcg fun g h hg hh => hck g h hg hh⟩
def spWith : Sp := fun vs H Q _ => ∃ tA cA n kt m h t c ck, vs = [.ref tA, .ref cA, .int (m : Nat), .int (h : Nat)] ∧ H tA = some (.dK (tb t kt)) ∧ H cA = some (.dT ck) ∧ CAt ck n c ∧ n ≤ 8 ∧ m < 2 ^ n ∧ h ∈ mem n m ∧ m ≤ kt ∧ ∀ H', Same H H' → Q (.int (cw c n t m h : Nat)) H'
set_option maxHeartbeats 8000000 in
theorem ok_cost_with_last (T : Tx K mg a) : Cal P w K mg base CX0 2 "cost_with_last" ["table", "costs", "group", "h"] [] spWith := T.d_cost_with_last.cal fun f fd F => by
  have c_members := ok_members (P := P) (w := w) (base := base) T
  refine F.ok sc_cost_with_last (fun vs H Q E h => ?_) (fun cdv A outer s H vs Q E hr h => ?_)
  · obtain ⟨tA, cA, n, kt, m, h, t, c, ck, rfl, _⟩ := h
    rfl
  · obtain ⟨tA, cA, n, kt, m, h, t, c, ck, rfl, ht, hc, cat, hn, hm, hh, hk, k⟩ := h
    have h8 : h < n := (mem_iff.mp hh).1
    have le := sub_le hn hm hh
    have lt := sub_lt hn hm hh
    refine ⟨_, (pss_cons (ps_set (i := 4) sc_cost_with_last.nd rfl (by first | exact Or.inl rfl | exact Or.inr rfl) (pe_op op_sub (pv 2) (pe_op op_shl pe_int (pv 3))))
      (pss_one (ps_ret (pe_op op_add (pe_dget (hu_of hr) (pv 0) (pv 4) (fun _ _ => rfl)) (pe_callB call_sum rfl T.n_sum bt_sum (pa_cons (pe_comp (N := ["g", "costs", "h"]) (cap := [none, some 1, some 3]) rfl (cap_ok (osc := defScope s_cost_with_last) (XN := ["table", "costs", "group", "h", "rest"]) rfl rfl (by decide +kernel)) (pi_list (pe_cal c_members (hr.mono (by decide)) rfl (pa_cons (pv 4) pa_nil))) (fun cl C s H fp pins => (pg_name (i := 0) (show (["g", "costs", "h"] : List Str).Nodup by decide +kernel) rfl (by first | exact Or.inl rfl | exact Or.inr rfl))) (fun cl C s H fp pins => pif_nil) (fun cl C s H fp pins => (pe_dget (hu_of hr) (pv 1) (pe_tup (pa_cons (pv 0) (pa_cons (pv 2) pa_nil))) (fun _ _ => rfl)))) pa_nil)))))), ?_⟩
    have e1 : (m : Int) - 1 * 2 ^ (h : Int).toNat = ((m - 2 ^ h : Nat) : Int) := by
      rw [Int.toNat_natCast, Int.one_mul]
      push_cast [le]
      omega
    refine ⟨_, rfl, _, rfl, _, _, rfl, rfl, ⟨by show (0 : Int) ≤ h; omega, by show (h : Int) ≤ 1000000; omega, by decide⟩, _, _, rfl, rfl, ?_⟩
    dsimp only [gName]
    rw [e1]
    refine ⟨_, rfl, _, rfl, tA, _, rfl, dget_k (k := Sum.inl ((m - 2 ^ h : Nat) : Int)) ht (tb_get t (by omega)), ?_⟩
    refine ⟨_, rfl, n, m - 2 ^ h, rfl, hn, by omega, fun l H1 s1 hl => ?_⟩
    refine ⟨l, rfl, ⟨_, SqL.of hl⟩, fun D hD => ?_⟩
    have ln := mem_len n (m - 2 ^ h)
    refine comp_list (K := K) (a := l) (xs := (mem n (m - 2 ^ h)).map nV) (fun i τ G => ∃ v1, τ = [v1, some (.ref cA), some (.int (h : Nat))] ∧ Same H1 G ∧ G D = some (.lst (((mem n (m - 2 ^ h)).take i).map fun g => V.int (c g h : Nat)))) ⟨none, rfl, Same.new hD, upd_same⟩ ?_ ?_ ?_
    · rintro i τ G _ ⟨_, rfl, sg, _⟩
      exact SqL.of (sg _ _ hl)
    · rintro i x τ G hx ⟨v1, rfl, sg, hg⟩
      obtain ⟨g, hg1, rfl⟩ := nats_at hx
      have g8 : g < n := (mem_iff.mp (List.mem_of_getElem? hg1)).1
      have hi : i < (mem n (m - 2 ^ h)).length := (List.getElem?_eq_some_iff.mp hg1).1
      dsimp only [gName, tYes]
      rw [if_pos rfl]
      refine ⟨_, rfl, _, rfl, _, rfl, (by show 2 ≤ sizeLine; decide), fun q nq => ?_⟩
      have s2 : Same G (upd G q (.tup [.int g, .int h])) := Same.new nq
      have h2 : upd G q (.tup [.int g, .int h]) q = some (.tup ((kk g h).map kV)) := upd_same
      generalize upd G q (.tup [.int g, .int h]) = G2 at s2 h2 ⊢
      have u2 := sg.trans s2
      have e2 : DGet G2 cA (.ref q) (some (.int (c g h : Nat))) := by
        have := DGet.t (k := kk g h) (u2 _ _ (s1 _ _ hc)) h2
        rw [cat g h g8 h8] at this
        exact this
      refine ⟨cA, _, rfl, e2, _, s2 _ _ hg, by rw [List.length_map, List.length_take, sizeLine_eq]; omega, _, rfl, same_upd hD u2, ?_⟩
      rw [upd_same, take_snoc hg1, List.map_append]
      rfl
    rintro τ G ⟨v1, rfl, sg, hg⟩
    rw [List.length_map, List.take_length] at hg
    refine ⟨D, (mem n (m - 2 ^ h)).map fun g => (c g h : Int), rfl, SqL.of (by rw [hg, List.map_map]; rfl), _, _, rfl, rfl, ?_⟩
    have e3 : (t (m - 2 ^ h) : Int) + ((mem n (m - 2 ^ h)).map fun g => (c g h : Int)).sum = (cw c n t m h : Nat) := by
      unfold cw
      have : ∀ l : List Nat, (l.map fun g => (c g h : Int)).sum = ((l.map fun g => c g h).sum : Nat) := fun l => by
        induction l with
        | nil => rfl
        | cons x l ih => rw [List.map_cons, List.sum_cons, List.map_cons, List.sum_cons, ih]; push_cast; rfl
      rw [this]
      push_cast
      rfl
    dsimp only
    rw [e3]
    exact k G (s1.trans sg)
end
end K55
namespace K55
open PySem L2
section
variable {P : Program} {w : World} {K : PySem.W.Frag} {mg : Str → Option Value} {base : Heap} {a : Adr}
theorem shl1 (n : Nat) : (1 : Int) * 2 ^ (n : Int).toNat = ((2 ^ n : Nat) : Int) := by
  rw [Int.toNat_natCast, Int.one_mul]
  push_cast
  rfl
def spTable : Sp := fun vs H Q _ => ∃ cA n c ck, vs = [.ref cA, .int (n : Nat)] ∧ H cA = some (.dT ck) ∧ CAt ck n c ∧ n ≤ 8 ∧ ∀ tA t H', Same H H' → H tA = none → H' tA = some (.dK (tb t (2 ^ n))) → IsT c n t (2 ^ n) → Q (.ref tA) H'
set_option maxHeartbeats 8000000 in
theorem ok_table_of (T : Tx K mg a) : Cal P w K mg base CX0 3 "table_of" ["costs", "count"] [] spTable := T.d_table_of.cal fun f fd F => by
  have c_members := ok_members (P := P) (w := w) (base := base) T
  have c_cost_with_last := ok_cost_with_last (P := P) (w := w) (base := base) T
  refine F.ok sc_table_of (fun vs H Q E h => ?_) (fun cdv A outer s H vs Q E hr h => ?_)
  · obtain ⟨cA, n, c, ck, rfl, _⟩ := h
    rfl
  · obtain ⟨cA, n, c, ck, rfl, hc, cat, hn, k⟩ := h
    have p8 := pow_le8 hn
    have p0 : 0 < 2 ^ n := Nat.two_pow_pos n
    refine ⟨_, (pss_cons (ps_set (i := 2) sc_table_of.nd rfl (by first | exact Or.inl rfl | exact Or.inr rfl) (pe_disp (pps_cons pe_int pe_int pps_nil) rfl rfl (by decide) (by decide)))
      (pss_cons (ps_for PassesOwn.never rfl (pi_range2 rfl T.n_range (pa_cons pe_int (pa_cons (pe_op op_shl pe_int (pv 1)) pa_nil))) (pg_name (i := 3) sc_table_of.nd rfl (by first | exact Or.inl rfl | exact Or.inr rfl)) (pss_one (ps_dput (hu_of hr) (pv 2) (pv 3) (pe_callB call_minL rfl T.n_min bt_min (pa_cons (pe_comp (N := ["h", "table", "costs", "group"]) (cap := [none, some 2, some 0, some 3]) rfl (cap_ok (osc := defScope s_table_of) (XN := ["costs", "count", "table", "group"]) rfl rfl (by decide +kernel)) (pi_list (pe_cal c_members (hr.mono (by decide)) rfl (pa_cons (pv 3) pa_nil))) (fun cl C s H fp pins => (pg_name (i := 0) (show (["h", "table", "costs", "group"] : List Str).Nodup by decide +kernel) rfl (by first | exact Or.inl rfl | exact Or.inr rfl))) (fun cl C s H fp pins => pif_nil) (fun cl C s H fp pins => (pe_cal c_cost_with_last (hr.mono (by decide)) rfl (pa_cons (pv 1) (pa_cons (pv 2) (pa_cons (pv 3) (pa_cons (pv 0) pa_nil))))))) pa_nil)) rfl)))
      (pss_one (ps_ret (pv 2))))), ?_⟩
    intro tA nT
    refine ⟨upd_same, [(Sum.inl 0, .int 0)], rfl, by decide, ?_⟩
    have s1 : Same H (upd (upd H tA (.dK [])) tA (.dK (mergeK [] [(Sum.inl 0, .int 0)]))) := same_upd nT (Same.new nT)
    have h1 : upd (upd H tA (.dK [])) tA (.dK (mergeK [] [(Sum.inl 0, .int 0)])) tA = some (.dK (tb (fun _ => 0) 1)) := upd_same
    generalize upd (upd H tA (.dK [])) tA (.dK (mergeK [] [(Sum.inl 0, .int 0)])) = H1 at s1 h1 ⊢
    have i1 : IsT c n (fun _ => 0) 1 := ⟨rfl, fun m h0 h1 => by omega, fun m h0 h1 => by omega⟩
    dsimp only [gName]
    refine ⟨_, rfl, _, _, rfl, rfl, ⟨by show (0 : Int) ≤ n; omega, by show (n : Int) ≤ 1000000; omega, by decide⟩, 1, ((2 ^ n : Nat) : Int), congrArg (fun z => [V.int 1, V.int z]) (shl1 n), ⟨by decide, by decide, by omega, by omega⟩, for_range (lo := 1) (n := ((2 ^ n : Nat) - 1 : Int).toNat) (fun i σ H' => ∃ v3 t, σ = [some (.ref cA), some (.int n), some (.ref tA), v3] ∧ Same H H' ∧ H' tA = some (.dK (tb t (1 + i))) ∧ IsT c n t (1 + i))
      ⟨none, _, rfl, s1, h1, i1⟩ ?_ ?_⟩
    · rintro i σ H' hi ⟨v3, t, rfl, sm, ht, it⟩
      have hm : 1 + i < 2 ^ n := by omega
      have e0 : (1 : Int) + i = ((1 + i : Nat) : Int) := by omega
      rw [e0]
      generalize hmm : 1 + i = m at hm ht it ⊢
      dsimp only [gName]
      refine ⟨_, rfl, n, m, rfl, hn, hm, fun l H2 s2 hl => ?_⟩
      refine ⟨l, rfl, ⟨_, SqL.of hl⟩, fun D hD => ?_⟩
      have ln := mem_len n m
      have t2 := sm.trans s2
      refine comp_list (K := K) (a := l) (xs := (mem n m).map nV) (fun j τ G => ∃ v1, τ = [v1, some (.ref tA), some (.ref cA), some (.int m)] ∧ Same H2 G ∧ G D = some (.lst (((mem n m).take j).map fun h => V.int (cw c n t m h : Nat)))) ⟨none, rfl, Same.new hD, upd_same⟩ ?_ ?_ ?_
      · rintro j τ G _ ⟨_, rfl, sg, _⟩
        exact SqL.of (sg _ _ hl)
      · rintro j x τ G hx ⟨v1, rfl, sg, hg⟩
        obtain ⟨h, hh, rfl⟩ := nats_at hx
        have hj : j < (mem n m).length := (List.getElem?_eq_some_iff.mp hh).1
        dsimp only [gName, tYes]
        rw [if_pos rfl]
        refine ⟨_, rfl, _, rfl, _, rfl, _, rfl, tA, cA, n, m, m, h, t, c, ck, rfl, sg _ _ (s2 _ _ ht), sg _ _ (t2 _ _ hc), cat, hn, hm, List.mem_of_getElem? hh, Nat.le_refl _, fun G2 s3 => ?_⟩
        refine ⟨_, s3 _ _ hg, by rw [List.length_map, List.length_take, sizeLine_eq]; omega, _, rfl, same_upd hD (sg.trans s3), ?_⟩
        rw [upd_same, take_snoc hh, List.map_append]
        rfl
      rintro τ G ⟨v1, rfl, sg, hg⟩
      rw [List.length_map, List.take_length] at hg
      obtain ⟨h0, hh0⟩ := mem_some hm (by omega)
      refine ⟨D, (mem n m).map fun h => (cw c n t m h : Int), rfl, SqL.of (by rw [hg, List.map_map]; rfl), fun z => ?_, fun v hv hle => ?_⟩
      · have := List.map_eq_nil_iff.mp z
        rw [this] at hh0
        cases hh0
      obtain ⟨h, hh, rfl⟩ := List.mem_map.mp hv
      have t3 := t2.trans sg
      refine ⟨_, rfl, _, rfl, tA, _, rfl, DPut.k (k := Sum.inl (m : Int)) (sg _ _ (s2 _ _ ht)) (by rw [tb_len, sizeLine_eq]; omega), ?_⟩
      refine ⟨_, fun j => if j = m then cw c n t m h else t j, rfl, same_upd nT t3, ?_, ?_⟩
      · rw [upd_same, show 1 + (i + 1) = m + 1 by omega, tb_put]
      · rw [show 1 + (i + 1) = m + 1 by omega]
        refine it.step hn hm (by omega) (fun h' hh' => ?_) ⟨h, hh, rfl⟩
        have := hle _ (List.mem_map.mpr ⟨h', hh', rfl⟩)
        omega
    · rintro σ H' ⟨v3, t, rfl, sm, ht, it⟩
      rw [show 1 + ((2 ^ n : Nat) - 1 : Int).toNat = 2 ^ n by omega] at ht it
      exact ⟨_, rfl, k tA t H' sm nT ht it⟩
/-- an order of the free row: marks by number -/
def nm (fr : Row) (ix : List Nat) : Row := ix.map fun j => fr.getD j ""
def spOrder : Sp := fun vs H Q _ => ∃ tA cA rA n c ck t fr, vs = [.ref tA, .ref cA, .ref rA] ∧ H tA = some (.dK (tb t (2 ^ n))) ∧ IsT c n t (2 ^ n) ∧ H cA = some (.dT ck) ∧ CAt ck n c ∧ n ≤ 8 ∧ H rA = some (.lst ((fr : Row).map V.str)) ∧ fr.length = n ∧
  ∀ oA ix H', Same H H' → H oA = none → H' oA = some (.lst ((nm fr ix).map V.str)) → ix.Nodup → (∀ j, j ∈ ix ↔ j < n) → cI c ix = t (2 ^ n - 1) → ix = ordT c n t → Q (.ref oA) H'
set_option maxHeartbeats 8000000 in
theorem ok_order_by (T : Tx K mg a) : Cal P w K mg base CX0 3 "order_by" ["table", "costs", "free"] [] spOrder := T.d_order_by.cal fun f fd F => by
  have c_members := ok_members (P := P) (w := w) (base := base) T
  have c_cost_with_last := ok_cost_with_last (P := P) (w := w) (base := base) T
  refine F.ok sc_order_by (fun vs H Q E h => ?_) (fun cdv A outer s H vs Q E hr h => ?_)
  · obtain ⟨tA, cA, rA, n, c, ck, t, fr, rfl, _⟩ := h
    rfl
  · obtain ⟨tA, cA, rA, n, c, ck, t, fr, rfl, ht, it, hc, cat, hn, hrr, hfr, k⟩ := h
    have p8 := pow_le8 hn
    have p0 : 0 < 2 ^ n := Nat.two_pow_pos n
    refine ⟨_, (pss_cons (ps_set (i := 3) sc_order_by.nd rfl (by first | exact Or.inl rfl | exact Or.inr rfl) (pe_lst pa_nil))
      (pss_cons (ps_set (i := 4) sc_order_by.nd rfl (by first | exact Or.inl rfl | exact Or.inr rfl) (pe_op op_sub (pe_op op_shl pe_int (pe_callB call_len_seq rfl T.n_len bt_len (pa_cons (pv 2) pa_nil))) pe_int))
      (pss_cons (ps_while PassesOwn.never (pt_cmpR op_gt (pv 4) pe_int (nomark _)) (pss_cons (ps_setC (i := 5) sc_order_by.nd rfl rfl (N := ["h", "table", "costs", "group"]) (cap := [none, some 0, some 1, some 4]) rfl (cap_ok (osc := defScope s_order_by) (XN := ["table", "costs", "free", "order", "group", "best"]) rfl rfl (by decide +kernel)) (pi_list (pe_cal c_members (hr.mono (by decide)) rfl (pa_cons (pv 4) pa_nil))) (fun cl C s H fp pins => (pg_name (i := 0) (show (["h", "table", "costs", "group"] : List Str).Nodup by decide +kernel) rfl (by first | exact Or.inl rfl | exact Or.inr rfl))) (fun cl C s H fp pins => pif_one (pt_cmpR op_eq (pe_cal c_cost_with_last (hr.mono (by decide)) rfl (pa_cons (pv 1) (pa_cons (pv 2) (pa_cons (pv 3) (pa_cons (pv 0) pa_nil))))) (pe_dget (hu_of hr) (pv 1) (pv 3) (fun _ _ => rfl)) (nomark _))) (fun cl C s H fp pins => (pv 0)) (hsw := rfl))
      (pss_cons (ps_expr (pe_bm PySem.F.plainAttrs_list PySem.F.slot_list_insert PySem.F.type_list_insert mt_insert (pv 3) (pa_cons pe_int (pa_cons (pe_ix ix_list (pv 2) (pe_ix ix_list (pv 5) (pe_un un_neg pe_int) (fun _ _ => rfl)) (fun _ _ => rfl)) pa_nil))))
      (pss_one (ps_aug (i := 4) sc_order_by.nd rfl (by first | exact Or.inl rfl | exact Or.inr rfl) (pe_op op_shl pe_int (pe_ix ix_list (pv 5) (pe_un un_neg pe_int) (fun _ _ => rfl))) ip_sub)))))
      (pss_one (ps_ret (pv 3)))))), ?_⟩
    refine ⟨(by show 0 ≤ sizeLine; decide), fun oA nO => ?_⟩
    have s1 : Same H (upd H oA (.lst [])) := Same.new nO
    have h1 : upd H oA (.lst []) oA = some (.lst []) := upd_same
    generalize upd H oA (.lst []) = H1 at s1 h1 ⊢
    refine ⟨_, rfl, rA, _, rfl, .inl (SqL.of (s1 _ _ hrr)), _, _, rfl, rfl, ⟨by omega, by rw [List.length_map]; omega, by decide⟩, _, _, rfl, rfl, ?_⟩
    dsimp only [gName]
    rw [List.length_map, hfr, shl1, show ((2 ^ n : Nat) : Int) - 1 = ((2 ^ n - 1 : Nat) : Int) by omega]
    have full : ∀ j, j < n → (2 ^ n - 1).testBit j = true := fun j hj => by
      rw [Nat.testBit_two_pow_sub_one]
      exact decide_eq_true hj
    refine ⟨fun M σ H' => ∃ v5 ix, σ = [some (.ref tA), some (.ref cA), some (.ref rA), some (.ref oA), some (.int (M : Nat)), v5] ∧ Same H H' ∧ H' oA = some (.lst ((nm fr ix).map V.str)) ∧ M < 2 ^ n ∧ ix.Nodup ∧ (∀ j, j < n → (j ∈ ix ↔ M.testBit j = false)) ∧ (∀ j ∈ ix, j < n) ∧ cI c ix + ((mem n M).map fun g => (ix.map (c g)).sum).sum + t M = t (2 ^ n - 1) ∧ ∃ f, M ≤ f ∧ ordF c n t f M ix = ordT c n t,
      ⟨_, none, [], rfl, s1, h1, by omega, List.nodup_nil, fun j hj => by rw [full j hj]; simp, fun j hj => by simp at hj, ?_, 2 ^ n, by omega, rfl⟩, ?_⟩
    · show 0 + ((mem n (2 ^ n - 1)).map fun g => 0).sum + _ = _
      rw [sum_zero]
      omega
    rintro M σ H2 ⟨v5, ix, rfl, sm, ho, hM, nd, hix, hlt, inv, fu, hfu, efu⟩
    refine ⟨_, rfl, _, _, rfl, rfl, _, rfl, ?_⟩
    refine iteB (fun c1 => ?_) (fun c1 => ?_)
    · have M0 : 0 < M := by have := of_decide_eq_true c1; omega
      refine ⟨_, fun σ' H' q => q, ?_⟩
      refine ⟨_, rfl, n, M, rfl, hn, hM, fun l H3 s3 hl => ?_⟩
      refine ⟨l, rfl, ⟨_, SqL.of hl⟩, fun D hD => ?_⟩
      have ln := mem_len n M
      have t3 := sm.trans s3
      refine comp_list (K := K) (a := l) (xs := (mem n M).map nV) (fun j τ G => ∃ v1, τ = [v1, some (.ref tA), some (.ref cA), some (.int M)] ∧ Same H3 G ∧ G D = some (.lst ((((mem n M).take j).filter fun h => decide (cw c n t M h = t M)).map nV))) ⟨none, rfl, Same.new hD, upd_same⟩ ?_ ?_ ?_
      · rintro j τ G _ ⟨_, rfl, sg, _⟩
        exact SqL.of (sg _ _ hl)
      · rintro j x τ G hx ⟨v1, rfl, sg, hg⟩
        obtain ⟨h, hh, rfl⟩ := nats_at hx
        have hj : j < (mem n M).length := (List.getElem?_eq_some_iff.mp hh).1
        have lf := List.length_filter_le (fun h => decide (cw c n t M h = t M)) ((mem n M).take j)
        rw [List.length_take] at lf
        dsimp only [gName]
        refine ⟨_, rfl, _, rfl, _, rfl, _, rfl, tA, cA, n, 2 ^ n, M, h, t, c, ck, rfl, sg _ _ (t3 _ _ ht), sg _ _ (t3 _ _ hc), cat, hn, hM, List.mem_of_getElem? hh, by omega, fun G2 s4 => ?_⟩
        have u4 := sg.trans s4
        refine ⟨_, rfl, _, rfl, tA, _, rfl, dget_k (k := Sum.inl (M : Int)) (u4 _ _ (t3 _ _ ht)) (tb_get t hM), rfl, _, rfl, ?_⟩
        refine iteB (fun c2 => ?_) (fun c2 => ?_)
        · have e : cw c n t M h = t M := by
            have := of_decide_eq_true c2
            injection this with this
            omega
          refine ⟨_, rfl, _, s4 _ _ hg, by rw [List.length_map, sizeLine_eq]; omega, _, rfl, same_upd hD u4, ?_⟩
          rw [upd_same, take_snoc hh, List.filter_append, List.map_append]
          simp [e]
          rfl
        · have e : ¬ cw c n t M h = t M := fun z => by
            have := of_decide_eq_false c2
            rw [z] at this
            exact this rfl
          refine ⟨_, rfl, u4, ?_⟩
          rw [s4 _ _ hg, take_snoc hh, List.filter_append]
          simp [e]
      rintro τ G ⟨v1, rfl, sg, hg⟩
      rw [List.length_map, List.take_length] at hg
      generalize hbl : (mem n M).filter (fun h => decide (cw c n t M h = t M)) = bl at hg
      have hbm : ∀ h ∈ bl, h ∈ mem n M ∧ cw c n t M h = t M := fun h hh => by
        rw [← hbl] at hh
        obtain ⟨a1, a2⟩ := List.mem_filter.mp hh
        exact ⟨a1, of_decide_eq_true a2⟩
      obtain ⟨bi, h, rfl⟩ : ∃ bi h, bl = bi ++ [h] := by
        rcases List.eq_nil_or_concat bl with z | ⟨bi, h, z⟩
        · obtain ⟨h, hh, q⟩ := it.at' M M0 hM
          have : h ∈ bl := by
            rw [← hbl]
            exact List.mem_filter.mpr ⟨hh, decide_eq_true q.symm⟩
          rw [z] at this
          cases this
        · exact ⟨bi, h, by rw [z, List.concat_eq_append]⟩
      obtain ⟨fu', hfu', efu'⟩ := ordF_step (ix := ix) M0 hfu hbl
      obtain ⟨hh, hcw⟩ := hbm h (List.mem_append_right _ (List.mem_singleton.mpr rfl))
      have h8 : h < n := (mem_iff.mp hh).1
      have hbit := (mem_iff.mp hh).2
      have hg' : G D = some (.lst (bi.map nV ++ [nV h])) := by rw [hg, List.map_append]; rfl
      have u3 := s3.trans sg
      have t4 := t3.trans sg
      obtain ⟨sx, hsx⟩ := get_of (l := fr) (j := h) (by omega)
      have efr : atI (fr.map V.str) (h : Int) = some (.str sx) := atI_nat (by rw [List.getElem?_map, hsx]; rfl)
      have lix : ix.length ≤ 8 := by
        have : ix.length ≤ (List.range n).length := nd.length_le_of_subset fun j hj => List.mem_range.mpr (hlt j hj)
        rw [List.length_range] at this
        omega
      dsimp only [gName]
      refine ⟨_, rfl, .inl ⟨rfl, _, SqL.of (u3 _ _ ho)⟩, ?_⟩
      refine ⟨_, rfl, _, rfl, _, rfl, D, _, -1, _, rfl, rfl, SqL.of hg', atI_last _ _, rA, _, h, _, rfl, rfl, SqL.of (t4 _ _ hrr), efr, oA, _, 0, _, rfl, rfl, u3 _ _ ho, by decide, Int.natCast_nonneg _, by rw [List.length_map, nm, List.length_map, sizeLine_eq]; omega, ?_⟩
      have eo : ((nm fr ix).map V.str).take (0 : Int).toNat ++ V.str sx :: ((nm fr ix).map V.str).drop (0 : Int).toNat = (nm fr (h :: ix)).map V.str := by
        show V.str sx :: (nm fr ix).map V.str = V.str (fr.getD h "") :: (nm fr ix).map V.str
        rw [List.getD_eq_getElem?_getD, hsx]
        rfl
      rw [eo]
      have nOD : D ≠ oA := (ne_of_none (s3 _ _ ho) hD).symm
      have hD5 : upd G oA (.lst ((nm fr (h :: ix)).map V.str)) D = some (.lst (bi.map nV ++ [nV h])) := by rw [upd_ne nOD]; exact hg'
      have s5 : Same H (upd G oA (.lst ((nm fr (h :: ix)).map V.str))) := same_upd nO t4
      have h5 : upd G oA (.lst ((nm fr (h :: ix)).map V.str)) oA = some (.lst ((nm fr (h :: ix)).map V.str)) := upd_same
      generalize upd G oA (.lst ((nm fr (h :: ix)).map V.str)) = G5 at hD5 s5 h5 ⊢
      refine ⟨_, rfl, _, rfl, _, rfl, D, _, -1, _, rfl, rfl, SqL.of hD5, atI_last _ _, _, _, rfl, rfl, ⟨by show (0 : Int) ≤ h; omega, by show (h : Int) ≤ 1000000; omega, by decide⟩, _, _, rfl, rfl, ?_⟩
      have le := sub_le hn hM hh
      have lt := sub_lt hn hM hh
      have e1 : (M : Int) - 1 * 2 ^ (h : Int).toNat = ((M - 2 ^ h : Nat) : Int) := by
        rw [shl1]
        omega
      dsimp only [gName]
      rw [e1]
      have sb := sub_bit8 M (by omega) h (by omega) hbit
      have nh : h ∉ ix := fun z => by
        have := (hix h h8).mp z
        rw [hbit] at this
        cases this
      refine ⟨M - 2 ^ h, lt, _, h :: ix, rfl, s5, h5, by omega, List.nodup_cons.mpr ⟨nh, nd⟩, fun j hj => ?_, fun j hj => ?_, ?_, fu', hfu', by rw [efu']; exact efu⟩
      · rw [sb.2 j (by omega), List.mem_cons, hix j hj]
        by_cases e : j = h
        · subst e
          simp
        · simp [e]
      · rcases List.mem_cons.mp hj with rfl | hj
        · exact h8
        · exact hlt j hj
      · rw [← hcw] at inv
        unfold cw at inv
        have o1 := sum_out (fun g => (ix.map (c g)).sum) (mem_nodup n M) hh
        rw [← sub_mem hn hM hh] at o1
        have o2 := sum_add (fun g => c g h) (fun g => (ix.map (c g)).sum) (mem n (M - 2 ^ h))
        have o3 : ((mem n (M - 2 ^ h)).map fun g => ((h :: ix).map (c g)).sum) = (mem n (M - 2 ^ h)).map fun x => c x h + (ix.map (c x)).sum := rfl
        rw [o3, o2, show cI c (h :: ix) = (ix.map (c h)).sum + cI c ix from rfl]
        omega
    · have M0 : M = 0 := by have := of_decide_eq_false c1; omega
      subst M0
      refine ⟨_, rfl, k oA ix H2 sm nO ho nd (fun j => ⟨hlt j, fun hj => (hix j hj).mpr (Nat.zero_testBit j)⟩) ?_ (by rw [ordF_zero] at efu; exact efu)⟩
      rw [mem_zero, it.z] at inv
      simpa using inv
def spLeast (K : PySem.W.Frag) (a : Adr) : Sp := fun vs H Q E => ∃ fA rA lA fx fr ls, vs = [.ref fA, .ref rA, .ref lA] ∧ H fA = some (.lst ((fx : Row).map V.str)) ∧ H rA = some (.lst ((fr : Row).map V.str)) ∧ LsAt K H lA ls ∧ ls.length ≤ 63 ∧ Uq fx ∧ fx.length ≤ 60 ∧ (∀ q ∈ ls, q.1 ∈ fx) ∧
  (fr.length ≤ 8 → ∀ z oA tA ix t H', Same H H' → H' z = some (.tup [.int (t (2 ^ fr.length - 1) : Nat), .ref oA, .ref tA]) → H' oA = some (.lst ((nm fr ix).map V.str)) → H' tA = some (.dK (tb t (2 ^ fr.length))) → H oA = none → H tA = none → IsT (ctf fx fr ls) fr.length t (2 ^ fr.length) → ix.Nodup → (∀ j, j ∈ ix ↔ j < fr.length) → cI (ctf fx fr ls) ix = t (2 ^ fr.length - 1) → ix = ordT (ctf fx fr ls) fr.length t → Q (.ref z) H') ∧
  (8 < fr.length → ∀ H', Same H H' → E (.ref a.TooMany) none H')
set_option maxHeartbeats 8000000 in
theorem ok_least_order (T : Tx K mg a) : Cal P w K mg base (CXe P w) 4 "least_order" ["fixed", "free", "lines"] [] (spLeast K a) := T.d_least_order.cal fun f fd F => by
  have c_costs_of := ok_costs_of (P := P) (w := w) (base := base) T
  have c_table_of := ok_table_of (P := P) (w := w) (base := base) T
  have c_order_by := ok_order_by (P := P) (w := w) (base := base) T
  refine F.okX sc_least_order (fun vs H Q E h => ?_) (fun cdv A outer s H vs Q E hr h => ?_)
  · obtain ⟨fA, rA, lA, fx, fr, ls, rfl, _⟩ := h
    rfl
  · obtain ⟨fA, rA, lA, fx, fr, ls, rfl, hf, hrr, hls, hl63, uf, hf60, hin, k1, k2⟩ := h
    refine ⟨_, (pss_cons (ps_if (pt_cmpR op_gt (pe_callB call_len_seq rfl T.n_len bt_len (pa_cons (pv 1) pa_nil)) (pe_gInt rfl T.k_MOST_FREE) (nomark _)) (pss_one (ps_raise0 px_body T.x_TooMany rfl T.g_TooMany)) pss_nil)
      (pss_cons (ps_set (i := 3) sc_least_order.nd rfl (by first | exact Or.inl rfl | exact Or.inr rfl) (pe_cal c_costs_of (hr.mono (by decide)) rfl (pa_cons (pv 0) (pa_cons (pv 1) (pa_cons (pv 2) pa_nil)))))
      (pss_cons (ps_set (i := 4) sc_least_order.nd rfl (by first | exact Or.inl rfl | exact Or.inr rfl) (pe_cal c_table_of (hr.mono (by decide)) rfl (pa_cons (pv 3) (pa_cons (pe_callB call_len_seq rfl T.n_len bt_len (pa_cons (pv 1) pa_nil)) pa_nil))))
      (pss_one (ps_ret (pe_tup (pa_cons (pe_dget (hu_of hr) (pv 4) (pe_op op_sub (pe_op op_shl pe_int (pe_callB call_len_seq rfl T.n_len bt_len (pa_cons (pv 1) pa_nil))) pe_int) (fun _ _ => rfl)) (pa_cons (pe_cal c_order_by (hr.mono (by decide)) rfl (pa_cons (pv 4) (pa_cons (pv 3) (pa_cons (pv 1) pa_nil)))) (pa_cons (pv 4) pa_nil))))))))), ?_⟩
    refine ⟨_, rfl, rA, _, rfl, .inl (SqL.of hrr), _, _, rfl, rfl, _, rfl, ?_⟩
    refine iteB (fun c1 => ?_) (fun c1 => ?_)
    · have l8 : 8 < fr.length := by
        have := of_decide_eq_true c1
        rw [List.length_map] at this
        omega
      exact ⟨by show 0 ≤ sizeLine; decide, k2 l8 H (Same.refl _)⟩
    · have l8 : fr.length ≤ 8 := by
        have := of_decide_eq_false c1
        rw [List.length_map] at this
        omega
      have k := k1 l8
      have p0 : 0 < 2 ^ fr.length := Nat.two_pow_pos _
      refine ⟨_, rfl, _, rfl, _, rfl, fA, rA, lA, fx, fr, ls, rfl, hf, hrr, hls, hl63, uf, hf60, l8, hin, fun cA ck H1 s1 hc cat => ?_⟩
      refine ⟨_, rfl, _, rfl, rA, _, rfl, .inl (SqL.of (s1 _ _ hrr)), cA, fr.length, _, ck, by rw [List.length_map]; rfl, hc, cat, l8, fun tA t H2 s2 nT ht it => ?_⟩
      have t2 := s1.trans s2
      refine ⟨_, rfl, _, rfl, rA, _, rfl, .inl (SqL.of (t2 _ _ hrr)), _, _, rfl, rfl, ⟨by omega, by rw [List.length_map]; omega, by decide⟩, _, _, rfl, rfl, ?_⟩
      have dg : DGet H2 tA (.int (1 * 2 ^ ((fr.map V.str).length : Int).toNat - 1)) (some (.int (t (2 ^ fr.length - 1) : Nat))) := by
        rw [List.length_map, shl1, show ((2 ^ fr.length : Nat) : Int) - 1 = ((2 ^ fr.length - 1 : Nat) : Int) by omega]
        exact dget_k (k := Sum.inl ((2 ^ fr.length - 1 : Nat) : Int)) ht (tb_get t (by omega))
      refine ⟨tA, _, rfl, dg, _, rfl, _, rfl, _, rfl, tA, cA, rA, fr.length, _, ck, t, fr, rfl, ht, it, s2 _ _ hc, cat, l8, t2 _ _ hrr, rfl, fun oA ix H3 s3 nO ho nd hix hcI hord => ?_⟩
      refine ⟨_, rfl, (by show 3 ≤ sizeLine; decide), fun z nz => ?_⟩
      have s4 : Same H3 (upd H3 z (.tup [.int (t (2 ^ fr.length - 1) : Nat), .ref oA, .ref tA])) := Same.new nz
      exact k z oA tA ix t _ ((t2.trans s3).trans s4) upd_same (s4 _ _ ho) (s4 _ _ (s3 _ _ ht)) (none_of t2 nO) (none_of s1 nT) it nd hix hcI hord
end
end K55
namespace K55
open PySem L2
abbrev Pr := Nat × Nat
def prD (p : Pr) : Dt := .tup [.int p.1, .int p.2]
def pr1 (up lo : Row) (q : Ln) : Option Pr := (pl up q.1).bind fun i => (pl lo q.2).map fun j => (i, j)
def prs (up lo : Row) (ls : List Ln) : List Pr := ls.filterMap (pr1 up lo)
def xs1 (p q : Pr) : Bool := decide (p.1 < q.1) && decide (q.2 < p.2)
def cr1 (ps : List Pr) (p : Pr) : Nat := ps.countP (xs1 p)
def cr (ps : List Pr) : Nat := (ps.map (cr1 ps)).sum
theorem prs_snoc {up lo : Row} {ls : List Ln} {i : Nat} {q : Ln} (h : ls[i]? = some q) : prs up lo (ls.take (i + 1)) = prs up lo (ls.take i) ++ (pr1 up lo q).toList := by
  unfold prs
  rw [take_snoc h, List.filterMap_append]
  congr 1
theorem prs_le (up lo : Row) (ls : List Ln) : (prs up lo ls).length ≤ ls.length := List.length_filterMap_le _ _
section
variable {P : Program} {w : World} {K : PySem.W.Frag} {mg : Str → Option Value} {base : Heap} {a : Adr}
theorem un_pr {H : Hp} {x : V} {q : Pr} (h : DtV K H (prD q) x) : ∃ t, x = .ref t ∧ SqT K H t [.int q.1, .int q.2] := by
  obtain ⟨t, xs, rfl, h1, y1, ys1, rfl, rfl, y2, ys2, rfl, rfl, h2⟩ := h
  rw [show ys2 = [] from h2] at h1
  exact ⟨t, rfl, h1⟩
def spCross (K : PySem.W.Frag) : Sp := fun vs H Q _ => ∃ u v l up lo ls, vs = [.ref u, .ref v, .ref l] ∧ H u = some (.lst ((up : Row).map V.str)) ∧ H v = some (.lst ((lo : Row).map V.str)) ∧ Uq up ∧ Uq lo ∧ up.length ≤ 60 ∧ lo.length ≤ 60 ∧ LsAt K H l ls ∧ ls.length ≤ 300 ∧
  ∀ H', Same H H' → Q (.int (cr (prs up lo ls) : Nat)) H'
theorem PlAt.isS {kvs : Kvs} {row : Row} (h : PlAt kvs [row]) {s : Str} {c : Bool} (e : (valV kvs (Sum.inr s)).isSome = c) : (pl row s).isSome = c := by
  rw [h.vl] at e
  rw [← e]
  cases pl row s <;> rfl
theorem pl_get {row : Row} {s : Str} (h : (pl row s).isSome = true) : ∃ j, pl row s = some j := Option.isSome_iff_exists.mp h
set_option maxHeartbeats 4000000 in
theorem ok_crossings (T : Tx K mg a) : Cal P w K mg base CX0 2 "crossings" ["upper", "lower", "lines"] [] (spCross K) := T.d_crossings.cal fun f fd F => by
  have c_places_of := ok_places_of (P := P) (w := w) (base := base) T
  refine F.ok sc_crossings (fun vs H Q E h => ?_) (fun cdv A outer s H vs Q E hr h => ?_)
  · obtain ⟨u, v, l, up, lo, ls, rfl, _⟩ := h
    rfl
  · obtain ⟨u, v, l, up, lo, ls, rfl, hu, hv, qu, ql, ku, kl, ⟨xs, hl, hds⟩, hk, k⟩ := h
    have hlx : ls.length = xs.length := by rw [← hds.length, List.length_map]
    refine ⟨_, (pss_cons (ps_set (i := 3) sc_crossings.nd rfl (by first | exact Or.inl rfl | exact Or.inr rfl) (pe_cal c_places_of (hr.mono (by decide)) rfl (pa_cons (pe_lst (pa_cons (pv 0) pa_nil)) pa_nil)))
      (pss_cons (ps_set (i := 4) sc_crossings.nd rfl (by first | exact Or.inl rfl | exact Or.inr rfl) (pe_cal c_places_of (hr.mono (by decide)) rfl (pa_cons (pe_lst (pa_cons (pv 1) pa_nil)) pa_nil)))
      (pss_cons (ps_setC (i := 5) sc_crossings.nd rfl rfl (N := ["one", "other", "above", "below"]) (cap := [none, none, some 3, some 4]) rfl (cap_ok (osc := defScope s_crossings) (XN := ["upper", "lower", "lines", "above", "below", "ends", "total", "high", "low"]) rfl rfl (by decide +kernel)) (pi_list (pv 2)) (fun cl C s H fp pins => (pgK_tup (K := K) (n := 2) rfl rfl (pgs_cons (pg_name (i := 0) (show (["one", "other", "above", "below"] : List Str).Nodup by decide +kernel) rfl (by first | exact Or.inl rfl | exact Or.inr rfl)) (pgs_cons (pg_name (i := 1) (show (["one", "other", "above", "below"] : List Str).Nodup by decide +kernel) rfl (by first | exact Or.inl rfl | exact Or.inr rfl)) pgs_nil)))) (fun cl C s H fp pins => pif_one (PW.pt (pw_and (pt_cmp (pc_din (hu_of hr) (pv 0) (pv 2))) (pw_and1 (pt_cmp (pc_din (hu_of hr) (pv 1) (pv 3))))))) (fun cl C s H fp pins => (pe_tup (pa_cons (pe_dget (hu_of hr) (pv 2) (pv 0) (fun _ _ => rfl)) (pa_cons (pe_dget (hu_of hr) (pv 3) (pv 1) (fun _ _ => rfl)) pa_nil)))) (hsw := rfl))
      (pss_cons (ps_set (i := 6) sc_crossings.nd rfl (by first | exact Or.inl rfl | exact Or.inr rfl) pe_int)
      (pss_cons (ps_for PassesOwn.never rfl (pi_list (pv 5)) (pg_tup rfl (pgs_cons (pg_name (i := 7) sc_crossings.nd rfl (by first | exact Or.inl rfl | exact Or.inr rfl)) (pgs_cons (pg_name (i := 8) sc_crossings.nd rfl (by first | exact Or.inl rfl | exact Or.inr rfl)) pgs_nil))) (pss_one (ps_aug (i := 6) sc_crossings.nd rfl (by first | exact Or.inl rfl | exact Or.inr rfl) (pe_callB call_len_seq rfl T.n_len bt_len (pa_cons (pe_comp (N := ["end", "high", "low"]) (cap := [none, some 7, some 8]) rfl (cap_ok (osc := defScope s_crossings) (XN := ["upper", "lower", "lines", "above", "below", "ends", "total", "high", "low"]) rfl rfl (by decide +kernel)) (pi_list (pv 5)) (fun cl C s H fp pins => (pg_name (i := 0) (show (["end", "high", "low"] : List Str).Nodup by decide +kernel) rfl (by first | exact Or.inl rfl | exact Or.inr rfl))) (fun cl C s H fp pins => pif_one (PW.pt (pw_and (pt_cmpR op_lt (pv 1) (pe_ix (ixK_tup (K := K) rfl) (pv 0) pe_int (fun _ _ => rfl)) (nomark _)) (pw_and1 (pt_cmpR op_gt (pv 2) (pe_ix (ixK_tup (K := K) rfl) (pv 0) pe_int (fun _ _ => rfl)) (nomark _)))))) (fun cl C s H fp pins => (pv 0))) pa_nil)) ip_add)))
      (pss_one (ps_ret (pv 6)))))))), ?_⟩
    refine ⟨_, rfl, (by show 1 ≤ sizeLine; decide), fun p np => ?_⟩
    have s1 : Same H (upd H p (.lst [.ref u])) := Same.new np
    have h1p : upd H p (.lst [.ref u]) p = some (.lst [.ref u]) := upd_same
    generalize upd H p (.lst [.ref u]) = H1 at s1 h1p ⊢
    refine ⟨p, [u], [up], rfl, h1p, ⟨s1 _ _ hu, trivial⟩, Dis.one qu, by show 1 ≤ 30; decide, fun r hr => by rw [List.mem_singleton.mp hr]; exact ku, fun d1 kvs1 H2 s2 nd1 hd1 pk1 _ => ?_⟩
    have t2 := s1.trans s2
    refine ⟨_, rfl, (by show 1 ≤ sizeLine; decide), fun p2 np2 => ?_⟩
    have s3 : Same H2 (upd H2 p2 (.lst [.ref v])) := Same.new np2
    have h3p : upd H2 p2 (.lst [.ref v]) p2 = some (.lst [.ref v]) := upd_same
    generalize upd H2 p2 (.lst [.ref v]) = H3 at s3 h3p ⊢
    refine ⟨p2, [v], [lo], rfl, h3p, ⟨(t2.trans s3) _ _ hv, trivial⟩, Dis.one ql, by show 1 ≤ 30; decide, fun r hr => by rw [List.mem_singleton.mp hr]; exact kl, fun d2 kvs2 H4 s4 nd2 hd2 pk2 _ => ?_⟩
    have t4 := t2.trans (s3.trans s4)
    have hd1' := s4 _ _ (s3 _ _ hd1)
    -- the ends
    refine ⟨_, rfl, l, rfl, ⟨_, SqL.of (t4 _ _ hl)⟩, fun D hD => ?_⟩
    refine comp_list (K := K) (a := l) (xs := xs) (fun i τ H' => ∃ v1 v2 ys, τ = [v1, v2, some (.ref d1), some (.ref d2)] ∧ Same H4 H' ∧ H' D = some (.lst ys) ∧ DtVs K H' ((prs up lo (ls.take i)).map prD) ys) ⟨none, none, [], rfl, Same.new hD, upd_same, rfl⟩ ?_ ?_ ?_
    · rintro i τ H' _ ⟨_, _, _, rfl, sm, _⟩
      exact SqL.of (sm _ _ (t4 _ _ hl))
    · rintro i x τ H' hx ⟨v1, v2, ys, rfl, sm, hy, hdy⟩
      have hi : i < xs.length := (List.getElem?_eq_some_iff.mp hx).1
      obtain ⟨q, hq, dq⟩ := dts_get hds hx
      obtain ⟨t, rfl, ht⟩ := un_ln ((t4.trans sm).dt dq)
      have kn : ys.length ≤ 300 := by
        have e1 := hdy.length
        have e2 := prs_le up lo (ls.take i)
        rw [List.length_map] at e1
        rw [List.length_take] at e2
        omega
      refine ⟨t, _, rfl, ht, rfl, _, _, rfl, _, _, rfl, rfl, ?_⟩
      refine ⟨_, rfl, _, rfl, d1, _, rfl, DGet.k (k := Sum.inr q.1) (sm _ _ hd1'), _, rfl, ?_⟩
      have no : pr1 up lo q = none → ∃ v1 v2 ys, [some (V.str q.1), some (V.str q.2), some (.ref d1), some (.ref d2)] = [v1, v2, some (.ref d1), some (.ref d2)] ∧ Same H4 H' ∧ H' D = some (.lst ys) ∧ DtVs K H' ((prs up lo (ls.take (i + 1))).map prD) ys := fun e => by
        refine ⟨_, _, ys, rfl, sm, hy, ?_⟩
        rw [prs_snoc hq, e]
        simpa using hdy
      refine iteB (fun c1 => ?_) (fun c1 => iteF (no ?_))
      · refine ⟨_, rfl, _, rfl, d2, _, rfl, DGet.k (k := Sum.inr q.2) (sm _ _ hd2), _, rfl, ?_⟩
        refine iteB (fun c2 => ?_) (fun c2 => no ?_)
        · obtain ⟨i1, e1⟩ := pl_get (pk1.isS c1)
          obtain ⟨i2, e2⟩ := pl_get (pk2.isS c2)
          have b1 : valV kvs1 (Sum.inr q.1) = some (.int (i1 : Int)) := by rw [pk1.vl, e1]; rfl
          have b2 : valV kvs2 (Sum.inr q.2) = some (.int (i2 : Int)) := by rw [pk2.vl, e2]; rfl
          refine ⟨_, rfl, _, rfl, d1, _, rfl, dget_k (sm _ _ hd1') b1, _, rfl, _, rfl, d2, _, rfl, dget_k (sm _ _ hd2) b2, (by show 2 ≤ sizeLine; decide), fun z nz => ?_⟩
          have s5 : Same H' (upd H' z (.tup [.int i1, .int i2])) := Same.new nz
          have h5 : upd H' z (.tup [.int i1, .int i2]) z = some (.tup [.int i1, .int i2]) := upd_same
          generalize upd H' z (.tup [.int i1, .int i2]) = H5 at s5 h5 ⊢
          refine ⟨_, s5 _ _ hy, by rw [sizeLine_eq]; omega, _, _, _, rfl, same_upd hD (sm.trans s5), upd_same, ?_⟩
          have e : pr1 up lo q = some (i1, i2) := by unfold pr1; rw [e1, e2]; rfl
          rw [prs_snoc hq, e, List.map_append]
          have keep : ∀ {d : Dt} {x : V}, noLst d = true → DtV K H5 d x → DtV K (upd H5 D (.lst (ys ++ [.ref z]))) d x := fun n h => (Tk.upd (s5 _ _ hy) rfl).dt n h
          refine DtVs.snoc (d := prD (i1, i2)) (keep rfl ⟨z, _, rfl, SqT.of h5, _, _, rfl, rfl, _, _, rfl, rfl, rfl⟩) ?_
          exact (Tk.upd (s5 _ _ hy) rfl).dts (noLsts_map (fun _ => rfl) _) (s5.dts hdy)
        · unfold pr1
          have := pk2.isS c2
          cases e : pl lo q.2 with
          | none => cases pl up q.1 <;> rfl
          | some j => rw [e] at this; cases this
      · unfold pr1
        have := pk1.isS c1
        cases e : pl up q.1 with
        | none => rfl
        | some j => rw [e] at this; cases this
    rintro τ H5 ⟨v1, v2, ys, rfl, s5, h5, hdy⟩
    rw [← hlx, List.take_length] at hdy
    have hk2 := prs_le up lo ls
    have kn : ys.length = (prs up lo ls).length := by rw [← hdy.length, List.length_map]
    generalize prs up lo ls = ps at hdy hk2 kn k
    -- the sum
    refine ⟨_, rfl, D, rfl, ⟨_, SqL.of h5⟩, for_list (K := K) (a := D) (xs := ys) (fun i σ H' => ∃ v7 v8, σ = [some (.ref u), some (.ref v), some (.ref l), some (.ref d1), some (.ref d2), some (.ref D), some (.int (((ps.take i).map (cr1 ps)).sum : Nat)), v7, v8] ∧ Same H5 H')
      ⟨none, none, rfl, Same.refl _⟩ ?_ ?_ ?_⟩
    · rintro i σ H' _ ⟨_, _, rfl, sm⟩
      exact SqL.of (sm _ _ h5)
    · rintro i x σ H' hx ⟨v7, v8, rfl, sm⟩
      obtain ⟨p, hp, dp⟩ := dts_get hdy hx
      obtain ⟨t, rfl, ht⟩ := un_pr (sm.dt dp)
      refine ⟨t, _, rfl, ht, rfl, _, _, rfl, _, _, rfl, rfl, ?_⟩
      refine ⟨_, rfl, _, rfl, D, rfl, ⟨_, SqL.of (sm _ _ h5)⟩, fun G hG => ?_⟩
      refine comp_list (K := K) (a := D) (xs := ys) (fun j τ H2 => ∃ w1 zs, τ = [w1, some (.int p.1), some (.int p.2)] ∧ Same H' H2 ∧ H2 G = some (.lst zs) ∧ zs.length = (ps.take j).countP (xs1 p)) ⟨none, [], rfl, Same.new hG, upd_same, rfl⟩ ?_ ?_ ?_
      · rintro j τ H2 _ ⟨_, _, rfl, s2', _⟩
        exact SqL.of (s2' _ _ (sm _ _ h5))
      · rintro j y τ H2 hy ⟨w1, zs, rfl, s2', hz, kz⟩
        obtain ⟨q, hq, dq⟩ := dts_get hdy hy
        obtain ⟨tq, rfl, htq⟩ := un_pr ((sm.trans s2').dt dq)
        have kc : zs.length ≤ 300 := by
          have := List.countP_le_length (p := xs1 p) (l := ps.take j)
          rw [List.length_take] at this
          omega
        have st : (ps.take (j + 1)).countP (xs1 p) = (ps.take j).countP (xs1 p) + (if xs1 p q then 1 else 0) := by
          rw [take_snoc hq, List.countP_append, List.countP_singleton]
        dsimp only [gName]
        refine ⟨_, rfl, _, rfl, tq, _, _, _, rfl, rfl, htq, rfl, _, _, rfl, rfl, _, rfl, ?_⟩
        refine iteB (fun c1 => ?_) (fun c1 => iteF ⟨_, zs, rfl, s2', hz, ?_⟩)
        · have l1 : p.1 < q.1 := by have := of_decide_eq_true c1; omega
          refine ⟨_, rfl, _, rfl, tq, _, _, _, rfl, rfl, htq, rfl, _, _, rfl, rfl, _, rfl, ?_⟩
          refine iteB (fun c2 => ?_) (fun c2 => ⟨_, zs, rfl, s2', hz, ?_⟩)
          · have l2 : q.2 < p.2 := by have := of_decide_eq_true c2; omega
            refine ⟨_, rfl, _, hz, by rw [sizeLine_eq]; omega, _, _, rfl, same_upd hG s2', upd_same, ?_⟩
            rw [st, List.length_append, kz]
            unfold xs1
            rw [decide_eq_true l1, decide_eq_true l2]
            rfl
          · have l2 : ¬ q.2 < p.2 := by have := of_decide_eq_false c2; omega
            rw [st, kz]
            unfold xs1
            rw [decide_eq_false l2, Bool.and_false]
            rfl
        · have l1 : ¬ p.1 < q.1 := by have := of_decide_eq_false c1; omega
          rw [st, kz]
          unfold xs1
          rw [decide_eq_false l1]
          rfl
      rintro τ H2 ⟨w1, zs, rfl, s2', hz, kz⟩
      refine ⟨G, _, rfl, .inl (SqL.of hz), _, _, rfl, rfl, ?_⟩
      have kk : ys.length = ps.length := by omega
      rw [kk, List.take_length] at kz
      refine ⟨some (.int p.1), some (.int p.2), ?_, sm.trans s2'⟩
      have e : ((((ps.take i).map (cr1 ps)).sum : Nat) : Int) + (zs.length : Int) = ((((ps.take (i + 1)).map (cr1 ps)).sum : Nat) : Int) := by
        rw [take_snoc hp, List.map_append, List.sum_append, kz]
        simp [cr1]
      rw [← e]
      rfl
    · rintro σ H6 ⟨v7, v8, rfl, s6⟩
      refine ⟨_, rfl, ?_⟩
      have kk : ys.length = ps.length := by omega
      rw [kk, List.take_length]
      exact k H6 (t4.trans (s5.trans s6))
end
end K55
namespace K55
open PySem L2
/-! no order costs less than the table says; what an order costs is how many lines cross -/
theorem low (c : Nat → Nat → Nat) {n : Nat} {t : Nat → Nat} (hn : n ≤ 8) (it : IsT c n t (2 ^ n)) : ∀ (k : Nat) (ix : List Nat) (M : Nat), ix.length = k → M < 2 ^ n → ix.Nodup → (∀ j ∈ ix, j < n) → (∀ j, j < n → (j ∈ ix ↔ M.testBit j = true)) → t M ≤ cI c ix
  | 0, ix, M, hk, hM, nd, hlt, hb => by
    have e : ix = [] := List.length_eq_zero_iff.mp hk
    subst e
    have M0 : M = 0 := by
      by_cases z : M = 0
      · exact z
      · obtain ⟨h, hh⟩ := mem_some hM (by omega)
        have := (hb h (mem_iff.mp hh).1).mpr (mem_iff.mp hh).2
        cases this
    rw [M0, it.z]
    exact Nat.zero_le _
  | k + 1, ix, M, hk, hM, nd, hlt, hb => by
    obtain ⟨l, h, rfl⟩ : ∃ l h, ix = l ++ [h] := by
      rcases List.eq_nil_or_concat ix with z | ⟨l, h, z⟩
      · rw [z] at hk
        cases hk
      · exact ⟨l, h, by rw [z, List.concat_eq_append]⟩
    have hmem : h ∈ l ++ [h] := List.mem_append_right _ (List.mem_singleton.mpr rfl)
    have h8 := hlt h hmem
    have hbit := (hb h h8).mp hmem
    have hh : h ∈ mem n M := mem_iff.mpr ⟨h8, hbit⟩
    have nl := List.nodup_append.mp nd
    have hnl : h ∉ l := fun z => nl.2.2 h z h (List.mem_singleton.mpr rfl) rfl
    have M0 : 0 < M := by
      by_cases z : M = 0
      · rw [z, Nat.zero_testBit] at hbit
        cases hbit
      · omega
    have lt := sub_lt hn hM hh
    have p8 := pow_le8 hn
    have sb := sub_bit8 M (by omega) h (by omega) hbit
    have hb' : ∀ j, j < n → (j ∈ l ↔ (M - 2 ^ h).testBit j = true) := fun j hj => by
      rw [sb.2 j (by omega)]
      have := hb j hj
      rw [List.mem_append, List.mem_singleton] at this
      by_cases e : j = h
      · subst e
        simp [hnl]
      · rw [Bool.and_eq_true, ← this]
        simp [e]
    have ih := low c hn it k l (M - 2 ^ h) (by rw [List.length_append] at hk; simpa using hk) (by omega) nl.1 (fun j hj => hlt j (List.mem_append_left _ hj)) hb'
    have up := it.le M M0 hM h hh
    unfold cw at up
    have pm : (mem n (M - 2 ^ h)).Perm l := (List.perm_ext_iff_of_nodup (mem_nodup _ _) nl.1).mpr fun j => by
      rw [mem_iff]
      constructor
      · rintro ⟨a1, a2⟩
        exact (hb' j a1).mpr a2
      · intro a1
        have a2 := hlt j (List.mem_append_left _ a1)
        exact ⟨a2, (hb' j a2).mp a1⟩
    have es : ((mem n (M - 2 ^ h)).map fun g => c g h).sum = (l.map fun g => c g h).sum := (pm.map _).sum_nat
    rw [cI_snoc]
    omega
theorem low_all {c : Nat → Nat → Nat} {n : Nat} {t : Nat → Nat} (hn : n ≤ 8) (it : IsT c n t (2 ^ n)) {ix : List Nat} (nd : ix.Nodup) (h : ∀ j, j ∈ ix ↔ j < n) : t (2 ^ n - 1) ≤ cI c ix := by
  refine low c hn it _ ix _ rfl (by have := Nat.two_pow_pos n; omega) nd (fun j hj => (h j).mp hj) fun j hj => ?_
  rw [Nat.testBit_two_pow_sub_one, decide_eq_true hj]
  exact ⟨fun _ => rfl, fun _ => (h j).mpr hj⟩
/-- what an order of marks costs -/
def cR (fx : Row) (ls : List Ln) : Row → Nat
  | [] => 0
  | m :: l => (l.map fun x => XX (psn fx ls m) (psn fx ls x)).sum + cR fx ls l
theorem cI_cR (fx fr : Row) (ls : List Ln) : ∀ ix : List Nat, cI (ctf fx fr ls) ix = cR fx ls (nm fr ix)
  | [] => rfl
  | h :: l => by
    show (l.map (ctf fx fr ls h)).sum + cI (ctf fx fr ls) l = ((nm fr l).map fun x => XX (psn fx ls (fr.getD h "")) (psn fx ls x)).sum + cR fx ls (nm fr l)
    rw [cI_cR fx fr ls l]
    unfold nm
    rw [List.map_map]
    rfl
/-- one mark stands ahead of another -/
def bef : Row → Str → Str → Bool
  | [], _, _ => false
  | m :: l, x, y => (decide (x = m) && decide (y ∈ l)) || bef l x y
theorem bef_mem : ∀ {o : Row} {x y : Str}, bef o x y = true → x ∈ o ∧ y ∈ o
  | m :: l, x, y, h => by
    unfold bef at h
    rw [Bool.or_eq_true, Bool.and_eq_true, decide_eq_true_eq, decide_eq_true_eq] at h
    rcases h with ⟨h1, h2⟩ | h
    · exact ⟨by rw [h1]; exact List.mem_cons_self, List.mem_cons_of_mem _ h2⟩
    · exact ⟨List.mem_cons_of_mem _ (bef_mem h).1, List.mem_cons_of_mem _ (bef_mem h).2⟩
def pp (o : Row) (s : Str) : Nat := (pl o s).getD 0
theorem pl_mem : ∀ {o : Row} {s : Str}, s ∈ o → ∃ j, pl o s = some j := fun {o s} h => by
  cases e : pl o s with
  | some j => exact ⟨j, rfl⟩
  | none => exact absurd h (pl_none e)
theorem bef_pp : ∀ {o : Row} {x y : Str}, o.Nodup → x ∈ o → y ∈ o → bef o x y = decide (pp o x < pp o y)
  | m :: l, x, y, nd, hx, hy => by
    rw [List.nodup_cons] at nd
    have ex : pp (m :: l) x = if m = x then 0 else pp l x + 1 := by
      unfold pp
      rw [show pl (m :: l) x = if m = x then some 0 else (pl l x).map (· + 1) from rfl]
      by_cases e : m = x
      · rw [if_pos e, if_pos e]; rfl
      · rw [if_neg e, if_neg e]
        obtain ⟨j, hj⟩ := pl_mem (o := l) (s := x) (by rcases List.mem_cons.mp hx with z | z; exact absurd z.symm e; exact z)
        rw [hj]
        rfl
    have ey : pp (m :: l) y = if m = y then 0 else pp l y + 1 := by
      unfold pp
      rw [show pl (m :: l) y = if m = y then some 0 else (pl l y).map (· + 1) from rfl]
      by_cases e : m = y
      · rw [if_pos e, if_pos e]; rfl
      · rw [if_neg e, if_neg e]
        obtain ⟨j, hj⟩ := pl_mem (o := l) (s := y) (by rcases List.mem_cons.mp hy with z | z; exact absurd z.symm e; exact z)
        rw [hj]
        rfl
    rw [ex, ey]
    show ((decide (x = m) && decide (y ∈ l)) || bef l x y) = _
    by_cases e1 : m = x
    · subst e1
      have nb : bef l m y = false := by
        cases e : bef l m y with
        | false => rfl
        | true => exact absurd (bef_mem e).1 nd.1
      rw [if_pos rfl, nb, Bool.or_false, decide_eq_true rfl, Bool.true_and]
      by_cases e2 : m = y
      · rw [if_pos e2, ← e2, decide_eq_false nd.1]
        rfl
      · have : y ∈ l := by rcases List.mem_cons.mp hy with z | z; exact absurd z.symm e2; exact z
        rw [if_neg e2, decide_eq_true this, decide_eq_true (Nat.succ_pos _)]
    · have hx' : x ∈ l := by rcases List.mem_cons.mp hx with z | z; exact absurd z.symm e1; exact z
      rw [if_neg e1, decide_eq_false (fun z => e1 z.symm), Bool.false_and, Bool.false_or]
      by_cases e2 : m = y
      · subst e2
        have nb : bef l x m = false := by
          cases e : bef l x m with
          | false => rfl
          | true => exact absurd (bef_mem e).2 nd.1
        rw [if_pos rfl, nb]
        rfl
      · have hy' : y ∈ l := by rcases List.mem_cons.mp hy with z | z; exact absurd z.symm e2; exact z
        rw [if_neg e2, bef_pp nd.2 hx' hy']
        refine decide_eq_decide.mpr ?_
        omega
theorem sum_one {l : Row} (nd : l.Nodup) (y : Str) : (l.map fun x => if y = x then 1 else 0).sum = if y ∈ l then 1 else 0 := by
  induction l with
  | nil => rfl
  | cons m l ih =>
    rw [List.nodup_cons] at nd
    rw [List.map_cons, List.sum_cons, ih nd.2]
    by_cases e : y = m
    · subst e
      rw [if_pos rfl, if_neg nd.1, if_pos List.mem_cons_self]
    · rw [if_neg e, Nat.zero_add]
      by_cases h : y ∈ l
      · rw [if_pos h, if_pos (List.mem_cons_of_mem _ h)]
      · rw [if_neg h, if_neg (fun z => by rcases List.mem_cons.mp z with z | z; exact e z; exact h z)]
theorem cR_DD (fx : Row) (ls : List Ln) : ∀ {o : Row}, o.Nodup → cR fx ls o = DD ls fun p q => if bef o p.2 q.2 = true ∧ pp fx q.1 < pp fx p.1 then 1 else 0
  | [], _ => by
    show 0 = _
    unfold DD
    simp [bef, sum_zero]
  | m :: l, nd => by
    rw [List.nodup_cons] at nd
    show (l.map fun x => XX (psn fx ls m) (psn fx ls x)).sum + cR fx ls l = _
    rw [cR_DD fx ls nd.2]
    have e1 : (l.map fun x => XX (psn fx ls m) (psn fx ls x)).sum = DD ls fun p q => if (p.2 = m ∧ q.2 ∈ l) ∧ pp fx q.1 < pp fx p.1 then 1 else 0 := by
      have e2 : (l.map fun x => XX (psn fx ls m) (psn fx ls x)) = l.map fun x => (ls.map fun p => (ls.map fun q => if p.2 = m ∧ q.2 = x ∧ pp fx q.1 < pp fx p.1 then 1 else 0).sum).sum := by
        refine List.map_congr_left fun x _ => ?_
        have := XX_eq ls (fun p => decide (p.2 = m)) (fun q => decide (q.2 = x)) (fun p => pp fx p.1) (fun q => pp fx q.1)
        unfold psn tops
        rw [List.map_map, List.map_map]
        refine (show XX _ _ = _ from this).trans ?_
        unfold DD
        simp
      rw [e2, sum_comm (fun x p => (ls.map fun q => if p.2 = m ∧ q.2 = x ∧ pp fx q.1 < pp fx p.1 then 1 else 0).sum) ls l]
      unfold DD
      congr 1
      refine List.map_congr_left fun p _ => ?_
      rw [sum_comm (fun x q => if p.2 = m ∧ q.2 = x ∧ pp fx q.1 < pp fx p.1 then 1 else 0) ls l]
      congr 1
      refine List.map_congr_left fun q _ => ?_
      by_cases c : p.2 = m ∧ pp fx q.1 < pp fx p.1
      · have : (l.map fun x => if p.2 = m ∧ q.2 = x ∧ pp fx q.1 < pp fx p.1 then 1 else 0) = l.map fun x => if q.2 = x then 1 else 0 := List.map_congr_left fun x _ => by simp [c.1, c.2]
        rw [this, sum_one nd.2]
        by_cases h : q.2 ∈ l <;> simp [h, c.1, c.2]
      · have : (l.map fun x => if p.2 = m ∧ q.2 = x ∧ pp fx q.1 < pp fx p.1 then 1 else 0) = l.map fun _ => 0 := List.map_congr_left fun x _ => if_neg fun z => c ⟨z.1, z.2.2⟩
        rw [this, sum_zero]
        exact (if_neg fun z => c ⟨z.1.1, z.2⟩).symm
    rw [e1, ← DD_add]
    refine DD_congr fun p _ q _ => ?_
    have hb : bef (m :: l) p.2 q.2 = ((decide (p.2 = m) && decide (q.2 ∈ l)) || bef l p.2 q.2) := rfl
    rw [hb]
    by_cases c : pp fx q.1 < pp fx p.1
    · by_cases a1 : p.2 = m ∧ q.2 ∈ l
      · have nb : bef l p.2 q.2 = false := by
          cases e : bef l p.2 q.2 with
          | false => rfl
          | true => exact absurd (a1.1 ▸ (bef_mem e).1) nd.1
        simp [a1.1, a1.2, c, nb]
        rw [a1.1] at nb
        simp [nb]
      · have d1 : (decide (p.2 = m) && decide (q.2 ∈ l)) = false := by
          rw [← Bool.decide_and]
          exact decide_eq_false a1
        rw [d1, Bool.false_or, if_neg fun z => a1 z.1, Nat.zero_add]
    · simp [c]
/-- all lines' ends stand in the rows -/
def InR (fx fr : Row) (ls : List Ln) : Prop := ∀ q ∈ ls, q.1 ∈ fx ∧ q.2 ∈ fr
theorem prs_map {fx o : Row} {ls : List Ln} (h : InR fx o ls) : prs fx o ls = ls.map fun q => (pp fx q.1, pp o q.2) := by
  unfold prs
  refine filterMap_some fun q hq => ?_
  obtain ⟨h1, h2⟩ := h q hq
  obtain ⟨i, hi⟩ := pl_mem h1
  obtain ⟨j, hj⟩ := pl_mem h2
  unfold pr1 pp
  rw [hi, hj]
  rfl
theorem cr_DD {fx o : Row} {ls : List Ln} (h : InR fx o ls) : cr (prs fx o ls) = DD ls fun p q => if pp fx p.1 < pp fx q.1 ∧ pp o q.2 < pp o p.2 then 1 else 0 := by
  rw [prs_map h]
  unfold cr cr1 DD
  rw [List.map_map]
  congr 1
  refine List.map_congr_left fun p _ => ?_
  show ((ls.map fun q => (pp fx q.1, pp o q.2)).countP (xs1 (pp fx p.1, pp o p.2))) = _
  rw [countP_sum, List.map_map]
  congr 1
  refine List.map_congr_left fun q _ => ?_
  show (if (decide (pp fx p.1 < pp fx q.1) && decide (pp o q.2 < pp o p.2)) = true then 1 else 0) = _
  rw [← Bool.decide_and]
  simp
/-- how many lines cross is what the order costs -/
theorem cr_cR {fx o : Row} {ls : List Ln} (nd : o.Nodup) (h : InR fx o ls) : cr (prs fx o ls) = cR fx ls o := by
  rw [cr_DD h, cR_DD fx ls nd, DD_swap]
  refine DD_congr fun p hp q hq => ?_
  rw [bef_pp nd (h p hp).2 (h q hq).2]
  by_cases c1 : pp fx q.1 < pp fx p.1 <;> by_cases c2 : pp o p.2 < pp o q.2 <;> simp [c1, c2]
end K55
namespace K55
open PySem L2
/-! the marks that are drawn -/
def decS (s : Str) : Nat := s.cps.toList.foldl (fun a c => a * 10 + (c - 48)) 0
theorem num_dec : ∀ n : Fin 256, decS (toString ((n.val : Nat) : Int) : Str) = n.val ∧ (toString ((n.val : Nat) : Int) : Str).length ≤ 3 := by decide +kernel
def mk (ah en : Str) (n : Nat) : Str := ah ++ (toString (n : Int) : Str) ++ en
theorem app_list (x y : Str) : (x ++ y).cps.toList = x.cps.toList ++ y.cps.toList := by
  show (x.cps ++ y.cps).toList = _
  simp
theorem mk_inj {ah en : Str} {n m : Nat} (hn : n < 256) (hm : m < 256) (h : mk ah en n = mk ah en m) : n = m := by
  have e : (mk ah en n).cps.toList = (mk ah en m).cps.toList := by rw [h]
  unfold mk at e
  rw [app_list, app_list, app_list, app_list] at e
  have e2 := List.append_cancel_left (List.append_cancel_right e)
  have e3 : decS (toString (n : Int) : Str) = decS (toString (m : Int) : Str) := by unfold decS; rw [e2]
  rw [(num_dec ⟨n, hn⟩).1, (num_dec ⟨m, hm⟩).1] at e3
  exact e3
theorem Uq.of : ∀ {row : Row}, row.Nodup → Uq row
  | [], _ => fun j j' s h => by simp at h
  | x :: l, h => fun j j' s e e' => by
    rw [List.nodup_cons] at h
    cases j with
    | zero =>
      cases j' with
      | zero => rfl
      | succ j' =>
        have e1 : x = s := by simpa using e
        have e2 : l[j']? = some s := by simpa using e'
        exact absurd (e1 ▸ List.mem_of_getElem? e2) h.1
    | succ j =>
      cases j' with
      | zero =>
        have e1 : x = s := by simpa using e'
        have e2 : l[j]? = some s := by simpa using e
        exact absurd (e1 ▸ List.mem_of_getElem? e2) h.1
      | succ j' => rw [Uq.of h.2 j j' s (by simpa using e) (by simpa using e')]
theorem nd_ins {row : Row} {i : Nat} {s : Str} (h : row.Nodup) (n : s ∉ row) : (row.take i ++ s :: row.drop i).Nodup := by
  have p : (row.take i ++ s :: row.drop i).Perm (s :: row) := by
    have := List.perm_middle (a := s) (l₁ := row.take i) (l₂ := row.drop i)
    rwa [List.take_append_drop] at this
  exact p.nodup_iff.mpr (List.nodup_cons.mpr ⟨n, h⟩)
theorem mem_ins {row : Row} {i : Nat} {s t : Str} (h : t ∈ row.take i ++ s :: row.drop i) : t = s ∨ t ∈ row := by
  rcases List.mem_append.mp h with h | h
  · exact .inr (List.mem_of_mem_take h)
  · rcases List.mem_cons.mp h with h | h
    · exact .inl h
    · exact .inr (List.mem_of_mem_drop h)
end K55
namespace K55
open PySem L2
theorem nd_rev {l : Row} (h : l.Nodup) : l.reverse.Nodup := (List.reverse_perm l).nodup_iff.mpr h
theorem getD_pp {fr : Row} {s : Str} (h : s ∈ fr) : fr.getD (pp fr s) "" = s ∧ pp fr s < fr.length := by
  obtain ⟨j, hj⟩ := pl_mem h
  have e := (pl_some hj).1
  unfold pp
  rw [hj]
  refine ⟨?_, (List.getElem?_eq_some_iff.mp e).1⟩
  show fr.getD j "" = s
  rw [List.getD_eq_getElem?_getD, e]
  rfl
theorem perm_ix {fr o : Row} (nf : fr.Nodup) (p : o.Perm fr) : ∃ ix : List Nat, ix.Nodup ∧ (∀ j, j ∈ ix ↔ j < fr.length) ∧ o = nm fr ix := by
  refine ⟨o.map (pp fr), ?_, fun j => ?_, ?_⟩
  · refine List.pairwise_map.mpr ((p.nodup_iff.mpr nf).imp_of_mem fun {x y} hx hy ne e => ne ?_)
    have h1 := (getD_pp (p.mem_iff.mp hx)).1
    have h2 := (getD_pp (p.mem_iff.mp hy)).1
    rw [← h1, ← h2, e]
  · constructor
    · intro h
      obtain ⟨s, hs, rfl⟩ := List.mem_map.mp h
      exact (getD_pp (p.mem_iff.mp hs)).2
    · intro h
      have e : fr[j]? = some fr[j] := List.getElem?_eq_getElem h
      refine List.mem_map.mpr ⟨fr[j], p.mem_iff.mpr (List.getElem_mem h), ?_⟩
      unfold pp
      rw [(Uq.of nf).vl e]
      rfl
  · unfold nm
    rw [List.map_map]
    have : o.map ((fun j => fr.getD j "") ∘ pp fr) = o.map id := List.map_congr_left fun s hs => (getD_pp (p.mem_iff.mp hs)).1
    rw [this, List.map_id]
/-- no order costs less -/
theorem least_is {fx fr o : Row} {ls : List Ln} {t : Nat → Nat} (hn : fr.length ≤ 8) (it : IsT (ctf fx fr ls) fr.length t (2 ^ fr.length)) (nf : fr.Nodup) (p : o.Perm fr) : t (2 ^ fr.length - 1) ≤ cR fx ls o := by
  obtain ⟨ix, nd, h, rfl⟩ := perm_ix nf p
  rw [← cI_cR]
  exact low_all hn it nd h
theorem nm_perm {fr : Row} {ix : List Nat} (nd : ix.Nodup) (h : ∀ j, j ∈ ix ↔ j < fr.length) : (nm fr ix).Perm fr := by
  have p : ix.Perm (List.range fr.length) := (List.perm_ext_iff_of_nodup nd List.nodup_range).mpr fun j => by rw [h j, List.mem_range]
  have q : (List.range fr.length).map (fun j => fr.getD j "") = fr := by
    refine List.ext_getElem? fun i => ?_
    rw [List.getElem?_map]
    by_cases c : i < fr.length
    · rw [List.getElem?_range c, List.getElem?_eq_getElem c]
      simp [c]
    · rw [List.getElem?_eq_none (by simpa using c), List.getElem?_eq_none (by omega)]
      rfl
  have r := p.map fun j => fr.getD j ""
  rw [q] at r
  exact r
theorem pp_rev {o : Row} (nd : o.Nodup) {s : Str} (h : s ∈ o) : pp o.reverse s = o.length - 1 - pp o s := by
  obtain ⟨j, hj⟩ := pl_mem h
  have e := (pl_some hj).1
  have jl := (List.getElem?_eq_some_iff.mp e).1
  have e2 : o.reverse[o.length - 1 - j]? = some s := by
    rw [List.getElem?_reverse (by omega), show o.length - 1 - (o.length - 1 - j) = j by omega]
    exact e
  unfold pp
  rw [hj, (Uq.of (nd_rev nd)).vl e2]
  rfl
theorem bef_rev {o : Row} (nd : o.Nodup) {x y : Str} (hx : x ∈ o) (hy : y ∈ o) : bef o.reverse x y = bef o y x := by
  rw [bef_pp (nd_rev nd) (List.mem_reverse.mpr hx) (List.mem_reverse.mpr hy), bef_pp nd hy hx, pp_rev nd hx, pp_rev nd hy]
  have h1 := (getD_pp hx).2
  have h2 := (getD_pp hy).2
  refine decide_eq_decide.mpr ?_
  omega
theorem cR_rev {fx o : Row} {ls : List Ln} (nf : fx.Nodup) (nd : o.Nodup) (h : InR fx o ls) : cR fx.reverse ls o = cR fx ls o.reverse := by
  rw [cR_DD _ _ nd, cR_DD _ _ (nd_rev nd), DD_swap]
  refine DD_congr fun p hp q hq => ?_
  obtain ⟨p1, p2⟩ := h p hp
  obtain ⟨q1, q2⟩ := h q hq
  rw [bef_rev nd p2 q2, pp_rev nf p1, pp_rev nf q1]
  have h1 := (getD_pp p1).2
  have h2 := (getD_pp q1).2
  have e : fx.length - 1 - pp fx p.1 < fx.length - 1 - pp fx q.1 ↔ pp fx q.1 < pp fx p.1 := by omega
  simp only [e]
/-- both rows turned about: the same number -/
theorem least_rev {fx fr : Row} {ls : List Ln} {t t' : Nat → Nat} {ix ix' : List Nat} (hn : fr.length ≤ 8) (nf : fx.Nodup) (nr : fr.Nodup) (hin : InR fx fr ls)
    (it : IsT (ctf fx fr ls) fr.length t (2 ^ fr.length)) (nd : ix.Nodup) (hix : ∀ j, j ∈ ix ↔ j < fr.length) (e : cI (ctf fx fr ls) ix = t (2 ^ fr.length - 1))
    (it' : IsT (ctf fx.reverse fr.reverse ls) fr.reverse.length t' (2 ^ fr.reverse.length)) (nd' : ix'.Nodup) (hix' : ∀ j, j ∈ ix' ↔ j < fr.reverse.length) (e' : cI (ctf fx.reverse fr.reverse ls) ix' = t' (2 ^ fr.reverse.length - 1)) :
    t' (2 ^ fr.reverse.length - 1) = t (2 ^ fr.length - 1) := by
  have pm := nm_perm nd hix
  have pm' := nm_perm nd' hix'
  have n1 : (nm fr ix).Nodup := pm.nodup_iff.mpr nr
  have n2 : (nm fr.reverse ix').Nodup := pm'.nodup_iff.mpr (nd_rev nr)
  have pr : fr.reverse.Perm fr := List.reverse_perm fr
  have i2 : InR fx (nm fr.reverse ix') ls := fun q hq => ⟨(hin q hq).1, (pm'.trans pr).mem_iff.mpr (hin q hq).2⟩
  have i1 : InR fx.reverse (nm fr ix) ls := fun q hq => ⟨List.mem_reverse.mpr (hin q hq).1, pm.mem_iff.mpr (hin q hq).2⟩
  have a1 := least_is hn it nr (o := (nm fr.reverse ix').reverse) ((List.reverse_perm _).trans (pm'.trans pr))
  rw [← cR_rev nf n2 i2, ← cI_cR, e'] at a1
  have a2 := least_is (by rw [List.length_reverse]; exact hn) it' (nd_rev nr) (o := (nm fr ix).reverse) ((List.reverse_perm _).trans (pm.trans pr.symm))
  have a3 := cR_rev (nd_rev nf) n1 i1
  rw [List.reverse_reverse] at a3
  rw [← a3, ← cI_cR, e] at a2
  omega
end K55
namespace K55
open PySem L2
section
variable {P : Program} {w : World} {K : PySem.W.Frag} {mg : Str → Option Value} {base : Heap} {a : Adr}
def mixA (c k : Int) : Int := (c + 7919 * k + 1) % 2147483647 * 48271 % 2147483647
def mixB (c k : Int) : Int := mixA c k * (mixA c k / 1009 + 69621) % 2147483647
theorem mixA_lo (c k : Int) : 0 ≤ mixA c k := Int.emod_nonneg _ (by decide)
theorem mixA_hi (c k : Int) : mixA c k < 2147483647 := Int.emod_lt_of_pos _ (by decide)
theorem mixB_lo (c k : Int) : 0 ≤ mixB c k := Int.emod_nonneg _ (by decide)
theorem mixB_hi (c k : Int) : mixB c k < 2147483647 := Int.emod_lt_of_pos _ (by decide)
theorem at_base (z : Int) : ∃ b : Int, atI [V.int 50, V.int (10 ^ Int.toNat 10)] (z % 2) = some (.int b) ∧ 0 < b ∧ b < 2 ^ 62 := by
  have h0 : 0 ≤ z % 2 := Int.emod_nonneg _ (by decide)
  have h1 : z % 2 < 2 := Int.emod_lt_of_pos _ (by decide)
  rcases (by omega : z % 2 = 0 ∨ z % 2 = 1) with e | e <;> rw [e]
  · exact ⟨_, rfl, by decide, by decide⟩
  · exact ⟨_, rfl, by decide, by decide⟩
def spMix : Sp := fun vs H Q _ => ∃ c k, vs = [.int c, .int k] ∧ 0 ≤ k ∧ k ≤ 1000 ∧ ∀ z H', Same H H' → Q (.int z) H'
set_option maxHeartbeats 4000000 in
theorem ok_mix (T : Tx K mg a) : Cal P w K mg base CX0 1 "_law_mix" ["_law_cell", "_law_k"] [] spMix := T.d__law_mix.cal fun f fd F => by
  refine F.ok sc__law_mix (fun vs H Q E h => ?_) (fun cdv A outer s H vs Q E hr h => ?_)
  · obtain ⟨c, k, rfl, _⟩ := h
    rfl
  · obtain ⟨c, k, rfl, k0, k1, q⟩ := h
    refine ⟨_, (pss_cons (ps_if (pt_cmpR op_eq (pe_op op_mod (pe_op op_fdiv (pv 0) pe_int) pe_int) pe_int (nomark _)) (pss_cons (ps_set (i := 2) sc__law_mix.nd rfl (by first | exact Or.inl rfl | exact Or.inr rfl) (pe_ix ix_list (pe_lst (pa_cons pe_int (pa_cons (pe_op op_pow pe_int pe_int) pa_nil))) (pe_op op_mod (pe_op op_fdiv (pv 0) pe_int) pe_int) (fun _ _ => rfl)))
      (pss_cons (ps_set (i := 3) sc__law_mix.nd rfl (by first | exact Or.inl rfl | exact Or.inr rfl) (pe_op op_fdiv (pv 0) pe_int))
      (pss_cons (ps_for PassesOwn.never rfl (pi_range1 rfl T.n_range (pa_cons (pe_op op_sub (pv 1) pe_int) pa_nil)) (pg_name (i := 4) sc__law_mix.nd rfl (by first | exact Or.inl rfl | exact Or.inr rfl)) (pss_one (ps_set (i := 3) sc__law_mix.nd rfl (by first | exact Or.inl rfl | exact Or.inr rfl) (pe_op op_fdivW (pv 3) (pv 2)))))
      (pss_one (ps_if (pt_cmpR op_gt (pv 3) pe_int (nomark _)) (pss_one (ps_ret (pe_op op_mod (pv 3) (pv 2)))) pss_nil))))) pss_nil)
      (pss_cons (ps_set (i := 5) sc__law_mix.nd rfl (by first | exact Or.inl rfl | exact Or.inr rfl) (pe_op op_mod (pe_op op_mul (pe_op op_mod (pe_op op_add (pe_op op_add (pv 0) (pe_op op_mul pe_int (pv 1))) pe_int) pe_int) pe_int) pe_int))
      (pss_cons (ps_set (i := 5) sc__law_mix.nd rfl (by first | exact Or.inl rfl | exact Or.inr rfl) (pe_op op_mod (pe_op op_mul (pv 5) (pe_op op_add (pe_op op_fdiv (pv 5) pe_int) pe_int)) pe_int))
      (pss_one (ps_ret (pe_op op_mod (pe_op op_mul (pv 5) (pe_op op_add (pe_op op_fdiv (pv 5) pe_int) pe_int)) pe_int)))))), ?_⟩
    apply joinS (fun x : Option V × Option V × Option V => [some (.int c), some (.int k), x.1, x.2.1, x.2.2, none]) (fun _ G => Same H G)
    case g =>
      intro rest
      refine ⟨_, rfl, _, _, rfl, rfl, ⟨by decide, by decide⟩, _, _, rfl, rfl, (by show (0 : Int) < 2; decide), rfl, _, rfl, ?_⟩
      refine iteB (fun _ => ?_) (fun _ => rest (none, none, none) H (Same.refl _))
      obtain ⟨b, hb, b0, b1⟩ := at_base (c / 128)
      refine ⟨_, _, rfl, rfl, ⟨by decide, by decide, by decide⟩, (by show 2 ≤ sizeLine; decide), fun z nz => ⟨_, rfl, _, _, rfl, rfl, ⟨by decide, by decide⟩, _, _, rfl, rfl, (by show (0 : Int) < 2; decide), z, _, _, _, rfl, rfl, SqL.of upd_same, hb, ?_⟩⟩
      have s1 : Same H (upd H z (.lst [V.int 50, V.int (10 ^ Int.toNat 10)])) := Same.new nz
      generalize upd H z (.lst [V.int 50, V.int (10 ^ Int.toNat 10)]) = H1 at s1 ⊢
      refine ⟨_, rfl, _, _, rfl, rfl, ⟨by decide, by decide⟩, ?_⟩
      refine ⟨_, rfl, _, _, rfl, rfl, _, rfl, by show -(2 ^ 62) ≤ k - 1; omega, by show k - 1 < 2 ^ 62; omega, for_range (lo := 0) (n := (k - 1).toNat) (fun i σ G => ∃ (lf : Int) (v4 : Option V), σ = [some (.int c), some (.int k), some (.int b), some (.int lf), v4, none] ∧ G = H1)
        ⟨c / 256, none, rfl, rfl⟩ ?_ ?_⟩
      · rintro i σ G _ ⟨lf, v4, rfl, rfl⟩
        dsimp only [gName]
        refine ⟨_, rfl, _, rfl, _, _, rfl, rfl, ⟨b0, b1⟩, ?_⟩
        exact ⟨_, _, rfl, rfl⟩
      · rintro σ G ⟨lf, v4, rfl, rfl⟩
        refine ⟨_, rfl, _, _, rfl, rfl, _, rfl, ?_⟩
        refine iteB (fun _ => ?_) (fun _ => rest (_, _, _) G s1)
        exact ⟨_, rfl, _, rfl, _, _, rfl, rfl, b0, q _ G s1⟩
    case h =>
    rintro ⟨x1, x2, x3⟩ G sg
    refine ⟨_, rfl, _, rfl, _, _, rfl, rfl, .inl ⟨by decide, by decide⟩, _, _, rfl, rfl, _, _, rfl, rfl, _, _, rfl, rfl, (by show (0 : Int) < 2147483647; decide), _, _, rfl, rfl, .inr ⟨by decide, by decide⟩, _, _, rfl, rfl, (by show (0 : Int) < 2147483647; decide), ?_⟩
    have h1 := mixA_lo c k
    have h2 := mixA_hi c k
    have h3 := mixB_lo c k
    have h4 := mixB_hi c k
    refine ⟨_, rfl, _, rfl, _, _, rfl, rfl, ⟨by decide, by decide⟩, _, _, rfl, rfl, _, _, rfl, rfl, .inl ⟨?_, ?_⟩, _, _, rfl, rfl, (by show (0 : Int) < 2147483647; decide), ?_⟩
    · show -(2 ^ 64) < mixA c k
      omega
    · show mixA c k < 2 ^ 64
      omega
    refine ⟨_, rfl, _, rfl, _, _, rfl, rfl, ⟨by decide, by decide⟩, _, _, rfl, rfl, _, _, rfl, rfl, .inl ⟨?_, ?_⟩, _, _, rfl, rfl, (by show (0 : Int) < 2147483647; decide), q _ G sg⟩
    · show -(2 ^ 64) < mixB c k
      omega
    · show mixB c k < 2 ^ 64
      omega
end
end K55
namespace K55
open PySem L2
section
variable {P : Program} {w : World} {K : PySem.W.Frag} {mg : Str → Option Value} {base : Heap} {a : Adr}
def mk0 (ah : Str) (n : Nat) : Str := ah ++ (toString (n : Int) : Str)
theorem mk0_inj {ah : Str} {n m : Nat} (hn : n < 256) (hm : m < 256) (h : mk0 ah n = mk0 ah m) : n = m := by
  refine mk_inj (ah := ah) (en := "") hn hm ?_
  show mk0 ah n ++ _ = mk0 ah m ++ _
  rw [h]
def spRow : Sp := fun vs H Q _ => ∃ c k m ah, vs = [.int c, .int k, .int (m : Nat), .str ah] ∧ 0 ≤ k ∧ k ≤ 100 ∧ m ≤ 9 ∧ ah.length ≤ 3 ∧ ∀ l row H', Same H H' → H l = none → H' l = some (.lst ((row : Row).map V.str)) → row.Nodup → row.length = m → Q (.ref l) H'
set_option maxHeartbeats 4000000 in
theorem ok_row (T : Tx K mg a) : Cal P w K mg base CX0 2 "_law_row" ["_law_first", "_law_k", "_law_many", "_law_ahead"] [] spRow := T.d__law_row.cal fun f fd F => by
  have c__law_mix := ok_mix (P := P) (w := w) (base := base) T
  refine F.ok sc__law_row (fun vs H Q E h => ?_) (fun cdv A outer s H vs Q E hr h => ?_)
  · obtain ⟨c, k, m, ah, rfl, _⟩ := h
    rfl
  · obtain ⟨c, k, m, ah, rfl, k0, k1, hm, la, kq⟩ := h
    refine ⟨_, (pss_cons (ps_set (i := 4) sc__law_row.nd rfl (by first | exact Or.inl rfl | exact Or.inr rfl) (pe_lst pa_nil))
      (pss_cons (ps_for PassesOwn.never rfl (pi_range1 rfl T.n_range (pa_cons (pv 2) pa_nil)) (pg_name (i := 5) sc__law_row.nd rfl (by first | exact Or.inl rfl | exact Or.inr rfl)) (pss_one (ps_expr (pe_bm PySem.F.plainAttrs_list PySem.F.slot_list_insert PySem.F.type_list_insert mt_insert (pv 4) (pa_cons (pe_op op_mod (pe_cal c__law_mix (hr.mono (by decide)) rfl (pa_cons (pv 0) (pa_cons (pe_op op_add (pv 1) (pv 5)) pa_nil))) (pe_op op_add (pe_callB call_len_seq rfl T.n_len bt_len (pa_cons (pv 4) pa_nil)) pe_int)) (pa_cons (pe_op op_add_str (pv 3) (pe_callTy call_str_int rfl T.n_str bt_str (pa_cons (pv 5) pa_nil))) pa_nil))))))
      (pss_one (ps_ret (pv 4))))), ?_⟩
    refine ⟨(by show 0 ≤ sizeLine; decide), fun l nl => ?_⟩
    have s1 : Same H (upd H l (.lst [])) := Same.new nl
    have h1 : upd H l (.lst []) l = some (.lst []) := upd_same
    generalize upd H l (.lst []) = H1 at s1 h1 ⊢
    refine ⟨_, rfl, _, rfl, by omega, by omega, for_range (lo := 0) (n := ((m : Nat) : Int).toNat) (fun j σ H' => ∃ v5, ∃ row : Row, σ = [some (.int c), some (.int k), some (.int (m : Nat)), some (.str ah), some (.ref l), v5] ∧ Same H H' ∧ H' l = some (.lst (row.map V.str)) ∧ row.Nodup ∧ (∀ s ∈ row, ∃ n, n < j ∧ s = mk0 ah n) ∧ row.length = j)
      ⟨none, [], rfl, s1, h1, List.nodup_nil, (fun s hs => by cases hs), rfl⟩ ?_ ?_⟩
    · rintro j σ H' hj ⟨v5, row, rfl, sm, hl, nd, hs, hlen⟩
      have hj' : j < m := by omega
      have e0 : (0 : Int) + j = j := Int.zero_add _
      rw [e0]
      have ln : (toString ((j : Nat) : Int) : Str).length ≤ 3 := (num_dec ⟨j, by omega⟩).2
      dsimp only [gName]
      refine ⟨_, rfl, .inl ⟨rfl, _, SqL.of hl⟩, _, rfl, _, rfl, _, rfl, _, _, rfl, rfl, c, _, rfl, by show 0 ≤ k + (j : Int); omega, by show k + (j : Int) ≤ 1000; omega, fun y G sg => ?_⟩
      have hlg := sg _ _ hl
      have p0 : 0 ≤ y % (((row.map V.str).length : Int) + 1) := Int.emod_nonneg _ (by omega)
      have p1 : y % (((row.map V.str).length : Int) + 1) < ((row.map V.str).length : Int) + 1 := Int.emod_lt_of_pos _ (by omega)
      refine ⟨_, rfl, l, _, rfl, .inl (SqL.of hlg), _, _, rfl, rfl, _, _, rfl, rfl, (by show (0 : Int) < ((row.map V.str).length : Int) + 1; omega), _, rfl, _, rfl, _, rfl, ?_, _, _, rfl, rfl, ?_, l, _, _, _, rfl, rfl, hlg, p0, by omega, by rw [List.length_map, sizeLine_eq]; omega, ?_⟩
      · show (j : Int).natAbs.log2 < 1920
        rw [Int.natAbs_natCast]
        by_cases z : j = 0
        · rw [z]; decide
        · exact (Nat.log2_lt z).mpr (Nat.lt_of_lt_of_le (by omega : j < 2 ^ 8) (Nat.pow_le_pow_right (by decide) (by decide)))
      · rw [sizeLine_eq]
        show ah.length + (toString ((j : Nat) : Int) : Str).length ≤ _
        omega
      generalize (y % (((row.map V.str).length : Int) + 1)).toNat = pos
      have nm : mk0 ah j ∉ row := fun z => by
        obtain ⟨n, hn, e⟩ := hs _ z
        have := mk0_inj (by omega) (by omega) e
        omega
      refine ⟨_, row.take pos ++ mk0 ah j :: row.drop pos, rfl, same_upd nl (sm.trans sg), ?_, nd_ins nd nm, fun s hs' => ?_, ?_⟩
      · rw [upd_same, List.map_append, List.map_cons, List.map_take, List.map_drop]
        rfl
      · rcases mem_ins hs' with rfl | hs'
        · exact ⟨j, by omega, rfl⟩
        · obtain ⟨n, hn, e⟩ := hs s hs'
          exact ⟨n, by omega, e⟩
      · have p := List.perm_middle (a := mk0 ah j) (l₁ := row.take pos) (l₂ := row.drop pos)
        rw [List.take_append_drop] at p
        rw [p.length_eq, List.length_cons, hlen]
    · rintro σ H' ⟨v5, row, rfl, sm, hl, nd, hs, hlen⟩
      exact ⟨_, rfl, kq l row H' sm nl hl nd (by omega)⟩
def spCellAt (K : PySem.W.Frag) : Sp := fun vs H Q _ => ∃ p, ∃ ns : List Int, ∃ k, vs = [.ref p, .int k] ∧ SqL K H p (ns.map V.int) ∧ 0 ≤ k ∧ ∀ c, Q (.int c) H
theorem ok_cell_at (T : Tx K mg a) : Cal P w K mg base CX0 1 "_law_cell_at" ["_law_script", "_law_k"] [] (spCellAt K) := T.d__law_cell_at.cal fun f fd F => by
  refine F.ok sc__law_cell_at (fun vs H Q E h => ?_) (fun cdv A outer s H vs Q E hr h => ?_)
  · obtain ⟨p, ns, k, rfl, _⟩ := h
    rfl
  · obtain ⟨p, ns, k, rfl, hS, h0, q⟩ := h
    refine ⟨_, (pss_cons (ps_if (pt_cmpR op_lt (pv 1) (pe_callB call_len_seq rfl T.n_len bt_len (pa_cons (pv 0) pa_nil)) (nomark _)) (pss_one (ps_ret (pe_ix ix_list (pv 0) (pv 1) (fun _ _ => rfl)))) pss_nil)
      (pss_one (ps_ret pe_int))), ?_⟩
    refine ⟨_, rfl, _, rfl, p, _, rfl, .inl hS, _, _, rfl, rfl, _, rfl, ?_⟩
    refine iteB (fun c => ?_) (fun c => ?_)
    · have h1 : k < ns.length := by
        have := of_decide_eq_true c
        rwa [List.length_map] at this
      obtain ⟨z, hz⟩ := at_int h0 h1
      exact ⟨_, rfl, _, rfl, p, _, _, _, rfl, rfl, hS, hz, q z⟩
    · exact q 0
def spLines (K : PySem.W.Frag) : Sp := fun vs H Q _ => ∃ fA rA p fx fr ns, vs = [.ref fA, .ref rA, .ref p] ∧ H fA = some (.lst ((fx : Row).map V.str)) ∧ H rA = some (.lst ((fr : Row).map V.str)) ∧ fx ≠ [] ∧ fr ≠ [] ∧ SqL K H p ((ns : List Int).map V.int) ∧ ns.length ≤ 16 ∧
  ∀ l ls H', Same H H' → LsAt K H' l ls → (∀ q ∈ ls, q.1 ∈ fx ∧ q.2 ∈ fr) → ls.length ≤ 32 → Q (.ref l) H'
theorem at_mod {ss : Row} {z : Int} (h : ss ≠ []) : ∃ s, s ∈ ss ∧ atI (ss.map V.str) (z % ((ss.map V.str).length : Int)) = some (.str s) := by
  have l0 : 0 < ss.length := List.length_pos_iff.mpr h
  have e : ((ss.map V.str).length : Int) = ss.length := by rw [List.length_map]
  obtain ⟨s, h1, h2⟩ := at_str (ss := ss) (k := z % ((ss.map V.str).length : Int)) (Int.emod_nonneg _ (by omega)) (by rw [e]; exact Int.emod_lt_of_pos _ (by omega))
  exact ⟨s, h1, h2⟩
set_option maxHeartbeats 4000000 in
theorem ok_lines (T : Tx K mg a) : Cal P w K mg base CX0 2 "_law_lines" ["_law_fixed", "_law_free", "_law_cells"] [] (spLines K) := T.d__law_lines.cal fun f fd F => by
  have c__law_mix := ok_mix (P := P) (w := w) (base := base) T
  refine F.ok sc__law_lines (fun vs H Q E h => ?_) (fun cdv A outer s H vs Q E hr h => ?_)
  · obtain ⟨fA, rA, p, fx, fr, ns, rfl, _⟩ := h
    rfl
  · obtain ⟨fA, rA, p, fx, fr, ns, rfl, hf, hrr, hne, hfr, hp, hn, k⟩ := h
    refine ⟨_, (pss_cons (ps_set (i := 3) sc__law_lines.nd rfl (by first | exact Or.inl rfl | exact Or.inr rfl) (pe_lst pa_nil))
      (pss_cons (ps_for PassesOwn.never rfl (pi_list (pv 2)) (pg_name (i := 4) sc__law_lines.nd rfl (by first | exact Or.inl rfl | exact Or.inr rfl)) (pss_cons (ps_set (i := 5) sc__law_lines.nd rfl (by first | exact Or.inl rfl | exact Or.inr rfl) (pe_tup (pa_cons (pe_ix ix_list (pv 0) (pe_op op_mod (pe_cal c__law_mix (hr.mono (by decide)) rfl (pa_cons (pv 4) (pa_cons pe_int pa_nil))) (pe_callB call_len_seq rfl T.n_len bt_len (pa_cons (pv 0) pa_nil))) (fun _ _ => rfl)) (pa_cons (pe_ix ix_list (pv 1) (pe_op op_mod (pe_cal c__law_mix (hr.mono (by decide)) rfl (pa_cons (pv 4) (pa_cons pe_int pa_nil))) (pe_callB call_len_seq rfl T.n_len bt_len (pa_cons (pv 1) pa_nil))) (fun _ _ => rfl)) pa_nil))))
      (pss_cons (ps_expr (pe_bm PySem.F.plainAttrs_list PySem.F.slot_list_append PySem.F.type_list_append mt_append (pv 3) (pa_cons (pv 5) pa_nil)))
      (pss_one (ps_if (pt_cmpR op_eq (pe_op op_mod (pe_cal c__law_mix (hr.mono (by decide)) rfl (pa_cons (pv 4) (pa_cons pe_int pa_nil))) pe_int) pe_int (nomark _)) (pss_one (ps_expr (pe_bm PySem.F.plainAttrs_list PySem.F.slot_list_append PySem.F.type_list_append mt_append (pv 3) (pa_cons (pv 5) pa_nil)))) pss_nil)))))
      (pss_one (ps_ret (pv 3))))), ?_⟩
    refine ⟨(by show 0 ≤ sizeLine; decide), fun g ng => ?_⟩
    have s1 : Same H (upd H g (.lst [])) := Same.new ng
    have h1 : upd H g (.lst []) g = some (.lst []) := upd_same
    generalize upd H g (.lst []) = H1 at s1 h1 ⊢
    have fl : 0 < fx.length := List.length_pos_iff.mpr hne
    refine ⟨_, rfl, p, rfl, ⟨_, s1.sqL hp⟩, for_list (K := K) (a := p) (xs := ns.map V.int) (fun i σ H' => ∃ v4 v5 xs, ∃ ls : List Ln, σ = [some (.ref fA), some (.ref rA), some (.ref p), some (.ref g), v4, v5] ∧ Same H H' ∧ H' g = some (.lst xs) ∧ DtVs K H' (ls.map lnD) xs ∧ ls.length ≤ 2 * i ∧ ∀ q ∈ ls, q.1 ∈ fx ∧ q.2 ∈ fr)
      ⟨none, none, [], [], rfl, s1, h1, rfl, Nat.le_refl _, fun q hq => by cases hq⟩ ?_ ?_ ?_⟩
    · rintro i σ H' _ ⟨_, _, _, _, rfl, sm, _⟩
      exact sm.sqL hp
    · rintro i x σ H' hx ⟨v4, v5, xs, ls, rfl, sm, hg, hds, hll, hin⟩
      obtain ⟨c, hc, rfl⟩ : ∃ c, ns[i]? = some c ∧ x = .int c := by
        rw [List.getElem?_map] at hx
        cases e : ns[i]? with
        | none => rw [e] at hx; cases hx
        | some n => rw [e] at hx; exact ⟨n, rfl, (Option.some.inj hx).symm⟩
      have hi : i < ns.length := (List.getElem?_eq_some_iff.mp hc).1
      dsimp only [gName]
      have rl : 0 < fr.length := List.length_pos_iff.mpr hfr
      refine ⟨_, rfl, _, rfl, c, _, rfl, by decide, by decide, fun y1 G1 g1 => ?_⟩
      obtain ⟨a1, m1, e1⟩ := at_mod (ss := fx) (z := y1) hne
      have v1 := sm.trans g1
      refine ⟨_, rfl, fA, _, rfl, .inl (SqL.of (v1 _ _ hf)), _, _, rfl, rfl, (by show (0 : Int) < ((fx.map V.str).length : Int); rw [List.length_map]; omega), fA, _, _, _, rfl, rfl, SqL.of (v1 _ _ hf), e1, _, rfl, _, rfl, c, _, rfl, by decide, by decide, fun y2 H2 g2 => ?_⟩
      obtain ⟨a2, m2, e2⟩ := at_mod (ss := fr) (z := y2) hfr
      have s2 : Same H' H2 := g1.trans g2
      have t2 := sm.trans s2
      refine ⟨_, rfl, rA, _, rfl, .inl (SqL.of (t2 _ _ hrr)), _, _, rfl, rfl, (by show (0 : Int) < ((fr.map V.str).length : Int); rw [List.length_map]; omega), rA, _, _, _, rfl, rfl, SqL.of (t2 _ _ hrr), e2, (by show 2 ≤ sizeLine; decide), fun t nt => ?_⟩
      have s3 : Same H2 (upd H2 t (.tup [.str a1, .str a2])) := Same.new nt
      have h3 : upd H2 t (.tup [.str a1, .str a2]) t = some (.tup [.str a1, .str a2]) := upd_same
      generalize upd H2 t (.tup [.str a1, .str a2]) = H3 at s3 h3 ⊢
      have u3 := s2.trans s3
      have lx : xs.length ≤ 2 * i := by
        have := hds.length
        rw [List.length_map] at this
        omega
      have hq : ∀ q ∈ ls ++ [(a1, a2)], q.1 ∈ fx ∧ q.2 ∈ fr := fun q hq => by
        rcases List.mem_append.mp hq with hq | hq
        · exact hin q hq
        · rw [List.mem_singleton.mp hq]
          exact ⟨m1, m2⟩
      dsimp only [gName]
      refine ⟨_, rfl, .inl ⟨rfl, _, SqL.of (u3 _ _ hg)⟩, _, rfl, g, _, _, rfl, rfl, u3 _ _ hg, by rw [sizeLine_eq]; omega, ?_⟩
      have kp : Tk H3 (upd H3 g (.lst (xs ++ [.ref t]))) := Tk.upd (u3 _ _ hg) rfl
      have dq : DtV K H3 (lnD (a1, a2)) (.ref t) := ⟨t, _, rfl, SqT.of h3, _, _, rfl, rfl, _, _, rfl, rfl, rfl⟩
      have d4 : DtVs K (upd H3 g (.lst (xs ++ [.ref t]))) ((ls ++ [(a1, a2)]).map lnD) (xs ++ [.ref t]) := by
        rw [List.map_append]
        exact DtVs.snoc (d := lnD (a1, a2)) (kp.dt rfl dq) (kp.dts (noLsts_map (fun _ => rfl) _) (u3.dts hds))
      have s4 : Same H (upd H3 g (.lst (xs ++ [.ref t]))) := same_upd ng (sm.trans u3)
      have h4 : upd H3 g (.lst (xs ++ [.ref t])) g = some (.lst (xs ++ [.ref t])) := upd_same
      have dq4 := kp.dt rfl dq
      generalize upd H3 g (.lst (xs ++ [.ref t])) = H4 at d4 s4 h4 dq4 ⊢
      refine ⟨_, rfl, c, _, rfl, by decide, by decide, fun y3 G5 g5 => ⟨_, _, rfl, rfl, (by show (0 : Int) < 7; decide), rfl, _, rfl, ?_⟩⟩
      replace d4 := g5.dts d4
      replace s4 := s4.trans g5
      replace h4 := g5 _ _ h4
      replace dq4 := g5.dt dq4
      refine iteB (fun c2 => ?_) (fun c2 => ⟨_, _, _, _, rfl, s4, h4, d4, by rw [List.length_append]; show _ + 1 ≤ _; omega, hq⟩)
      refine ⟨_, rfl, .inl ⟨rfl, _, SqL.of h4⟩, _, rfl, g, _, _, rfl, rfl, h4, by rw [List.length_append, sizeLine_eq]; show _ + 1 < _; omega, ?_⟩
      have kp5 : Tk G5 (upd G5 g (.lst (xs ++ [.ref t] ++ [.ref t]))) := Tk.upd h4 rfl
      refine ⟨_, _, _, ls ++ [(a1, a2)] ++ [(a1, a2)], rfl, same_upd ng s4, upd_same, ?_, by rw [List.length_append, List.length_append]; show _ + 1 + 1 ≤ _; omega, fun q hq' => ?_⟩
      · rw [List.map_append]
        exact DtVs.snoc (d := lnD (a1, a2)) (kp5.dt rfl dq4) (kp5.dts (noLsts_map (fun _ => rfl) _) d4)
      · rcases List.mem_append.mp hq' with hq' | hq'
        · exact hq q hq'
        · rw [List.mem_singleton.mp hq']
          exact ⟨m1, m2⟩
    · rintro σ H' ⟨v4, v5, xs, ls, rfl, sm, hg, hds, hll, hin⟩
      rw [List.length_map] at hll
      exact ⟨_, rfl, k g ls H' sm ⟨xs, hg, hds⟩ hin (by omega)⟩
end
end K55
namespace K55
open PySem L2
section
variable {P : Program} {w : World} {K : PySem.W.Frag} {mg : Str → Option Value} {base : Heap} {a : Adr}
def spCount (K : PySem.W.Frag) : Sp := fun vs H Q _ => ∃ fA oA lA fx o ls, vs = [.ref fA, .ref oA, .ref lA] ∧ H fA = some (.lst ((fx : Row).map V.str)) ∧ H oA = some (.lst ((o : Row).map V.str)) ∧ LsAt K H lA ls ∧ ls.length ≤ 63 ∧ InR fx o ls ∧ ∀ H', Same H H' → Q (.int (cr (prs fx o ls) : Nat)) H'
set_option maxHeartbeats 4000000 in
theorem ok_count (T : Tx K mg a) : Cal P w K mg base CX0 1 "_law_count" ["_law_fixed", "_law_order_here", "_law_lines_here"] [] (spCount K) := T.d__law_count.cal fun f fd F => by
  refine F.ok sc__law_count (fun vs H Q E h => ?_) (fun cdv A outer s H vs Q E hr h => ?_)
  · obtain ⟨fA, oA, lA, fx, o, ls, rfl, _⟩ := h
    rfl
  · obtain ⟨fA, oA, lA, fx, o, ls, rfl, hf, ho, ⟨xl, hl, hds⟩, h63, hin, k⟩ := h
    have hlx : ls.length = xl.length := by rw [← hds.length, List.length_map]
    refine ⟨_, (pss_cons (ps_setC (i := 3) sc__law_count.nd rfl rfl (N := ["_law_one", "_law_other", "_law_fixed", "_law_order_here"]) (cap := [none, none, some 0, some 1]) rfl (cap_ok (osc := defScope s__law_count) (XN := ["_law_fixed", "_law_order_here", "_law_lines_here", "_law_pairs", "_law_found", "_law_one"]) rfl rfl (by decide +kernel)) (pi_list (pv 2)) (fun cl C s H fp pins => (pgK_tup (K := K) (n := 2) rfl rfl (pgs_cons (pg_name (i := 0) (show (["_law_one", "_law_other", "_law_fixed", "_law_order_here"] : List Str).Nodup by decide +kernel) rfl (by first | exact Or.inl rfl | exact Or.inr rfl)) (pgs_cons (pg_name (i := 1) (show (["_law_one", "_law_other", "_law_fixed", "_law_order_here"] : List Str).Nodup by decide +kernel) rfl (by first | exact Or.inl rfl | exact Or.inr rfl)) pgs_nil)))) (fun cl C s H fp pins => pif_nil) (fun cl C s H fp pins => (pe_tup (pa_cons (peK_bm (K := K) rfl PySem.F.plainAttrs_list PySem.F.slot_list_index PySem.F.type_list_index mt_indexS (pv 2) (pa_cons (pv 0) pa_nil)) (pa_cons (peK_bm (K := K) rfl PySem.F.plainAttrs_list PySem.F.slot_list_index PySem.F.type_list_index mt_indexS (pv 3) (pa_cons (pv 1) pa_nil)) pa_nil)))) (hsw := rfl))
      (pss_cons (ps_set (i := 4) sc__law_count.nd rfl (by first | exact Or.inl rfl | exact Or.inr rfl) pe_int)
      (pss_cons (ps_for PassesOwn.never rfl (pi_list (pv 3)) (pg_name (i := 5) sc__law_count.nd rfl (by first | exact Or.inl rfl | exact Or.inr rfl)) (pss_one (ps_set (i := 4) sc__law_count.nd rfl (by first | exact Or.inl rfl | exact Or.inr rfl) (pe_op op_add (pv 4) (pe_callB call_len_seq rfl T.n_len bt_len (pa_cons (pe_comp (N := ["_law_other", "_law_one"]) (cap := [none, some 5]) rfl (cap_ok (osc := defScope s__law_count) (XN := ["_law_fixed", "_law_order_here", "_law_lines_here", "_law_pairs", "_law_found", "_law_one"]) rfl rfl (by decide +kernel)) (pi_list (pv 3)) (fun cl C s H fp pins => (pg_name (i := 0) (show (["_law_other", "_law_one"] : List Str).Nodup by decide +kernel) rfl (by first | exact Or.inl rfl | exact Or.inr rfl))) (fun cl C s H fp pins => pif_one (PW.pt (pw_and (pt_cmpR op_lt (pe_ix (ixK_tup (K := K) rfl) (pv 1) pe_int (fun _ _ => rfl)) (pe_ix (ixK_tup (K := K) rfl) (pv 0) pe_int (fun _ _ => rfl)) (nomark _)) (pw_and1 (pt_cmpR op_gt (pe_ix (ixK_tup (K := K) rfl) (pv 1) pe_int (fun _ _ => rfl)) (pe_ix (ixK_tup (K := K) rfl) (pv 0) pe_int (fun _ _ => rfl)) (nomark _)))))) (fun cl C s H fp pins => (pv 0))) pa_nil))))))
      (pss_one (ps_ret (pv 4)))))), ?_⟩
    refine ⟨_, rfl, lA, rfl, ⟨_, SqL.of hl⟩, fun D hD => ?_⟩
    refine comp_list (K := K) (a := lA) (xs := xl) (fun i τ G => ∃ v1 v2 ys, τ = [v1, v2, some (.ref fA), some (.ref oA)] ∧ Same H G ∧ G D = some (.lst ys) ∧ DtVs K G ((prs fx o (ls.take i)).map prD) ys) ⟨none, none, [], rfl, Same.new hD, upd_same, rfl⟩ ?_ ?_ ?_
    · rintro i τ G _ ⟨_, _, _, rfl, sg, _⟩
      exact SqL.of (sg _ _ hl)
    · rintro i x τ G hx ⟨v1, v2, ys, rfl, sg, hg, hdy⟩
      have hi : i < xl.length := (List.getElem?_eq_some_iff.mp hx).1
      obtain ⟨q, hq, dq⟩ := dts_get hds hx
      obtain ⟨t, rfl, ht⟩ := un_ln (sg.dt dq)
      obtain ⟨q1, q2⟩ := hin q (List.mem_of_getElem? hq)
      obtain ⟨i1, e1⟩ := pl_mem q1
      obtain ⟨i2, e2⟩ := pl_mem q2
      have ky : ys.length ≤ 63 := by
        have a1 := hdy.length
        have a2 := prs_le fx o (ls.take i)
        rw [List.length_map] at a1
        rw [List.length_take] at a2
        omega
      dsimp only [tYes]
      refine ⟨t, _, rfl, ht, rfl, _, _, rfl, _, _, rfl, rfl, ?_⟩
      refine iteT ?_
      refine ⟨_, rfl, .inl ⟨rfl, _, SqL.of (sg _ _ hf)⟩, _, rfl, fA, fx, q.1, i1, rfl, rfl, sg _ _ hf, (pl_some e1).1, (pl_some e1).2, _, rfl, .inl ⟨rfl, _, SqL.of (sg _ _ ho)⟩, _, rfl, oA, o, q.2, i2, rfl, rfl, sg _ _ ho, (pl_some e2).1, (pl_some e2).2, (by show 2 ≤ sizeLine; decide), fun z nz => ?_⟩
      have s5 : Same G (upd G z (.tup [.int i1, .int i2])) := Same.new nz
      have h5 : upd G z (.tup [.int i1, .int i2]) z = some (.tup [.int i1, .int i2]) := upd_same
      generalize upd G z (.tup [.int i1, .int i2]) = H5 at s5 h5 ⊢
      refine ⟨_, s5 _ _ hg, by rw [sizeLine_eq]; omega, _, _, _, rfl, same_upd hD (sg.trans s5), upd_same, ?_⟩
      have e : pr1 fx o q = some (i1, i2) := by unfold pr1; rw [e1, e2]; rfl
      rw [prs_snoc hq, e, List.map_append]
      have kp : Tk H5 (upd H5 D (.lst (ys ++ [.ref z]))) := Tk.upd (s5 _ _ hg) rfl
      exact DtVs.snoc (d := prD (i1, i2)) (kp.dt rfl ⟨z, _, rfl, SqT.of h5, _, _, rfl, rfl, _, _, rfl, rfl, rfl⟩) (kp.dts (noLsts_map (fun _ => rfl) _) (s5.dts hdy))
    rintro τ H5 ⟨v1, v2, ys, rfl, s5, h5, hdy⟩
    rw [← hlx, List.take_length] at hdy
    have hk2 := prs_le fx o ls
    have kn : ys.length = (prs fx o ls).length := by rw [← hdy.length, List.length_map]
    generalize prs fx o ls = ps at hdy hk2 kn k
    dsimp only [gName]
    refine ⟨_, rfl, D, rfl, ⟨_, SqL.of h5⟩, for_list (K := K) (a := D) (xs := ys) (fun i σ H' => ∃ v5, σ = [some (.ref fA), some (.ref oA), some (.ref lA), some (.ref D), some (.int (((ps.take i).map (cr1 ps)).sum : Nat)), v5] ∧ Same H5 H')
      ⟨none, rfl, Same.refl _⟩ ?_ ?_ ?_⟩
    · rintro i σ H' _ ⟨_, rfl, sm⟩
      exact SqL.of (sm _ _ h5)
    · rintro i x σ H' hx ⟨v5, rfl, sm⟩
      obtain ⟨p, hp, dp⟩ := dts_get hdy hx
      obtain ⟨t, rfl, ht⟩ := un_pr (sm.dt dp)
      dsimp only [gName]
      refine ⟨_, rfl, _, rfl, D, rfl, ⟨_, SqL.of (sm _ _ h5)⟩, fun G hG => ?_⟩
      refine comp_list (K := K) (a := D) (xs := ys) (fun j τ H2 => ∃ w1 zs, τ = [w1, some (.ref t)] ∧ Same H' H2 ∧ H2 G = some (.lst zs) ∧ zs.length = (ps.take j).countP (xs1 p)) ⟨none, [], rfl, Same.new hG, upd_same, rfl⟩ ?_ ?_ ?_
      · rintro j τ H2 _ ⟨_, _, rfl, s2', _⟩
        exact SqL.of (s2' _ _ (sm _ _ h5))
      · rintro j y τ H2 hy ⟨w1, zs, rfl, s2', hz, kz⟩
        obtain ⟨q, hq, dq⟩ := dts_get hdy hy
        obtain ⟨tq, rfl, htq⟩ := un_pr ((sm.trans s2').dt dq)
        have ht2 := s2'.sqT ht
        have kc : zs.length ≤ 300 := by
          have := List.countP_le_length (p := xs1 p) (l := ps.take j)
          rw [List.length_take] at this
          omega
        have st : (ps.take (j + 1)).countP (xs1 p) = (ps.take j).countP (xs1 p) + (if xs1 p q then 1 else 0) := by
          rw [take_snoc hq, List.countP_append, List.countP_singleton]
        dsimp only [gName]
        refine ⟨_, rfl, t, _, 0, _, rfl, rfl, ht2, at_cons0, _, rfl, tq, _, 0, _, rfl, rfl, htq, at_cons0, _, _, rfl, rfl, _, rfl, ?_⟩
        refine iteB (fun c1 => ?_) (fun c1 => iteF ⟨_, zs, rfl, s2', hz, ?_⟩)
        · have l1 : p.1 < q.1 := by have := of_decide_eq_true c1; omega
          refine ⟨_, rfl, t, _, 1, _, rfl, rfl, ht2, at_cons1, _, rfl, tq, _, 1, _, rfl, rfl, htq, at_cons1, _, _, rfl, rfl, _, rfl, ?_⟩
          refine iteB (fun c2 => ?_) (fun c2 => ⟨_, zs, rfl, s2', hz, ?_⟩)
          · have l2 : q.2 < p.2 := by have := of_decide_eq_true c2; omega
            refine ⟨_, rfl, _, hz, by rw [sizeLine_eq]; omega, _, _, rfl, same_upd hG s2', upd_same, ?_⟩
            rw [st, List.length_append, kz]
            unfold xs1
            rw [decide_eq_true l1, decide_eq_true l2]
            rfl
          · have l2 : ¬ q.2 < p.2 := by have := of_decide_eq_false c2; omega
            rw [st, kz]
            unfold xs1
            rw [decide_eq_false l2, Bool.and_false]
            rfl
        · have l1 : ¬ p.1 < q.1 := by have := of_decide_eq_false c1; omega
          rw [st, kz]
          unfold xs1
          rw [decide_eq_false l1]
          rfl
      rintro τ H2 ⟨w1, zs, rfl, s2', hz, kz⟩
      refine ⟨G, _, rfl, .inl (SqL.of hz), _, _, rfl, rfl, ?_⟩
      have kk : ys.length = ps.length := by omega
      rw [kk, List.take_length] at kz
      refine ⟨some (.ref t), ?_, sm.trans s2'⟩
      have e : ((((ps.take i).map (cr1 ps)).sum : Nat) : Int) + (zs.length : Int) = ((((ps.take (i + 1)).map (cr1 ps)).sum : Nat) : Int) := by
        rw [take_snoc hp, List.map_append, List.sum_append, kz]
        simp [cr1]
      rw [← e]
      rfl
    · rintro σ H6 ⟨v5, rfl, s6⟩
      have kk : ys.length = ps.length := by omega
      rw [kk, List.take_length]
      exact ⟨_, rfl, k H6 (s5.trans s6)⟩
theorem ins_perm {l : Row} {y : Str} (p : Nat) : (l.take p ++ y :: l.drop p).Perm (y :: l) := by
  have := List.perm_middle (a := y) (l₁ := l.take p) (l₂ := l.drop p)
  rwa [List.take_append_drop] at this
theorem ins_map {l : Row} {y : Str} (p : Nat) : (l.map V.str).take p ++ V.str y :: (l.map V.str).drop p = (l.take p ++ y :: l.drop p).map V.str := by
  rw [List.map_append, List.map_cons, List.map_take, List.map_drop]
theorem seq_at {j n : Nat} (h : j < n) : seqIndex? (j : Int) n = some j := by
  unfold seqIndex?
  have e : (if (j : Int) < 0 then (j : Int) + n else j) = j := if_neg (by omega)
  dsimp only
  rw [e]
  have : (decide (0 ≤ (j : Int)) && decide ((j : Int) < n)) = true := by simp [h]
  rw [if_pos this]
  rfl
theorem erase_map : ∀ (o : Row) (j : Nat), (o.map V.str).eraseIdx j = (o.eraseIdx j).map V.str
  | [], _ => rfl
  | _ :: _, 0 => rfl
  | x :: o, j + 1 => by
    show V.str x :: (o.map V.str).eraseIdx j = V.str x :: (o.eraseIdx j).map V.str
    rw [erase_map o j]
theorem erase_perm : ∀ (o : Row) (j : Nat) (h : j < o.length), (o[j] :: o.eraseIdx j).Perm o
  | x :: o, 0, _ => .refl _
  | x :: o, j + 1, h => by
    have h' : j < o.length := by simpa using h
    show (o[j] :: x :: o.eraseIdx j).Perm (x :: o)
    exact (List.Perm.swap x o[j] (o.eraseIdx j)).trans ((erase_perm o j h').cons x)
def spLOrder : Sp := fun vs H Q _ => ∃ tO rA c fr o, vs = [.ref tO, .ref rA, .int c] ∧ H tO = some (.lst ((o : Row).map V.str)) ∧ H rA = some (.lst ((fr : Row).map V.str)) ∧ fr ≠ [] ∧ o.Perm fr ∧ fr.length ≤ 9 ∧ ∀ l o' H', Same H H' → H' l = some (.lst ((o' : Row).map V.str)) → o'.Perm fr → Q (.ref l) H'
set_option maxHeartbeats 4000000 in
theorem ok_lorder (T : Tx K mg a) : Cal P w K mg base CX0 2 "_law_order" ["_law_told", "_law_free", "_law_cell"] [] spLOrder := T.d__law_order.cal fun f fd F => by
  have c__law_mix := ok_mix (P := P) (w := w) (base := base) T
  refine F.ok sc__law_order (fun vs H Q E h => ?_) (fun cdv A outer s H vs Q E hr h => ?_)
  · obtain ⟨tO, rA, c, fr, o, rfl, _⟩ := h
    rfl
  · obtain ⟨tO, rA, c, fr, o, rfl, ho, hrr, hne, pm, h9, k⟩ := h
    have fl : 0 < fr.length := List.length_pos_iff.mpr hne
    have ol := pm.length_eq
    refine ⟨_, (pss_cons (ps_if (pt_cmpR op_eq (pe_op op_mod (pv 2) pe_int) pe_int (nomark _)) (pss_cons (ps_set (i := 3) sc__law_order.nd rfl (by first | exact Or.inl rfl | exact Or.inr rfl) (pe_callTy call_list_of rfl T.n_list bt_list (pa_cons (pv 0) pa_nil)))
      (pss_cons (ps_set (i := 4) sc__law_order.nd rfl (by first | exact Or.inl rfl | exact Or.inr rfl) (pe_bm PySem.F.plainAttrs_list PySem.F.slot_list_pop PySem.F.type_list_pop mt_popAt (pv 3) (pa_cons (pe_op op_mod (pe_cal c__law_mix (hr.mono (by decide)) rfl (pa_cons (pv 2) (pa_cons pe_int pa_nil))) (pe_callB call_len_seq rfl T.n_len bt_len (pa_cons (pv 3) pa_nil))) pa_nil)))
      (pss_cons (ps_expr (pe_bm PySem.F.plainAttrs_list PySem.F.slot_list_insert PySem.F.type_list_insert mt_insert (pv 3) (pa_cons (pe_op op_mod (pe_cal c__law_mix (hr.mono (by decide)) rfl (pa_cons (pv 2) (pa_cons pe_int pa_nil))) (pe_op op_add (pe_callB call_len_seq rfl T.n_len bt_len (pa_cons (pv 3) pa_nil)) pe_int)) (pa_cons (pv 4) pa_nil))))
      (pss_one (ps_ret (pv 3)))))) pss_nil)
      (pss_cons (ps_set (i := 3) sc__law_order.nd rfl (by first | exact Or.inl rfl | exact Or.inr rfl) (pe_lst pa_nil))
      (pss_cons (ps_for PassesOwn.never rfl (pi_enumerate rfl T.n_enumerate (pa_cons (pv 1) pa_nil)) (pg_tup rfl (pgs_cons (pg_name (i := 5) sc__law_order.nd rfl (by first | exact Or.inl rfl | exact Or.inr rfl)) (pgs_cons (pg_name (i := 4) sc__law_order.nd rfl (by first | exact Or.inl rfl | exact Or.inr rfl)) pgs_nil))) (pss_one (ps_expr (pe_bm PySem.F.plainAttrs_list PySem.F.slot_list_insert PySem.F.type_list_insert mt_insert (pv 3) (pa_cons (pe_op op_mod (pe_cal c__law_mix (hr.mono (by decide)) rfl (pa_cons (pv 2) (pa_cons (pe_op op_add (pv 5) pe_int) pa_nil))) (pe_op op_add (pe_callB call_len_seq rfl T.n_len bt_len (pa_cons (pv 3) pa_nil)) pe_int)) (pa_cons (pv 4) pa_nil))))))
      (pss_one (ps_ret (pv 3)))))), ?_⟩
    refine ⟨_, rfl, _, _, rfl, rfl, (by show (0 : Int) < 2; decide), rfl, _, rfl, ?_⟩
    refine iteB (fun _ => ?_) (fun _ => ?_)
    · refine ⟨_, rfl, tO, _, rfl, .inl (SqL.of ho), fun g ng => ?_⟩
      have s1 : Same H (upd H g (.lst (o.map V.str))) := Same.new ng
      have h1 : upd H g (.lst (o.map V.str)) g = some (.lst (o.map V.str)) := upd_same
      generalize upd H g (.lst (o.map V.str)) = H1 at s1 h1 ⊢
      refine ⟨_, rfl, .inl ⟨rfl, _, SqL.of h1⟩, _, rfl, c, _, rfl, by decide, by decide, fun y1 H2 s2 => ?_⟩
      have h2 := s2 _ _ h1
      have e1 : ((o.map V.str).length : Int) = o.length := by rw [List.length_map]
      have p0 : 0 ≤ y1 % ((o.map V.str).length : Int) := Int.emod_nonneg _ (by omega)
      have p1 : y1 % ((o.map V.str).length : Int) < o.length := by
        have := Int.emod_lt_of_pos y1 (b := ((o.map V.str).length : Int)) (by omega)
        omega
      obtain ⟨j, hj⟩ : ∃ j : Nat, y1 % ((o.map V.str).length : Int) = j := ⟨(y1 % ((o.map V.str).length : Int)).toNat, by omega⟩
      have jl : j < o.length := by omega
      refine ⟨_, rfl, g, _, rfl, .inl (SqL.of h2), _, _, rfl, rfl, (by show (0 : Int) < ((o.map V.str).length : Int); omega), g, _, _, j, .str o[j], rfl, rfl, h2, by omega, by omega, ?_, ?_, ?_⟩
      · rw [hj]
        exact seq_at (by rw [List.length_map]; exact jl)
      · rw [List.getElem?_map, List.getElem?_eq_getElem jl]
        rfl
      have ee : (o.map V.str).eraseIdx j = (o.eraseIdx j).map V.str := erase_map o j
      rw [ee]
      have h3 : upd H2 g (.lst ((o.eraseIdx j).map V.str)) g = some (.lst ((o.eraseIdx j).map V.str)) := upd_same
      have s3 : Same H (upd H2 g (.lst ((o.eraseIdx j).map V.str))) := same_upd ng (s1.trans s2)
      generalize upd H2 g (.lst ((o.eraseIdx j).map V.str)) = H3 at h3 s3 ⊢
      dsimp only [gName]
      refine ⟨_, rfl, .inl ⟨rfl, _, SqL.of h3⟩, _, rfl, c, _, rfl, by decide, by decide, fun y2 H4 s4 => ?_⟩
      have h4 := s4 _ _ h3
      have q0 : 0 ≤ y2 % ((((o.eraseIdx j).map V.str).length : Int) + 1) := Int.emod_nonneg _ (by omega)
      have q1 : y2 % ((((o.eraseIdx j).map V.str).length : Int) + 1) < (((o.eraseIdx j).map V.str).length : Int) + 1 := Int.emod_lt_of_pos _ (by omega)
      have el : (o.eraseIdx j).length ≤ 9 := by rw [List.length_eraseIdx]; split <;> omega
      refine ⟨_, rfl, g, _, rfl, .inl (SqL.of h4), _, _, rfl, rfl, _, _, rfl, rfl, (by show (0 : Int) < (((o.eraseIdx j).map V.str).length : Int) + 1; omega), _, rfl, g, _, _, _, rfl, rfl, h4, q0, by omega, by rw [List.length_map, sizeLine_eq]; omega, ?_⟩
      rw [ins_map]
      refine ⟨_, rfl, k g _ _ (same_upd ng (s3.trans s4)) upd_same ?_⟩
      exact (ins_perm _).trans ((erase_perm o j jl).trans pm)
    · refine ⟨(by show 0 ≤ sizeLine; decide), fun g ng => ?_⟩
      have s1 : Same H (upd H g (.lst [])) := Same.new ng
      have h1 : upd H g (.lst []) g = some (.lst []) := upd_same
      generalize upd H g (.lst []) = H1 at s1 h1 ⊢
      dsimp only [gName]
      refine ⟨_, rfl, rA, rfl, ⟨_, SqL.of (s1 _ _ hrr)⟩, for_enum (K := K) (l := rA) (xs := fr.map V.str) (fun i σ G => ∃ v4 v5, ∃ o' : Row, σ = [some (.ref tO), some (.ref rA), some (.int c), some (.ref g), v4, v5] ∧ Same H G ∧ G g = some (.lst (o'.map V.str)) ∧ o'.Perm (fr.take i))
        ⟨none, none, [], rfl, s1, h1, .nil⟩ ?_ ?_ ?_⟩
      · rintro i σ G _ ⟨_, _, _, rfl, sg, _⟩
        exact SqL.of (sg _ _ hrr)
      · rintro i x tt σ G hx nt ⟨v4, v5, o', rfl, sg, hg, po⟩
        obtain ⟨m, hm, rfl⟩ := strs_at hx
        have hi : i < fr.length := (List.getElem?_eq_some_iff.mp hm).1
        have s2 : Same G (upd G tt (.tup [.int i, .str m])) := Same.new nt
        have h2 : upd G tt (.tup [.int i, .str m]) tt = some (.tup [.int i, .str m]) := upd_same
        generalize upd G tt (.tup [.int i, .str m]) = G2 at s2 h2 ⊢
        refine ⟨tt, _, rfl, SqT.of h2, rfl, _, _, rfl, _, _, rfl, rfl, ?_⟩
        refine ⟨_, rfl, .inl ⟨rfl, _, SqL.of (s2 _ _ hg)⟩, _, rfl, _, rfl, _, _, rfl, rfl, c, _, rfl, by show (0 : Int) ≤ i + 1; omega, by show (i : Int) + 1 ≤ 1000; omega, fun y G3 s3 => ?_⟩
        have h3 := s3 _ _ (s2 _ _ hg)
        have q0 : 0 ≤ y % (((o'.map V.str).length : Int) + 1) := Int.emod_nonneg _ (by omega)
        have q1 : y % (((o'.map V.str).length : Int) + 1) < ((o'.map V.str).length : Int) + 1 := Int.emod_lt_of_pos _ (by omega)
        have lo := po.length_eq
        rw [List.length_take] at lo
        refine ⟨_, rfl, g, _, rfl, .inl (SqL.of h3), _, _, rfl, rfl, _, _, rfl, rfl, (by show (0 : Int) < ((o'.map V.str).length : Int) + 1; omega), _, rfl, g, _, _, _, rfl, rfl, h3, q0, by omega, by rw [List.length_map, sizeLine_eq]; omega, ?_⟩
        rw [ins_map]
        refine ⟨_, _, _, rfl, same_upd ng (sg.trans (s2.trans s3)), upd_same, ?_⟩
        rw [take_snoc hm]
        exact (ins_perm _).trans ((List.Perm.cons m po).trans (List.perm_append_comm (l₁ := [m]) (l₂ := fr.take i)))
      · rintro σ G ⟨v4, v5, o', rfl, sg, hg, po⟩
        rw [List.length_map, List.take_length] at po
        exact ⟨_, rfl, k g o' G sg hg po⟩
end
end K55
namespace K55
open PySem L2
section
variable {P : Program} {w : World} {K : PySem.W.Frag} {mg : Str → Option Value} {base : Heap} {a : Adr}
theorem cut_ints_le (ns : List Int) (i j : Nat) : ∃ ms : List Int, cutV (ns.map V.int) (some i) (some j) = ms.map V.int ∧ ms.length ≤ j - i := by
  obtain ⟨ms, e, _⟩ := cut_ints ns (some i) (some j)
  refine ⟨ms, e, ?_⟩
  have l : ms.length = (cutV (ns.map V.int) (some i) (some j)).length := by rw [e, List.length_map]
  rw [l]
  unfold cutV
  have e1 : HT.sIx (ns.map V.int).length 0 (some (i : Int)) = min i (ns.map V.int).length := by
    unfold HT.sIx
    dsimp only
    rw [if_neg (by omega), Int.toNat_natCast]
  have e2 : HT.sIx (ns.map V.int).length (ns.map V.int).length (some (j : Int)) = min j (ns.map V.int).length := by
    unfold HT.sIx
    dsimp only
    rw [if_neg (by omega), Int.toNat_natCast]
  rw [e1, e2, List.length_take, List.length_drop]
  omega
def spLaw (K : PySem.W.Frag) : Sp := fun vs H Q _ => ∃ (p : Addr) (ns : List Int), vs = [.ref p] ∧ SqL K H p (ns.map V.int) ∧ ns.length ≤ 63 ∧ ∀ H', Q (.bl true) H'
set_option maxHeartbeats 8000000 in
theorem ok_law (T : Tx K mg a) (f : Addr) (fd : FuncData) (F : FunD K "law" "law" s_law f fd) : FnOk P w K mg base CX0 7 f fd ["_law_script"] (spLaw K) := by
  have c__law_cell_at := ok_cell_at (P := P) (w := w) (base := base) T
  have c__law_row := ok_row (P := P) (w := w) (base := base) T
  have c__law_lines := ok_lines (P := P) (w := w) (base := base) T
  have c__law_count := ok_count (P := P) (w := w) (base := base) T
  have c__law_order := ok_lorder (P := P) (w := w) (base := base) T
  have c_crossings := ok_crossings (P := P) (w := w) (base := base) T
  have c_least_order := ok_least_order (P := P) (w := w) (base := base) T
  refine F.ok sc_law (fun vs H Q E h => ?_) (fun cdv A outer s H vs Q E hr h => ?_)
  · obtain ⟨p, ns, rfl, _⟩ := h
    rfl
  · obtain ⟨p, ns, rfl, hS, hlen, k⟩ := h
    refine ⟨_, (pss_cons (ps_set (i := 1) sc_law.nd rfl (by first | exact Or.inl rfl | exact Or.inr rfl) (pe_cal c__law_cell_at (hr.mono (by decide)) rfl (pa_cons (pv 0) (pa_cons pe_int pa_nil))))
      (pss_cons (ps_set (i := 2) sc_law.nd rfl (by first | exact Or.inl rfl | exact Or.inr rfl) (pe_cal c__law_row (hr.mono (by decide)) rfl (pa_cons (pv 1) (pa_cons pe_int (pa_cons (pe_op op_add pe_int (pe_op op_mod (pv 1) pe_int)) (pa_cons pe_str pa_nil))))))
      (pss_cons (ps_set (i := 3) sc_law.nd rfl (by first | exact Or.inl rfl | exact Or.inr rfl) (pe_op op_add pe_int (pe_op op_mod (pe_cal c__law_cell_at (hr.mono (by decide)) rfl (pa_cons (pv 0) (pa_cons pe_int pa_nil))) pe_int)))
      (pss_cons (ps_if (pt_cmpR op_eq (pe_op op_mod (pe_op op_fdiv (pe_cal c__law_cell_at (hr.mono (by decide)) rfl (pa_cons (pv 0) (pa_cons pe_int pa_nil))) pe_int) pe_int) pe_int (nomark _)) (pss_one (ps_set (i := 3) sc_law.nd rfl (by first | exact Or.inl rfl | exact Or.inr rfl) pe_int)) pss_nil)
      (pss_cons (ps_set (i := 4) sc_law.nd rfl (by first | exact Or.inl rfl | exact Or.inr rfl) (pe_cal c__law_row (hr.mono (by decide)) rfl (pa_cons (pv 1) (pa_cons pe_int (pa_cons (pv 3) (pa_cons pe_str pa_nil))))))
      (pss_cons (ps_set (i := 5) sc_law.nd rfl (by first | exact Or.inl rfl | exact Or.inr rfl) (pe_cal c__law_lines (hr.mono (by decide)) rfl (pa_cons (pv 2) (pa_cons (pv 4) (pa_cons (pe_slice sl_list (pv 0) (po_some pe_int) (po_some pe_int)) pa_nil)))))
      (pss_cons (ps_asg (pe_calX c_least_order px_never (hr.mono (by decide)) rfl (pa_cons (pe_callTy call_list_of rfl T.n_list bt_list (pa_cons (pv 2) pa_nil)) (pa_cons (pe_callTy call_list_of rfl T.n_list bt_list (pa_cons (pv 4) pa_nil)) (pa_cons (pe_callTy call_list_of rfl T.n_list bt_list (pa_cons (pv 5) pa_nil)) pa_nil)))) (pg_tup rfl (pgs_cons (pg_name (i := 6) sc_law.nd rfl (by first | exact Or.inl rfl | exact Or.inr rfl)) (pgs_cons (pg_name (i := 7) sc_law.nd rfl (by first | exact Or.inl rfl | exact Or.inr rfl)) (pgs_cons (pg_name (i := 8) sc_law.nd rfl (by first | exact Or.inl rfl | exact Or.inr rfl)) pgs_nil)))))
      (pss_cons (ps_if (PW.pt (pw_or (pt_cmpR (op_neD hr.units) (pe_callB call_sortedS rfl T.n_sorted bt_sorted (pa_cons (pv 7) pa_nil)) (pe_callB call_sortedS rfl T.n_sorted bt_sorted (pa_cons (pv 4) pa_nil)) (nomark _)) (pw_or1 (pt_cmpR op_ne (pe_cal c_crossings (hr.mono (by decide)) rfl (pa_cons (pe_callTy call_list_of rfl T.n_list bt_list (pa_cons (pv 2) pa_nil)) (pa_cons (pe_callTy call_list_of rfl T.n_list bt_list (pa_cons (pv 7) pa_nil)) (pa_cons (pe_callTy call_list_of rfl T.n_list bt_list (pa_cons (pv 5) pa_nil)) pa_nil)))) (pv 6) (nomark _))))) (pss_one (ps_ret pe_bl)) pss_nil)
      (pss_cons (ps_if (pt_cmpR op_ne (pe_cal c__law_count (hr.mono (by decide)) rfl (pa_cons (pv 2) (pa_cons (pv 7) (pa_cons (pv 5) pa_nil)))) (pv 6) (nomark _)) (pss_one (ps_ret pe_bl)) pss_nil)
      (pss_cons (ps_for PassesOwn.never rfl (pi_list (pe_slice sl_list (pv 0) (po_some pe_int) (po_some pe_int))) (pg_name (i := 9) sc_law.nd rfl (by first | exact Or.inl rfl | exact Or.inr rfl)) (pss_cons (ps_set (i := 10) sc_law.nd rfl (by first | exact Or.inl rfl | exact Or.inr rfl) (pe_cal c__law_order (hr.mono (by decide)) rfl (pa_cons (pv 7) (pa_cons (pv 4) (pa_cons (pv 9) pa_nil)))))
      (pss_cons (ps_set (i := 11) sc_law.nd rfl (by first | exact Or.inl rfl | exact Or.inr rfl) (pe_cal c__law_count (hr.mono (by decide)) rfl (pa_cons (pv 2) (pa_cons (pv 10) (pa_cons (pv 5) pa_nil)))))
      (pss_one (ps_if (PW.pt (pw_or (pt_cmpR op_lt (pv 11) (pv 6) (nomark _)) (pw_or1 (pt_cmpR op_ne (pe_cal c_crossings (hr.mono (by decide)) rfl (pa_cons (pe_callTy call_list_of rfl T.n_list bt_list (pa_cons (pv 2) pa_nil)) (pa_cons (pe_callTy call_list_of rfl T.n_list bt_list (pa_cons (pv 10) pa_nil)) (pa_cons (pe_callTy call_list_of rfl T.n_list bt_list (pa_cons (pv 5) pa_nil)) pa_nil)))) (pv 11) (nomark _))))) (pss_one (ps_ret pe_bl)) pss_nil)))))
      (pss_one (ps_ret (pe_cmpR op_eq (pe_ix ix_tup (pe_calX c_least_order px_never (hr.mono (by decide)) rfl (pa_cons (pe_rev (pv 2) (pe_un un_neg pe_int)) (pa_cons (pe_rev (pv 4) (pe_un un_neg pe_int)) (pa_cons (pe_callTy call_list_of rfl T.n_list bt_list (pa_cons (pv 5) pa_nil)) pa_nil)))) pe_int (fun _ _ => rfl)) (pv 6) (nomark _)))))))))))))), ?_⟩
    refine ⟨_, rfl, p, ns, 0, rfl, hS, by decide, fun c => ?_⟩
    have c0 : 0 ≤ c % 6 := Int.emod_nonneg _ (by decide)
    have c1 : c % 6 < 6 := Int.emod_lt_of_pos _ (by decide)
    obtain ⟨m1, hm1⟩ : ∃ m : Nat, 1 + c % 6 = (m : Int) := ⟨(1 + c % 6).toNat, by omega⟩
    refine ⟨_, rfl, _, rfl, _, _, rfl, rfl, (by show (0 : Int) < 6; decide), _, _, rfl, rfl, c, 1, m1, "a", congrArg (fun y => [V.int c, V.int 1, V.int y, V.str "a"]) hm1, by decide, by decide, by omega, by decide, fun fA fx H2 s2 nfA hf ndf lf => ?_⟩
    refine ⟨_, rfl, p, ns, 1, rfl, s2.sqL hS, by decide, fun d => ⟨_, _, rfl, rfl, (by show (0 : Int) < 6; decide), _, _, rfl, rfl, ?_⟩⟩
    have d0 : 0 ≤ d % 6 := Int.emod_nonneg _ (by decide)
    have d1 : d % 6 < 6 := Int.emod_lt_of_pos _ (by decide)
    dsimp only [gName]
    apply joinS (fun x : Int => [some (.ref p), some (.int c), some (.ref fA), some (.int x), none, none, none, none, none, none, none, none]) (fun x G => H2 = G ∧ 1 ≤ x ∧ x ≤ 8)
    case g =>
      intro rest
      refine ⟨_, rfl, p, ns, 1, rfl, s2.sqL hS, by decide, fun d2 => ⟨_, _, rfl, rfl, ⟨by decide, by decide⟩, _, _, rfl, rfl, (by show (0 : Int) < 16; decide), rfl, _, rfl, ?_⟩⟩
      refine iteB (fun _ => ?_) (fun _ => rest _ H2 ⟨rfl, by omega, by omega⟩)
      exact rest 8 H2 ⟨rfl, by decide, by decide⟩
    case h =>
    rintro x _ ⟨rfl, x0, x9⟩
    obtain ⟨n, rfl⟩ : ∃ n : Nat, x = (n : Int) := ⟨x.toNat, by omega⟩
    refine ⟨_, rfl, _, rfl, c, 20, n, "b", rfl, by decide, by decide, by omega, by decide, fun rA fr H4 s4 nrA hrr ndr lr => ?_⟩
    subst lr
    have t4 := s2.trans s4
    have hf4 := s4 _ _ hf
    have n8 : fr.length ≤ 8 := by omega
    obtain ⟨ms, hms, hml⟩ := cut_ints_le ns 2 16
    refine ⟨_, rfl, _, rfl, _, rfl, _, rfl, _, rfl, p, _, rfl, t4.sqL hS, fun lc nlc => ?_⟩
    rw [show cutV (ns.map V.int) (some 2) (some 16) = ms.map V.int from hms]
    have s5 : Same H4 (upd H4 lc (.lst (ms.map V.int))) := Same.new nlc
    have h5 : upd H4 lc (.lst (ms.map V.int)) lc = some (.lst (ms.map V.int)) := upd_same
    generalize upd H4 lc (.lst (ms.map V.int)) = H5 at s5 h5 ⊢
    have fne : fx ≠ [] := fun e => by
      rw [e] at lf
      simp at lf
      omega
    have rne : fr ≠ [] := fun e => by
      rw [e] at x0
      simp at x0
    refine ⟨fA, rA, lc, fx, fr, ms, rfl, s5 _ _ hf4, s5 _ _ hrr, fne, rne, SqL.of h5, by omega, fun lA ls H6 s6 hls hin hl32 => ?_⟩
    have u6 := s5.trans s6
    have t6 := t4.trans u6
    have hf6 := u6 _ _ hf4
    have hr6 := u6 _ _ hrr
    obtain ⟨xl, hl6, hds6⟩ := hls
    have uf := Uq.of ndf
    have urr := Uq.of ndr
    have hin1 : ∀ q ∈ ls, q.1 ∈ fx := fun q hq => (hin q hq).1
    -- copies of the two rows and the lines
    have three : ∀ (G : Hp) (x y : Row) (xA yA : Addr), G xA = some (.lst (x.map V.str)) → True := fun _ _ _ _ _ _ => trivial
    refine ⟨_, rfl, fA, _, rfl, .inl (SqL.of hf6), fun f2 nf2 => ?_⟩
    have s7 : Same H6 (upd H6 f2 (.lst (fx.map V.str))) := Same.new nf2
    have h7 : upd H6 f2 (.lst (fx.map V.str)) f2 = some (.lst (fx.map V.str)) := upd_same
    generalize upd H6 f2 (.lst (fx.map V.str)) = H7 at s7 h7 ⊢
    refine ⟨_, rfl, rA, _, rfl, .inl (SqL.of (s7 _ _ hr6)), fun r2 nr2 => ?_⟩
    have s8 : Same H7 (upd H7 r2 (.lst (fr.map V.str))) := Same.new nr2
    have h8 : upd H7 r2 (.lst (fr.map V.str)) r2 = some (.lst (fr.map V.str)) := upd_same
    generalize upd H7 r2 (.lst (fr.map V.str)) = H8 at s8 h8 ⊢
    have u8 := s7.trans s8
    refine ⟨_, rfl, lA, _, rfl, .inl (SqL.of (u8 _ _ hl6)), fun l2 nl2 => ?_⟩
    have s9 : Same H8 (upd H8 l2 (.lst xl)) := Same.new nl2
    have h9 : upd H8 l2 (.lst xl) l2 = some (.lst xl) := upd_same
    generalize upd H8 l2 (.lst xl) = H9 at s9 h9 ⊢
    have u9 := u8.trans s9
    refine ⟨f2, r2, l2, fx, fr, ls, rfl, s9 _ _ (s8 _ _ h7), s9 _ _ h8, ⟨xl, h9, u9.dts hds6⟩, by omega, uf, by omega, hin1, fun _ z oA tA ix t H10 s10 hz ho ht nO nT it ndx hix hcI hord => ?_, fun g => by omega⟩
    refine ⟨z, _, rfl, SqT.of hz, rfl, _, _, rfl, _, _, rfl, _, _, rfl, rfl, ?_⟩
    have u10 := u9.trans s10
    have gf := u10 _ _ hf6
    have gr := u10 _ _ hr6
    have gl := u10 _ _ hl6
    have gd := u10.dts hds6
    have t10 := t6.trans u10
    have pm := nm_perm ndx hix
    have hcR : cR fx ls (nm fr ix) = t (2 ^ fr.length - 1) := by rw [← cI_cR]; exact hcI
    generalize nm fr ix = o at ho pm hcR
    have ol := pm.length_eq
    have cross : ∀ o' : Row, o'.Perm fr → cr (prs fx o' ls) = cR fx ls o' := fun o' po => cr_cR (po.nodup_iff.mpr ndr) fun q hq => ⟨(hin q hq).1, po.mem_iff.mpr (hin q hq).2⟩
    clear s7 s8 s9 u8 u9 h7 h8 h9 s10 nf2 nr2 nl2 hf6 hr6 hl6 hds6 u10 three
    -- sorted
    refine ⟨_, rfl, oA, _, rfl, ho, by omega, fun r1 ss1 n1 p1 q1 => ?_⟩
    have s11 : Same H10 (upd H10 r1 (.lst (ss1.map V.str))) := Same.new n1
    have h11 : upd H10 r1 (.lst (ss1.map V.str)) r1 = some (.lst (ss1.map V.str)) := upd_same
    generalize upd H10 r1 (.lst (ss1.map V.str)) = H11 at s11 h11 ⊢
    refine ⟨_, rfl, rA, _, rfl, s11 _ _ gr, by omega, fun r3 ss2 n2 p2 q2 => ?_⟩
    have e12 : ss2 = ss1 := sorted_uniq q2 q1 (p2.trans (pm.symm.trans p1.symm))
    rw [e12]
    have s12 : Same H11 (upd H11 r3 (.lst (ss1.map V.str))) := Same.new n2
    have h12 : upd H11 r3 (.lst (ss1.map V.str)) r3 = some (.lst (ss1.map V.str)) := upd_same
    generalize upd H11 r3 (.lst (ss1.map V.str)) = H12 at s12 h12 ⊢
    have v12 := s11.trans s12
    refine ⟨rowD ss1, rowD ss1, rfl, rfl, ⟨r1, _, rfl, SqL.of (s12 _ _ h11), dts_strs ss1⟩, ⟨r3, _, rfl, SqL.of h12, dts_strs ss1⟩, deep_row ss1, _, rfl, iteOr (by rw [eqD_refl]; rfl) ?_⟩
    -- crossings of the told order
    refine ⟨_, rfl, fA, _, rfl, .inl (SqL.of (v12 _ _ gf)), fun a1 na1 => ?_⟩
    have s13 : Same H12 (upd H12 a1 (.lst (fx.map V.str))) := Same.new na1
    have h13 : upd H12 a1 (.lst (fx.map V.str)) a1 = some (.lst (fx.map V.str)) := upd_same
    generalize upd H12 a1 (.lst (fx.map V.str)) = H13 at s13 h13 ⊢
    have v13 := v12.trans s13
    refine ⟨_, rfl, oA, _, rfl, .inl (SqL.of (v13 _ _ ho)), fun a2 na2 => ?_⟩
    have s14 : Same H13 (upd H13 a2 (.lst (o.map V.str))) := Same.new na2
    have h14 : upd H13 a2 (.lst (o.map V.str)) a2 = some (.lst (o.map V.str)) := upd_same
    generalize upd H13 a2 (.lst (o.map V.str)) = H14 at s14 h14 ⊢
    have v14 := v13.trans s14
    refine ⟨_, rfl, lA, _, rfl, .inl (SqL.of (v14 _ _ gl)), fun a3 na3 => ?_⟩
    have s15 : Same H14 (upd H14 a3 (.lst xl)) := Same.new na3
    have h15 : upd H14 a3 (.lst xl) a3 = some (.lst xl) := upd_same
    generalize upd H14 a3 (.lst xl) = H15 at s15 h15 ⊢
    have v15 := v14.trans s15
    refine ⟨a1, a2, a3, fx, o, ls, rfl, s15 _ _ (s14 _ _ h13), s15 _ _ h14, uf, Uq.of (pm.nodup_iff.mpr ndr), by omega, by omega, ⟨xl, h15, v15.dts gd⟩, by omega, fun H16 s16 => ?_⟩
    have v16 := v15.trans s16
    rw [cross o pm, hcR]
    refine ⟨_, rfl, rfl, _, rfl, iteOr (by simp) ?_⟩
    refine ⟨_, rfl, _, rfl, _, rfl, fA, oA, lA, fx, o, ls, rfl, v16 _ _ gf, v16 _ _ ho, ⟨xl, v16 _ _ gl, v16.dts gd⟩, by omega, fun q hq => ⟨(hin q hq).1, pm.mem_iff.mpr (hin q hq).2⟩, fun H17 s17 => ?_⟩
    have v17 := v16.trans s17
    rw [cross o pm, hcR]
    refine ⟨_, rfl, rfl, _, rfl, iteOr (by simp) ?_⟩
    -- other orders
    obtain ⟨ms2, hms2, hml2⟩ := cut_ints_le ns 16 24
    refine ⟨_, rfl, _, rfl, _, rfl, p, _, rfl, (t10.trans v17).sqL hS, fun lc2 nlc2 => ?_⟩
    rw [show cutV (ns.map V.int) (some 16) (some 24) = ms2.map V.int from hms2]
    have s18 : Same H17 (upd H17 lc2 (.lst (ms2.map V.int))) := Same.new nlc2
    have h18 : upd H17 lc2 (.lst (ms2.map V.int)) lc2 = some (.lst (ms2.map V.int)) := upd_same
    generalize upd H17 lc2 (.lst (ms2.map V.int)) = H18 at s18 h18 ⊢
    have v18 := v17.trans s18
    refine ⟨lc2, rfl, ⟨_, SqL.of h18⟩, for_list (K := K) (a := lc2) (xs := ms2.map V.int) (fun i σ G => ∃ v9 v10 v11, σ = [some (.ref p), some (.int c), some (.ref fA), some (.int fr.length), some (.ref rA), some (.ref lA), some (.int (t (2 ^ fr.length - 1) : Nat)), some (.ref oA), some (.ref tA), v9, v10, v11] ∧ Same H18 G)
      ⟨none, none, none, rfl, Same.refl _⟩ ?_ ?_ ?_⟩
    · rintro i σ G _ ⟨_, _, _, rfl, sg⟩
      exact SqL.of (sg _ _ h18)
    · rintro i x σ G hx ⟨v9, v10, v11, rfl, sg⟩
      obtain ⟨cc, hcc, rfl⟩ : ∃ c, ms2[i]? = some c ∧ x = .int c := by
        rw [List.getElem?_map] at hx
        cases e : ms2[i]? with
        | none => rw [e] at hx; cases hx
        | some n => rw [e] at hx; exact ⟨n, rfl, (Option.some.inj hx).symm⟩
      have vg := v18.trans sg
      dsimp only [gName]
      refine ⟨_, rfl, _, rfl, _, rfl, oA, rA, cc, fr, o, rfl, vg _ _ ho, vg _ _ gr, rne, pm, by omega, fun o2A o2 G1 s1 ho2 pm2 => ?_⟩
      have v1 := vg.trans s1
      have ol2 := pm2.length_eq
      refine ⟨_, rfl, _, rfl, _, rfl, fA, o2A, lA, fx, o2, ls, rfl, v1 _ _ gf, ho2, ⟨xl, v1 _ _ gl, v1.dts gd⟩, by omega, fun q hq => ⟨(hin q hq).1, pm2.mem_iff.mpr (hin q hq).2⟩, fun G2 s2' => ?_⟩
      have v2 := v1.trans s2'
      rw [cross o2 pm2]
      have low := least_is n8 it ndr pm2
      dsimp only [gName]
      refine ⟨_, rfl, _, rfl, _, _, rfl, rfl, _, rfl, iteOr (by simpa using low) ?_⟩
      refine ⟨_, rfl, fA, _, rfl, .inl (SqL.of (v2 _ _ gf)), fun b1 nb1 => ?_⟩
      have s3 : Same G2 (upd G2 b1 (.lst (fx.map V.str))) := Same.new nb1
      have h3 : upd G2 b1 (.lst (fx.map V.str)) b1 = some (.lst (fx.map V.str)) := upd_same
      generalize upd G2 b1 (.lst (fx.map V.str)) = G3 at s3 h3 ⊢
      refine ⟨_, rfl, o2A, _, rfl, .inl (SqL.of (s3 _ _ (s2' _ _ ho2))), fun b2 nb2 => ?_⟩
      have s4' : Same G3 (upd G3 b2 (.lst (o2.map V.str))) := Same.new nb2
      have h4 : upd G3 b2 (.lst (o2.map V.str)) b2 = some (.lst (o2.map V.str)) := upd_same
      generalize upd G3 b2 (.lst (o2.map V.str)) = G4 at s4' h4 ⊢
      have v4 := v2.trans (s3.trans s4')
      refine ⟨_, rfl, lA, _, rfl, .inl (SqL.of (v4 _ _ gl)), fun b3 nb3 => ?_⟩
      have s5' : Same G4 (upd G4 b3 (.lst xl)) := Same.new nb3
      have h5' : upd G4 b3 (.lst xl) b3 = some (.lst xl) := upd_same
      generalize upd G4 b3 (.lst xl) = G5 at s5' h5' ⊢
      refine ⟨b1, b2, b3, fx, o2, ls, rfl, s5' _ _ (s4' _ _ h3), s5' _ _ h4, uf, Uq.of (pm2.nodup_iff.mpr ndr), by omega, by omega, ⟨xl, h5', (v4.trans s5').dts gd⟩, by omega, fun G6 s6' => ?_⟩
      rw [cross o2 pm2]
      refine ⟨_, rfl, rfl, _, rfl, iteOr (by simp) ?_⟩
      exact ⟨_, _, _, rfl, sg.trans (s1.trans (s2'.trans (s3.trans (s4'.trans (s5'.trans s6')))))⟩
    · rintro σ G ⟨v9, v10, v11, rfl, sg⟩
      have vg := v18.trans sg
      -- both rows turned about
      refine ⟨_, rfl, _, rfl, fA, _, rfl, rfl, SqL.of (vg _ _ gf), fun b1 nb1 => ?_⟩
      rw [← List.map_reverse]
      have s3 : Same G (upd G b1 (.lst (fx.reverse.map V.str))) := Same.new nb1
      have h3 : upd G b1 (.lst (fx.reverse.map V.str)) b1 = some (.lst (fx.reverse.map V.str)) := upd_same
      generalize upd G b1 (.lst (fx.reverse.map V.str)) = G3 at s3 h3 ⊢
      refine ⟨_, rfl, _, rfl, rA, _, rfl, rfl, SqL.of (s3 _ _ (vg _ _ gr)), fun b2 nb2 => ?_⟩
      rw [← List.map_reverse]
      have s4' : Same G3 (upd G3 b2 (.lst (fr.reverse.map V.str))) := Same.new nb2
      have h4 : upd G3 b2 (.lst (fr.reverse.map V.str)) b2 = some (.lst (fr.reverse.map V.str)) := upd_same
      generalize upd G3 b2 (.lst (fr.reverse.map V.str)) = G4 at s4' h4 ⊢
      have v4 := vg.trans (s3.trans s4')
      refine ⟨_, rfl, lA, _, rfl, .inl (SqL.of (v4 _ _ gl)), fun b3 nb3 => ?_⟩
      have s5' : Same G4 (upd G4 b3 (.lst xl)) := Same.new nb3
      have h5' : upd G4 b3 (.lst xl) b3 = some (.lst xl) := upd_same
      generalize upd G4 b3 (.lst xl) = G5 at s5' h5' ⊢
      refine ⟨b1, b2, b3, fx.reverse, fr.reverse, ls, rfl, s5' _ _ (s4' _ _ h3), s5' _ _ h4, ⟨xl, h5', (v4.trans s5').dts gd⟩, by omega, Uq.of (nd_rev ndf), by rw [List.length_reverse]; omega, fun q hq => List.mem_reverse.mpr (hin1 q hq), fun _ z' oA' tA' ix' t' G6 s6' hz' _ _ _ _ it' ndx' hix' hcI' _ => ?_, fun g => by rw [List.length_reverse] at g; omega⟩
      rw [least_rev n8 ndf ndr hin it ndx hix hcI it' ndx' hix' hcI'] at hz'
      refine ⟨z', _, 0, _, rfl, rfl, SqT.of hz', at_cons0, _, rfl, rfl, ?_⟩
      rw [decide_eq_true rfl]
      exact k _
end
end K55
namespace K55
open PySem L2
set_option maxHeartbeats 4000000 in
theorem all_mk {l : PySem.W.OpenLaw} {w : World} {K : PySem.W.Frag} {h : Heap} {mg : Str → Option Value} {fa : Addr}
    {CDrawError : Addr}
    {CTooMany : Addr}
    {fplaces_of : Addr} {odplaces_of anplaces_of : Option Addr} {slplaces_of : Array (Option Value)} {ocplaces_of kVplaces_of dcplaces_of pmplaces_of cdplaces_of ctplaces_of : Value}
    {fcrossings : Addr} {odcrossings ancrossings : Option Addr} {slcrossings : Array (Option Value)} {occrossings kVcrossings dccrossings pmcrossings cdcrossings ctcrossings : Value}
    {fends_across : Addr} {odends_across anends_across : Option Addr} {slends_across : Array (Option Value)} {ocends_across kVends_across dcends_across pmends_across cdends_across ctends_across : Value}
    {fcrossed : Addr} {odcrossed ancrossed : Option Addr} {slcrossed : Array (Option Value)} {occrossed kVcrossed dccrossed pmcrossed cdcrossed ctcrossed : Value}
    {fmembers : Addr} {odmembers anmembers : Option Addr} {slmembers : Array (Option Value)} {ocmembers kVmembers dcmembers pmmembers cdmembers ctmembers : Value}
    {fcosts_of : Addr} {odcosts_of ancosts_of : Option Addr} {slcosts_of : Array (Option Value)} {occosts_of kVcosts_of dccosts_of pmcosts_of cdcosts_of ctcosts_of : Value}
    {fcost_with_last : Addr} {odcost_with_last ancost_with_last : Option Addr} {slcost_with_last : Array (Option Value)} {occost_with_last kVcost_with_last dccost_with_last pmcost_with_last cdcost_with_last ctcost_with_last : Value}
    {ftable_of : Addr} {odtable_of antable_of : Option Addr} {sltable_of : Array (Option Value)} {octable_of kVtable_of dctable_of pmtable_of cdtable_of cttable_of : Value}
    {forder_by : Addr} {odorder_by anorder_by : Option Addr} {slorder_by : Array (Option Value)} {ocorder_by kVorder_by dcorder_by pmorder_by cdorder_by ctorder_by : Value}
    {fleast_order : Addr} {odleast_order anleast_order : Option Addr} {slleast_order : Array (Option Value)} {ocleast_order kVleast_order dcleast_order pmleast_order cdleast_order ctleast_order : Value}
    {f_law_cell_at : Addr} {od_law_cell_at an_law_cell_at : Option Addr} {sl_law_cell_at : Array (Option Value)} {oc_law_cell_at kV_law_cell_at dc_law_cell_at pm_law_cell_at cd_law_cell_at ct_law_cell_at : Value}
    {f_law_mix : Addr} {od_law_mix an_law_mix : Option Addr} {sl_law_mix : Array (Option Value)} {oc_law_mix kV_law_mix dc_law_mix pm_law_mix cd_law_mix ct_law_mix : Value}
    {f_law_row : Addr} {od_law_row an_law_row : Option Addr} {sl_law_row : Array (Option Value)} {oc_law_row kV_law_row dc_law_row pm_law_row cd_law_row ct_law_row : Value}
    {f_law_lines : Addr} {od_law_lines an_law_lines : Option Addr} {sl_law_lines : Array (Option Value)} {oc_law_lines kV_law_lines dc_law_lines pm_law_lines cd_law_lines ct_law_lines : Value}
    {f_law_count : Addr} {od_law_count an_law_count : Option Addr} {sl_law_count : Array (Option Value)} {oc_law_count kV_law_count dc_law_count pm_law_count cd_law_count ct_law_count : Value}
    {f_law_order : Addr} {od_law_order an_law_order : Option Addr} {sl_law_order : Array (Option Value)} {oc_law_order kV_law_order dc_law_order pm_law_order cd_law_order ct_law_order : Value}
    {flaw : Addr} {odlaw anlaw : Option Addr} {sllaw : Array (Option Value)} {oclaw kVlaw dclaw pmlaw cdlaw ctlaw : Value}
    {tMOST_FREE : Tok}
    (X : K.In h) (G : h.Ns mainGlobals mg) (hfa : mg "law" = some (.ref fa))
    (aDrawError : PySem.W.nsIn K mainGlobals "DrawError" = some (some (.ref CDrawError)))
    (xbDrawError : PySem.W.mroIn K CDrawError (.type "BaseException") = some true)
    (xtDrawError : PySem.W.typeIn K (.ref CDrawError) = some (.type "type"))
    (aTooMany : PySem.W.nsIn K mainGlobals "TooMany" = some (some (.ref CTooMany)))
    (xbTooMany : PySem.W.mroIn K CTooMany (.type "BaseException") = some true)
    (xtTooMany : PySem.W.typeIn K (.ref CTooMany) = some (.type "type"))
    (xaTooMany : excAt K CTooMany bmV "ValueError.__new__" = true)
    (xkTooMany : PySem.W.keepIn K (.ref CTooMany) = true)
    (xiTooMany : PySem.W.findIn K (.ref CTooMany) "__init__" = some (some (.builtin "ValueError.__init__")))
    (aplaces_of : PySem.W.nsIn K mainGlobals "places_of" = some (some (.ref fplaces_of)))
    (lplaces_of : K.lookup fplaces_of = some ⟨ocplaces_of, odplaces_of, .func (PySem.W.fnOf "places_of" "places_of" (defArgs s_places_of) (defBody s_places_of) (defScope s_places_of) .none kVplaces_of dcplaces_of pmplaces_of anplaces_of cdplaces_of ctplaces_of), slplaces_of⟩)
    (ccplaces_of : PySem.W.codeIn K cdplaces_of "places_of" = true)
    (kplaces_of : PySem.W.keepIn K (.ref fplaces_of) = true)
    (acrossings : PySem.W.nsIn K mainGlobals "crossings" = some (some (.ref fcrossings)))
    (lcrossings : K.lookup fcrossings = some ⟨occrossings, odcrossings, .func (PySem.W.fnOf "crossings" "crossings" (defArgs s_crossings) (defBody s_crossings) (defScope s_crossings) .none kVcrossings dccrossings pmcrossings ancrossings cdcrossings ctcrossings), slcrossings⟩)
    (cccrossings : PySem.W.codeIn K cdcrossings "crossings" = true)
    (kcrossings : PySem.W.keepIn K (.ref fcrossings) = true)
    (aends_across : PySem.W.nsIn K mainGlobals "ends_across" = some (some (.ref fends_across)))
    (lends_across : K.lookup fends_across = some ⟨ocends_across, odends_across, .func (PySem.W.fnOf "ends_across" "ends_across" (defArgs s_ends_across) (defBody s_ends_across) (defScope s_ends_across) .none kVends_across dcends_across pmends_across anends_across cdends_across ctends_across), slends_across⟩)
    (ccends_across : PySem.W.codeIn K cdends_across "ends_across" = true)
    (kends_across : PySem.W.keepIn K (.ref fends_across) = true)
    (acrossed : PySem.W.nsIn K mainGlobals "crossed" = some (some (.ref fcrossed)))
    (lcrossed : K.lookup fcrossed = some ⟨occrossed, odcrossed, .func (PySem.W.fnOf "crossed" "crossed" (defArgs s_crossed) (defBody s_crossed) (defScope s_crossed) .none kVcrossed dccrossed pmcrossed ancrossed cdcrossed ctcrossed), slcrossed⟩)
    (cccrossed : PySem.W.codeIn K cdcrossed "crossed" = true)
    (kcrossed : PySem.W.keepIn K (.ref fcrossed) = true)
    (amembers : PySem.W.nsIn K mainGlobals "members" = some (some (.ref fmembers)))
    (lmembers : K.lookup fmembers = some ⟨ocmembers, odmembers, .func (PySem.W.fnOf "members" "members" (defArgs s_members) (defBody s_members) (defScope s_members) .none kVmembers dcmembers pmmembers anmembers cdmembers ctmembers), slmembers⟩)
    (ccmembers : PySem.W.codeIn K cdmembers "members" = true)
    (kmembers : PySem.W.keepIn K (.ref fmembers) = true)
    (acosts_of : PySem.W.nsIn K mainGlobals "costs_of" = some (some (.ref fcosts_of)))
    (lcosts_of : K.lookup fcosts_of = some ⟨occosts_of, odcosts_of, .func (PySem.W.fnOf "costs_of" "costs_of" (defArgs s_costs_of) (defBody s_costs_of) (defScope s_costs_of) .none kVcosts_of dccosts_of pmcosts_of ancosts_of cdcosts_of ctcosts_of), slcosts_of⟩)
    (cccosts_of : PySem.W.codeIn K cdcosts_of "costs_of" = true)
    (kcosts_of : PySem.W.keepIn K (.ref fcosts_of) = true)
    (acost_with_last : PySem.W.nsIn K mainGlobals "cost_with_last" = some (some (.ref fcost_with_last)))
    (lcost_with_last : K.lookup fcost_with_last = some ⟨occost_with_last, odcost_with_last, .func (PySem.W.fnOf "cost_with_last" "cost_with_last" (defArgs s_cost_with_last) (defBody s_cost_with_last) (defScope s_cost_with_last) .none kVcost_with_last dccost_with_last pmcost_with_last ancost_with_last cdcost_with_last ctcost_with_last), slcost_with_last⟩)
    (cccost_with_last : PySem.W.codeIn K cdcost_with_last "cost_with_last" = true)
    (kcost_with_last : PySem.W.keepIn K (.ref fcost_with_last) = true)
    (atable_of : PySem.W.nsIn K mainGlobals "table_of" = some (some (.ref ftable_of)))
    (ltable_of : K.lookup ftable_of = some ⟨octable_of, odtable_of, .func (PySem.W.fnOf "table_of" "table_of" (defArgs s_table_of) (defBody s_table_of) (defScope s_table_of) .none kVtable_of dctable_of pmtable_of antable_of cdtable_of cttable_of), sltable_of⟩)
    (cctable_of : PySem.W.codeIn K cdtable_of "table_of" = true)
    (ktable_of : PySem.W.keepIn K (.ref ftable_of) = true)
    (aorder_by : PySem.W.nsIn K mainGlobals "order_by" = some (some (.ref forder_by)))
    (lorder_by : K.lookup forder_by = some ⟨ocorder_by, odorder_by, .func (PySem.W.fnOf "order_by" "order_by" (defArgs s_order_by) (defBody s_order_by) (defScope s_order_by) .none kVorder_by dcorder_by pmorder_by anorder_by cdorder_by ctorder_by), slorder_by⟩)
    (ccorder_by : PySem.W.codeIn K cdorder_by "order_by" = true)
    (korder_by : PySem.W.keepIn K (.ref forder_by) = true)
    (aleast_order : PySem.W.nsIn K mainGlobals "least_order" = some (some (.ref fleast_order)))
    (lleast_order : K.lookup fleast_order = some ⟨ocleast_order, odleast_order, .func (PySem.W.fnOf "least_order" "least_order" (defArgs s_least_order) (defBody s_least_order) (defScope s_least_order) .none kVleast_order dcleast_order pmleast_order anleast_order cdleast_order ctleast_order), slleast_order⟩)
    (ccleast_order : PySem.W.codeIn K cdleast_order "least_order" = true)
    (kleast_order : PySem.W.keepIn K (.ref fleast_order) = true)
    (a_law_cell_at : PySem.W.nsIn K mainGlobals "_law_cell_at" = some (some (.ref f_law_cell_at)))
    (l_law_cell_at : K.lookup f_law_cell_at = some ⟨oc_law_cell_at, od_law_cell_at, .func (PySem.W.fnOf "_law_cell_at" "_law_cell_at" (defArgs s__law_cell_at) (defBody s__law_cell_at) (defScope s__law_cell_at) .none kV_law_cell_at dc_law_cell_at pm_law_cell_at an_law_cell_at cd_law_cell_at ct_law_cell_at), sl_law_cell_at⟩)
    (cc_law_cell_at : PySem.W.codeIn K cd_law_cell_at "_law_cell_at" = true)
    (k_law_cell_at : PySem.W.keepIn K (.ref f_law_cell_at) = true)
    (a_law_mix : PySem.W.nsIn K mainGlobals "_law_mix" = some (some (.ref f_law_mix)))
    (l_law_mix : K.lookup f_law_mix = some ⟨oc_law_mix, od_law_mix, .func (PySem.W.fnOf "_law_mix" "_law_mix" (defArgs s__law_mix) (defBody s__law_mix) (defScope s__law_mix) .none kV_law_mix dc_law_mix pm_law_mix an_law_mix cd_law_mix ct_law_mix), sl_law_mix⟩)
    (cc_law_mix : PySem.W.codeIn K cd_law_mix "_law_mix" = true)
    (k_law_mix : PySem.W.keepIn K (.ref f_law_mix) = true)
    (a_law_row : PySem.W.nsIn K mainGlobals "_law_row" = some (some (.ref f_law_row)))
    (l_law_row : K.lookup f_law_row = some ⟨oc_law_row, od_law_row, .func (PySem.W.fnOf "_law_row" "_law_row" (defArgs s__law_row) (defBody s__law_row) (defScope s__law_row) .none kV_law_row dc_law_row pm_law_row an_law_row cd_law_row ct_law_row), sl_law_row⟩)
    (cc_law_row : PySem.W.codeIn K cd_law_row "_law_row" = true)
    (k_law_row : PySem.W.keepIn K (.ref f_law_row) = true)
    (a_law_lines : PySem.W.nsIn K mainGlobals "_law_lines" = some (some (.ref f_law_lines)))
    (l_law_lines : K.lookup f_law_lines = some ⟨oc_law_lines, od_law_lines, .func (PySem.W.fnOf "_law_lines" "_law_lines" (defArgs s__law_lines) (defBody s__law_lines) (defScope s__law_lines) .none kV_law_lines dc_law_lines pm_law_lines an_law_lines cd_law_lines ct_law_lines), sl_law_lines⟩)
    (cc_law_lines : PySem.W.codeIn K cd_law_lines "_law_lines" = true)
    (k_law_lines : PySem.W.keepIn K (.ref f_law_lines) = true)
    (a_law_count : PySem.W.nsIn K mainGlobals "_law_count" = some (some (.ref f_law_count)))
    (l_law_count : K.lookup f_law_count = some ⟨oc_law_count, od_law_count, .func (PySem.W.fnOf "_law_count" "_law_count" (defArgs s__law_count) (defBody s__law_count) (defScope s__law_count) .none kV_law_count dc_law_count pm_law_count an_law_count cd_law_count ct_law_count), sl_law_count⟩)
    (cc_law_count : PySem.W.codeIn K cd_law_count "_law_count" = true)
    (k_law_count : PySem.W.keepIn K (.ref f_law_count) = true)
    (a_law_order : PySem.W.nsIn K mainGlobals "_law_order" = some (some (.ref f_law_order)))
    (l_law_order : K.lookup f_law_order = some ⟨oc_law_order, od_law_order, .func (PySem.W.fnOf "_law_order" "_law_order" (defArgs s__law_order) (defBody s__law_order) (defScope s__law_order) .none kV_law_order dc_law_order pm_law_order an_law_order cd_law_order ct_law_order), sl_law_order⟩)
    (cc_law_order : PySem.W.codeIn K cd_law_order "_law_order" = true)
    (k_law_order : PySem.W.keepIn K (.ref f_law_order) = true)
    (alaw : PySem.W.nsIn K mainGlobals "law" = some (some (.ref flaw)))
    (llaw : K.lookup flaw = some ⟨oclaw, odlaw, .func (PySem.W.fnOf "law" "law" (defArgs s_law) (defBody s_law) (defScope s_law) .none kVlaw dclaw pmlaw anlaw cdlaw ctlaw), sllaw⟩)
    (cclaw : PySem.W.codeIn K cdlaw "law" = true)
    (klaw : PySem.W.keepIn K (.ref flaw) = true)
    (qMOST_FREE : PySem.W.nsIn K mainGlobals "MOST_FREE" = some (some (.int 8 tMOST_FREE)))
    (zenumerate : PySem.W.nsIn K mainGlobals "enumerate" = some none)
    (zlen : PySem.W.nsIn K mainGlobals "len" = some none)
    (zlist : PySem.W.nsIn K mainGlobals "list" = some none)
    (zmin : PySem.W.nsIn K mainGlobals "min" = some none)
    (zrange : PySem.W.nsIn K mainGlobals "range" = some none)
    (zsorted : PySem.W.nsIn K mainGlobals "sorted" = some none)
    (zstr : PySem.W.nsIn K mainGlobals "str" = some none)
    (zsum : PySem.W.nsIn K mainGlobals "sum" = some none) :
    ∃ fd : FuncData, (∀ (s : Shared) (v : Value), BindsTo s fd ⟨[v], []⟩ [("_law_script", v)]) ∧ ∀ base : Heap, K.In base → base.Ns mainGlobals mg → FnOk l.prog w K mg base CX0 7 fa fd ["_law_script"] (spLaw K) := by
  have e := hfa.symm.trans (PySem.W.mg_of X G alaw)
  cases e
  have T : Tx K mg ⟨CDrawError, CTooMany⟩ := ⟨PySem.W.mg_of X G aDrawError,
    xbDrawError,
    xtDrawError,
    PySem.W.mg_of X G aTooMany,
    xbTooMany,
    xtTooMany,
    ⟨xaTooMany, xkTooMany, xiTooMany⟩,
    ⟨_, _, [], funD_mk lplaces_of ccplaces_of, PySem.W.mg_of X G aplaces_of, kplaces_of, (.all (len1 fun _ => rfl)), .nil⟩,
    ⟨_, _, [], funD_mk lcrossings cccrossings, PySem.W.mg_of X G acrossings, kcrossings, (.all (len3 fun _ _ _ => rfl)), .nil⟩,
    ⟨_, _, [], funD_mk lends_across ccends_across, PySem.W.mg_of X G aends_across, kends_across, (.all (len1 fun _ => rfl)), .nil⟩,
    ⟨_, _, [], funD_mk lcrossed cccrossed, PySem.W.mg_of X G acrossed, kcrossed, (.all (len2 fun _ _ => rfl)), .nil⟩,
    ⟨_, _, [], funD_mk lmembers ccmembers, PySem.W.mg_of X G amembers, kmembers, (.all (len1 fun _ => rfl)), .nil⟩,
    ⟨_, _, [], funD_mk lcosts_of cccosts_of, PySem.W.mg_of X G acosts_of, kcosts_of, (.all (len3 fun _ _ _ => rfl)), .nil⟩,
    ⟨_, _, [], funD_mk lcost_with_last cccost_with_last, PySem.W.mg_of X G acost_with_last, kcost_with_last, (.all (len4 fun _ _ _ _ => rfl)), .nil⟩,
    ⟨_, _, [], funD_mk ltable_of cctable_of, PySem.W.mg_of X G atable_of, ktable_of, (.all (len2 fun _ _ => rfl)), .nil⟩,
    ⟨_, _, [], funD_mk lorder_by ccorder_by, PySem.W.mg_of X G aorder_by, korder_by, (.all (len3 fun _ _ _ => rfl)), .nil⟩,
    ⟨_, _, [], funD_mk lleast_order ccleast_order, PySem.W.mg_of X G aleast_order, kleast_order, (.all (len3 fun _ _ _ => rfl)), .nil⟩,
    ⟨_, _, [], funD_mk l_law_cell_at cc_law_cell_at, PySem.W.mg_of X G a_law_cell_at, k_law_cell_at, (.all (len2 fun _ _ => rfl)), .nil⟩,
    ⟨_, _, [], funD_mk l_law_mix cc_law_mix, PySem.W.mg_of X G a_law_mix, k_law_mix, (.all (len2 fun _ _ => rfl)), .nil⟩,
    ⟨_, _, [], funD_mk l_law_row cc_law_row, PySem.W.mg_of X G a_law_row, k_law_row, (.all (len4 fun _ _ _ _ => rfl)), .nil⟩,
    ⟨_, _, [], funD_mk l_law_lines cc_law_lines, PySem.W.mg_of X G a_law_lines, k_law_lines, (.all (len3 fun _ _ _ => rfl)), .nil⟩,
    ⟨_, _, [], funD_mk l_law_count cc_law_count, PySem.W.mg_of X G a_law_count, k_law_count, (.all (len3 fun _ _ _ => rfl)), .nil⟩,
    ⟨_, _, [], funD_mk l_law_order cc_law_order, PySem.W.mg_of X G a_law_order, k_law_order, (.all (len3 fun _ _ _ => rfl)), .nil⟩,
    ⟨_, _, [], funD_mk llaw cclaw, PySem.W.mg_of X G alaw, klaw, (.all (len1 fun _ => rfl)), .nil⟩,
    ⟨tMOST_FREE, PySem.W.mg_of X G qMOST_FREE⟩,
    PySem.W.mg_none_of X G zenumerate,
    PySem.W.mg_none_of X G zlen,
    PySem.W.mg_none_of X G zlist,
    PySem.W.mg_none_of X G zmin,
    PySem.W.mg_none_of X G zrange,
    PySem.W.mg_none_of X G zsorted,
    PySem.W.mg_none_of X G zstr,
    PySem.W.mg_none_of X G zsum⟩
  exact ⟨_, fun s v => .of_eq rfl, fun base _ _ => ok_law T _ _ (funD_mk (st := s_law) llaw cclaw)⟩
theorem walk {l : PySem.W.OpenLaw} {q : Program} {loose : List Str} {XP : (Str → Option Value) → Heap → Prop} {YP : World → Heap → Prop} {d : DefRec} {K : Params → PySem.W.Frag} (hn : l.most = some 63) (hdf : d.params.defaults = [])
    (hY : ∀ (w : World) (h : Heap), YP w h → (K w.params).In h)
    (F : ∀ (w : World) (mg : Str → Option Value) (fa : Addr) (h : Heap), (K w.params).In h → h.Ns mainGlobals mg → mg d.name = some (.ref fa) →
      ∃ fd : FuncData, (∀ (s : Shared) (u : Value), BindsTo s fd ⟨[u], []⟩ [("_law_script", u)]) ∧ ∀ base : Heap, (K w.params).In base → base.Ns mainGlobals mg → FnOk l.prog w (K w.params) mg base CX0 7 fa fd ["_law_script"] (spLaw (K w.params))) :
    PySem.W.WalkO q loose XP YP l.row.toRowW d [] (fun f vs => PySem.call f vs) :=
  L2.walk_of (n := 63) (k := 7) (x := "_law_script") (CX := fun _ => CX0) (sp := fun w => spLaw (K w.params)) hn (by decide) hdf ⟨by decide, by decide⟩ hY F (fun _ _ a ns hl _ hS => ⟨a, ns, rfl, hS, hl, fun _ => rfl⟩) fun _ _ _ _ _ z => z
end K55
/-! the names of twins that are not wanted -/
def PySem.W.Fast.tw14239525744833887477 : Unit := ()
def PySem.W.Fast.tw16573825145199363849 : Unit := ()
def PySem.W.Fast.tw16557486179256834832 : Unit := ()
def PySem.W.Fast.tw5019147253570229640 : Unit := ()
def PySem.W.Fast.tw5929237408587415912 : Unit := ()
def PySem.W.Fast.tw15003681401034143590 : Unit := ()
def PySem.W.Fast.tw3195824711618953957 : Unit := ()
def PySem.W.Fast.tw18364612215234619490 : Unit := ()
def PySem.W.Fast.tw4654928785401542346 : Unit := ()
def PySem.W.Fast.tw17989269135819991220 : Unit := ()
def PySem.W.Fast.tw8399093068051540909 : Unit := ()
def PySem.W.Fast.tw2118347595791829439 : Unit := ()
open PySem PySem.W PyProof.Rows
set_option maxRecDepth 100000 in
set_option maxHeartbeats 0 in
theorem PySem.Challenge.cw_layerdraw_k55_whole_no_order_has_less_holds : PySem.Challenge.rw_layerdraw_k55_whole_no_order_has_less.Holds := by
  w_on; o_law; k_head; (case hw => w_witness2)
  k_fill
  refine K55.walk (l := PySem.Challenge.rw_layerdraw_k55_whole_no_order_has_less) rfl rfl (fun w h Y => PySem.W.kIn_of Y) ?F
  case F =>
    intro w mg fa h KX G hmg
    refine' K55.all_mk KX G hmg ?aDrawError ?xbDrawError ?xtDrawError ?aTooMany ?xbTooMany ?xtTooMany ?xaTooMany ?xkTooMany ?xiTooMany ?aplaces_of ?lplaces_of ?ccplaces_of ?kplaces_of ?acrossings ?lcrossings ?cccrossings ?kcrossings ?aends_across ?lends_across ?ccends_across ?kends_across ?acrossed ?lcrossed ?cccrossed ?kcrossed ?amembers ?lmembers ?ccmembers ?kmembers ?acosts_of ?lcosts_of ?cccosts_of ?kcosts_of ?acost_with_last ?lcost_with_last ?cccost_with_last ?kcost_with_last ?atable_of ?ltable_of ?cctable_of ?ktable_of ?aorder_by ?lorder_by ?ccorder_by ?korder_by ?aleast_order ?lleast_order ?ccleast_order ?kleast_order ?a_law_cell_at ?l_law_cell_at ?cc_law_cell_at ?k_law_cell_at ?a_law_mix ?l_law_mix ?cc_law_mix ?k_law_mix ?a_law_row ?l_law_row ?cc_law_row ?k_law_row ?a_law_lines ?l_law_lines ?cc_law_lines ?k_law_lines ?a_law_count ?l_law_count ?cc_law_count ?k_law_count ?a_law_order ?l_law_order ?cc_law_order ?k_law_order ?alaw ?llaw ?cclaw ?klaw ?qMOST_FREE ?zenumerate ?zlen ?zlist ?zmin ?zrange ?zsorted ?zstr ?zsum
    (case aDrawError => first | k_is | kit_is | kernel_rfl | rfl)
    (case xbDrawError => first | k_is | kit_is | kernel_rfl | rfl)
    (case xtDrawError => first | k_is | kit_is | kernel_rfl | rfl)
    (case aTooMany => first | k_is | kit_is | kernel_rfl | rfl)
    (case xbTooMany => first | k_is | kit_is | kernel_rfl | rfl)
    (case xtTooMany => first | k_is | kit_is | kernel_rfl | rfl)
    (case xaTooMany => first | k_is | kit_is | kernel_rfl | rfl)
    (case xkTooMany => first | k_is | kit_is | kernel_rfl | rfl)
    (case xiTooMany => first | k_is | kit_is | kernel_rfl | rfl)
    (case aplaces_of => first | k_is | kit_is | kernel_rfl | rfl)
    (case lplaces_of => first | k_is | kit_is | kernel_rfl | rfl)
    (case ccplaces_of => first | k_is | kit_is | kernel_rfl | rfl)
    (case kplaces_of => first | k_is | kit_is | kernel_rfl | rfl)
    (case acrossings => first | k_is | kit_is | kernel_rfl | rfl)
    (case lcrossings => first | k_is | kit_is | kernel_rfl | rfl)
    (case cccrossings => first | k_is | kit_is | kernel_rfl | rfl)
    (case kcrossings => first | k_is | kit_is | kernel_rfl | rfl)
    (case aends_across => first | k_is | kit_is | kernel_rfl | rfl)
    (case lends_across => first | k_is | kit_is | kernel_rfl | rfl)
    (case ccends_across => first | k_is | kit_is | kernel_rfl | rfl)
    (case kends_across => first | k_is | kit_is | kernel_rfl | rfl)
    (case acrossed => first | k_is | kit_is | kernel_rfl | rfl)
    (case lcrossed => first | k_is | kit_is | kernel_rfl | rfl)
    (case cccrossed => first | k_is | kit_is | kernel_rfl | rfl)
    (case kcrossed => first | k_is | kit_is | kernel_rfl | rfl)
    (case amembers => first | k_is | kit_is | kernel_rfl | rfl)
    (case lmembers => first | k_is | kit_is | kernel_rfl | rfl)
    (case ccmembers => first | k_is | kit_is | kernel_rfl | rfl)
    (case kmembers => first | k_is | kit_is | kernel_rfl | rfl)
    (case acosts_of => first | k_is | kit_is | kernel_rfl | rfl)
    (case lcosts_of => first | k_is | kit_is | kernel_rfl | rfl)
    (case cccosts_of => first | k_is | kit_is | kernel_rfl | rfl)
    (case kcosts_of => first | k_is | kit_is | kernel_rfl | rfl)
    (case acost_with_last => first | k_is | kit_is | kernel_rfl | rfl)
    (case lcost_with_last => first | k_is | kit_is | kernel_rfl | rfl)
    (case cccost_with_last => first | k_is | kit_is | kernel_rfl | rfl)
    (case kcost_with_last => first | k_is | kit_is | kernel_rfl | rfl)
    (case atable_of => first | k_is | kit_is | kernel_rfl | rfl)
    (case ltable_of => first | k_is | kit_is | kernel_rfl | rfl)
    (case cctable_of => first | k_is | kit_is | kernel_rfl | rfl)
    (case ktable_of => first | k_is | kit_is | kernel_rfl | rfl)
    (case aorder_by => first | k_is | kit_is | kernel_rfl | rfl)
    (case lorder_by => first | k_is | kit_is | kernel_rfl | rfl)
    (case ccorder_by => first | k_is | kit_is | kernel_rfl | rfl)
    (case korder_by => first | k_is | kit_is | kernel_rfl | rfl)
    (case aleast_order => first | k_is | kit_is | kernel_rfl | rfl)
    (case lleast_order => first | k_is | kit_is | kernel_rfl | rfl)
    (case ccleast_order => first | k_is | kit_is | kernel_rfl | rfl)
    (case kleast_order => first | k_is | kit_is | kernel_rfl | rfl)
    (case a_law_cell_at => first | k_is | kit_is | kernel_rfl | rfl)
    (case l_law_cell_at => first | k_is | kit_is | kernel_rfl | rfl)
    (case cc_law_cell_at => first | k_is | kit_is | kernel_rfl | rfl)
    (case k_law_cell_at => first | k_is | kit_is | kernel_rfl | rfl)
    (case a_law_mix => first | k_is | kit_is | kernel_rfl | rfl)
    (case l_law_mix => first | k_is | kit_is | kernel_rfl | rfl)
    (case cc_law_mix => first | k_is | kit_is | kernel_rfl | rfl)
    (case k_law_mix => first | k_is | kit_is | kernel_rfl | rfl)
    (case a_law_row => first | k_is | kit_is | kernel_rfl | rfl)
    (case l_law_row => first | k_is | kit_is | kernel_rfl | rfl)
    (case cc_law_row => first | k_is | kit_is | kernel_rfl | rfl)
    (case k_law_row => first | k_is | kit_is | kernel_rfl | rfl)
    (case a_law_lines => first | k_is | kit_is | kernel_rfl | rfl)
    (case l_law_lines => first | k_is | kit_is | kernel_rfl | rfl)
    (case cc_law_lines => first | k_is | kit_is | kernel_rfl | rfl)
    (case k_law_lines => first | k_is | kit_is | kernel_rfl | rfl)
    (case a_law_count => first | k_is | kit_is | kernel_rfl | rfl)
    (case l_law_count => first | k_is | kit_is | kernel_rfl | rfl)
    (case cc_law_count => first | k_is | kit_is | kernel_rfl | rfl)
    (case k_law_count => first | k_is | kit_is | kernel_rfl | rfl)
    (case a_law_order => first | k_is | kit_is | kernel_rfl | rfl)
    (case l_law_order => first | k_is | kit_is | kernel_rfl | rfl)
    (case cc_law_order => first | k_is | kit_is | kernel_rfl | rfl)
    (case k_law_order => first | k_is | kit_is | kernel_rfl | rfl)
    (case alaw => first | k_is | kit_is | kernel_rfl | rfl)
    (case llaw => first | k_is | kit_is | kernel_rfl | rfl)
    (case cclaw => first | k_is | kit_is | kernel_rfl | rfl)
    (case klaw => first | k_is | kit_is | kernel_rfl | rfl)
    (case qMOST_FREE => first | k_is | kit_is | kernel_rfl | rfl)
    (case zenumerate => first | k_is | kit_is | kernel_rfl | rfl)
    (case zlen => first | k_is | kit_is | kernel_rfl | rfl)
    (case zlist => first | k_is | kit_is | kernel_rfl | rfl)
    (case zmin => first | k_is | kit_is | kernel_rfl | rfl)
    (case zrange => first | k_is | kit_is | kernel_rfl | rfl)
    (case zsorted => first | k_is | kit_is | kernel_rfl | rfl)
    (case zstr => first | k_is | kit_is | kernel_rfl | rfl)
    (case zsum => first | k_is | kit_is | kernel_rfl | rfl)

