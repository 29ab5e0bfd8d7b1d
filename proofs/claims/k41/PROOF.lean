import PyProof.Rows.All
import Wide.All
import OpenK.AllK
import Wide.FinOn
import Lean
import PyProof.EqAt
import PyProof.EqKinds
import PyProof.TupleCall
import PyProof.NeKinds
import PySem.Challenge.RW_layerdraw_k41_what_a_net_wishes
set_option Elab.async false
set_option linter.all false
set_option maxRecDepth 100000
set_option genInjectivity false
set_option genSizeOf false
noncomputable section
namespace L2
theorem ex3 {α : Sort _} {a b : α → Prop} {G : Prop} (k : ∀ x, a x → b x → G) : (∃ x, a x ∧ b x) → G := fun ⟨x, h1, h2⟩ => k x h1 h2
theorem ex4 {α β : Sort _} {a b : α → β → Prop} {G : Prop} (k : ∀ x y, a x y → b x y → G) : (∃ x y, a x y ∧ b x y) → G := fun ⟨x, y, h1, h2⟩ => k x y h1 h2
theorem ex5 {α β : Sort _} {a b c : α → β → Prop} {G : Prop} (k : ∀ x y, a x y → b x y → c x y → G) : (∃ x y, a x y ∧ b x y ∧ c x y) → G := fun ⟨x, y, h1, h2, h3⟩ => k x y h1 h2 h3
end L2
/-! ### loops end, tuples open, errors are raised while an exception is handled, too -/
namespace L2
open PySem PySem.Spec PyProof.Rows
theorem entry_unchain : entryFor table "proto.unchain" = some Builtin.«proto.unchain» := entryFor_of_tree (by kernel_rfl)
/-- the contexts of exceptions, from one to the next, to the last, which has none -/
def nxt (cs : List Addr) (j : Nat) : Value := match cs[j]? with | none => Value.none | some b => Value.ref b
def Chn (h : Heap) (cs : List Addr) : Prop := cs.Nodup ∧ ∀ j a, cs[j]? = some a → ∃ o vs, h.get? a = some o ∧ o.data = .fields vs ∧ vs[2]? = some (nxt cs (j + 1))
/-- nothing is handled, or an exception whose contexts end -/
def Hd (A : Around) (h : Heap) : Prop := A.handled = none ∨ ∃ a cs, A.handled = some (.ref a) ∧ Chn h (a :: cs)
theorem Hd.keeps {A : Around} {h h' : Heap} (x : Hd A h) (k : ∀ b o, h.get? b = some o → h'.get? b = some o) : Hd A h' := by
  rcases x with e | ⟨a, cs, e, nd, c⟩
  · exact .inl e
  · refine .inr ⟨a, cs, e, nd, fun j b hb => ?_⟩
    obtain ⟨o, vs, ho, r⟩ := c j b hb
    exact ⟨o, vs, k b o ho, r⟩
/-- kept but for the object at it, which is no exception of the chain -/
theorem Hd.but {A : Around} {h h' : Heap} {it : Addr} {oi : Obj} (x : Hd A h) (hit : h.get? it = some oi) (hno : ∀ vs, oi.data = .fields vs → vs.size < 3 ∨ vs[2]? ≠ some Value.none ∧ ∀ b, vs[2]? ≠ some (.ref b)) (k : ∀ b o, b ≠ it → h.get? b = some o → h'.get? b = some o) : Hd A h' := by
  rcases x with e | ⟨a, cs, e, nd, c⟩
  · exact .inl e
  · refine .inr ⟨a, cs, e, nd, fun j b hb => ?_⟩
    obtain ⟨o, vs, ho, hd, h2⟩ := c j b hb
    refine ⟨o, vs, k b o (fun z => ?_) ho, hd, h2⟩
    subst z
    rw [hit] at ho
    cases ho
    rcases hno vs hd with q | ⟨q1, q2⟩
    · have := (Array.getElem?_eq_some_iff.mp h2).1
      omega
    · unfold nxt at h2
      cases hz : (a :: cs)[j + 1]? with
      | none => rw [hz] at h2; exact q1 h2
      | some y => rw [hz] at h2; exact q2 y h2
section
variable {prog : Program} {w : World} {A : Around} {E : Value → Shared → Prop} {s : Shared}
theorem unchain_ok {cs : List Addr} {e : Addr} {R : Result → Shared → Prop} (c : Chn s.heap cs) (he : e ∉ cs) (hR : R (.ok (.ret .none)) s) : ∀ (n j i : Nat) (o sl : Addr) (tg : Bool), cs.length - j = n → cs[j]? = some o → cs[i]? = some sl → i ≤ j →
    codeAny (model prog w) A (.builtin "proto.unchain" ⟨[.ref e, .ref o, .ref sl, .bool tg], []⟩) R s := by
  intro n
  induction n with
  | zero =>
    intro j i o sl tg hn hj _ _
    have := (List.getElem?_eq_some_iff.mp hj).1
    omega
  | succ n ih =>
    intro j i o sl tg hn hj hi hij
    obtain ⟨oo, vs, ho, hd, h2⟩ := c.2 j o hj
    refine codeAny_builtin entry_unchain ?_
    unfold Builtin.«proto.unchain»
    refine wpAny_bind (wpAny_field ho hd h2 ?_)
    cases hz : cs[j + 1]? with
    | none =>
      simp only [nxt, hz]
      rw [if_pos (by rfl)]
      refine wpAny_bind (wpAny_pure (wpAny_pure ?_))
      exact hR
    | some b =>
      simp only [nxt, hz]
      have hb : b ∈ cs := List.mem_of_getElem? hz
      have hbe : b ≠ e := fun z => he (z ▸ hb)
      have hbs : b ≠ sl := fun z => by
        subst z
        have e1 := List.getElem?_eq_some_iff.mp hz
        have e2 := List.getElem?_eq_some_iff.mp hi
        have lt : i < j + 1 := by omega
        exact (List.pairwise_iff_getElem.mp c.1) i (j + 1) e2.1 e1.1 lt (e2.2.trans e1.2.symm)
      rw [if_neg (by simp), if_neg (by simpa using hbe), if_neg (by simpa using hbs)]
      have hi1 : ∃ b', cs[i + 1]? = some b' := by
        have e1 := (List.getElem?_eq_some_iff.mp hz).1
        exact ⟨_, List.getElem?_eq_getElem (by omega)⟩
      obtain ⟨b', hb'⟩ := hi1
      cases tg with
      | false =>
        rw [if_neg (by simp)]
        refine wpAny_bind (wpAny_pure (wpAny_pure ?_))
        exact (⟨Code.quiet_builtin _ (by decide +kernel), ih (j + 1) i b sl true (by omega) hz hi (by omega)⟩)
      | true =>
        rw [if_pos rfl]
        obtain ⟨os, ws, hos, hds, hs2⟩ := c.2 i sl hi
        simp only [nxt, hb'] at hs2
        refine wpAny_bind (wpAny_field hos hds hs2 (wpAny_pure ?_))
        exact (⟨Code.quiet_builtin _ (by decide +kernel), ih (j + 1) (i + 1) b b' false (by omega) hz hb' (by omega)⟩)
theorem raise_hd {α : Type} {e : Addr} {oe : Obj} {vs : Array Value} {Q : α → Shared → Prop} (hd : A.handled = none ∨ ∃ a cs, A.handled = some (.ref a) ∧ Chn s.heap (a :: cs) ∧ e ∉ a :: cs) (he : s.heap.get? e = some oe) (hf : oe.data = .fields vs) (h2 : 2 < vs.size)
    (h : ∀ h' o' vs', (∀ b o, b ≠ e → s.heap.get? b = some o → h'.get? b = some o) → h'.get? e = some o' → o'.cls = oe.cls → o'.dict = oe.dict → o'.data = .fields vs' → vs'.size = vs.size → vs'[1]? = vs[1]? → vs'[2]? = (match A.handled with | none => vs[2]? | some v => some v) → E (.ref e) { s with heap := h' }) :
    wpAny (model prog w) A (raiseNew (.ref e) : Sem α) Q E s := by
  unfold raiseNew
  refine wpAny_bind (wpAny_handled ?_)
  rcases hd with hn | ⟨a, cs, ha, c, hin⟩
  · rw [hn]
    exact wpAny_bind (wpAny_pure (wpAny_throw (h s.heap oe vs (fun _ _ _ q => q) he rfl rfl hf rfl rfl (by rw [hn]))))
  · rw [ha]
    have hae : a ≠ e := fun z => hin (by simp [z])
    show wpAny _ _ (if (Value.ref a != Value.ref e) = true then _ else _) _ _ s
    rw [if_pos (by simpa using hae)]
    refine wpAny_bind (wpAny_holding (wpAny_runValue (unchain_ok c hin ?_ _ 0 0 a a false rfl rfl rfl (Nat.le_refl _))))
    have up := Obj.data_mapFields hf (·.setIfInBounds 2 (Value.ref a))
    refine wpAny_bind (show wpAny _ _ (setField (.ref e) 2 (.ref a)) _ _ s from wpAny_setField he hf h2 (wpAny_throw (h _ _ _ (fun b q hb hq => (Heap.get?_update_other _ _ (Ne.symm hb)).trans hq) (Heap.get?_update_self _ he (Obj.isFreed_of_fields up)) (Obj.cls_mapFields _ _) ?_ up (by simp) ?_ ?_)))
    · obtain ⟨c1, d1, dt, sl⟩ := oe
      cases dt <;> rfl
    · rw [Array.getElem?_setIfInBounds_ne (by decide)]
    · rw [ha]; simp [h2]
theorem Chn.lt {h : Heap} {cs : List Addr} (c : Chn h cs) : ∀ b ∈ cs, b < h.objs.size := fun b hb => by
  obtain ⟨j, hj⟩ := List.mem_iff_getElem?.mp hb
  obtain ⟨o, _, ho, _⟩ := c.2 j b hj
  exact Heap.lt_size ho
theorem Chn.mono {h h' : Heap} {cs : List Addr} (c : Chn h cs) (k : ∀ b o, b ∈ cs → h.get? b = some o → h'.get? b = some o) : Chn h' cs := ⟨c.1, fun j a hj => by
  obtain ⟨o, vs, ho, r⟩ := c.2 j a hj
  exact ⟨o, vs, k a o (List.mem_of_getElem? hj) ho, r⟩⟩
/-- a StopIteration, made and raised -/
theorem stop_hd {α : Type} {Q : α → Shared → Prop} (hd : Hd A s.heap)
    (h : ∀ h' e, (∀ b o, s.heap.get? b = some o → h'.get? b = some o) → (∃ o', h'.get? e = some o' ∧ o'.cls = .type "StopIteration") → E (.ref e) { s with heap := h' }) :
    wpAny (model prog w) A (newExc (.type "StopIteration") [] >>= fun e => (raiseNew e : Sem α)) Q E s := by
  refine wpAny_bind ?_
  unfold newExc newTuple
  refine wpAny_bind (wpAny_newObj_type ?_ (by size_fits))
  refine wpAny_bind (m := firstArgMember _ _) (wpAny_of_eq (a := Value.none) (by first | rfl | (simp only [firstArgMember]; rfl)) (wpAny_newObj_type ?_ (by size_fits)))
  refine raise_hd ?_ (Heap.get?_push_size _ rfl) rfl (by simp; omega) fun h' o' vs' k' e' c' _ _ _ _ _ =>
    h h' _ (fun b o q => k' b o (Nat.ne_of_lt (by rw [Heap.size_push]; exact Nat.lt_succ_of_lt (Heap.lt_size q))) (Heap.get?_push_of_some _ (Heap.get?_push_of_some _ q))) ⟨o', e', c'⟩
  rcases hd with hn | ⟨a, cs, ha, c⟩
  · exact .inl hn
  · refine .inr ⟨a, cs, ha, c.mono fun b o _ q => Heap.get?_push_of_some _ (Heap.get?_push_of_some _ q), fun z => ?_⟩
    have := c.lt _ z
    rw [Heap.size_push] at this
    exact absurd (Nat.lt_of_lt_of_le this (Nat.le_succ _)) (Nat.lt_irrefl _)
theorem list_endH {it l : Addr} {i : Nat} {items} {Q : Option Value → Shared → Prop} (hd : Hd A s.heap) (hit : s.heap.IsListIter it l i) (hl : s.heap.IsList l items) (hx : items[i]? = none)
    (hQ : ∀ h', Heap.ExtBut it s.heap h' → Q none { s with heap := h' }) : wpAny (model prog w) A (pyNext (.ref it)) Q E s := by
  obtain ⟨o, ho, hc, hdat⟩ := id hit
  obtain ⟨ol, hol, _, nl, hdl⟩ := hl
  unfold pyNext
  refine wpAny_bind (wpAny_attempt (wpAny_callSpecial?_slot (name := Str.ofString "__next__") hit.typeIs slot_listiter_next (wpAny_call_entry slot_listiter_next hit.typeIs entry_listiter_next ?_ (args_listiter_next _))))
  refine (show wpAny _ _ (field (.ref it) 0 >>= _) _ _ s from wpAny_bind (wpAny_field ho hdat (x := .ref l) rfl ?_))
  refine (show wpAny _ _ (if (Value.ref l == Value.none) = true then _ else _) _ _ s from ?_)
  rw [if_neg (by simp)]
  refine (show wpAny _ _ (field (.ref it) 1 >>= _) _ _ s from wpAny_bind (wpAny_field ho hdat (x := .int i 0) rfl ?_))
  refine (show wpAny _ _ (seqItems? (.ref l) >>= _) _ _ s from wpAny_bind (wpAny_seqItems hol hdl ?_))
  simp only [Int.toNat_natCast, hx]
  refine wpAny_bind (wpAny_rule (wpAny_bind (wpAny_setField ho hdat (by simp) ?_)))
  have sb : Heap.SameBut it s.heap (s.heap.update it (Obj.mapFields (·.setIfInBounds 0 Value.none))) := Heap.SameBut.update ..
  refine stop_hd (A := A.in1) (hd.but ho (fun vs q => .inl (by rw [hdat] at q; cases q; simp)) sb.extBut) fun h' e k' ⟨o', e', c'⟩ => ?_
  exact wpAny_bind (wpAny_isInstance (T := "StopIteration") (b := true) ⟨o', e', c'⟩ isSubtype_stop (wpAny_pure (hQ h' fun b q hb hq => k' b q (sb.extBut b q hb hq))))
theorem tup_endH {it t : Addr} {i : Nat} {items} {Q : Option Value → Shared → Prop} (hd : Hd A s.heap) (hit : s.heap.IsTupleIter it t i) (ht : s.heap.IsTuple t items) (hx : items[i]? = none)
    (hQ : ∀ h', Heap.ExtBut it s.heap h' → Q none { s with heap := h' }) : wpAny (model prog w) A (pyNext (.ref it)) Q E s := by
  obtain ⟨o, ho, hc, hdat⟩ := id hit
  obtain ⟨ol, hol, _, nl, hdl⟩ := ht
  unfold pyNext
  refine wpAny_bind (wpAny_attempt (wpAny_callSpecial?_slot (name := Str.ofString "__next__") hit.typeIs F.slot_tuple_iterator_next (wpAny_call_entry F.slot_tuple_iterator_next hit.typeIs F.entry_tuple_iterator_next ?_ (F.args_tuple_iterator_next_1 _))))
  refine (show wpAny _ _ (field (.ref it) 0 >>= _) _ _ s from wpAny_bind (wpAny_field ho hdat (x := .ref t) rfl ?_))
  refine (show wpAny _ _ (if (Value.ref t == Value.none) = true then _ else _) _ _ s from ?_)
  rw [if_neg (by simp)]
  refine (show wpAny _ _ (field (.ref it) 1 >>= _) _ _ s from wpAny_bind (wpAny_field ho hdat (x := .int i 0) rfl ?_))
  refine (show wpAny _ _ (seqItems? (.ref t) >>= _) _ _ s from wpAny_bind (wpAny_seqItems hol hdl ?_))
  simp only [Int.toNat_natCast, hx]
  refine wpAny_bind (wpAny_rule (wpAny_bind (wpAny_setField ho hdat (by simp) ?_)))
  have sb : Heap.SameBut it s.heap (s.heap.update it (Obj.mapFields (·.setIfInBounds 0 Value.none))) := Heap.SameBut.update ..
  refine stop_hd (A := A.in1) (hd.but ho (fun vs q => .inl (by rw [hdat] at q; cases q; simp)) sb.extBut) fun h' e k' ⟨o', e', c'⟩ => ?_
  exact wpAny_bind (wpAny_isInstance (T := "StopIteration") (b := true) ⟨o', e', c'⟩ isSubtype_stop (wpAny_pure (hQ h' fun b q hb hq => k' b q (sb.extBut b q hb hq))))
theorem range_endH {it : Addr} {x left step : Int} {Q : Option Value → Shared → Prop} (hd : Hd A s.heap) (hit : IsRangeIter s.heap it x left step) (hleft : left ≤ 0)
    (hQ : ∀ h', Heap.ExtBut it s.heap h' → Q none { s with heap := h' }) : wpAny (model prog w) A (pyNext (.ref it)) Q E s := by
  have hT : s.TypeIs (.ref it) "range_iterator" := ⟨_, hit, rfl⟩
  unfold pyNext
  refine wpAny_bind (wpAny_attempt (wpAny_callSpecial?_slot (name := Str.ofString "__next__") hT F.slot_range_iterator_next (wpAny_call_entry F.slot_range_iterator_next hT F.entry_range_iterator_next ?_ (F.args_range_iterator_next_1 _))))
  refine (show wpAny _ _ (field (.ref it) 0 >>= _) _ _ s from wpAny_bind (wpAny_field hit rfl (x := rawInt x) rfl ?_))
  refine (show wpAny _ _ (field (.ref it) 1 >>= _) _ _ s from wpAny_bind (wpAny_field hit rfl (x := rawInt left) rfl ?_))
  refine (show wpAny _ _ (field (.ref it) 2 >>= _) _ _ s from wpAny_bind (wpAny_field hit rfl (x := rawInt step) rfl ?_))
  refine (show wpAny _ _ (if left ≤ 0 then _ else _) _ _ s from ?_)
  rw [if_pos hleft]
  refine wpAny_bind (wpAny_rule (wpAny_bind ?_))
  refine stop_hd (A := A.in1) hd fun h' e k' ⟨o', e', c'⟩ => ?_
  exact wpAny_bind (wpAny_isInstance (T := "StopIteration") (b := true) ⟨o', e', c'⟩ isSubtype_stop (wpAny_pure (hQ h' fun b q _ hq => k' b q hq)))
/-- a, b, .. = a tuple: its items are drawn, then it must be at its end -/
theorem unpackH {t : Addr} {items : Array Value} {Q : List Value → Shared → Prop} (hd : Hd A s.heap) (ht : IsTup s.heap t items)
    (hQ : ∀ h', Heap.ExtBut s.heap.objs.size s.heap h' → Q items.toList { s with heap := h' }) : wpAny (model prog w) A (unpackItems (.ref t) items.size none) Q E s := by
  have hlt : t ≠ s.heap.objs.size := by obtain ⟨o, ho, _⟩ := ht; exact Nat.ne_of_lt (Heap.lt_size ho)
  unfold unpackItems
  refine wpAny_bind ?_
  unfold notIterableAtAll
  refine wpAny_bind (wpAny_specialOf ht.typeIs slot_tuple_iter.lookup (wpAny_pure ?_))
  simp only [Bool.false_eq_true, if_false]
  refine wpAny_bind (wpAny_holding (iter_tuple ht (wpAny_bind (wpAny_holding (draw_tuple hlt items.size 0 _ _ ⟨_, Heap.get?_push_size _ rfl, rfl, rfl⟩ (ht.push _) (by omega) fun h₁ hit₁ hs₁ => ?_)))))
  rw [show List.take items.size (List.drop 0 items.toList) = items.toList by rw [List.drop_zero]; exact List.take_of_length_le (by simp)]
  rw [if_neg (by simp)]
  have ht₁ : IsTup h₁ t items := (ht.push _).extBut hs₁.extBut hlt
  have k₁ : ∀ b o, s.heap.get? b = some o → h₁.get? b = some o := fun b o e => hs₁.extBut b o (Nat.ne_of_lt (Heap.lt_size e)) (Heap.get?_push_of_some _ e)
  refine wpAny_bind (wpAny_holding (tup_endH (hd.keeps k₁) hit₁ (show Heap.IsTuple h₁ t items from ht₁) (by simp) fun h₂ he₂ => ?_))
  simp only [Option.isSome_none, Bool.false_eq_true, if_false]
  exact wpAny_pure (hQ h₂ fun b o hb e => he₂ b o hb (k₁ b o e))
theorem assign_tupH {env : Env} {elts : List Expr} {x1} {pos : Pos} {t : Addr} {items : Array Value} {Q : Unit → Shared → Prop} (hd : Hd A s.heap) (ht : IsTup s.heap t items) (hn : (assignEach elts env).length = items.size) (hstar : (assignEach elts env).findIdx? (·.1) = none)
    (h : ∀ h', Heap.ExtBut s.heap.objs.size s.heap h' → wpAny (model prog w) A (assignInOrder ((assignEach elts env).map (·.2)) items.toList) Q E { s with heap := h' }) : wpAny (model prog w) A (assign (.Tuple elts x1 pos) env (.ref t)) Q E s := by
  rw [assign_Tuple]
  refine wpAny_bind (wpAny_standAt ?_)
  unfold unpack
  rw [hn, hstar]
  exact wpAny_bind (wpAny_holding (unpackH hd ht h))
end
end L2

namespace L2
open PySem PySem.Spec PyProof.Rows

/-- a key: an int or a str -/
abbrev Key := Sum Int Str
def keyIs : Key → Value → Bool
  | .inl k, v => Value.isInt k v
  | .inr x, v => Value.isStrOf x v
def keyH (w : World) : Key → Int
  | .inl k => hashInt k
  | .inr x => hashStr w x
theorem keyIs_shape : ∀ {k : Key} {v : Value}, keyIs k v = true → (∃ i t, k = Sum.inl i ∧ v = Value.int i t) ∨ (∃ x t, k = Sum.inr x ∧ v = Value.str x t)
  | .inl i, v, h => by
    obtain ⟨t, e⟩ := Value.isInt_shape (k := i) (v := v) h
    exact .inl ⟨i, t, rfl, e⟩
  | .inr x, v, h => by
    obtain ⟨t, e⟩ := Value.isStrOf_shape (x := x) (v := v) h
    exact .inr ⟨x, t, rfl, e⟩
theorem keyIs_int (i : Int) (t : Tok) : keyIs (.inl i) (.int i t) = true := by simp [keyIs, Value.isInt]
theorem keyIs_str (x : Str) (t : Tok) : keyIs (.inr x) (.str x t) = true := by simp [keyIs, Value.isStrOf]
theorem key_ll (a b : Int) : decide ((Sum.inl a : Key) = Sum.inl b) = (a == b) := by
  by_cases e : a = b
  · subst e; simp
  · have h : ¬ (Sum.inl a : Key) = Sum.inl b := fun q => e (Sum.inl.inj q)
    rw [decide_eq_false h]
    exact (beq_eq_false_iff_ne.mpr e).symm
theorem key_rr (a b : Str) : decide ((Sum.inr a : Key) = Sum.inr b) = decide (a = b) := by
  by_cases e : a = b
  · subst e; simp
  · have h : ¬ (Sum.inr a : Key) = Sum.inr b := fun q => e (Sum.inr.inj q)
    rw [decide_eq_false h, decide_eq_false e]
theorem key_lr (a : Int) (b : Str) : decide ((Sum.inl a : Key) = Sum.inr b) = false := decide_eq_false (fun q => nomatch q)
theorem key_rl (a : Str) (b : Int) : decide ((Sum.inr a : Key) = Sum.inl b) = false := decide_eq_false (fun q => nomatch q)

def mixKind (prog : Program) (w : World) : PySem.KeyKind prog w Key where
  is := keyIs
  hash := keyH w
  inj := fun v a b ha hb => by
    rcases keyIs_shape ha with ⟨i, t, rfl, rfl⟩ | ⟨x, t, rfl, rfl⟩
    · rcases keyIs_shape hb with ⟨j, u, rfl, e⟩ | ⟨y, u, rfl, e⟩
      · injection e with e1 _; rw [e1]
      · exact nomatch e
    · rcases keyIs_shape hb with ⟨j, u, rfl, e⟩ | ⟨y, u, rfl, e⟩
      · exact nomatch e
      · injection e with e1 _; rw [e1]
  byValue := fun k v h => by
    rcases keyIs_shape h with ⟨i, t, rfl, rfl⟩ | ⟨x, t, rfl, rfl⟩ <;> rfl
  pyHash := fun hv h => by
    rcases keyIs_shape hv with ⟨i, t, rfl, rfl⟩ | ⟨x, t, rfl, rfl⟩
    · exact wpAny_pyHash_int h
    · exact wpAny_pyHash_str h
  eqBool := fun hu hv h => by
    rcases keyIs_shape hu with ⟨i, t, rfl, rfl⟩ | ⟨x, t, rfl, rfl⟩
    · rcases keyIs_shape hv with ⟨j, u, rfl, rfl⟩ | ⟨y, u, rfl, rfl⟩
      · rw [key_ll] at h; exact wpAny_eqBool_int h
      · rw [key_lr] at h; exact SeqAt.EqAt.int_str i t y u _ _ _ _ h
    · rcases keyIs_shape hv with ⟨j, u, rfl, rfl⟩ | ⟨y, u, rfl, rfl⟩
      · rw [key_rl] at h; exact SeqAt.EqAt.str_int x t j u _ _ _ _ h
      · rw [key_rr] at h; exact wpAny_eqBool_str h
  «strs» := fun k x t v h => by
    rcases keyIs_shape h with ⟨i, u, rfl, e⟩ | ⟨y, u, rfl, e⟩
    · exact nomatch e
    · injection e with e1 _
      subst e1
      cases v <;> rfl

theorem mixKind_int (prog : Program) (w : World) (i : Int) (t : Tok) : (mixKind prog w).is (.inl i) (.int i t) = true := keyIs_int i t
theorem mixKind_str (prog : Program) (w : World) (x : Str) (t : Tok) : (mixKind prog w).is (.inr x) (.str x t) = true := keyIs_str x t
end L2

namespace L2
open PySem PySem.Spec PyProof.Rows

set_option genInjectivity true
/-- a value, without the heap -/
inductive V where
  | non | bl (b : Bool) | int (i : Int) | str (x : Str) | byt (b : Array UInt8) | flt (b : UInt64) | ref (a : Addr) | ty (n : String)
  deriving DecidableEq
set_option genInjectivity false

def RelV : V → Value → Prop
  | .non, u => u = Value.none
  | .bl b, u => u = Value.bool b
  | .int i, u => ∃ t, u = Value.int i t
  | .str x, u => ∃ t, u = Value.str x t
  | .byt b, u => ∃ t, u = Value.bytes b t
  | .flt b, u => ∃ t, u = Value.float b t
  | .ref a, u => u = Value.ref a
  | .ty n, u => u = Value.type n

abbrev Vals : List V → List Value → Prop := Paired RelV
theorem Vals.length {xs : List V} {us : List Value} (r : Vals xs us) : xs.length = us.length := Paired.length r
theorem Vals.get : ∀ {xs : List V} {us : List Value} {i : Nat} {x : V}, Vals xs us → xs[i]? = some x → ∃ u, us[i]? = some u ∧ RelV x u
  | _, _, _, _, .nil, e => by simp at e
  | _, _, 0, _, .cons r _, e => by simp at e; subst e; exact ⟨_, rfl, r⟩
  | _, _, i + 1, x, .cons _ t, e => by
    obtain ⟨u, h1, h2⟩ := Vals.get (i := i) (x := x) t (by simpa using e)
    exact ⟨u, by simpa using h1, h2⟩
theorem Vals.set {x : V} {u : Value} (r : RelV x u) : ∀ {xs : List V} {us : List Value} (i : Nat), Vals xs us → Vals (xs.set i x) (us.set i u)
  | _, _, _, .nil => .nil
  | _, _, 0, .cons _ t => .cons r t
  | _, _, i + 1, .cons q t => .cons q (Vals.set r i t)
theorem Vals.append : ∀ {xs ys : List V} {us ws : List Value}, Vals xs us → Vals ys ws → Vals (xs ++ ys) (us ++ ws)
  | _, _, _, _, .nil, s => s
  | _, _, _, _, .cons r t, s => .cons r (Vals.append t s)
theorem Vals.take : ∀ {xs : List V} {us : List Value} (n : Nat), Vals xs us → Vals (xs.take n) (us.take n)
  | _, _, 0, _ => .nil
  | _, _, _ + 1, .nil => .nil
  | _, _, n + 1, .cons r t => .cons r (Vals.take n t)
theorem Vals.drop : ∀ {xs : List V} {us : List Value} (n : Nat), Vals xs us → Vals (xs.drop n) (us.drop n)
  | _, _, 0, r => r
  | _, _, _ + 1, .nil => .nil
  | _, _, n + 1, .cons _ t => Vals.drop n t
def RelO : Option V → Option Value → Prop
  | some v, some u => RelV v u
  | none, none => True
  | _, _ => False
def KV {κ : Type} : List (κ × V) → List (κ × Value) → Prop := Paired fun (p : κ × V) (q : κ × Value) => p.1 = q.1 ∧ RelV p.2 q.2

/-- a key of a dict (00_mix): an int or a text -/
def kV : Key → V
  | .inl i => .int i
  | .inr x => .str x

/-- what stands at a tracked address -/
inductive HO where
  /-- a list -/
  | lst (xs : List V)
  /-- a tuple (never changes) -/
  | tup (xs : List V)
  /-- a dict whose keys are ints and texts; one whose keys are tuples of ints and texts (the empty one is both) -/
  | dK (kvs : List (Key × V)) | dT (kvs : List (List Key × V))
  /-- a set of ints: its members, its size -/
  | set (S : Int → Bool) (n : Nat)
  /-- an instance of the class at C, its dict at dx, its attributes -/
  | ins (C dx : Addr) (fs : List (Str × V))
  /-- the dict of the instance at x -/
  | own (x : Addr)
  /-- the dict of an exception -/
  | xd (fs : List (Str × V))
  /-- a bound method, f of x -/
  | met (f x : Addr)
  /-- a range object lo, lo + 1, .. below hi -/
  | rng (lo hi : Int)
  /-- a thing that is known to the object (the script; a dict while a loop walks it): read, never written while it is so -/
  | frz (o : Obj) (u : HO)
  /-- a code object's table -/
  | tbl (ps : Array Value)
  /-- any other thing, by what is true of its one object (a def of one's own: SetO a S n := HO.ext fun h => ..) -/
  | ext (φ : Heap → Prop)

abbrev Hp := Addr → Option HO
def upd (H : Hp) (a : Addr) (o : HO) : Hp := fun b => if b = a then some o else H b
theorem upd_same {H : Hp} {a : Addr} {o : HO} : upd H a o a = some o := by unfold upd; rw [if_pos rfl]
theorem upd_ne {H : Hp} {a b : Addr} {o : HO} (h : b ≠ a) : upd H a o b = H b := by unfold upd; rw [if_neg h]
/-- two objects of different content stand apart -/
theorem ne_of {H : Hp} {a b : Addr} {o u : HO} (h : H a = some o) (h' : H b = some u) (d : o ≠ u) : a ≠ b := by
  intro e; subst e; rw [h] at h'; exact d (Option.some.inj h')
theorem ne_of_none {H : Hp} {a b : Addr} {o : HO} (h : H a = some o) (h' : H b = none) : a ≠ b := by
  intro e; subst e; rw [h] at h'; cases h'

section
variable (P : Program) (w : World)
def ObjOk (H : Hp) (h : Heap) (a : Addr) : HO → Prop
  | .lst xs => xs.length ≤ sizeLine ∧ ∃ (its : List Value) (n : Nat), Vals xs its ∧ h.get? a = some { cls := .type "list", data := .seq its.toArray n }
  | .tup xs => xs.length ≤ sizeLine ∧ ∃ its : List Value, Vals xs its ∧ IsTup h a its.toArray
  | .dK kvs => kvs.length ≤ sizeLine ∧ (a == sysModules) = false ∧ ∃ vs, KV kvs vs ∧ h.DictOf (mixKind P w) a vs
  | .dT kvs => kvs.length ≤ sizeLine ∧ (a == sysModules) = false ∧ ∃ xs : List (List Key × Addr × Value),
      Paired (fun (p : List Key × V) (q : List Key × Addr × Value) => p.1 = q.1 ∧ H q.2.1 = some (.tup (p.1.map kV)) ∧ RelV p.2 q.2.2) kvs xs ∧
      ∃ o es ep, h.get? a = some o ∧ o.ExactDict ∧ o.data = .dict es ep ∧ es.toList = xs.map (entryOfKey (tupleKind (mixKind P w))) ∧ (xs.map (·.1)).Nodup
  | .set S n => h.SetOf (intKind P w) a S n
  | .ins C dx fs => H dx = some (.own a) ∧ fs.length ≤ 1000 ∧ dx ≠ a ∧ h.get? a = some (PySem.W.instObj C dx) ∧
      ∃ mA, h.Ns1 dx mA ∧ (∀ f, RelO (fs.lookup f) (mA f)) ∧ PySem.Within mA (fs.map (·.1))
  | .own _ => ∃ o, h.get? a = some o
  | .xd fs => ∃ mA, h.Ns1 a mA ∧ ∀ f, RelO (fs.lookup f) (mA f)
  | .rng lo hi => ∃ t u v, h.get? a = some { cls := .type "range", data := .fields #[.int lo t, .int hi u, .int 1 v] }
  | .frz o u => h.get? a = some o ∧ ObjOk H h a u
  | .tbl ps => h.get? a = some { cls := .none, data := .fields ps }
  | .met f x => h.get? a = some (PySem.W.methodObj (.ref f) (.ref x))
  | .ext φ => φ h ∧ (∃ o, h.get? a = some o) ∧ ∀ h1 h2 : Heap, φ h1 → (∀ o, h1.get? a = some o → h2.get? a = some o) → φ h2
/-- the abstract heap is held -/
def HOk (H : Hp) (h : Heap) : Prop := ∀ a o, H a = some o → ObjOk P w H h a o
end

section
variable {P : Program} {w : World} {H H' : Hp} {h h' : Heap} {a : Addr} {o : HO}
theorem ObjOk.lt (x : ObjOk P w H h a o) : a < h.objs.size := by
  cases o with
  | lst xs => obtain ⟨_, _, _, _, e⟩ := x; exact Heap.lt_size e
  | tup xs => obtain ⟨_, _, _, p⟩ := x; exact p.lt
  | dK kvs => obtain ⟨_, _, _, _, o, _, _, e, _⟩ := x; exact Heap.lt_size e
  | dT kvs => obtain ⟨_, _, _, _, o, _, _, e, _⟩ := x; exact Heap.lt_size e
  | set S n => obtain ⟨o, _, _, _, e, _⟩ := x; exact Heap.lt_size e
  | ins C dx fs => obtain ⟨_, _, _, e, _⟩ := x; exact Heap.lt_size e
  | own y => obtain ⟨_, e⟩ := x; exact Heap.lt_size e
  | xd fs => obtain ⟨_, ⟨_, _, _, e, _⟩, _⟩ := x; exact Heap.lt_size e
  | rng lo hi => obtain ⟨_, _, _, e⟩ := x; exact Heap.lt_size e
  | frz ob u => obtain ⟨e, _⟩ := x; exact Heap.lt_size e
  | tbl ps => exact Heap.lt_size (show h.get? a = some _ from x)
  | met f y => exact Heap.lt_size (show h.get? a = some _ from x)
  | ext φ => obtain ⟨_, ⟨_, e⟩, _⟩ := x; exact Heap.lt_size e
theorem Paired.mapP {α β : Type} {F G : α → β → Prop} : ∀ {l₁ : List α} {l₂ : List β}, Paired F l₁ l₂ → (∀ a b, F a b → G a b) → Paired G l₁ l₂
  | _, _, .nil, _ => .nil
  | _, _, .cons r t, f => .cons (f _ _ r) (Paired.mapP t f)
/-- what an object's description leans on: its own object, its own dict, the tuples -/
theorem ObjOk.stay (x : ObjOk P w H h a o) (k : ∀ b u, (b = a ∨ H b = some (.own a)) → h.get? b = some u → h'.get? b = some u)
    (ho : ∀ b, H b = some (.own a) → H' b = some (.own a)) (ht : ∀ b xs, H b = some (.tup xs) → H' b = some (.tup xs)) : ObjOk P w H' h' a o := by
  induction o with
  | lst xs => obtain ⟨z, its, n, r, e⟩ := x; exact ⟨z, its, n, r, k _ _ (.inl rfl) e⟩
  | tup xs => obtain ⟨z, its, r, ob, e, c⟩ := x; exact ⟨z, its, r, ob, k _ _ (.inl rfl) e, c⟩
  | dK kvs => obtain ⟨z, y, vs, r, ob, es, ep, e, c⟩ := x; exact ⟨z, y, vs, r, ob, es, ep, k _ _ (.inl rfl) e, c⟩
  | dT kvs =>
    obtain ⟨z, y, xs, r, ob, es, ep, e, c⟩ := x
    exact ⟨z, y, xs, Paired.mapP r fun p q z => ⟨z.1, ht _ _ z.2.1, z.2.2⟩, ob, es, ep, k _ _ (.inl rfl) e, c⟩
  | set S n => obtain ⟨ob, es, ep, t, e, c⟩ := x; exact ⟨ob, es, ep, t, k _ _ (.inl rfl) e, c⟩
  | ins C dx fs =>
    obtain ⟨d, z, ne, e, mA, ⟨od, es, ep, e2, c⟩, r⟩ := x
    exact ⟨ho _ d, z, ne, k _ _ (.inl rfl) e, mA, ⟨od, es, ep, k _ _ (.inr d) e2, c⟩, r⟩
  | own y => obtain ⟨ob, e⟩ := x; exact ⟨ob, k _ _ (.inl rfl) e⟩
  | xd fs => obtain ⟨mA, ⟨od, es, ep, e, c⟩, r⟩ := x; exact ⟨mA, ⟨od, es, ep, k _ _ (.inl rfl) e, c⟩, r⟩
  | rng lo hi => obtain ⟨t, u, v, e⟩ := x; exact ⟨t, u, v, k _ _ (.inl rfl) e⟩
  | frz ob u ih => obtain ⟨e, q⟩ := x; exact ⟨k _ _ (.inl rfl) e, ih q⟩
  | tbl ps =>
    have e : h.get? a = some { cls := .none, data := .fields ps } := x
    show h'.get? a = some { cls := .none, data := .fields ps }
    exact k a _ (.inl rfl) e
  | met f y =>
    have e : h.get? a = some (PySem.W.methodObj (.ref f) (.ref y)) := x
    show h'.get? a = some (PySem.W.methodObj (.ref f) (.ref y))
    exact k a _ (.inl rfl) e
  | ext φ => obtain ⟨p, ⟨o, e⟩, st⟩ := x; exact ⟨st _ _ p fun o q => k _ _ (.inl rfl) q, ⟨o, k _ _ (.inl rfl) e⟩, st⟩
theorem HOk.lt (x : HOk P w H h) (e : H a = some o) : a < h.objs.size := (x a o e).lt
theorem HOk.fresh (x : HOk P w H h) (e : h.objs.size ≤ a) : H a = none := by
  cases q : H a with
  | none => rfl
  | some u => exact absurd (Nat.lt_of_lt_of_le (x.lt q) e) (Nat.lt_irrefl _)
/-- every object of the heap is kept -/
theorem HOk.kept (x : HOk P w H h) (k : ∀ b u, h.get? b = some u → h'.get? b = some u) : HOk P w H h' := fun a o e =>
  (x a o e).stay (fun b u _ q => k b u q) (fun _ q => q) fun _ _ q => q
/-- a new object is laid and tracked -/
theorem HOk.laid (x : HOk P w H h) (k : ∀ b u, h.get? b = some u → h'.get? b = some u) (hp : h.objs.size ≤ a) (new : ObjOk P w (upd H a o) h' a o) : HOk P w (upd H a o) h' := fun b u e => by
  have hn := x.fresh hp
  by_cases hb : b = a
  · subst hb; rw [upd_same] at e; cases e; exact new
  · rw [upd_ne hb] at e
    exact (x b u e).stay (fun c v _ q => k c v q) (fun c q => by rw [upd_ne (ne_of_none q hn)]; exact q) fun c xs q => by rw [upd_ne (ne_of_none q hn)]; exact q
end

/-- what may be read as u: it is u, or a known u -/
def Rd (H : Hp) (a : Addr) (u : HO) : Prop := H a = some u ∨ ∃ o, H a = some (.frz o u)
theorem Rd.ok {P : Program} {w : World} {H : Hp} {h : Heap} {a : Addr} {u : HO} (r : Rd H a u) (x : HOk P w H h) : ObjOk P w H h a u := by
  rcases r with r | ⟨o, r⟩
  · exact x a u r
  · obtain ⟨_, q⟩ := x a _ r
    exact q
/-- what may be written -/
def Mut : Option HO → Prop
  | some (.lst _) => True
  | some (.dK _) => True
  | some (.dT _) => True
  | some (.set _ _) => True
  | some (.ins _ _ _) => True
  | some (.ext _) => True
  | _ => False
section
variable {P : Program} {w : World} {H : Hp} {h h' : Heap} {x e : Addr} {o' : HO}
/-- the object at e is changed: x itself, or the dict of the instance x -/
theorem HOk.write (ok : HOk P w H h) (mu : Mut (H x)) (he : e = x ∨ H e = some (.own x)) (k : ∀ b u, b ≠ e → h.get? b = some u → h'.get? b = some u) (heo : ∃ u, h'.get? e = some u)
    (new : ObjOk P w (upd H x o') h' x o') : HOk P w (upd H x o') h' := fun b u q => by
  have nown : ∀ c y, H c = some (.own y) → c ≠ x := fun c y r z => by subst z; rw [r] at mu; exact mu
  have ntup : ∀ c xs, H c = some (.tup xs) → c ≠ x := fun c xs r z => by subst z; rw [r] at mu; exact mu
  by_cases hb : b = x
  · subst hb; rw [upd_same] at q; cases q; exact new
  · rw [upd_ne hb] at q
    by_cases hbe : b = e
    · have q' : H b = some (.own x) := by
        rcases he with z | z
        · exact absurd (hbe.trans z) hb
        · rw [hbe]; exact z
      rw [q] at q'; cases q'
      obtain ⟨v, hv⟩ := heo
      exact ⟨v, by rw [hbe]; exact hv⟩
    · refine (ok b u q).stay (fun c v hc r => k c v ?_ r) (fun c r => by rw [upd_ne (nown c b r)]; exact r) fun c xs r => by rw [upd_ne (ntup c xs r)]; exact r
      rcases hc with rfl | hc
      · exact hbe
      · rintro rfl
        rcases he with z | z
        · exact nown c b hc z
        · rw [hc] at z; cases z; exact hb rfl
end

/-! ### kept unless tracked; of the frames at fs (the callers') the slots may change (an exception that passes writes there); of the records at ex (iterators) nothing is said -/
structure Un (fs ex : List Addr) (H H' : Hp) (h h' : Heap) : Prop where
  keep : ∀ b o, h.get? b = some o → H b = none → b ∉ fs → b ∉ ex → h'.get? b = some o
  slot : ∀ b o, h.get? b = some o → H b = none → b ∈ fs → b ∉ ex → ∃ sl, h'.get? b = some { o with slots := sl }
  free : ∀ b o, h.get? b = some o → H b = none → b ∉ ex → H' b = none
  there : ∀ b o, h.get? b = some o → b ∉ ex → ∃ o', h'.get? b = some o'
  tups : ∀ b xs, H b = some (.tup xs) → H' b = some (.tup xs)
  frzs : ∀ b o u, H b = some (.frz o u) → H' b = some (.frz o u)
  tbls : ∀ b ps, H b = some (.tbl ps) → ∃ more, H' b = some (.tbl (ps ++ more))
section
variable {fs fs' ex ex' : List Addr} {H H1 H2 : Hp} {h h1 h2 h' : Heap} {a x e : Addr} {o : HO}
theorem Un.any (u : Un fs ex H H1 h h1) {b : Addr} {ob : Obj} (q : h.get? b = some ob) (n : H b = none) (hx : b ∉ ex) : ∃ sl, h1.get? b = some { ob with slots := sl } := by
  by_cases hb : b ∈ fs
  · exact u.slot b ob q n hb hx
  · exact ⟨ob.slots, u.keep b ob q n hb hx⟩
theorem Un.trans (a : Un fs ex H H1 h h1) (b : Un fs ex H1 H2 h1 h2) : Un fs ex H H2 h h2 where
  keep := fun c ob q n hc hx => b.keep c ob (a.keep c ob q n hc hx) (a.free c ob q n hx) hc hx
  slot := fun c ob q n hc hx => by
    obtain ⟨sl, e1⟩ := a.slot c ob q n hc hx
    obtain ⟨sl', e2⟩ := b.slot c _ e1 (a.free c ob q n hx) hc hx
    exact ⟨sl', e2⟩
  free := fun c ob q n hx => by
    obtain ⟨o', e1⟩ := a.there c ob q hx
    exact b.free c o' e1 (a.free c ob q n hx) hx
  there := fun c ob q hx => by
    obtain ⟨o', e1⟩ := a.there c ob q hx
    exact b.there c o' e1 hx
  tups := fun c xs q => b.tups c xs (a.tups c xs q)
  frzs := fun c ob xs q => b.frzs c ob xs (a.frzs c ob xs q)
  tbls := fun c ps q => by
    obtain ⟨m1, e1⟩ := a.tbls c ps q
    obtain ⟨m2, e2⟩ := b.tbls c _ e1
    exact ⟨m1 ++ m2, by rw [e2, Array.append_assoc]⟩
theorem Un.kept (k : ∀ b u, h.get? b = some u → h'.get? b = some u) : Un fs ex H H h h' :=
  ⟨fun b ob q _ _ _ => k b ob q, fun b ob q _ _ _ => ⟨ob.slots, k b ob q⟩, fun _ _ _ n _ => n, fun b ob q _ => ⟨ob, k b ob q⟩, fun _ _ q => q, fun _ _ _ q => q, fun _ ps q => ⟨#[], by rw [q]; simp⟩⟩
theorem Un.refl : Un fs ex H H h h := Un.kept fun _ _ q => q
theorem Un.laid (k : ∀ b u, h.get? b = some u → h'.get? b = some u) (hp : h.objs.size ≤ a) (hn : H a = none) : Un fs ex H (upd H a o) h h' where
  keep := fun b u q _ _ _ => k b u q
  slot := fun b u q _ _ _ => ⟨u.slots, k b u q⟩
  free := fun b u q n _ => by rw [upd_ne (Nat.ne_of_lt (Nat.lt_of_lt_of_le (Heap.lt_size q) hp))]; exact n
  there := fun b u q _ => ⟨u, k b u q⟩
  tups := fun b xs q => by rw [upd_ne (ne_of_none q hn)]; exact q
  frzs := fun b u xs q => by rw [upd_ne (ne_of_none q hn)]; exact q
  tbls := fun b ps q => ⟨#[], by rw [upd_ne (ne_of_none q hn), q]; simp⟩
theorem Un.write (mu : Mut (H x)) (he : e = x ∨ H e = some (.own x)) (k : ∀ b u, b ≠ e → h.get? b = some u → h'.get? b = some u) (heo : ∃ u, h'.get? e = some u) : Un fs ex H (upd H x o) h h' := by
  have hx : ∀ b, H b = none → b ≠ x := fun b n z => by subst z; rw [n] at mu; exact mu
  have hb : ∀ b, H b = none → b ≠ e := fun b n z => by
    subst z
    rcases he with r | r
    · exact hx b n r
    · rw [n] at r; cases r
  have hm : ∀ b u, H b = some u → ¬ Mut (some u) → b ≠ x := fun b u q nm z => by subst z; rw [q] at mu; exact nm mu
  refine ⟨fun b u q n _ _ => k b u (hb b n) q, fun b u q n _ _ => ⟨u.slots, k b u (hb b n) q⟩, fun b u q n _ => by rw [upd_ne (hx b n)]; exact n, fun b u q _ => ?_,
    fun b xs q => by rw [upd_ne (hm b _ q fun z => z)]; exact q, fun b u xs q => by rw [upd_ne (hm b _ q fun z => z)]; exact q, fun b ps q => ⟨#[], by rw [upd_ne (hm b _ q fun z => z), q]; simp⟩⟩
  by_cases hbe : b = e
  · subst hbe; exact heo
  · exact ⟨u, k b u hbe q⟩
end

/-! ### the heap without what is tracked -/
def trk (h : Heap) (H : Hp) : List Addr := (List.range h.objs.size).filter fun a => (H a).isSome
def hidT (h : Heap) (H : Hp) : Heap := PySem.W.hideAll h (trk h H)
theorem hidT_size (h : Heap) (H : Hp) : (hidT h H).objs.size = h.objs.size := PySem.W.hideAll_size _ _
theorem hidT_get {h : Heap} {H : Hp} {b : Addr} {o : Obj} (e : h.get? b = some o) (n : H b = none) : (hidT h H).get? b = some o :=
  PySem.W.hideAll_get _ e fun hm => by
    have q : (H b).isSome = true := (List.mem_filter.mp hm).2
    rw [n] at q; simp at q
theorem of_hidT {h : Heap} {H : Hp} {b : Addr} {o : Obj} (e : (hidT h H).get? b = some o) : h.get? b = some o ∧ H b = none := by
  have e' : h.get? b = some o := PySem.W.of_hideAll (trk h H) e
  refine ⟨e', ?_⟩
  cases q : H b with
  | none => rfl
  | some x =>
    have hm : b ∈ trk h H := List.mem_filter.mpr ⟨List.mem_range.mpr (Heap.lt_size e'), by simp [q]⟩
    have z : (hidT h H).get? b = none := PySem.W.hideAll_none (trk h H) hm
    rw [z] at e; cases e

/-! ### OpenK's ledger, filled with every new object but one -/
def allNews (g h : Heap) (L : Addr) : List (Addr × Obj) := (List.range h.objs.size).filterMap fun a => if a = L ∨ (g.get? a).isSome = true then none else (h.get? a).map fun o => (a, o)
def rest (g h : Heap) (L d : Addr) : List (Addr × Obj) := (allNews g h L).filter fun p => decide (p.1 ≠ d)
end L2

namespace L2
open PySem PySem.Spec PyProof.Rows

/-- the module's facts, over the base: the heap at the law's entry without what is tracked there -/
structure Mod (K : PySem.W.Frag) (mg : Str → Option Value) (base : Heap) : Prop where
  kin : K.In base
  glob : base.Ns mainGlobals mg
  blt : ∃ mb, base.Ns builtinsNs mb ∧ ∀ x : Str, x ≠ "__name__" → mb x = bootBuiltins x
  nolimit : base.NoLimit

/-- the context: a def's body (or a comprehension's block) running. base: fixed through the whole law; s₀, H₀: the entry; outer: the frames whose slots others may change (a def's callers); stack: all frames that run;
   ex: iterators that were made ahead of the entry and are walked here (a comprehension's); fn: the names whose cells were made at the entry (a def: all; a comprehension's block: its own); calm: not within an except suite; pn: pins that every state bears; xe: what is wanted of an exception that leaves the code -/
structure Cx where
  prog : Program
  w : World
  K : PySem.W.Frag
  mg : Str → Option Value
  base : Heap
  A : Around
  N : List Str
  s₀ : Shared
  H₀ : Hp
  env : Env
  outer : List Env
  stack : List Env
  ex : List Addr
  fn : Str → Bool
  calm : Bool
  pn : List (Addr × Obj)
  xe : Value → Shared → Prop
/-- the callers' frames -/
def frs (l : List Env) : List Addr := l.filterMap (·.frame)
abbrev Cx.fs (X : Cx) : List Addr := frs X.outer

def Vis (sc : Scope) (x : Str) : Prop := sc.names.lookup x = some .local ∨ sc.names.lookup x = some .cell ∨ sc.names.lookup x = some .free
def Loc (sc : Scope) (x : Str) : Prop := sc.names.lookup x = some .local ∨ sc.names.lookup x = some .cell
def Look (env : Env) (h : Heap) (m : Str → Option Value) (x : Str) (u : Value) : Prop :=
  (env.kindOf x = some .local ∧ m x = some u) ∨ ((env.kindOf x = some .cell ∨ env.kindOf x = some .free) ∧ ∃ c, env.cells.lookup x = some c ∧ h.IsCell c (some u))

/-- exceptions that stand frozen, each the context of the one ahead -/
def ChnH (H : Hp) (cs : List Addr) : Prop := cs.Nodup ∧ ∀ j a, cs[j]? = some a → ∃ o u vs, H a = some (.frz o u) ∧ o.data = .fields vs ∧ vs[2]? = some (nxt cs (j + 1))
/-- nothing is handled, or an exception that stands frozen, with its contexts -/
def HdAt (A : Around) (H : Hp) : Prop := A.handled = none ∨ ∃ a cs, A.handled = some (.ref a) ∧ ChnH H (a :: cs)
structure Cx.Ok (X : Cx) : Prop where
  mod : Mod X.K X.mg X.base
  kind : X.env.scope.kind = .function
  glob : X.env.globals = mainGlobals
  blt : X.env.builtins = builtinsNs
  above : X.s₀.heap.objs.size ≤ X.env.locals
  inj : ∀ x y c, X.env.cells.lookup x = some c → X.env.cells.lookup y = some c → x = y
  has : ∀ x, (X.env.kindOf x = some .cell ∨ X.env.kindOf x = some .free) → ∃ c, X.env.cells.lookup x = some c
  cab : ∀ x c, X.fn x = true → X.env.cells.lookup x = some c → X.s₀.heap.objs.size ≤ c
  hd : HdAt X.A X.H₀
  frames : X.A.frames = some X.stack
  stk : X.stack = X.outer ∨ (X.stack = X.env :: X.outer ∧ X.env.frame = some X.env.locals)
  exf : ∀ b ∈ X.ex, b ≠ X.env.locals ∧ ∀ x c, X.env.cells.lookup x = some c → c ≠ b
  bs : ∀ b o, X.base.get? b = some o → X.s₀.heap.get? b = some o ∧ X.H₀ b = none
  bsz : X.base.objs.size ≤ X.s₀.heap.objs.size
  noex : ∀ b o, X.base.get? b = some o → b ∉ X.ex
  exfs : ∀ b ∈ X.ex, b ∉ X.fs
  funs : X.s₀.heap.FunFrames X.base X.outer
  frf : ∀ b ∈ X.fs, X.H₀ b = none

structure Inv (X : Cx) (pins : List (Addr × Obj)) (σ : List (Option V)) (H : Hp) (s : Shared) : Prop where
  ok : X.Ok
  os : s.os = X.s₀.os
  bare : AllBare s.gens
  base : Un X.fs X.ex X.H₀ H X.s₀.heap s.heap
  loc : ∃ m, s.heap.Ns X.env.locals m ∧ ∀ (i : Nat) (x : Str) (v : V), X.N[i]? = some x → σ[i]? = some (some v) → Vis X.env.scope x → ∃ u, RelV v u ∧ Look X.env s.heap m x u
  cell : ∀ x c, X.env.cells.lookup x = some c → ∃ v, s.heap.IsCell c v
  free : H X.env.locals = none
  freeC : ∀ x c, X.env.cells.lookup x = some c → H c = none
  pin : ∀ p ∈ X.pn ++ pins, s.heap.get? p.1 = some p.2 ∧ H p.1 = none ∧ p.1 ≠ X.env.locals ∧ p.1 ∉ X.fs ∧ ∀ v, p.2.data ≠ .cell v
  hok : HOk X.prog X.w H s.heap
  len : σ.length = X.N.length

section
variable {X : Cx} {pins : List (Addr × Obj)} {σ : List (Option V)} {H H' : Hp} {s : Shared} {h' : Heap}

theorem Cx.Ok.nofr (ok : X.Ok) {b : Addr} {o : Obj} (e : X.base.get? b = some o) : b ∉ X.fs := fun hb => by
  have := (ok.funs.mem hb).1
  rw [e] at this; cases this
theorem Inv.bs (I : Inv X pins σ H s) : ∀ b o, X.base.get? b = some o → s.heap.get? b = some o ∧ H b = none := fun b o e =>
  ⟨I.base.keep b o (I.ok.bs b o e).1 (I.ok.bs b o e).2 (I.ok.nofr e) (I.ok.noex b o e), I.base.free b o (I.ok.bs b o e).1 (I.ok.bs b o e).2 (I.ok.noex b o e)⟩
theorem Inv.bk (I : Inv X pins σ H s) : ∀ b o, X.base.get? b = some o → s.heap.get? b = some o := fun b o e => (I.bs b o e).1
theorem Inv.mod (I : Inv X pins σ H s) : Mod X.K X.mg X.base := I.ok.mod
theorem Inv.kIn (I : Inv X pins σ H s) : X.K.In s.heap := I.ok.mod.kin.keeps I.bk
theorem ChnH.mono {cs : List Addr} (c : ChnH H cs) (k : ∀ b o u, H b = some (.frz o u) → H' b = some (.frz o u)) : ChnH H' cs := ⟨c.1, fun j a hj => by
  obtain ⟨o, u, vs, h, r⟩ := c.2 j a hj
  exact ⟨o, u, vs, k a o u h, r⟩⟩
theorem ChnH.chn {cs : List Addr} {P : Program} {w : World} {h : Heap} (c : ChnH H cs) (k : HOk P w H h) : Chn h cs := ⟨c.1, fun j a hj => by
  obtain ⟨o, u, vs, q, r⟩ := c.2 j a hj
  obtain ⟨z, _⟩ := k a _ q
  exact ⟨o, vs, z, r⟩⟩
theorem ChnH.not_mem {cs : List Addr} {b : Addr} (c : ChnH H cs) (hb : H b = none) : b ∉ cs := fun z => by
  obtain ⟨j, hj⟩ := List.mem_iff_getElem?.mp z
  obtain ⟨o, u, vs, q, _⟩ := c.2 j b hj
  rw [hb] at q; cases q
theorem HdAt.mono {A : Around} (x : HdAt A H) (k : ∀ b o u, H b = some (.frz o u) → H' b = some (.frz o u)) : HdAt A H' := by
  rcases x with e | ⟨a, cs, e, c⟩
  · exact .inl e
  · exact .inr ⟨a, cs, e, c.mono k⟩
theorem Inv.hdAt (I : Inv X pins σ H s) : HdAt X.A H := I.ok.hd.mono I.base.frzs
theorem HdAt.hd {A : Around} {P : Program} {w : World} {h : Heap} (x : HdAt A H) (k : HOk P w H h) : Hd A h := by
  rcases x with e | ⟨a, cs, e, c⟩
  · exact .inl e
  · exact .inr ⟨a, cs, e, c.chn k⟩
theorem HdAt.new {A : Around} {p : Addr} {u : HO} (x : HdAt A H) (hn : H p = none) : HdAt A (upd H p u) := x.mono fun b o v q => by rw [upd_ne (ne_of_none q hn)]; exact q
theorem Inv.hd (I : Inv X pins σ H s) : Hd X.A s.heap := I.hdAt.hd I.hok
theorem Inv.lt (I : Inv X pins σ H s) : X.env.locals < s.heap.objs.size := let ⟨_, hn, _⟩ := I.loc; hn.lt
theorem Inv.sz (I : Inv X pins σ H s) : X.s₀.heap.objs.size ≤ s.heap.objs.size := Nat.le_trans I.ok.above (Nat.le_of_lt I.lt)
theorem Inv.nofs (I : Inv X pins σ H s) {a : Addr} (h : s.heap.objs.size ≤ a) : a ∉ X.fs := fun hb => by
  obtain ⟨_, o, ho, _⟩ := I.ok.funs.mem hb
  exact absurd (Nat.lt_of_lt_of_le (Heap.lt_size ho) (Nat.le_trans I.sz h)) (Nat.lt_irrefl _)
theorem Inv.cne (I : Inv X pins σ H s) : ∀ x c, X.env.cells.lookup x = some c → c ≠ X.env.locals := fun x c e z => by
  obtain ⟨v, o, ho, hd⟩ := I.cell x c e
  obtain ⟨m, ⟨o', es, ep, ho', hd', _⟩, _⟩ := I.loc
  rw [z, ho'] at ho; cases ho; rw [hd'] at hd; cases hd
theorem Inv.funs (I : Inv X pins σ H s) : s.heap.FunFrames X.base X.outer := by
  have all : ∀ (l : List Env), (∀ b ∈ frs l, b ∈ X.fs) → X.s₀.heap.FunFrames X.base l → s.heap.FunFrames X.base l := by
    intro l
    induction l with
    | nil => intro _ _; trivial
    | cons env r ih =>
      intro hs hl
      obtain ⟨hk, ⟨L, o, hf, hn, ho, hd⟩, hr⟩ := hl
      have hL : L ∈ X.fs := hs L (by unfold frs; rw [List.filterMap_cons, hf]; exact List.mem_cons_self)
      obtain ⟨sl, e⟩ := I.base.slot L o ho (I.ok.frf L hL) hL fun z => I.ok.exfs L z hL
      exact ⟨hk, ⟨L, _, hf, hn, e, hd⟩, ih (fun b hb => hs b (by unfold frs; rw [List.filterMap_cons, hf]; exact List.mem_cons_of_mem _ hb)) hr⟩
  exact all X.outer (fun _ hb => hb) I.ok.funs

/-- the frames that run, for a call -/
theorem Inv.stack (I : Inv X pins σ H s) : s.heap.FunFrames X.base X.stack := by
  rcases I.ok.stk with e | ⟨e, hf⟩
  · rw [e]; exact I.funs
  · rw [e]
    obtain ⟨m, hn, _⟩ := I.loc
    refine .cons (by rw [I.ok.kind]; decide) hf hn ?_ I.funs
    exact Heap.get?_none_of_le (Nat.le_trans I.ok.bsz I.ok.above)
theorem Inv.stkSub (I : Inv X pins σ H s) : ∀ b ∈ frs X.stack, b ∈ X.env.locals :: X.fs := fun b hb => by
  rcases I.ok.stk with e | ⟨e, hf⟩
  · rw [e] at hb; exact List.mem_cons_of_mem _ hb
  · rw [e] at hb
    unfold frs at hb
    rw [List.filterMap_cons, hf] at hb
    exact hb
theorem Inv.stkFree (I : Inv X pins σ H s) : ∀ b ∈ frs X.stack, H b = none := fun b hb => by
  rcases List.mem_cons.mp (I.stkSub b hb) with e | hb
  · rw [e]; exact I.free
  · obtain ⟨_, o, ho, _⟩ := I.ok.funs.mem hb
    exact I.base.free b o ho (I.ok.frf b hb) fun z => I.ok.exfs b z hb

/-- THE STEP: the untracked objects but the frame and the records at ch are kept (the callers' frames up to slots), the frame's map is kept, the new abstract heap is held -/
theorem Inv.step {g' : Array GenState} {t' : Nat} {d' : Drawn} {ch : List Addr} (I : Inv X pins σ H s)
    (hch : ∀ b ∈ ch, (b ∈ X.ex ∨ X.s₀.heap.objs.size ≤ b) ∧ b ≠ X.env.locals ∧ (∀ x c, X.env.cells.lookup x = some c → c ≠ b) ∧ ∀ p ∈ X.pn ++ pins, p.1 ≠ b)
    (keep : ∀ b o, b ≠ X.env.locals → b ∉ X.fs → b ∉ ch → s.heap.get? b = some o → H b = none → h'.get? b = some o)
    (slot : ∀ b o, b ≠ X.env.locals → b ∈ X.fs → b ∉ ch → s.heap.get? b = some o → H b = none → ∃ sl, h'.get? b = some { o with slots := sl }) (free : ∀ b o, b ∉ ch → s.heap.get? b = some o → H b = none → H' b = none)
    (there : ∀ b o, b ∉ ch → s.heap.get? b = some o → ∃ o', h'.get? b = some o')
    (tups : ∀ b xs, H b = some (.tup xs) → H' b = some (.tup xs)) (frzs : ∀ b o u, H b = some (.frz o u) → H' b = some (.frz o u)) (tbls : ∀ b ps, H b = some (.tbl ps) → ∃ more, H' b = some (.tbl (ps ++ more)))
    (ns : ∀ m, s.heap.Ns X.env.locals m → h'.Ns X.env.locals m) (hok : HOk X.prog X.w H' h') (hg : AllBare g') :
    Inv X pins σ H' { s with heap := h', gens := g', drawn := d', toks := t' } := by
  have neL : ∀ b o, X.s₀.heap.get? b = some o → b ≠ X.env.locals := fun b o e => Nat.ne_of_lt (Nat.lt_of_lt_of_le (Heap.lt_size e) I.ok.above)
  have neC : ∀ b o, X.s₀.heap.get? b = some o → b ∉ X.ex → b ∉ ch := fun b o e hx hb => by
    rcases (hch b hb).1 with z | z
    · exact hx z
    · exact absurd (Nat.lt_of_lt_of_le (Heap.lt_size e) z) (Nat.lt_irrefl _)
  have cellK : ∀ x c, X.env.cells.lookup x = some c → ∀ v, s.heap.IsCell c v → h'.IsCell c v := fun x c e v ⟨o, ho, hd⟩ => by
    have nch : c ∉ ch := fun z => (hch c z).2.2.1 x c e rfl
    by_cases hc : c ∈ X.fs
    · obtain ⟨sl, q⟩ := slot c o (I.cne x c e) hc nch ho (I.freeC x c e)
      exact ⟨_, q, hd⟩
    · exact ⟨o, keep c o (I.cne x c e) hc nch ho (I.freeC x c e), hd⟩
  refine ⟨I.ok, I.os, hg, ⟨fun b o e n hb hx => ?_, fun b o e n hb hx => ?_, fun b o e n hx => ?_, fun b o e hx => ?_, fun b xs e => tups b xs (I.base.tups b xs e), fun b o xs e => frzs b o xs (I.base.frzs b o xs e), fun b ps e => ?_⟩, ?_, fun x c e => ?_, ?_, fun x c e => ?_, fun p hp => ?_, hok, I.len⟩
  · exact keep b o (neL b o e) hb (neC b o e hx) (I.base.keep b o e n hb hx) (I.base.free b o e n hx)
  · obtain ⟨sl, e1⟩ := I.base.slot b o e n hb hx
    obtain ⟨sl', e2⟩ := slot b _ (neL b o e) hb (neC b o e hx) e1 (I.base.free b o e n hx)
    exact ⟨sl', e2⟩
  · obtain ⟨o', e1⟩ := I.base.there b o e hx
    exact free b o' (neC b o e hx) e1 (I.base.free b o e n hx)
  · obtain ⟨o', e1⟩ := I.base.there b o e hx
    exact there b o' (neC b o e hx) e1
  · obtain ⟨m1, e1⟩ := I.base.tbls b ps e
    obtain ⟨m2, e2⟩ := tbls b _ e1
    exact ⟨m1 ++ m2, by rw [e2, Array.append_assoc]⟩
  · obtain ⟨m, hn, hl⟩ := I.loc
    refine ⟨m, ns m hn, fun i x v e1 e2 e3 => ?_⟩
    obtain ⟨u, r, l⟩ := hl i x v e1 e2 e3
    refine ⟨u, r, ?_⟩
    rcases l with l | ⟨k, c, e, z⟩
    · exact .inl l
    · exact .inr ⟨k, c, e, cellK x c e _ z⟩
  · obtain ⟨v, z⟩ := I.cell x c e
    exact ⟨v, cellK x c e v z⟩
  · obtain ⟨m, ⟨o, _, _, ho, _⟩, _⟩ := I.loc
    exact free _ o (fun z => (hch _ z).2.1 rfl) ho I.free
  · obtain ⟨v, o, ho, hd⟩ := I.cell x c e
    exact free c o (fun z => (hch c z).2.2.1 x c e rfl) ho (I.freeC x c e)
  · obtain ⟨e, n, ne, nf, d⟩ := I.pin p hp
    have nch : p.1 ∉ ch := fun z => (hch p.1 z).2.2.2 p hp rfl
    exact ⟨keep p.1 p.2 ne nf nch e n, free p.1 p.2 nch e n, ne, nf, d⟩
/-- .. where the frame's own object is kept too -/
theorem Inv.un {t' : Nat} (I : Inv X pins σ H s) (u : Un X.fs [] H H' s.heap h') (hok : HOk X.prog X.w H' h') : Inv X pins σ H' { s with heap := h', toks := t' } := by
  obtain ⟨m, ⟨o, es, ep, ho, r⟩, _⟩ := id I.loc
  obtain ⟨sl, hL⟩ := u.any ho I.free (by simp)
  exact I.step (g' := s.gens) (d' := s.drawn) (ch := []) (fun _ z => nomatch z) (fun b o _ hb _ e n => u.keep b o e n hb (by simp)) (fun b o _ hb _ e n => u.slot b o e n hb (by simp)) (fun b o _ e n => u.free b o e n (by simp)) (fun b o _ e => u.there b o e (by simp)) u.tups u.frzs u.tbls (fun m' hm => by
    obtain ⟨o', es', ep', ho', r'⟩ := hm
    rw [ho] at ho'; cases ho'
    exact ⟨_, es', ep', hL, r'⟩) hok I.bare
/-- behind a call (or a comprehension's block): the slots of this frame may have changed too, the records at ch may have turned -/
theorem Inv.call {g' : Array GenState} {t' : Nat} {d' : Drawn} {ch : List Addr} (I : Inv X pins σ H s) (u : Un (frs X.stack) ch H H' s.heap h') (hok : HOk X.prog X.w H' h') (hg : AllBare g')
    (hch : ∀ b ∈ ch, (b ∈ X.ex ∨ X.s₀.heap.objs.size ≤ b) ∧ b ≠ X.env.locals ∧ (∀ x c, X.env.cells.lookup x = some c → c ≠ b) ∧ ∀ p ∈ X.pn ++ pins, p.1 ≠ b) :
    Inv X pins σ H' { s with heap := h', gens := g', drawn := d', toks := t' } := by
  obtain ⟨m, ⟨o, es, ep, ho, r⟩, _⟩ := id I.loc
  obtain ⟨sl, hL⟩ := u.any ho I.free fun z => (hch _ z).2.1 rfl
  exact I.step (ch := ch) hch (fun b o hL hb hc e n => u.keep b o e n (fun z => (List.mem_cons.mp (I.stkSub b z)).elim hL hb) hc) (fun b o _ _ hc e n => u.any e n hc) (fun b o hc e n => u.free b o e n hc) (fun b o hc e => u.there b o e hc) u.tups u.frzs u.tbls (fun m' hm => by
    obtain ⟨o', es', ep', ho', r'⟩ := hm
    rw [ho] at ho'; cases ho'
    exact ⟨_, es', ep', hL, r'⟩) hok hg
/-- an untracked record of ours (an iterator) has turned -/
theorem Inv.turned {t' : Nat} {it : Addr} (I : Inv X pins σ H s) (k : ∀ b o, b ≠ it → s.heap.get? b = some o → h'.get? b = some o) (hn : H it = none) (hL : it ≠ X.env.locals)
    (h1 : it ∈ X.ex ∨ X.s₀.heap.objs.size ≤ it) (h2 : ∀ x c, X.env.cells.lookup x = some c → c ≠ it) (h3 : ∀ p ∈ X.pn ++ pins, p.1 ≠ it) : Inv X pins σ H { s with heap := h', toks := t' } := by
  have nit : ∀ b u, H b = some u → b ≠ it := fun b u e z => by rw [z, hn] at e; cases e
  refine I.step (g' := s.gens) (d' := s.drawn) (ch := [it]) (fun b hb => ?_) (fun b o _ _ hc e _ => k b o (fun z => hc (by simp [z])) e) (fun b o _ _ hc e _ => ⟨o.slots, k b o (fun z => hc (by simp [z])) e⟩) (fun _ _ _ _ n => n)
    (fun b o hc e => ⟨o, k b o (fun z => hc (by simp [z])) e⟩) (fun _ _ e => e) (fun _ _ _ e => e) (fun b ps e => ⟨#[], by rw [e]; simp⟩) (fun m hm => ?_) (fun b u e => ?_) I.bare
  · have e : b = it := by simpa using hb
    subst e
    exact ⟨h1, hL, h2, h3⟩
  · obtain ⟨o, es, ep, ho, r⟩ := hm
    exact ⟨o, es, ep, k _ o (Ne.symm hL) ho, r⟩
  · refine (I.hok b u e).stay (fun c v hc q => k c v ?_ q) (fun _ q => q) fun _ _ q => q
    rcases hc with z | z
    · rw [z]; exact nit b u e
    · exact nit c _ z
theorem Inv.tok (I : Inv X pins σ H s) (t : Nat) : Inv X pins σ H { s with toks := t } := I.un (h' := s.heap) (t' := t) Un.refl I.hok
/-- all objects kept -/
theorem Inv.kept {t' : Nat} (I : Inv X pins σ H s) (k : ∀ b u, s.heap.get? b = some u → h'.get? b = some u) : Inv X pins σ H { s with heap := h', toks := t' } := I.un (Un.kept k) (I.hok.kept k)
/-- a new object laid and tracked -/
theorem Inv.laid {a : Addr} {o : HO} {t' : Nat} (I : Inv X pins σ H s) (k : ∀ b u, s.heap.get? b = some u → h'.get? b = some u) (hp : s.heap.objs.size ≤ a) (new : ObjOk X.prog X.w (upd H a o) h' a o) :
    Inv X pins σ (upd H a o) { s with heap := h', toks := t' } := I.un (Un.laid k hp (I.hok.fresh hp)) (I.hok.laid k hp new)
/-- an object written -/
theorem Inv.write {x e : Addr} {o : HO} {t' : Nat} (I : Inv X pins σ H s) (mu : Mut (H x)) (he : e = x ∨ H e = some (.own x)) (k : ∀ b u, b ≠ e → s.heap.get? b = some u → h'.get? b = some u) (heo : ∃ u, h'.get? e = some u)
    (new : ObjOk X.prog X.w (upd H x o) h' x o) : Inv X pins σ (upd H x o) { s with heap := h', toks := t' } := I.un (Un.write mu he k heo) (I.hok.write mu he k heo new)
theorem Inv.pins_of {pins' : List (Addr × Obj)} (I : Inv X pins σ H s) (h : ∀ p ∈ pins', s.heap.get? p.1 = some p.2 ∧ H p.1 = none ∧ p.1 ≠ X.env.locals ∧ p.1 ∉ X.fs ∧ ∀ v, p.2.data ≠ .cell v) : Inv X pins' σ H s :=
  ⟨I.ok, I.os, I.bare, I.base, I.loc, I.cell, I.free, I.freeC, fun p hp => (List.mem_append.mp hp).elim (fun z => I.pin p (List.mem_append_left _ z)) (h p), I.hok, I.len⟩

theorem nodup_ix {N : List Str} (hN : N.Nodup) {i j : Nat} {x : Str} (a : N[i]? = some x) (b : N[j]? = some x) : i = j := by
  obtain ⟨h1, e1⟩ := List.getElem?_eq_some_iff.mp a
  obtain ⟨h2, e2⟩ := List.getElem?_eq_some_iff.mp b
  exact (List.getElem_inj hN).mp (e1.trans e2.symm)

/-- a name is stored; what changed -/
theorem store_ok2 {M : Model} {A : Around} {E : Value → Shared → Prop} {i : Nat} {x : Str} {v : V} {u : Value} {Q : Unit → Shared → Prop} (I : Inv X pins σ H s) (hN : X.N.Nodup) (hi : X.N[i]? = some x) (hx : Loc X.env.scope x) (r : RelV v u)
    (h : ∀ s', Inv X pins (σ.set i (some v)) H s' → (∃ a, Heap.SameBut a s.heap s'.heap ∧ (a = X.env.locals ∨ X.env.cells.lookup x = some a)) → Q () s') (hf : X.fn x = true ∨ X.env.scope.names.lookup x = some .local := by first | exact .inl rfl | exact .inr rfl | assumption) : wpAny M A (storeName X.env x u) Q E s := by
  obtain ⟨m, hn, hl⟩ := id I.loc
  have hcls : (X.env.scope.kind == .class || (X.env.scope.kind == .module && X.env.locals != X.env.globals)) = false := by rw [I.ok.kind]; rfl
  have hiσ : i < σ.length := by rw [I.len]; exact (List.getElem?_eq_some_iff.mp hi).1
  have cne := I.cne
  have tracked : ∀ {a : Addr} {h' : Heap}, (∃ o, s.heap.get? a = some o ∧ H a = none) → Heap.SameBut a s.heap h' → HOk X.prog X.w H h' := fun {a h'} ha hs b ob e => by
    obtain ⟨_, _, hfree⟩ := ha
    refine (I.hok b ob e).stay (fun c w' hc q => (hs.2 c ?_).trans q) (fun _ q => q) fun _ _ q => q
    rintro rfl
    rcases hc with rfl | hc
    · rw [hfree] at e; cases e
    · rw [hfree] at hc; cases hc
  rcases hx with hk | hk
  · refine wpAny_storeName_local hk hn (fun h' hn' hs => ?_) hcls
    obtain ⟨oL, _, _, hoL, _⟩ := id hn
    refine h _ ⟨I.ok, I.os, I.bare, ⟨fun b o e n hb hx => ?_, fun b o e n hb hx => ?_, I.base.free, fun b o e hx => ?_, I.base.tups, I.base.frzs, I.base.tbls⟩, ⟨_, hn', fun j y v' e1 e2 e3 => ?_⟩, fun y c e => ?_, I.free, I.freeC, fun p hp => ?_, tracked ⟨oL, hoL, I.free⟩ hs, by simpa using I.len⟩ ⟨_, hs, .inl rfl⟩
    · exact (hs.2 b (Nat.ne_of_lt (Nat.lt_of_lt_of_le (Heap.lt_size e) I.ok.above))).trans (I.base.keep b o e n hb hx)
    · obtain ⟨sl, e1⟩ := I.base.slot b o e n hb hx
      exact ⟨sl, (hs.2 b (Nat.ne_of_lt (Nat.lt_of_lt_of_le (Heap.lt_size e) I.ok.above))).trans e1⟩
    · obtain ⟨o', e1⟩ := I.base.there b o e hx
      exact ⟨o', (hs.2 b (Nat.ne_of_lt (Nat.lt_of_lt_of_le (Heap.lt_size e) I.ok.above))).trans e1⟩
    · by_cases hj : j = i
      · subst hj
        rw [hi] at e1; cases e1
        rw [List.getElem?_set_self hiσ] at e2
        cases e2
        exact ⟨u, r, .inl ⟨hk, by simp⟩⟩
      · rw [List.getElem?_set_ne (Ne.symm hj)] at e2
        obtain ⟨u', r', q⟩ := hl j y v' e1 e2 e3
        refine ⟨u', r', ?_⟩
        rcases q with ⟨k, e⟩ | ⟨k, c, e, z⟩
        · refine .inl ⟨k, ?_⟩
          have : y ≠ x := fun e => hj (nodup_ix hN e1 (e ▸ hi))
          simp [this, e]
        · exact .inr ⟨k, c, e, z.sameBut hs (cne y c e)⟩
    · obtain ⟨w', z⟩ := I.cell y c e
      exact ⟨w', z.sameBut hs (cne y c e)⟩
    · obtain ⟨e, n, ne, nf, d⟩ := I.pin p hp
      exact ⟨(hs.2 p.1 ne).trans e, n, ne, nf, d⟩
  · have hfn : X.fn x = true := by
      rcases hf with z | z
      · exact z
      · rw [z] at hk; cases hk
    obtain ⟨c, hc⟩ := I.ok.has x (.inl hk)
    obtain ⟨w', z⟩ := I.cell x c hc
    refine wpAny_storeName_cell I.ok.kind hk hc z (fun h' hc' hs => ?_)
    obtain ⟨oc, hoc, hocd⟩ := id z
    refine h { s with heap := h' } ⟨I.ok, I.os, I.bare, ⟨fun b o e n hb hx => ?_, fun b o e n hb hx => ?_, I.base.free, fun b o e hx => ?_, I.base.tups, I.base.frzs, I.base.tbls⟩, ⟨m, hn.sameBut hs (Ne.symm (cne x c hc)), fun j y v' e1 e2 e3 => ?_⟩, fun y c' e => ?_, I.free, I.freeC, fun p hp => ?_, tracked ⟨oc, hoc, I.freeC x c hc⟩ hs, by simpa using I.len⟩ ⟨c, hs, .inr hc⟩
    · exact (hs.2 b (Nat.ne_of_lt (Nat.lt_of_lt_of_le (Heap.lt_size e) (I.ok.cab x c hfn hc)))).trans (I.base.keep b o e n hb hx)
    · obtain ⟨sl, e1⟩ := I.base.slot b o e n hb hx
      exact ⟨sl, (hs.2 b (Nat.ne_of_lt (Nat.lt_of_lt_of_le (Heap.lt_size e) (I.ok.cab x c hfn hc)))).trans e1⟩
    · obtain ⟨o', e1⟩ := I.base.there b o e hx
      exact ⟨o', (hs.2 b (Nat.ne_of_lt (Nat.lt_of_lt_of_le (Heap.lt_size e) (I.ok.cab x c hfn hc)))).trans e1⟩
    · by_cases hj : j = i
      · subst hj
        rw [hi] at e1; cases e1
        rw [List.getElem?_set_self hiσ] at e2
        cases e2
        exact ⟨u, r, .inr ⟨.inl hk, c, hc, hc'⟩⟩
      · rw [List.getElem?_set_ne (Ne.symm hj)] at e2
        obtain ⟨u', r', q⟩ := hl j y v' e1 e2 e3
        refine ⟨u', r', ?_⟩
        rcases q with q | ⟨k, c', e, z'⟩
        · exact .inl q
        · refine .inr ⟨k, c', e, z'.sameBut hs ?_⟩
          rintro rfl
          exact hj (nodup_ix hN e1 (I.ok.inj _ _ _ e hc ▸ hi))
    · by_cases hcc : c' = c
      · subst hcc; exact ⟨_, hc'⟩
      · obtain ⟨w2, z2⟩ := I.cell y c' e
        exact ⟨w2, z2.sameBut hs hcc⟩
    · obtain ⟨e, n, ne, nf, d⟩ := I.pin p hp
      refine ⟨(hs.2 p.1 ?_).trans e, n, ne, nf, d⟩
      intro q
      rw [q, hoc] at e
      have q' : oc = p.2 := Option.some.inj e
      exact d w' (by rw [← q']; exact hocd)
theorem store_ok {M : Model} {A : Around} {E : Value → Shared → Prop} {i : Nat} {x : Str} {v : V} {u : Value} {Q : Unit → Shared → Prop} (I : Inv X pins σ H s) (hN : X.N.Nodup) (hi : X.N[i]? = some x) (hx : Loc X.env.scope x) (r : RelV v u)
    (h : ∀ s', Inv X pins (σ.set i (some v)) H s' → Q () s') (hf : X.fn x = true ∨ X.env.scope.names.lookup x = some .local := by first | exact .inl rfl | exact .inr rfl | assumption) : wpAny M A (storeName X.env x u) Q E s :=
  store_ok2 I hN hi hx r (fun s' I' _ => h s' I') hf
/-- behind a call or a block, the state as it is -/
theorem Inv.call' {s' : Shared} {ch : List Addr} (I : Inv X pins σ H s) (ho : s'.os = s.os) (u : Un (frs X.stack) ch H H' s.heap s'.heap) (hok : HOk X.prog X.w H' s'.heap) (hg : AllBare s'.gens)
    (hch : ∀ b ∈ ch, (b ∈ X.ex ∨ X.s₀.heap.objs.size ≤ b) ∧ b ≠ X.env.locals ∧ (∀ x c, X.env.cells.lookup x = some c → c ≠ b) ∧ ∀ p ∈ X.pn ++ pins, p.1 ≠ b) : Inv X pins σ H' s' := by
  obtain ⟨h', g', d', t', o'⟩ := s'
  have e : o' = s.os := ho
  subst e
  exact I.call (g' := g') (t' := t') (d' := d') u hok hg hch
end

/-! ### the judgements -/
/-- an exception: its class, its own dict's address (where it has one), the abstract heap behind it -/
abbrev XK := Value → Option Addr → Hp → Prop
abbrev St := List (Option V)
abbrev VK := V → Hp → Prop
/-- an expression's reading; a test's; an argument list's -/
abbrev TE := St → Hp → VK → Prop
abbrev TT := St → Hp → (Bool → Hp → Prop) → Prop
abbrev TA := St → Hp → (List V → Hp → Prop) → Prop
/-- what is wanted behind a statement -/
structure Ends where
  nx : St → Hp → Prop
  rt : VK
  bk : St → Hp → Prop := fun _ _ => False
  ct : St → Hp → Prop := fun _ _ => False
abbrev TS := Ends → St → Hp → Prop

def EP (X : Cx) (pins : List (Addr × Obj)) (σ : St) (Q : VK) (u : Value) (s' : Shared) : Prop := ∃ v H', Inv X pins σ H' s' ∧ RelV v u ∧ Q v H'
def TP (X : Cx) (pins : List (Addr × Obj)) (σ : St) (Q : Bool → Hp → Prop) (b : Bool) (s' : Shared) : Prop := ∃ H', Inv X pins σ H' s' ∧ Q b H'
def AP (X : Cx) (pins : List (Addr × Obj)) (σ : St) (Q : List V → Hp → Prop) (us : List Value) (s' : Shared) : Prop := ∃ vs H', Inv X pins σ H' s' ∧ Vals vs us ∧ Q vs H'
def SP (X : Cx) (pins : List (Addr × Obj)) (D : Ends) (f : Flow) (s' : Shared) : Prop :=
  match f with
  | .next => ∃ σ' H', Inv X pins σ' H' s' ∧ D.nx σ' H'
  | .brk => ∃ σ' H', Inv X pins σ' H' s' ∧ D.bk σ' H'
  | .cont => ∃ σ' H', Inv X pins σ' H' s' ∧ D.ct σ' H'
  | .ret u => ∃ v σ' H', Inv X pins σ' H' s' ∧ RelV v u ∧ D.rt v H'

def PE (X : Cx) (e : Expr) (t : TE) : Prop :=
  ∀ (pins : List (Addr × Obj)) (s : Shared) (σ : St) (H : Hp) (Q : VK), Inv X pins σ H s → t σ H Q → wpAny (model X.prog X.w) X.A (eval e X.env) (EP X pins σ Q) X.xe s
def PT (X : Cx) (e : Expr) (t : TT) : Prop :=
  ∀ (pins : List (Addr × Obj)) (s : Shared) (σ : St) (H : Hp) (Q : Bool → Hp → Prop), Inv X pins σ H s → t σ H Q → wpAny (model X.prog X.w) X.A (isTrue e X.env (eval e X.env)) (TP X pins σ Q) X.xe s
/-- a test whatever its 'whole' is (and, or) -/
def PW (X : Cx) (e : Expr) (t : TT) : Prop :=
  ∀ (whole : Sem Value) (pins : List (Addr × Obj)) (s : Shared) (σ : St) (H : Hp) (Q : Bool → Hp → Prop), Inv X pins σ H s → t σ H Q → wpAny (model X.prog X.w) X.A (isTrue e X.env whole) (TP X pins σ Q) X.xe s
theorem PW.pt {X : Cx} {e : Expr} {t : TT} (h : PW X e t) : PT X e t := h _
/-- an argument list (no star), from the left -/
def PA (X : Cx) (es : List Expr) (t : TA) : Prop :=
  ∀ (pos : Pos) (pins : List (Addr × Obj)) (s : Shared) (σ : St) (H : Hp) (Q : List V → Hp → Prop), Inv X pins σ H s → t σ H Q → wpAny (model X.prog X.w) X.A (spliced (backTo pos (starEach es X.env))) (AP X pins σ Q) X.xe s
def PS (X : Cx) (st : Stmt) (t : TS) : Prop :=
  ∀ (pins : List (Addr × Obj)) (s : Shared) (σ : St) (H : Hp) (D : Ends), Inv X pins σ H s → t D σ H → wpAny (model X.prog X.w) X.A (exec st X.env) (SP X pins D) X.xe s
def PSs (X : Cx) (st : List Stmt) (t : TS) : Prop :=
  ∀ (pins : List (Addr × Obj)) (s : Shared) (σ : St) (H : Hp) (D : Ends), Inv X pins σ H s → t D σ H → wpAny (model X.prog X.w) X.A (execs st X.env) (SP X pins D) X.xe s
/-- weaken the end -/
theorem thn {α : Type} {t : Sem α} {Q Q' : α → Shared → Prop} {M : Model} {A : Around} {E : Value → Shared → Prop} {s : Shared} (h : wpAny M A t Q E s) (hQ : ∀ a s, Q a s → Q' a s) : wpAny M A t Q' E s := wpAny_mono h hQ fun _ _ x => x
end L2

namespace L2
open PySem PySem.Spec PyProof.Rows
section
variable {X : Cx}

/-! ### names and constants -/
def tVar (i : Nat) : TE := fun σ H Q => ∃ v, σ[i]? = some (some v) ∧ Q v H
def tC (v : V) : TE := fun _ H Q => Q v H
theorem pe_var {i : Nat} {x : Str} {pos : Pos} (hN : X.N[i]? = some x) (hv : Vis X.env.scope x) (hd : (x == ("__debug__" : Str)) = false := by decide) (hcd : (x == ("__classdict__" : Str)) = false := by decide) : PE X (.Name x pos) (tVar i) := by
  intro pins s σ H Q I h
  obtain ⟨v, e, h⟩ := h
  obtain ⟨m, hn, hl⟩ := I.loc
  obtain ⟨u, r, l⟩ := hl i x v hN e hv
  have fin : EP X pins σ Q u s := ⟨v, H, I, r, h⟩
  rcases l with ⟨hk, hm⟩ | ⟨hk, c, hc, hcell⟩
  · exact wpAny_Name (wpAny_loadName_local I.ok.kind hk hn hm fin) hd
  · rcases hk with hk | hk
    · exact wpAny_Name (wpAny_loadName_cell I.ok.kind hk hc hcell fin) hd
    · exact wpAny_Name (wpAny_loadName_free I.ok.kind hk hc hcell fin hcd) hd
theorem pe_int {i j pos} : PE X (.Constant (.int i) j pos) (tC (.int i)) := fun _ _ _ H _ I h => wpAny_Constant_int ⟨.int i, H, I.tok _, ⟨_, rfl⟩, h⟩
theorem pe_bl {b j pos} : PE X (.Constant (.bool b) j pos) (tC (.bl b)) := fun _ _ _ H _ I h => Constant_bool ⟨.bl b, H, I, rfl, h⟩
theorem pe_str {x j pos} : PE X (.Constant (.str x) j pos) (tC (.str x)) := fun _ _ _ H _ I h => Calls.Constant_str ⟨.str x, H, I.tok _, ⟨_, rfl⟩, h⟩

/-- a global name of the def -/
def Gl (X : Cx) (x : Str) : Prop := X.env.kindOf x = some .globalImplicit
theorem ld_glob {E : Value → Shared → Prop} {pins : List (Addr × Obj)} {s : Shared} {σ : St} {H : Hp} {x : Str} {u : Value} {pos : Pos} {Q : Value → Shared → Prop} (I : Inv X pins σ H s) (hg : Gl X x) (hm : X.mg x = some u) (h : Q u s)
    (hd : (x == ("__debug__" : Str)) = false := by decide) : wpAny (model X.prog X.w) X.A (eval (.Name x pos) X.env) Q E s :=
  Calls.Name_function_global I.ok.kind hg (Calls.loadGlobal_global (by rw [I.ok.glob]; exact I.mod.glob.keeps I.bk) hm h) hd
theorem ld_blt {E : Value → Shared → Prop} {pins : List (Addr × Obj)} {s : Shared} {σ : St} {H : Hp} {x : Str} {u : Value} {pos : Pos} {Q : Value → Shared → Prop} (I : Inv X pins σ H s) (hg : Gl X x) (hm : X.mg x = none) (hv : bootBuiltins x = some u) (h : Q u s)
    (hn : x ≠ "__name__" := by decide) (hd : (x == ("__debug__" : Str)) = false := by decide) : wpAny (model X.prog X.w) X.A (eval (.Name x pos) X.env) Q E s := by
  obtain ⟨mb, h1, h2⟩ := I.mod.blt
  exact Calls.Name_function_global I.ok.kind hg (Calls.loadGlobal_builtin (by rw [I.ok.glob]; exact I.mod.glob.keeps I.bk) hm (by rw [I.ok.blt]; exact h1.keeps I.bk) ((h2 x hn).trans hv) h) hd
/-- a module's constant, a class, a function, as a value -/
theorem pe_glob {x : Str} {v : V} {u : Value} {pos : Pos} (hg : Gl X x) (hm : X.mg x = some u) (r : RelV v u) (hd : (x == ("__debug__" : Str)) = false := by decide) : PE X (.Name x pos) (tC v) :=
  fun _ _ _ H _ I h => ld_glob I hg hm ⟨v, H, I, r, h⟩ hd
theorem pe_bltn {x : Str} {v : V} {u : Value} {pos : Pos} (hg : Gl X x) (hm : X.mg x = none) (hv : bootBuiltins x = some u) (r : RelV v u) (hn : x ≠ "__name__" := by decide) (hd : (x == ("__debug__" : Str)) = false := by decide) : PE X (.Name x pos) (tC v) :=
  fun _ _ _ H _ I h => ld_blt I hg hm hv ⟨v, H, I, r, h⟩ hn hd

/-! ### arithmetic -/
/-- two ints -/
def t2I (ta tb : TE) (k : Int → Int → Hp → Prop) : St → Hp → Prop := fun σ H => ta σ H fun x H1 => tb σ H1 fun y H2 => ∃ i j, x = .int i ∧ y = .int j ∧ k i j H2
def tAdd (ta tb : TE) : TE := fun σ H Q => t2I ta tb (fun i j H2 => Q (.int (i + j)) H2) σ H
def tSub (ta tb : TE) : TE := fun σ H Q => t2I ta tb (fun i j H2 => Q (.int (i - j)) H2) σ H
/-- the left factor below 2^64 -/
def tMul (ta tb : TE) : TE := fun σ H Q => t2I ta tb (fun i j H2 => (-(2 ^ 64) < i ∧ i < 2 ^ 64) ∧ Q (.int (i * j)) H2) σ H
variable {a b : Expr} {ta tb : TE} {pos : Pos}
/-! ### comparisons -/
def PC (X : Cx) (op : CmpOp) (a b : Expr) (t : TE) : Prop :=
  ∀ (pins : List (Addr × Obj)) (s : Shared) (σ : St) (H : Hp) (Q : VK), Inv X pins σ H s → t σ H Q →
    wpAny (model X.prog X.w) X.A (eval a X.env) (fun v s₁ => wpAny (model X.prog X.w) X.A (eval b X.env) (fun u s₂ => wpAny (model X.prog X.w) X.A (compareOp op v u) (EP X pins σ Q) X.xe s₂) X.xe s₁) X.xe s
theorem nobehind (b : Expr) {op : CmpOp} (h : op ≠ .In) (h2 : op ≠ .NotIn) : behindInMarks op b = false := by
  have e1 : (op == CmpOp.In) = false := by cases op <;> first | rfl | exact absurd rfl h
  have e2 : (op == CmpOp.NotIn) = false := by cases op <;> first | rfl | exact absurd rfl h2
  cases b <;> simp [behindInMarks, e1, e2]
def tCmp (p : Int → Int → Bool) (ta tb : TE) : TE := fun σ H Q => t2I ta tb (fun i j H2 => Q (.bl (p i j)) H2) σ H
abbrev tLt : TE → TE → TE := tCmp fun i j => decide (i < j)
abbrev tLe : TE → TE → TE := tCmp fun i j => decide (i ≤ j)
abbrev tGt : TE → TE → TE := tCmp fun i j => decide (j < i)
abbrev tGe : TE → TE → TE := tCmp fun i j => decide (j ≤ i)
abbrev tEqI : TE → TE → TE := tCmp fun i j => decide (i = j)
abbrev tNeI : TE → TE → TE := tCmp fun i j => !decide (i = j)
/-- is None -/
def tIsN (ta : TE) : TE := fun σ H Q => ta σ H fun x H1 => Q (.bl (decide (x = .non))) H1
def tNotN (ta : TE) : TE := fun σ H Q => ta σ H fun x H1 => Q (.bl (!decide (x = .non))) H1
theorem RelV.none_iff {x : V} {v : Value} (r : RelV x v) : (v == Value.none) = decide (x = .non) := by
  cases x with
  | non => cases r; rfl
  | bl _ => cases r; rfl
  | int _ => obtain ⟨t, rfl⟩ := r; rfl
  | str _ => obtain ⟨t, rfl⟩ := r; rfl
  | byt _ => obtain ⟨t, rfl⟩ := r; rfl
  | flt _ => obtain ⟨t, rfl⟩ := r; rfl
  | ref _ => cases r; rfl
  | ty _ => cases r; rfl
theorem pc_isN {j pos'} (ha : PE X a ta) : PC X .Is a (.Constant .none j pos') (tIsN ta) := by
  intro pins s σ H Q I h
  refine thn (ha pins s σ H _ I h) fun v s1 => L2.ex5 fun x H1 I1 r1 q1 => ?_
  exact Constant_none (is_none_gen ⟨.bl _, H1, I1, by rw [r1.none_iff]; rfl, q1⟩)
/-- a comparison as a value, as a test -/
def tB (t : TE) : TT := fun σ H Q => t σ H fun x H1 => ∃ c, x = .bl c ∧ Q c H1
theorem pt_cmp {op : CmpOp} {t : TE} (h : PC X op a b t) (h1 : behindInMarks op b = false := by first | exact nobehind _ (by decide) (by decide) | rfl) : PT X (.Compare a [op] [b] pos) (tB t) := by
  intro pins s σ H Q I hw
  refine wpAny_isTrue_Compare1 (thn (h pins s σ H _ I hw) fun v s1 h1 => thn h1 fun u s2 h2 => thn h2 fun c s3 => L2.ex5 fun x H1 I1 r1 q1 => ?_) h1
  obtain ⟨d, rfl, q⟩ := q1
  cases r1
  exact wpAny_truthy_bool ⟨H1, I1, q⟩
/-- an expression whose value is a bool, as a test -/
theorem pt_val {e : Expr} {t : TE} (h : PE X e t) (he : ∀ whole, isTrue e X.env whole = (do let v ← whole; standAt e.pos; holding [v] (truthy v)) := by intro _; rfl) : PT X e (tB t) := by
  intro pins s σ H Q I hw
  refine isTrue_plain (thn (h pins s σ H _ I hw) fun v s1 => L2.ex5 fun x H1 I1 r1 q1 => ?_) (he _)
  obtain ⟨d, rfl, q⟩ := q1
  cases r1
  exact wpAny_truthy_bool ⟨H1, I1, q⟩

/-! ### and, or, not -/
variable {tA tB' : TT} {rest : List Expr}
def tAnd (t u : TT) : TT := fun σ H Q => t σ H fun c H1 => if c = true then u σ H1 Q else Q false H1
def tOr (t u : TT) : TT := fun σ H Q => t σ H fun c H1 => if c = true then Q true H1 else u σ H1 Q
def tNot (t : TT) : TT := fun σ H Q => t σ H fun c H1 => Q (!c) H1
theorem pw_and1 (ha : PT X a tA) : PW X (.BoolOp .And [a] pos) tA := by
  intro wh pins s σ H Q I h
  refine isTrue_and (thn (ha pins s σ H Q I h) fun c s1 e => ?_)
  cases c with
  | true => exact isTrue_and_nil e
  | false => exact e
theorem pw_or1 (ha : PT X a tA) : PW X (.BoolOp .Or [a] pos) tA := by
  intro wh pins s σ H Q I h
  refine isTrue_or (thn (ha pins s σ H Q I h) fun c s1 e => ?_)
  cases c with
  | false => exact isTrue_or_nil e
  | true => exact e
theorem pw_and (ha : PT X a tA) (hb : PW X (.BoolOp .And (b :: rest) pos) tB') : PW X (.BoolOp .And (a :: b :: rest) pos) (tAnd tA tB') := by
  intro wh pins s σ H Q I h
  refine isTrue_and (thn (ha pins s σ H _ I h) fun c s1 => L2.ex3 fun H1 I1 q1 => ?_)
  cases c with
  | true => exact hb wh pins s1 σ H1 Q I1 q1
  | false => exact ⟨H1, I1, q1⟩
theorem pw_or (ha : PT X a tA) (hb : PW X (.BoolOp .Or (b :: rest) pos) tB') : PW X (.BoolOp .Or (a :: b :: rest) pos) (tOr tA tB') := by
  intro wh pins s σ H Q I h
  refine isTrue_or (thn (ha pins s σ H _ I h) fun c s1 => L2.ex3 fun H1 I1 q1 => ?_)
  cases c with
  | true => exact ⟨H1, I1, q1⟩
  | false => exact hb wh pins s1 σ H1 Q I1 q1
theorem pt_not (ha : PT X a tA) : PT X (.UnaryOp .Not a pos) (tNot tA) := by
  intro pins s σ H Q I h
  exact isTrue_not (ha pins s σ H (fun c H1 => Q (!c) H1) I h)
/-- .. as values (bools) -/
def tAndV (ta tb : TE) : TE := fun σ H Q => ta σ H fun x H1 => ∃ c, x = .bl c ∧ if c = true then tb σ H1 Q else Q (.bl false) H1
def tOrV (ta tb : TE) : TE := fun σ H Q => ta σ H fun x H1 => ∃ c, x = .bl c ∧ if c = true then Q (.bl true) H1 else tb σ H1 Q
def tNotV (ta : TE) : TE := fun σ H Q => ta σ H fun x H1 => ∃ c, x = .bl c ∧ Q (.bl (!c)) H1
theorem pe_one {op} {t : TE} (h : PE X a t) : PE X (.BoolOp op [a] pos) t := fun pins s σ H Q I hw => BoolOp_one (h pins s σ H Q I hw)
theorem pe_and (ha : PE X a ta) (hb : PE X (.BoolOp .And (b :: rest) pos) tb) : PE X (.BoolOp .And (a :: b :: rest) pos) (tAndV ta tb) := by
  intro pins s σ H Q I h
  refine BoolOp_and (thn (ha pins s σ H _ I h) fun v s1 => L2.ex5 fun x H1 I1 r1 q1 => ?_)
  obtain ⟨c, rfl, q1⟩ := q1
  cases r1
  refine wpAny_truthy_bool ?_
  cases c with
  | true => exact hb pins s1 σ H1 Q I1 q1
  | false => exact ⟨.bl false, H1, I1, rfl, q1⟩
theorem pe_not (ha : PE X a ta) : PE X (.UnaryOp .Not a pos) (tNotV ta) := by
  intro pins s σ H Q I h
  refine UnaryOp_ (thn (ha pins s σ H _ I h) fun v s1 => L2.ex5 fun x H1 I1 r1 q1 => ?_)
  obtain ⟨c, rfl, q1⟩ := q1
  cases r1
  exact not_of (wpAny_truthy_bool ⟨.bl (!c), H1, I1, rfl, q1⟩)
/-- a if t else b -/
def tIf (t : TT) (ta tb : TE) : TE := fun σ H Q => t σ H fun c H1 => if c = true then ta σ H1 Q else tb σ H1 Q
end
end L2

namespace L2
open PySem PySem.Spec PyProof.Rows

/-! ### a list, a tuple that is read: tracked, frozen, or an object of the module -/
def SqL (K : PySem.W.Frag) (H : Hp) (a : Addr) (xs : List V) : Prop :=
  Rd H a (.lst xs) ∨
    ∃ (o : Obj) (its : Array Value) (n : Nat), K.lookup a = some o ∧ o.cls = .type "list" ∧ o.dict = none ∧ o.data = .seq its n ∧ its.size ≤ sizeLine ∧ Vals xs its.toList
def SqT (K : PySem.W.Frag) (H : Hp) (a : Addr) (xs : List V) : Prop :=
  Rd H a (.tup xs) ∨
    ∃ (o : Obj) (its : Array Value) (n : Nat), K.lookup a = some o ∧ o.cls = .type "tuple" ∧ o.data = .seq its n ∧ its.size ≤ sizeLine ∧ Vals xs its.toList
def absV : Value → Option V
  | .none => some .non
  | .bool b => some (.bl b)
  | .int i _ => some (.int i)
  | .str x _ => some (.str x)
  | .bytes b _ => some (.byt b)
  | .float b _ => some (.flt b)
  | .ref a => some (.ref a)
  | .type n => some (.ty n)
  | _ => none
theorem RelV.abs {x : V} {u : Value} (r : RelV x u) : absV u = some x := by
  cases x with
  | non => cases r; rfl
  | bl _ => cases r; rfl
  | int _ => obtain ⟨t, rfl⟩ := r; rfl
  | str _ => obtain ⟨t, rfl⟩ := r; rfl
  | byt _ => obtain ⟨t, rfl⟩ := r; rfl
  | flt _ => obtain ⟨t, rfl⟩ := r; rfl
  | ref _ => cases r; rfl
  | ty _ => cases r; rfl
theorem RelV.inj {x y : V} {u : Value} (r : RelV x u) (q : RelV y u) : x = y := Option.some.inj (r.abs.symm.trans q.abs)
theorem Vals.inj : ∀ {xs ys : List V} {us : List Value}, Vals xs us → Vals ys us → xs = ys
  | _, _, _, .nil, .nil => rfl
  | _, _, _, .cons r t, .cons r' t' => by rw [r.inj r', Vals.inj t t']
section
variable {X : Cx} {pins : List (Addr × Obj)} {σ : St} {H : Hp} {s : Shared} {a : Addr} {xs ys : List V}
theorem SqL.of {K : PySem.W.Frag} (h : H a = some (.lst xs)) : SqL K H a xs := .inl (.inl h)
theorem SqT.of {K : PySem.W.Frag} (h : H a = some (.tup xs)) : SqT K H a xs := .inl (.inl h)
theorem Inv.list (I : Inv X pins σ H s) (h : SqL X.K H a xs) : ∃ its : List Value, Vals xs its ∧ PlainL s.heap a its.toArray ∧ xs.length ≤ sizeLine := by
  rcases h with h | ⟨o, its, n, hk, hc, hd, hs, hz, r⟩
  · obtain ⟨z, its, n, r, e⟩ := h.ok I.hok
    exact ⟨its, r, ⟨_, n, e, rfl, rfl, rfl⟩, z⟩
  · refine ⟨its.toList, r, ⟨o, n, I.kIn a o hk, hc, hd, by simpa using hs⟩, ?_⟩
    have e := r.length
    simp only [Array.length_toList] at e
    omega
theorem Inv.tuple (I : Inv X pins σ H s) (h : SqT X.K H a xs) : ∃ its : List Value, Vals xs its ∧ IsTup s.heap a its.toArray ∧ xs.length ≤ sizeLine := by
  rcases h with h | ⟨o, its, n, hk, hc, hs, hz, r⟩
  · obtain ⟨z, its, r, p⟩ := h.ok I.hok
    exact ⟨its, r, p, z⟩
  · refine ⟨its.toList, r, ⟨o, I.kIn a o hk, hc, n, by simpa using hs⟩, ?_⟩
    have e := r.length
    simp only [Array.length_toList] at e
    omega
theorem Inv.list_inj (I : Inv X pins σ H s) (h : SqL X.K H a xs) (h' : SqL X.K H a ys) : xs = ys := by
  obtain ⟨its, r, ⟨o, n, e, _, _, d⟩, _⟩ := I.list h
  obtain ⟨its', r', ⟨o', n', e', _, _, d'⟩, _⟩ := I.list h'
  rw [e] at e'; cases e'
  rw [d] at d'
  injection d' with d1 _
  have : its = its' := by simpa using congrArg Array.toList d1
  subst this
  exact r.inj r'
theorem Inv.tuple_inj (I : Inv X pins σ H s) (h : SqT X.K H a xs) (h' : SqT X.K H a ys) : xs = ys := by
  obtain ⟨its, r, ⟨o, e, _, n, d⟩, _⟩ := I.tuple h
  obtain ⟨its', r', ⟨o', e', _, n', d'⟩, _⟩ := I.tuple h'
  rw [e] at e'; cases e'
  rw [d] at d'
  injection d' with d1 _
  have : its = its' := by simpa using congrArg Array.toList d1
  subst this
  exact r.inj r'
end

/-! ### another wish about exceptions -/
abbrev Cx.wish (X : Cx) (E : Value → Shared → Prop) : Cx := { X with xe := E }
/-- no exception leaves -/
abbrev Cx.nox (X : Cx) : Cx := X.wish fun _ _ => False
theorem Cx.Ok.wish {X : Cx} (ok : X.Ok) (E : Value → Shared → Prop) : (X.wish E).Ok :=
  ⟨ok.mod, ok.kind, ok.glob, ok.blt, ok.above, ok.inj, ok.has, ok.cab, ok.hd, ok.frames, ok.stk, ok.exf, ok.bs, ok.bsz, ok.noex, ok.exfs, ok.funs, ok.frf⟩
theorem Cx.Ok.unwish {X : Cx} {E : Value → Shared → Prop} (ok : (X.wish E).Ok) : X.Ok :=
  ⟨ok.mod, ok.kind, ok.glob, ok.blt, ok.above, ok.inj, ok.has, ok.cab, ok.hd, ok.frames, ok.stk, ok.exf, ok.bs, ok.bsz, ok.noex, ok.exfs, ok.funs, ok.frf⟩
section
variable {X : Cx} {pins : List (Addr × Obj)} {σ : St} {H : Hp} {s : Shared} {E : Value → Shared → Prop}
theorem Inv.wish (I : Inv X pins σ H s) (E : Value → Shared → Prop) : Inv (X.wish E) pins σ H s := ⟨I.ok.wish E, I.os, I.bare, I.base, I.loc, I.cell, I.free, I.freeC, I.pin, I.hok, I.len⟩
theorem Inv.unwish (I : Inv (X.wish E) pins σ H s) : Inv X pins σ H s := ⟨I.ok.unwish, I.os, I.bare, I.base, I.loc, I.cell, I.free, I.freeC, I.pin, I.hok, I.len⟩
theorem SP.unwish {D : Ends} {f : Flow} {s' : Shared} (h : SP (X.wish E) pins D f s') : SP X pins D f s' := by
  cases f with
  | next => obtain ⟨σ', H', I, q⟩ := h; exact ⟨σ', H', I.unwish, q⟩
  | brk => obtain ⟨σ', H', I, q⟩ := h; exact ⟨σ', H', I.unwish, q⟩
  | cont => obtain ⟨σ', H', I, q⟩ := h; exact ⟨σ', H', I.unwish, q⟩
  | ret u => obtain ⟨v, σ', H', I, r, q⟩ := h; exact ⟨v, σ', H', I.unwish, r, q⟩
theorem PSs.nox {st : List Stmt} {t : TS} (h : PSs X.nox st t) : PSs X st t := fun pins s σ H D I hw =>
  wpAny_mono (h pins s σ H D (I.wish _) hw) (fun _ _ q => q.unwish) fun _ _ z => False.elim z
end

/-! ### blocks and small statements -/
section
variable {X : Cx} {st : Stmt} {rest : List Stmt} {t u : TS} {e : Expr} {te : TE} {pos : Pos}
def tNext : TS := fun D σ H => D.nx σ H
def tSeq (t u : TS) : TS := fun D σ H => t { D with nx := u D } σ H
theorem pss_nil : PSs X [] tNext := fun _ _ σ H _ I h => wpAny_execs_nil ⟨σ, H, I, h⟩
theorem pss_cons (h1 : PS X st t) (h2 : PSs X rest u) : PSs X (st :: rest) (tSeq t u) := by
  intro pins s σ H D I h
  refine wpAny_execs_cons (thn (h1 pins s σ H { D with nx := u D } I h) fun f s1 q => ?_)
  cases f with
  | next =>
    obtain ⟨σ', H', I', q⟩ := q
    exact h2 pins s1 σ' H' D I' q
  | ret v => exact q
  | brk => exact q
  | cont => exact q
theorem pss_one (h1 : PS X st t) : PSs X [st] t := by
  intro pins s σ H D I h
  refine wpAny_execs_cons (thn (h1 pins s σ H D I h) fun f s1 q => ?_)
  cases f with
  | next => exact wpAny_execs_nil q
  | ret v => exact q
  | brk => exact q
  | cont => exact q
def tBreak : TS := fun D σ H => D.bk σ H
def tCont : TS := fun D σ H => D.ct σ H
/-- in a def's body nothing is shown -/
theorem Inv.quiet {pins : List (Addr × Obj)} {σ : St} {H : Hp} {s : Shared} (I : Inv X pins σ H s) : interactive X.env = false := by simp [interactive, I.ok.kind]
/-- an expression whose value is dropped -/
def tDrop (te : TE) : TS := fun D σ H => te σ H fun _ H1 => D.nx σ H1
theorem ps_expr (he : PE X e te) (hs : swapsWith e none pos.line X.env = pure false := by rfl) : PS X (.Expr e pos) (tDrop te) := by
  intro pins s σ H D I h
  exact wpAny_Expr_any (thn (he pins s σ H _ I h) fun v s1 => L2.ex5 fun x H1 I1 r1 q1 => ⟨σ, H1, I1, q1⟩) I.quiet hs
def tRet (te : TE) : TS := fun D σ H => te σ H D.rt
theorem ps_ret (he : PE X e te) : PS X (.Return (some e) pos) (tRet te) := by
  intro pins s σ H D I h
  exact wpAny_Return_some (thn (he pins s σ H _ I h) fun v s1 => L2.ex5 fun x H1 I1 r1 q1 => ⟨x, σ, H1, I1, r1, q1⟩)
def tRetN : TS := fun D _ H => D.rt .non H
theorem ps_retN : PS X (.Return none pos) tRetN := fun _ _ σ H _ I h => wpAny_Return_none ⟨.non, σ, H, I, rfl, h⟩
def tIfS (c : TT) (t u : TS) : TS := fun D σ H => c σ H fun b H1 => if b = true then t D σ H1 else u D σ H1
theorem ps_if {c : Expr} {a b : List Stmt} {tc : TT} (hc : PT X c tc) (ha : PSs X a t) (hb : PSs X b u) : PS X (.If c a b pos) (tIfS tc t u) := by
  intro pins s σ H D I h
  refine wpAny_If (thn (hc pins s σ H _ I h) fun d s1 => L2.ex3 fun H1 I1 q1 => ?_)
  cases d with
  | true => exact ha pins s1 σ H1 D I1 q1
  | false => exact hb pins s1 σ H1 D I1 q1
/-- code that the proof never comes to -/
def tNever : TS := fun _ _ _ => False
end

/-! ### targets -/
abbrev TG := V → St → Hp → (St → Hp → Prop) → Prop
abbrev TGs := List V → St → Hp → (St → Hp → Prop) → Prop
def PG (X : Cx) (target : Expr) (t : TG) : Prop :=
  ∀ (pins : List (Addr × Obj)) (s : Shared) (σ : St) (H : Hp) (v : V) (u : Value) (Q : St → Hp → Prop), Inv X pins σ H s → RelV v u → t v σ H Q →
    wpAny (model X.prog X.w) X.A (assign target X.env u) (fun _ s' => ∃ σ' H', Inv X pins σ' H' s' ∧ Q σ' H') X.xe s
/-- several targets, one after another -/
def PGs (X : Cx) (ts : List Expr) (t : TGs) : Prop :=
  ∀ (pins : List (Addr × Obj)) (s : Shared) (σ : St) (H : Hp) (vs : List V) (us : List Value) (Q : St → Hp → Prop), Inv X pins σ H s → Vals vs us → t vs σ H Q →
    wpAny (model X.prog X.w) X.A (assignInOrder ((assignEach ts X.env).map (·.2)) us) (fun _ s' => ∃ σ' H', Inv X pins σ' H' s' ∧ Q σ' H') X.xe s
/-- o[i] = v, by values -/
abbrev TSet := V → V → V → Hp → (Hp → Prop) → Prop
def PSet (X : Cx) (t : TSet) : Prop :=
  ∀ (pins : List (Addr × Obj)) (s : Shared) (σ : St) (H : Hp) (o i v : V) (ov iv u : Value) (Q : Hp → Prop), Inv X pins σ H s → RelV o ov → RelV i iv → RelV v u → t o i v H Q →
    wpAny (model X.prog X.w) X.A (setItem ov iv u) (fun _ s' => ∃ H', Inv X pins σ H' s' ∧ Q H') X.xe s
/-- a op= b, by values -/
abbrev TIp := V → V → Hp → VK → Prop
def PIp (X : Cx) (op : Operator) (t : TIp) : Prop :=
  ∀ (pins : List (Addr × Obj)) (s : Shared) (σ : St) (H : Hp) (x y : V) (v u : Value) (Q : VK), Inv X pins σ H s → RelV x v → RelV y u → t x y H Q →
    wpAny (model X.prog X.w) X.A (inplaceOp op v u) (EP X pins σ Q) X.xe s
section
variable {X : Cx} {pos : Pos}
def gName (i : Nat) : TG := fun v σ H Q => Q (σ.set i (some v)) H
theorem pg_name {i : Nat} {x : Str} (hN : X.N.Nodup) (hi : X.N[i]? = some x) (hx : Loc X.env.scope x) (hf : X.fn x = true ∨ X.env.scope.names.lookup x = some .local := by first | exact .inl rfl | exact .inr rfl | assumption) : PG X (.Name x pos) (gName i) := by
  intro pins s σ H v u Q I r h
  exact wpAny_assign_Name (store_ok I hN hi hx r (fun s' I' => ⟨_, H, I', h⟩) hf)
def gNil : TGs := fun vs σ H Q => vs = [] ∧ Q σ H
def gCons (t : TG) (u : TGs) : TGs := fun vs σ H Q => ∃ v r, vs = v :: r ∧ t v σ H fun σ' H' => u r σ' H' Q
theorem pgs_nil : PGs X [] gNil := by
  intro pins s σ H vs us Q I r h
  obtain ⟨e, h⟩ := h
  subst e
  cases r
  exact assignInOrder_nil ⟨σ, H, I, h⟩
theorem pgs_cons {e : Expr} {es : List Expr} {t : TG} {u : TGs} (h1 : PG X e t) (h2 : PGs X es u)
    (hs : (assignEach (e :: es) X.env).map (·.2) = assign e X.env :: (assignEach es X.env).map (·.2) := by rfl) : PGs X (e :: es) (gCons t u) := by
  intro pins s σ H vs us Q I r h
  obtain ⟨v, vr, e1, h⟩ := h
  subst e1
  cases r with
  | cons r rr =>
    rw [hs]
    refine assignInOrder_cons (thn (h1 pins s σ H _ _ _ I r h) fun _ s1 => L2.ex4 fun σ1 H1 I1 q1 => ?_)
    exact h2 pins s1 σ1 H1 _ _ Q I1 rr q1
/-- (a, b, ..) = a tuple of that length -/
def gTup (K : PySem.W.Frag) (n : Nat) (t : TGs) : TG := fun v σ H Q => ∃ a xs, v = .ref a ∧ SqT K H a xs ∧ xs.length = n ∧ t xs σ H Q
theorem pg_tup {es : List Expr} {k : Nat} {t : TGs} {n : Nat} (hc : X.calm = true) (h : PGs X es t)
    (hn : (assignEach es X.env).length = n := by rfl) (hst : (assignEach es X.env).findIdx? (·.1) = none := by rfl) : PG X (.Tuple es k pos) (gTup X.K n t) := by
  intro pins s σ H v u Q I r hw
  obtain ⟨a, xs, e1, hq, hl, hw⟩ := hw
  subst e1
  cases r
  obtain ⟨its, rv, ht, hz⟩ := I.tuple hq
  refine assign_tupH I.hd ht (by simp [hn, ← hl, rv.length]) hst fun h' hx => ?_
  have I1 : Inv X pins σ H { s with heap := h' } := I.kept (t' := s.toks) fun b o e => hx b o (Nat.ne_of_lt (Heap.lt_size e)) e
  exact h pins _ σ H xs _ Q I1 (by simpa using rv) hw
/-- o[i] = .. -/
def gSub (to ti : TE) (t : TSet) : TG := fun v σ H Q => to σ H fun o H1 => ti σ H1 fun i H2 => t o i v H2 fun H3 => Q σ H3
theorem pg_sub {o i : Expr} {to ti : TE} {t : TSet} (ho : PE X o to) (hi : PE X i ti) (hs : PSet X t)
    (ha : ∀ v, assign (.Subscript o i pos) X.env v = (do
      let ov ← holding [v] (eval o X.env)
      let iv ← holding [v, ov] (eval i X.env)
      standAt pos
      holding [v, ov, iv] (setItem ov iv v)
      release [v, ov, iv] []) := by intro _; rfl) : PG X (.Subscript o i pos) (gSub to ti t) := by
  intro pins s σ H v u Q I r h
  rw [ha]
  refine wpAny_bind (wpAny_holding (thn (ho pins s σ H _ I h) fun ov s1 => L2.ex5 fun x H1 I1 r1 q1 => ?_))
  refine wpAny_bind (wpAny_holding (thn (hi pins s1 σ H1 _ I1 q1) fun iv s2 => L2.ex5 fun y H2 I2 r2 q2 => ?_))
  refine wpAny_bind (wpAny_standAt (wpAny_bind (wpAny_holding (thn (hs pins s2 σ H2 x y v ov iv u _ I2 r1 r2 r q2) fun _ s3 => L2.ex3 fun H3 I3 q3 => ?_))))
  exact wpAny_release ⟨σ, H3, I3, q3⟩
/-- target = value -/
def tAsg (te : TE) (g : TG) : TS := fun D σ H => te σ H fun x H1 => g x σ H1 D.nx
theorem ps_asg {tg e : Expr} {te : TE} {g : TG} (he : PE X e te) (hg : PG X tg g) (hs : swapsWithSole [tg] e pos.line X.env = pure false := by rfl) (hw : swappedStores [tg] e X.env = pure none := by rfl)
    (h1 : (assignEach [tg] X.env).map (·.2) = [assign tg X.env] := by rfl) : PS X (.Assign [tg] e pos) (tAsg te g) := by
  intro pins s σ H D I h
  refine wpAny_Assign_stores (thn (he pins s σ H _ I h) fun v s1 => L2.ex5 fun x H1 I1 r1 q1 => ?_) hs hw
  rw [h1]
  exact thn (hg pins s1 σ H1 x v _ I1 r1 q1) fun _ s2 q => q
/-- name = value -/
theorem ps_set {i : Nat} {x : Str} {e : Expr} {te : TE} {pos' : Pos} (hN : X.N.Nodup) (hi : X.N[i]? = some x) (hx : Loc X.env.scope x) (he : PE X e te) (hs : swapsWith e (some (.Name x pos')) pos.line X.env = pure false := by rfl) (hf : X.fn x = true ∨ X.env.scope.names.lookup x = some .local := by first | exact .inl rfl | exact .inr rfl | assumption) :
    PS X (.Assign [.Name x pos'] e pos) (tAsg te (gName i)) := by
  intro pins s σ H D I h
  refine wpAny_Assign_Name (thn (he pins s σ H _ I h) fun v s1 => L2.ex5 fun y H1 I1 r1 q1 => ?_) hs
  exact store_ok I1 hN hi hx r1 (fun s2 I2 => ⟨_, H1, I2, q1⟩) hf
/-- a, b = x, y with plain local names: stored from the right; the pair itself is not tracked (the opening rows as in PyProof/Rows/TupAssign.lean:23) -/
def tPar (i j : Nat) (ta : TA) : TS := fun D σ H => ta σ H fun vs H1 => ∃ v w, vs = [v, w] ∧ D.nx ((σ.set i (some v)).set j (some w)) H1
/-- name op= e -/
def tAug (i : Nat) (te : TE) (ti : TIp) : TS := fun D σ H => ∃ x, σ[i]? = some (some x) ∧ te σ H fun y H1 => ti x y H1 fun z H2 => D.nx (σ.set i (some z)) H2
/-- o[i] op= e -/
def tAugS (to ti te : TE) (tget : V → V → Hp → VK → Prop) (tip : TIp) (tset : TSet) : TS := fun D σ H => to σ H fun o H1 => ti σ H1 fun i H2 => tget o i H2 fun x H3 => te σ H3 fun y H4 => tip x y H4 fun z H5 => tset o i z H5 fun H6 => D.nx σ H6
/-- o[i], by values -/
def PGet (X : Cx) (t : V → V → Hp → VK → Prop) : Prop :=
  ∀ (pins : List (Addr × Obj)) (s : Shared) (σ : St) (H : Hp) (o i : V) (ov iv : Value) (Q : VK), Inv X pins σ H s → RelV o ov → RelV i iv → t o i H Q →
    wpAny (model X.prog X.w) X.A (getItem ov iv) (EP X pins σ Q) X.xe s
/-- ints -/
def ipI (f : Int → Int → Int) : TIp := fun x y H Q => ∃ i j, x = .int i ∧ y = .int j ∧ Q (.int (f i j)) H
end

/-! ### while -/
section
variable {X : Cx} {pos : Pos}
/-- the invariant W with its measure -/
def tWhile (c : TT) (tb : TS) : TS := fun D σ H => ∃ W : Nat → St → Hp → Prop, (∃ m, W m σ H) ∧ ∀ m σ H, W m σ H →
  c σ H fun b H1 => if b = true then ∃ N : St → Hp → Prop, (∀ σ' H', N σ' H' → ∃ m', m' < m ∧ W m' σ' H') ∧ tb { D with nx := N, ct := N, bk := D.nx } σ H1 else D.nx σ H1
theorem ps_while {c : Expr} {body : List Stmt} {tc : TT} {tb : TS} (hp : PassesOwn (model X.prog X.w) X.A X.env X.xe) (hc : PT X c tc) (hb : PSs X body tb) : PS X (.While c body [] pos) (tWhile tc tb) := by
  intro pins s σ H D I h
  obtain ⟨W, ⟨m0, w0⟩, turn⟩ := h
  refine wpAny_While (codeAny_whileLoop (fun n s' => ∃ σ' H', Inv X pins σ' H' s' ∧ W n σ' H') ?_ m0 ⟨σ, H, I, w0⟩)
  rintro n s1 ⟨σ1, H1, I1, w1⟩
  refine wpAny_passesOwn hp (thn (hc pins s1 σ1 H1 _ I1 (turn n σ1 H1 w1)) fun b s2 => L2.ex3 fun H2 I2 q2 => ?_)
  cases b with
  | true =>
    obtain ⟨N, hN, q2⟩ := q2
    rw [if_pos rfl]
    refine wpAny_passesOwn hp (thn (hb pins s2 σ1 H2 _ I2 q2) fun f s3 q3 => ?_)
    cases f with
    | next =>
      obtain ⟨σ3, H3, I3, n3⟩ := q3
      obtain ⟨m', hm, w3⟩ := hN σ3 H3 n3
      exact ⟨m', hm, σ3, H3, I3, w3⟩
    | cont =>
      obtain ⟨σ3, H3, I3, n3⟩ := q3
      obtain ⟨m', hm, w3⟩ := hN σ3 H3 n3
      exact ⟨m', hm, σ3, H3, I3, w3⟩
    | brk => exact q3
    | ret v => exact q3
  | false =>
    rw [if_neg Bool.false_ne_true]
    exact wpAny_execs_nil ⟨σ1, H2, I2, q2⟩
end

/-! ### what a loop or a comprehension walks -/
/-- at turn i: it yields x (the heap may grow), or it stops -/
structure It where
  go : Nat → Hp → Prop
  yld : Nat → Hp → V → Hp → Prop
  stop : Nat → Hp → Prop
/-- the iterator's own objects may turn: they are not the frame's, not pinned, younger than the entry (or a comprehension's own) -/
def FpOk (X : Cx) (pins : List (Addr × Obj)) (H : Hp) (b : Addr) : Prop :=
  H b = none ∧ b ≠ X.env.locals ∧ b ∉ X.fs ∧ (b ∈ X.ex ∨ X.s₀.heap.objs.size ≤ b) ∧ (∀ x c, X.env.cells.lookup x = some c → c ≠ b) ∧ ∀ p ∈ X.pn ++ pins, p.1 ≠ b
theorem Inv.fpOk {X : Cx} {pins : List (Addr × Obj)} {σ : St} {H H' : Hp} {s : Shared} {b : Addr} (I : Inv X pins σ H s) (hb : s.heap.objs.size ≤ b) (hn : H' b = none) : FpOk X pins H' b := by
  refine ⟨hn, Nat.ne_of_gt (Nat.lt_of_lt_of_le I.lt hb), I.nofs hb, .inr (Nat.le_trans I.sz hb), fun x c e z => ?_, fun p hp z => ?_⟩
  · obtain ⟨v, q⟩ := I.cell x c e
    exact absurd (Nat.lt_of_lt_of_le q.lt (by rw [z]; exact hb)) (Nat.lt_irrefl _)
  · exact absurd (Nat.lt_of_lt_of_le (Heap.lt_size (I.pin p hp).1) (by rw [z]; exact hb)) (Nat.lt_irrefl _)
structure Turn (P : Program) (w : World) (K : PySem.W.Frag) (tg : Expr) (J : It) (fp : List Addr) (it : Addr) (tn : Nat → Heap → Prop) : Prop where
  mem : it ∈ fp
  obj : ∀ i h, tn i h → ∀ b ∈ fp, ∃ o, h.get? b = some o ∧ ∀ v, o.data ≠ .cell v
  keep : ∀ i h h', tn i h → (∀ b ∈ fp, ∀ o, h.get? b = some o → h'.get? b = some o) → tn i h'
  item : ∀ (X : Cx), X.prog = P → X.w = w → X.K = K → X.calm = true → ∀ (i : Nat) (pins : List (Addr × Obj)) (s : Shared) (σ : St) (H : Hp) (E : Value → Shared → Prop), Inv X pins σ H s → (∀ b ∈ fp, FpOk X pins H b) → tn i s.heap → J.go i H →
    wpAny (model P w) X.A (pyNext (.ref it)) (fun r s1 => ∃ u, r = some u ∧
      wpAny (model P w) X.A (letOwnedTupleGo tg (.ref it) u) (fun _ s2 => ∃ x H', Inv X pins σ H' s2 ∧ RelV x u ∧ J.yld i H x H' ∧ tn (i + 1) s2.heap ∧ ∀ b ∈ fp, H' b = none) E s1) E s
  done : ∀ (X : Cx), X.prog = P → X.w = w → X.K = K → X.calm = true → ∀ (i : Nat) (pins : List (Addr × Obj)) (s : Shared) (σ : St) (H : Hp) (E : Value → Shared → Prop), Inv X pins σ H s → (∀ b ∈ fp, FpOk X pins H b) → tn i s.heap → J.stop i H →
    wpAny (model P w) X.A (pyNext (.ref it)) (fun r s1 => r = none ∧ Inv X pins σ H s1) E s
  self : ∀ (A : Around) (i : Nat) (s : Shared) (Q : Value → Shared → Prop) (E : Value → Shared → Prop), tn i s.heap → Q (.ref it) s → wpAny (model P w) A (pyIter (.ref it)) Q E s
abbrev TI := St → Hp → (It → Hp → Prop) → Prop
/-- an iterator has come -/
def PIE (X : Cx) (pins : List (Addr × Obj)) (σ : St) (tg : Expr) (R : It → Hp → Prop) (itv : Value) (s2 : Shared) : Prop :=
  ∃ (it : Addr) (fp : List Addr) (tn : Nat → Heap → Prop) (J : It) (H' : Hp), itv = .ref it ∧ Inv X pins σ H' s2 ∧ Turn X.prog X.w X.K tg J fp it tn ∧ tn 0 s2.heap ∧ (∀ b ∈ fp, FpOk X pins H' b) ∧ R J H'
def PI (X : Cx) (tg iter : Expr) (wi : TI) : Prop :=
  ∀ (pins : List (Addr × Obj)) (s : Shared) (σ : St) (H : Hp) (R : It → Hp → Prop), Inv X pins σ H s → wi σ H R →
    wpAny (model X.prog X.w) X.A (eval iter X.env) (fun v s1 => wpAny (model X.prog X.w) X.A (pyIter v) (PIE X pins σ tg R) X.xe s1) X.xe s

/-- the step ahead of the store is nothing for an iterator that keeps no tuple -/
theorem go_of {M : Model} {A : Around} {E : Value → Shared → Prop} {s : Shared} {tg : Expr} {it : Addr} {u : Value} {o : Obj} {n : String} {vs : Array Value} {Q : Unit → Shared → Prop} (ho : s.heap.get? it = some o) (hc : o.cls = .type n) (hd : o.data = .fields vs)
    (hn : ["enumerate", "zip", "dict_itemiterator", "dict_reverseitemiterator", "odict_iterator", "itertools.zip_longest", "itertools.pairwise"].contains n = false) (hQ : Q () s) : wpAny M A (letOwnedTupleGo tg (.ref it) u) Q E s := by
  unfold letOwnedTupleGo
  cases tg <;> first
    | exact wpAny_pure hQ
    | (cases u <;> first
        | exact wpAny_pure hQ
        | (refine wpAny_bind (wpAny_load ho ?_)
           rw [hc, hd]
           show wpAny M A (if (["enumerate", "zip", "dict_itemiterator", "dict_reverseitemiterator", "odict_iterator", "itertools.zip_longest", "itertools.pairwise"].contains n && vs[0]? == some (rawInt _)) = true then _ else _) Q E s
           rw [if_neg (by intro h; rw [hn, Bool.false_and] at h; cases h)]
           exact wpAny_pure hQ))

/-- the list at a, as it stands at each turn (a loop may append to it) -/
def Itl (K : PySem.W.Frag) (a : Addr) : It :=
  ⟨fun i H => ∃ xs x, SqL K H a xs ∧ xs[i]? = some x, fun i H x H' => H' = H ∧ ∀ xs, SqL K H a xs → xs[i]? = some x, fun i H => ∃ xs, SqL K H a xs ∧ xs.length ≤ i⟩
def Itt (K : PySem.W.Frag) (a : Addr) : It :=
  ⟨fun i H => ∃ xs x, SqT K H a xs ∧ xs[i]? = some x, fun i H x H' => H' = H ∧ ∀ xs, SqT K H a xs → xs[i]? = some x, fun i H => ∃ xs, SqT K H a xs ∧ xs.length ≤ i⟩
/-- lo, lo + 1, .. (n of them) -/
def Itr (lo : Int) (n : Nat) : It := ⟨fun i _ => i < n, fun i H x H' => H' = H ∧ x = .int (lo + i), fun i _ => n ≤ i⟩
theorem turn_list {P : Program} {w : World} {K : PySem.W.Frag} {tg : Expr} (a it : Addr) : Turn P w K tg (Itl K a) [it] it (fun i h => h.IsListIter it a i) where
  mem := by simp
  obj := fun i h st b hb => by
    have e : b = it := by simpa using hb
    subst e
    obtain ⟨o, e, c, d⟩ := st
    exact ⟨o, e, fun v z => by rw [d] at z; cases z⟩
  keep := fun i h h' st k => st.at fun o e => k it (by simp) o e
  item := by
    intro X hP hw hK hc i pins s σ H E I hf st hg
    subst hP hw hK
    obtain ⟨xs, x, hq, hx⟩ := hg
    obtain ⟨its, rv, p, hz⟩ := I.list hq
    obtain ⟨u, hu, ru⟩ := rv.get hx
    obtain ⟨f0, f1, f2, f3, f4, f5⟩ := hf it (by simp)
    refine wpAny_pyNext_list_item st p.isList (x := u) (by simpa using hu) fun h' st' sb => ?_
    have I1 : Inv X pins σ H { s with heap := h' } := I.turned (t' := s.toks) (fun b o hb e => (sb.2 b hb).trans e) f0 f1 f3 f4 f5
    obtain ⟨o, e, c, d⟩ := id st'
    exact ⟨u, rfl, go_of (s := { s with heap := h' }) e c d (by decide) ⟨x, H, I1, ru, ⟨rfl, fun ys hy => by rw [I.list_inj hy hq]; exact hx⟩, st', fun b hb => (hf b hb).1⟩⟩
  done := by
    intro X hP hw hK hc i pins s σ H E I hf st hg
    subst hP hw hK
    obtain ⟨xs, hq, hx⟩ := hg
    obtain ⟨its, rv, p, hz⟩ := I.list hq
    obtain ⟨f0, f1, f2, f3, f4, f5⟩ := hf it (by simp)
    have hl := rv.length
    exact list_endH I.hd st p.isList (by simp; omega) fun h' eb => ⟨rfl, I.turned (t' := s.toks) (fun b o hb e => eb b o hb e) f0 f1 f3 f4 f5⟩
  self := fun _ _ _ _ _ st h => wpAny_pyIter_listiter st h
theorem turn_tuple {P : Program} {w : World} {K : PySem.W.Frag} {tg : Expr} (a it : Addr) : Turn P w K tg (Itt K a) [it] it (fun i h => h.IsTupleIter it a i) where
  mem := by simp
  obj := fun i h st b hb => by
    have e : b = it := by simpa using hb
    subst e
    obtain ⟨o, e, c, d⟩ := st
    exact ⟨o, e, fun v z => by rw [d] at z; cases z⟩
  keep := fun i h h' st k => st.at fun o e => k it (by simp) o e
  item := by
    intro X hP hw hK hc i pins s σ H E I hf st hg
    subst hP hw hK
    obtain ⟨xs, x, hq, hx⟩ := hg
    obtain ⟨its, rv, p, hz⟩ := I.tuple hq
    obtain ⟨u, hu, ru⟩ := rv.get hx
    obtain ⟨f0, f1, f2, f3, f4, f5⟩ := hf it (by simp)
    refine wpAny_pyNext_tuple_item st (show s.heap.IsTuple a its.toArray from p) (x := u) (by simpa using hu) fun h' st' sb => ?_
    have I1 : Inv X pins σ H { s with heap := h' } := I.turned (t' := s.toks) (fun b o hb e => (sb.2 b hb).trans e) f0 f1 f3 f4 f5
    obtain ⟨o, e, c, d⟩ := id st'
    exact ⟨u, rfl, go_of (s := { s with heap := h' }) e c d (by decide) ⟨x, H, I1, ru, ⟨rfl, fun ys hy => by rw [I.tuple_inj hy hq]; exact hx⟩, st', fun b hb => (hf b hb).1⟩⟩
  done := by
    intro X hP hw hK hc i pins s σ H E I hf st hg
    subst hP hw hK
    obtain ⟨xs, hq, hx⟩ := hg
    obtain ⟨its, rv, p, hz⟩ := I.tuple hq
    obtain ⟨f0, f1, f2, f3, f4, f5⟩ := hf it (by simp)
    have hl := rv.length
    exact tup_endH I.hd st (show s.heap.IsTuple a its.toArray from p) (by simp; omega) fun h' eb => ⟨rfl, I.turned (t' := s.toks) (fun b o hb e => eb b o hb e) f0 f1 f3 f4 f5⟩
  self := fun _ _ _ _ _ st h => wpAny_pyIter_tupleiter st h
theorem turn_range {P : Program} {w : World} {K : PySem.W.Frag} {tg : Expr} (it : Addr) (lo : Int) (n : Nat) : Turn P w K tg (Itr lo n) [it] it (fun i h => IsRangeIter h it (lo + (i : Nat) * 1) ((n : Int) - (i : Nat)) 1) where
  mem := by simp
  obj := fun i h st b hb => by
    have e : b = it := by simpa using hb
    subst e
    exact ⟨_, st, fun v z => by
      have z' : Data.fields _ = Data.cell v := z
      cases z'⟩
  keep := fun i h h' st k => k it (by simp) _ st
  item := by
    intro X hP hw hK hc i pins s σ H E I hf st hg
    subst hP hw hK
    obtain ⟨f0, f1, f2, f3, f4, f5⟩ := hf it (by simp)
    refine wpAny_pyNext_range_item st (by have : i < n := hg; omega) fun h' st0 sb => ?_
    have st' : IsRangeIter h' it (lo + ((i + 1 : Nat) : Int) * 1) ((n : Int) - ((i + 1 : Nat) : Int)) 1 := by
      rw [show lo + ((i + 1 : Nat) : Int) * 1 = lo + (i : Int) * 1 + 1 by omega, show (n : Int) - ((i + 1 : Nat) : Int) = (n : Int) - (i : Int) - 1 by omega]
      exact st0
    have I1 : Inv X pins σ H { s with heap := h', toks := s.toks + 1 } := I.turned (fun b o hb e => sb.extBut b o hb e) f0 f1 f3 f4 f5
    exact ⟨_, rfl, go_of (s := { s with heap := h', toks := s.toks + 1 }) (n := "range_iterator") st' rfl rfl (by decide) ⟨.int (lo + i), H, I1, ⟨_, by rw [Int.mul_one]⟩, ⟨rfl, rfl⟩, st', fun b hb => (hf b hb).1⟩⟩
  done := by
    intro X hP hw hK hc i pins s σ H E I hf st hg
    subst hP hw hK
    obtain ⟨f0, f1, f2, f3, f4, f5⟩ := hf it (by simp)
    exact range_endH I.hd st (by have : n ≤ i := hg; omega) fun h' eb => ⟨rfl, I.turned (t' := s.toks) (fun b o hb e => eb b o hb e) f0 f1 f3 f4 f5⟩
  self := fun _ _ _ _ _ st h => wpAny_pyIter_rangeiter st h
end L2

namespace L2
open PySem PySem.Spec PyProof.Rows
section
variable {X : Cx} {tg : Expr}
def iList (K : PySem.W.Frag) (tl : TE) : TI := fun σ H R => tl σ H fun x H1 => ∃ a, x = .ref a ∧ (∃ xs, SqL K H1 a xs) ∧ R (Itl K a) H1
def iTup (K : PySem.W.Frag) (tl : TE) : TI := fun σ H R => tl σ H fun x H1 => ∃ a, x = .ref a ∧ (∃ xs, SqT K H1 a xs) ∧ R (Itt K a) H1
theorem pi_list {l : Expr} {tl : TE} (hl : PE X l tl) : PI X tg l (iList X.K tl) := by
  intro pins s σ H R I h
  refine thn (hl pins s σ H _ I h) fun v s1 => L2.ex5 fun x H1 I1 r1 q1 => ?_
  obtain ⟨a, e, ⟨xs, hq⟩, q⟩ := q1
  subst e
  cases r1
  obtain ⟨its, rv, p, hz⟩ := I1.list hq
  refine wpAny_pyIter_list p.isList ?_
  refine ⟨s1.heap.objs.size, [s1.heap.objs.size], _, _, H1, rfl, I1.kept (t' := s1.toks) fun b o e => Heap.get?_push_of_some _ e, turn_list a _, ⟨_, Heap.get?_push_size _ rfl, rfl, rfl⟩, fun b hb => ?_, q⟩
  have e : b = s1.heap.objs.size := by simpa using hb
  subst e
  exact I1.fpOk (Nat.le_refl _) (I1.hok.fresh (Nat.le_refl _))
theorem pi_tup {l : Expr} {tl : TE} (hl : PE X l tl) : PI X tg l (iTup X.K tl) := by
  intro pins s σ H R I h
  refine thn (hl pins s σ H _ I h) fun v s1 => L2.ex5 fun x H1 I1 r1 q1 => ?_
  obtain ⟨a, e, ⟨xs, hq⟩, q⟩ := q1
  subst e
  cases r1
  obtain ⟨its, rv, p, hz⟩ := I1.tuple hq
  refine wpAny_pyIter_tuple (show s1.heap.IsTuple a its.toArray from p) ?_
  refine ⟨s1.heap.objs.size, [s1.heap.objs.size], _, _, H1, rfl, I1.kept (t' := s1.toks) fun b o e => Heap.get?_push_of_some _ e, turn_tuple a _, ⟨_, Heap.get?_push_size _ rfl, rfl, rfl⟩, fun b hb => ?_, q⟩
  have e : b = s1.heap.objs.size := by simpa using hb
  subst e
  exact I1.fpOk (Nat.le_refl _) (I1.hok.fresh (Nat.le_refl _))
/-- a range object just made, walked -/
theorem range_it {pins : List (Addr × Obj)} {σ : St} {H : Hp} {s : Shared} {R : It → Hp → Prop} {E : Value → Shared → Prop} {lo hi : Int} {t u v : Tok} {tk : Nat} (I : Inv X pins σ H s) (h1 : -(2 ^ 62) ≤ lo) (h2 : lo < 2 ^ 62) (h3 : -(2 ^ 62) ≤ hi) (h4 : hi < 2 ^ 62)
    (q : R (Itr lo (hi - lo).toNat) H) : wpAny (model X.prog X.w) X.A (pyIter (.ref s.heap.objs.size)) (PIE X pins σ tg R) E { s with heap := s.heap.push { cls := .type "range", data := .fields #[.int lo t, .int hi u, .int 1 v] }, toks := tk } := by
  refine wpAny_pyIter_range (IsRange.new ..) (small_one h1 h2 h3 h4) ?_
  have I1 : Inv X pins σ H { s with heap := s.heap.push { cls := .type "range", data := .fields #[.int lo t, .int hi u, .int 1 v] }, toks := tk } := I.kept fun b o e => Heap.get?_push_of_some _ e
  refine ⟨(s.heap.push { cls := .type "range", data := .fields #[.int lo t, .int hi u, .int 1 v] }).objs.size, [(s.heap.push { cls := .type "range", data := .fields #[.int lo t, .int hi u, .int 1 v] }).objs.size], _, _, H, rfl,
    I1.kept (t' := tk) fun b o e => Heap.get?_push_of_some _ e, turn_range _ lo (hi - lo).toNat, ?_, fun b hb => ?_, q⟩
  · have e1 : lo + ((0 : Nat) : Int) * 1 = lo := by simp
    have e2 : (((hi - lo).toNat : Nat) : Int) - ((0 : Nat) : Int) = Builtin.Range.rangeSize lo hi 1 := by rw [rangeSize_one]; split <;> omega
    show IsRangeIter _ _ (lo + ((0 : Nat) : Int) * 1) ((((hi - lo).toNat : Nat) : Int) - ((0 : Nat) : Int)) 1
    rw [e1, e2]
    exact Heap.get?_push_size _ rfl
  · have e : b = (s.heap.push { cls := .type "range", data := .fields #[.int lo t, .int hi u, .int 1 v] }).objs.size := by simpa using hb
    subst e
    exact I1.fpOk (Nat.le_refl _) (I1.hok.fresh (Nat.le_refl _))
def iRng1 (ta : TA) : TI := fun σ H R => ta σ H fun vs H1 => ∃ j : Int, vs = [.int j] ∧ -(2 ^ 62) ≤ j ∧ j < 2 ^ 62 ∧ R (Itr 0 j.toNat) H1
def iRng2 (ta : TA) : TI := fun σ H R => ta σ H fun vs H1 => ∃ i j : Int, vs = [.int i, .int j] ∧ (-(2 ^ 62) ≤ i ∧ i < 2 ^ 62 ∧ -(2 ^ 62) ≤ j ∧ j < 2 ^ 62) ∧ R (Itr i (j - i).toNat) H1
theorem pi_range1 {a : Expr} {ta : TA} {p pos : Pos} (hg : Gl X "range") (hm : X.mg "range" = none) (ha : PA X [a] ta) (hs : starEach [a] X.env = [(false, eval a X.env)] := by rfl) : PI X tg (.Call (.Name "range" p) [a] [] pos) (iRng1 ta) := by
  intro pins s σ H R I h
  refine Call_ (ld_blt I hg hm boot_range (PyProof.Rows.callWith_type1 (thn (ha pos pins s σ H _ I h) fun us s1 => L2.ex5 fun vs H1 I1 r1 q1 => ?_) hs rfl))
  obtain ⟨j, e, q1, q2, q⟩ := q1
  subst e
  cases r1 with
  | cons r rr =>
    cases rr
    obtain ⟨t, rfl⟩ := r
    exact call_range_1 (range_it I1 (by omega) (by omega) q1 q2 (by simpa using q))
/-! ### for -/
/-- W: the invariant by the turn and a measure; N: what the body is to reach -/
def tFor (wi : TI) (g : TG) (tb : TS) : TS := fun D σ H => wi σ H fun J H1 => ∃ W : Nat → Nat → St → Hp → Prop, (∃ m, W 0 m σ H1) ∧ ∀ i m σ H, W i m σ H →
  (J.stop i H ∧ D.nx σ H) ∨ (J.go i H ∧ ∃ N : St → Hp → Prop, (∀ σ' H', N σ' H' → ∃ m', m' < m ∧ W (i + 1) m' σ' H') ∧ ∀ x H', J.yld i H x H' → g x σ H' fun σ2 H2 => tb { D with nx := N, ct := N, bk := D.nx } σ2 H2)
/-- the records at fp as they stand -/
def pinsAt (fp : List Addr) (h : Heap) : List (Addr × Obj) := fp.filterMap fun b => (h.get? b).map fun o => (b, o)
theorem mem_pinsAt {fp : List Addr} {h : Heap} {b : Addr} {o : Obj} (hb : b ∈ fp) (e : h.get? b = some o) : (b, o) ∈ pinsAt fp h := List.mem_filterMap.mpr ⟨b, hb, by rw [e]; rfl⟩
theorem of_pinsAt {fp : List Addr} {h : Heap} {p : Addr × Obj} (hp : p ∈ pinsAt fp h) : p.1 ∈ fp ∧ h.get? p.1 = some p.2 := by
  obtain ⟨b, hb, e⟩ := List.mem_filterMap.mp hp
  cases q : h.get? b with
  | none => rw [q] at e; cases e
  | some o =>
    rw [q] at e
    have e' : (b, o) = p := Option.some.inj e
    subst e'
    exact ⟨hb, q⟩
theorem Inv.pinned {pins : List (Addr × Obj)} {σ : St} {H : Hp} {s : Shared} {fp : List Addr} (I : Inv X pins σ H s) (hf : ∀ b ∈ fp, FpOk X pins H b) (ho : ∀ b ∈ fp, ∃ o, s.heap.get? b = some o ∧ ∀ v, o.data ≠ .cell v) : Inv X (pins ++ pinsAt fp s.heap) σ H s :=
  I.pins_of fun p hp => (List.mem_append.mp hp).elim (fun z => I.pin p (List.mem_append_right _ z)) fun z => by
    obtain ⟨hb, e⟩ := of_pinsAt z
    obtain ⟨f0, f1, f2, _⟩ := hf p.1 hb
    obtain ⟨o, e', d⟩ := ho p.1 hb
    rw [e] at e'; cases e'
    exact ⟨e, f0, f1, f2, d⟩
theorem Inv.unpinned {pins pl : List (Addr × Obj)} {σ : St} {H : Hp} {s : Shared} (I : Inv X (pins ++ pl) σ H s) : Inv X pins σ H s := I.pins_of fun p hp => I.pin p (List.mem_append_right _ (List.mem_append_left _ hp))
theorem ps_for {iter : Expr} {body : List Stmt} {wi : TI} {g : TG} {tb : TS} {pos : Pos} (hp : PassesOwn (model X.prog X.w) X.A X.env X.xe) (hc : X.calm = true) (hi : PI X tg iter wi) (hg : PG X tg g) (hb : PSs X body tb)
    (hs : ∀ x, foldedSetIterable iter X.env x = pure x := by intro _; rfl) : PS X (.For tg iter body [] pos) (tFor wi g tb) := by
  intro pins s σ H D I h
  refine wpAny_For (thn (hi pins s σ H _ I h) fun v s1 h1 => thn h1 fun itv s2 h2 => ?_) hs
  obtain ⟨it, fp, tn, J, H2, e, I2, T, st2, f2, W, ⟨m0, w0⟩, turn⟩ := h2
  subst e
  -- what stays true of the iterator's objects through the loop
  have stat : ∀ {H' : Hp}, (∀ b ∈ fp, H' b = none) → ∀ b ∈ fp, FpOk X pins H' b := fun hn b hb => ⟨hn b hb, (f2 b hb).2⟩
  refine codeAny_forLoop_any (fun n s' => ∃ i σ' H', Inv X pins σ' H' s' ∧ tn i s'.heap ∧ (∀ b ∈ fp, H' b = none) ∧ W i n σ' H') ?_ m0 ⟨0, σ, H2, I2, st2, fun b hb => (f2 b hb).1, w0⟩
  rintro n s3 ⟨i, σ3, H3, I3, st3, fr3, w3⟩
  rcases turn i n σ3 H3 w3 with ⟨stop, qn⟩ | ⟨go, N, hN, step⟩
  · refine wpAny_passesOwn hp (thn (T.done X rfl rfl rfl hc i pins s3 σ3 H3 X.xe I3 (stat fr3) st3 stop) fun r s4 ⟨hr, I4⟩ => ?_)
    subst hr
    exact wpAny_execs_nil ⟨σ3, H3, I4, qn⟩
  · refine wpAny_passesOwn hp (thn (T.item X rfl rfl rfl hc i pins s3 σ3 H3 X.xe I3 (stat fr3) st3 go) fun r s4 ⟨u, hr, h4⟩ => ?_)
    subst hr
    refine wpAny_passesOwn hp (thn h4 fun _ s5 => L2.ex5 fun x H5 I5 r5 hq_ => ?_)
    obtain ⟨y5, st5, fr5⟩ := hq_
    have I5' := I5.pinned (stat fr5) (T.obj _ _ st5)
    refine wpAny_passesOwn hp (thn (hg _ s5 σ3 H5 x u _ I5' r5 (step x H5 y5)) fun _ s6 => L2.ex4 fun σ6 H6 I6 q6 => ?_)
    refine wpAny_passesOwn hp (thn (hb _ s6 σ6 H6 _ I6 q6) fun f s7 q7 => ?_)
    have again : ∀ {σ7 : St} {H7 : Hp}, Inv X (pins ++ pinsAt fp s5.heap) σ7 H7 s7 → N σ7 H7 → ∃ m, m < n ∧ ∃ i σ' H', Inv X pins σ' H' s7 ∧ tn i s7.heap ∧ (∀ b ∈ fp, H' b = none) ∧ W i m σ' H' := fun {σ7 H7} I7 n7 => by
      obtain ⟨m', hm, w7⟩ := hN σ7 H7 n7
      refine ⟨m', hm, i + 1, σ7, H7, I7.unpinned, T.keep _ _ _ st5 fun b hb o e => (I7.pin (b, o) (List.mem_append_right _ (List.mem_append_right _ (mem_pinsAt hb e)))).1, fun b hb => ?_, w7⟩
      obtain ⟨o, e, d⟩ := T.obj _ _ st5 b hb
      exact (I7.pin (b, o) (List.mem_append_right _ (List.mem_append_right _ (mem_pinsAt hb e)))).2.1
    cases f with
    | next => obtain ⟨σ7, H7, I7, n7⟩ := q7; exact again I7 n7
    | cont => obtain ⟨σ7, H7, I7, n7⟩ := q7; exact again I7 n7
    | brk => obtain ⟨σ7, H7, I7, q7⟩ := q7; exact ⟨σ7, H7, I7.unpinned, q7⟩
    | ret v => obtain ⟨x7, σ7, H7, I7, r7, q7⟩ := q7; exact ⟨x7, σ7, H7, I7.unpinned, r7, q7⟩
end

/-! ### the forms one uses -/
/-- over a list that the body leaves as it is -/
theorem for_list {K : PySem.W.Frag} {a : Addr} {xs : List V} {g : TG} {tb : TS} {D : Ends} {σ : St} {H : Hp} (Pv : Nat → St → Hp → Prop) (h0 : Pv 0 σ H) (hl : ∀ i σ H, i ≤ xs.length → Pv i σ H → SqL K H a xs)
    (hs : ∀ i x σ H, xs[i]? = some x → Pv i σ H → g x σ H fun σ2 H2 => tb { D with nx := Pv (i + 1), ct := Pv (i + 1), bk := D.nx } σ2 H2) (hd : ∀ σ H, Pv xs.length σ H → D.nx σ H) :
    ∃ W : Nat → Nat → St → Hp → Prop, (∃ m, W 0 m σ H) ∧ ∀ i m σ H, W i m σ H →
      ((Itl K a).stop i H ∧ D.nx σ H) ∨ ((Itl K a).go i H ∧ ∃ N : St → Hp → Prop, (∀ σ' H', N σ' H' → ∃ m', m' < m ∧ W (i + 1) m' σ' H') ∧ ∀ x H', (Itl K a).yld i H x H' → g x σ H' fun σ2 H2 => tb { D with nx := N, ct := N, bk := D.nx } σ2 H2) := by
  refine ⟨fun i m σ H => m = xs.length - i ∧ i ≤ xs.length ∧ Pv i σ H, ⟨xs.length, by simp, Nat.zero_le _, h0⟩, ?_⟩
  rintro i m σ H ⟨rfl, hi, p⟩
  have q := hl i σ H hi p
  by_cases hlt : i < xs.length
  · refine .inr ⟨⟨xs, xs[i], q, by simp [hlt]⟩, Pv (i + 1), fun σ' H' p' => ⟨xs.length - (i + 1), by omega, rfl, hlt, p'⟩, fun x H' y => ?_⟩
    obtain ⟨e, y⟩ := y
    subst e
    exact hs i x σ _ (y xs q) p
  · have e : i = xs.length := by omega
    subst e
    exact .inl ⟨⟨xs, q, Nat.le_refl _⟩, hd σ H p⟩
theorem for_range {lo : Int} {n : Nat} {g : TG} {tb : TS} {D : Ends} {σ : St} {H : Hp} (Pv : Nat → St → Hp → Prop) (h0 : Pv 0 σ H)
    (hs : ∀ i σ H, i < n → Pv i σ H → g (.int (lo + i)) σ H fun σ2 H2 => tb { D with nx := Pv (i + 1), ct := Pv (i + 1), bk := D.nx } σ2 H2) (hd : ∀ σ H, Pv n σ H → D.nx σ H) :
    ∃ W : Nat → Nat → St → Hp → Prop, (∃ m, W 0 m σ H) ∧ ∀ i m σ H, W i m σ H →
      ((Itr lo n).stop i H ∧ D.nx σ H) ∨ ((Itr lo n).go i H ∧ ∃ N : St → Hp → Prop, (∀ σ' H', N σ' H' → ∃ m', m' < m ∧ W (i + 1) m' σ' H') ∧ ∀ x H', (Itr lo n).yld i H x H' → g x σ H' fun σ2 H2 => tb { D with nx := N, ct := N, bk := D.nx } σ2 H2) := by
  refine ⟨fun i m σ H => m = n - i ∧ i ≤ n ∧ Pv i σ H, ⟨n, by simp, Nat.zero_le _, h0⟩, ?_⟩
  rintro i m σ H ⟨rfl, hi, p⟩
  by_cases hlt : i < n
  · refine .inr ⟨hlt, Pv (i + 1), fun σ' H' p' => ⟨n - (i + 1), by omega, rfl, hlt, p'⟩, fun x H' y => ?_⟩
    obtain ⟨e, y⟩ := y
    subst e y
    exact hs i σ _ hlt p
  · have e : i = n := by omega
    subst e
    exact .inl ⟨Nat.le_refl _, hd σ H p⟩
end L2

namespace L2
open PySem PySem.Spec PyProof.Rows

abbrev R2 := V → V → Hp → VK → Prop
/-- a two-place operation on values: f is binaryOp op, inplaceOp op or compareOp op -/
def OpR (X : Cx) (f : Value → Value → Sem Value) (r : R2) : Prop :=
  ∀ (pins : List (Addr × Obj)) (s : Shared) (σ : St) (H : Hp) (x y : V) (v u : Value) (Q : VK), Inv X pins σ H s → RelV x v → RelV y u → r x y H Q →
    wpAny (model X.prog X.w) X.A (f v u) (EP X pins σ Q) X.xe s
/-- a one-place operation -/
def UnR (X : Cx) (f : Value → Sem Value) (r : V → Hp → VK → Prop) : Prop :=
  ∀ (pins : List (Addr × Obj)) (s : Shared) (σ : St) (H : Hp) (x : V) (v : Value) (Q : VK), Inv X pins σ H s → RelV x v → r x H Q →
    wpAny (model X.prog X.w) X.A (f v) (EP X pins σ Q) X.xe s
/-- a call of a value that is known (a builtin, a type) with values -/
def CallR (X : Cx) (f : Value) (r : List V → Hp → VK → Prop) : Prop :=
  ∀ (pins : List (Addr × Obj)) (s : Shared) (σ : St) (H : Hp) (xs : List V) (us : List Value) (Q : VK), Inv X pins σ H s → Vals xs us → r xs H Q →
    wpAny (model X.prog X.w) X.A (call f us) (EP X pins σ Q) X.xe s
/-- a value's truth -/
def TruR (X : Cx) (r : V → Hp → (Bool → Hp → Prop) → Prop) : Prop :=
  ∀ (pins : List (Addr × Obj)) (s : Shared) (σ : St) (H : Hp) (x : V) (v : Value) (Q : Bool → Hp → Prop), Inv X pins σ H s → RelV x v → r x H Q →
    wpAny (model X.prog X.w) X.A (truthy v) (TP X pins σ Q) X.xe s

def tOp (r : R2) (ta tb : TE) : TE := fun σ H Q => ta σ H fun x H1 => tb σ H1 fun y H2 => r x y H2 Q
def tUn (r : V → Hp → VK → Prop) (ta : TE) : TE := fun σ H Q => ta σ H fun x H1 => r x H1 Q
/-- ints in, under C, and a value out -/
def rI (C : Int → Int → Prop) (g : Int → Int → V) : R2 := fun x y H Q => ∃ i j, x = .int i ∧ y = .int j ∧ C i j ∧ Q (g i j) H
def rI0 (g : Int → Int → V) : R2 := fun x y H Q => ∃ i j, x = .int i ∧ y = .int j ∧ Q (g i j) H
def rU (g : Int → V) : V → Hp → VK → Prop := fun x H Q => ∃ i, x = .int i ∧ Q (g i) H

section
variable {X : Cx} {a b c : Expr} {ta tb tc : TE} {pos : Pos}

theorem binT (ha : PE X a ta) (hb : PE X b tb) {pins : List (Addr × Obj)} {s : Shared} {σ : St} {H : Hp} {R : V → V → Hp → Prop} (I : Inv X pins σ H s)
    (h : ta σ H fun x H1 => tb σ H1 fun y H2 => R x y H2) {Q : Value → Shared → Prop} {f : Value → Value → Sem Value}
    (hf : ∀ v u s2 x y H2, Inv X pins σ H2 s2 → RelV x v → RelV y u → R x y H2 → wpAny (model X.prog X.w) X.A (f v u) Q X.xe s2) :
    wpAny (model X.prog X.w) X.A (eval a X.env) (fun v s₁ => wpAny (model X.prog X.w) X.A (eval b X.env) (fun u s₂ => wpAny (model X.prog X.w) X.A (f v u) Q X.xe s₂) X.xe s₁) X.xe s := by
  refine thn (ha pins s σ H _ I h) fun v s1 => L2.ex5 fun x H1 I1 r1 q1 => ?_
  refine thn (hb pins s1 σ H1 _ I1 q1) fun u s2 => L2.ex5 fun y H2 I2 r2 q2 => ?_
  exact hf v u s2 x y H2 I2 r1 r2 q2

theorem pe_op {op : Operator} {r : R2} (ho : OpR X (binaryOp op) r) (ha : PE X a ta) (hb : PE X b tb) : PE X (.BinOp a op b pos) (tOp r ta tb) := by
  intro pins s σ H Q I h
  exact wpAny_BinOp (binT ha hb I h fun v u s2 x y H2 I2 rx ry q => ho pins s2 σ H2 x y v u Q I2 rx ry q)
/-! ### ints -/
theorem opI {f : Value → Value → Sem Value} {C : Int → Int → Prop} {g : Int → Int → Int}
    (rule : ∀ (i j : Int) (t u : Tok) (s : Shared) (Q : Value → Shared → Prop) (E : Value → Shared → Prop), C i j → Q (.int (g i j) s.toks) { s with toks := s.toks + 1 } → wpAny (model X.prog X.w) X.A (f (.int i t) (.int j u)) Q E s) :
    OpR X f (rI C fun i j => .int (g i j)) := by
  intro pins s σ H x y v u Q I rx ry h
  obtain ⟨i, j, rfl, rfl, hc, q⟩ := h
  obtain ⟨t, rfl⟩ := rx
  obtain ⟨t', rfl⟩ := ry
  exact rule i j t t' s _ _ hc ⟨.int (g i j), H, I.tok _, ⟨_, rfl⟩, q⟩
theorem opI0 {f : Value → Value → Sem Value} {g : Int → Int → Int}
    (rule : ∀ (i j : Int) (t u : Tok) (s : Shared) (Q : Value → Shared → Prop) (E : Value → Shared → Prop), Q (.int (g i j) s.toks) { s with toks := s.toks + 1 } → wpAny (model X.prog X.w) X.A (f (.int i t) (.int j u)) Q E s) :
    OpR X f (rI0 fun i j => .int (g i j)) := by
  intro pins s σ H x y v u Q I rx ry h
  obtain ⟨i, j, rfl, rfl, q⟩ := h
  obtain ⟨t, rfl⟩ := rx
  obtain ⟨t', rfl⟩ := ry
  exact rule i j t t' s _ _ ⟨.int (g i j), H, I.tok _, ⟨_, rfl⟩, q⟩
theorem opB0 {f : Value → Value → Sem Value} {g : Int → Int → Bool}
    (rule : ∀ (i j : Int) (t u : Tok) (s : Shared) (Q : Value → Shared → Prop) (E : Value → Shared → Prop), Q (.bool (g i j)) s → wpAny (model X.prog X.w) X.A (f (.int i t) (.int j u)) Q E s) :
    OpR X f (rI0 fun i j => .bl (g i j)) := by
  intro pins s σ H x y v u Q I rx ry h
  obtain ⟨i, j, rfl, rfl, q⟩ := h
  obtain ⟨t, rfl⟩ := rx
  obtain ⟨t', rfl⟩ := ry
  exact rule i j t t' s _ _ ⟨.bl (g i j), H, I, rfl, q⟩

def CDiv (i j : Int) : Prop := 0 < j ∧ j < 1073741824
def CDivN (i j : Int) : Prop := j ≠ 0 ∧ j.natAbs < 1073741824
def CPow (i j : Int) : Prop := 0 ≤ j ∧ j ≤ 1000000 ∧ i.natAbs < 2 ^ 64
def CMul (i j : Int) : Prop := (-(2 ^ 64) < i ∧ i < 2 ^ 64) ∨ (-(2 ^ 64) < j ∧ j < 2 ^ 64)
theorem CMul.ok {i j : Int} (h : CMul i j) : IntMulOk i j := by
  rcases h with ⟨h1, h2⟩ | ⟨h1, h2⟩
  · exact .of_left (intBits_le_64 h1 h2)
  · exact .of_right (intBits_le_64 h1 h2)
theorem op_add : OpR X (binaryOp .Add) (rI0 fun i j => .int (i + j)) := opI0 fun _ _ _ _ _ _ _ q => add_int q
theorem op_sub : OpR X (binaryOp .Sub) (rI0 fun i j => .int (i - j)) := opI0 fun _ _ _ _ _ _ _ q => sub_int q
theorem op_mul : OpR X (binaryOp .Mult) (rI CMul fun i j => .int (i * j)) := opI fun _ _ _ _ _ _ _ hc q => mul_int q hc.ok
/-- // by a positive divisor -/
theorem op_fdiv : OpR X (binaryOp .FloorDiv) (rI CDiv fun i j => .int (i / j)) := opI fun i j _ _ _ _ _ hc q => by
  have h1 : (0 : Int) < j := hc.1
  have h2 : j < 1073741824 := hc.2
  exact floordiv_int (by omega) (by rw [Int.fdiv_eq_ediv_of_nonneg i (by omega)]; exact q) (.inl (PyProof.noPylong_small (by omega)))
/-- % by a positive divisor of any size -/
theorem op_mod : OpR X (binaryOp .Mod) (rI (fun _ j => 0 < j) fun i j => .int (i % j)) := opI fun i j _ _ _ _ _ hc q => by
  have h1 : (0 : Int) < j := hc
  exact mod_int' (by omega) (by rw [Int.fmod_eq_emod_of_nonneg i (by omega)]; exact q)
theorem op_pow : OpR X (binaryOp .Pow) (rI CPow fun i j => .int (i ^ j.toNat)) := opI fun _ _ _ _ _ _ _ hc q => pow_int_small hc.1 hc.2.1 hc.2.2 q
/-! ### bools among ints: n += (a < b) -/
end

/-! ### comparisons -/
/-- the scalars that == tells apart as data does -/
def scal : V → V → Bool
  | .non, .non => true | .non, .int _ => true | .int _, .non => true | .non, .bl _ => true | .bl _, .non => true | .non, .str _ => true | .str _, .non => true
  | .int _, .int _ => true | .bl _, .bl _ => true | .str _, .str _ => true | .byt _, .byt _ => true
  | .int _, .str _ => true | .str _, .int _ => true | .bl _, .str _ => true | .str _, .bl _ => true
  | _, _ => false
def rEq : R2 := fun x y H Q => scal x y = true ∧ Q (.bl (decide (x = y))) H
def rNe : R2 := fun x y H Q => scal x y = true ∧ Q (.bl (!decide (x = y))) H

theorem dec_int {i j : Int} : decide (V.int i = V.int j) = (i == j) := by
  rw [Bool.eq_iff_iff]
  simp
theorem dec_bl {i j : Bool} : decide (V.bl i = V.bl j) = (i == j) := by
  rw [Bool.eq_iff_iff]
  simp
theorem dec_str {i j : Str} : decide (V.str i = V.str j) = (i == j) := by
  rw [Bool.eq_iff_iff]
  simp
theorem dec_byt {i j : Array UInt8} : decide (V.byt i = V.byt j) = (i.toList == j.toList) := by
  rw [Bool.eq_iff_iff]
  cases i
  cases j
  simp

section
variable {X : Cx} {a b c : Expr} {ta tb tc : TE} {pos : Pos}
theorem fin_bl {pins : List (Addr × Obj)} {σ : St} {H : Hp} {s : Shared} {Q : VK} {k k' : Bool} (I : Inv X pins σ H s) (q : Q (.bl k) H) (e : k = k') : EP X pins σ Q (.bool k') s := by
  subst e
  exact ⟨.bl k, H, I, rfl, q⟩
theorem op_eq : OpR X (compareOp .Eq) rEq := by
  intro pins s σ H x y v u Q I rx ry h
  obtain ⟨hs, q⟩ := h
  cases x with
  | non =>
    cases rx
    cases y with
    | non => cases ry; exact PySem.EqNone.eq_none_none (fin_bl I q (by simp))
    | bl j => cases ry; exact PySem.EqNone.eq_none_bool (fin_bl I q (by simp))
    | int j => obtain ⟨t', rfl⟩ := ry; exact PySem.EqNone.eq_none_int (fin_bl I q (by simp))
    | str j => obtain ⟨t', rfl⟩ := ry; exact PySem.EqNone.eq_none_str (fin_bl I q (by simp))
    | _ => exact absurd (show false = true from hs) Bool.false_ne_true
  | bl i =>
    cases rx
    cases y with
    | non => cases ry; exact PySem.EqNone.eq_bool_none (fin_bl I q (by simp))
    | bl j => cases ry; exact eq_bool (fin_bl I q dec_bl)
    | str j => obtain ⟨t', rfl⟩ := ry; exact PySem.EqMixed.eq_bool_str (fin_bl I q (by simp))
    | _ => exact absurd (show false = true from hs) Bool.false_ne_true
  | int i =>
    obtain ⟨t, rfl⟩ := rx
    cases y with
    | non => cases ry; exact PySem.EqNone.eq_int_none (fin_bl I q (by simp))
    | int j => obtain ⟨t', rfl⟩ := ry; exact eq_int (fin_bl I q dec_int)
    | str j => obtain ⟨t', rfl⟩ := ry; exact PySem.EqMixed.eq_int_str (fin_bl I q (by simp))
    | _ => exact absurd (show false = true from hs) Bool.false_ne_true
  | str i =>
    obtain ⟨t, rfl⟩ := rx
    cases y with
    | non => cases ry; exact PySem.EqNone.eq_str_none (fin_bl I q (by simp))
    | bl j => cases ry; exact PySem.EqMixed.eq_str_bool (fin_bl I q (by simp))
    | int j => obtain ⟨t', rfl⟩ := ry; exact PySem.EqMixed.eq_str_int (fin_bl I q (by simp))
    | str j => obtain ⟨t', rfl⟩ := ry; exact eq_str (fin_bl I q dec_str)
    | _ => exact absurd (show false = true from hs) Bool.false_ne_true
  | byt i =>
    obtain ⟨t, rfl⟩ := rx
    cases y with
    | byt j => obtain ⟨t', rfl⟩ := ry; exact PySem.W.eq_bytes (fin_bl I q dec_byt)
    | _ => exact absurd (show false = true from hs) Bool.false_ne_true
  | _ => cases y <;> exact absurd (show false = true from hs) Bool.false_ne_true
theorem op_ne : OpR X (compareOp .NotEq) rNe := by
  intro pins s σ H x y v u Q I rx ry h
  obtain ⟨hs, q⟩ := h
  cases x with
  | non =>
    cases rx
    cases y with
    | non => cases ry; exact PySem.EqNone.ne_none_none (fin_bl I q (by simp))
    | bl j => cases ry; exact PySem.EqNone.ne_none_bool (fin_bl I q (by simp))
    | int j => obtain ⟨t', rfl⟩ := ry; exact PySem.EqNone.ne_none_int (fin_bl I q (by simp))
    | str j => obtain ⟨t', rfl⟩ := ry; exact PySem.EqNone.ne_none_str (fin_bl I q (by simp))
    | _ => exact absurd (show false = true from hs) Bool.false_ne_true
  | bl i =>
    cases rx
    cases y with
    | non => cases ry; exact PySem.EqNone.ne_bool_none (fin_bl I q (by simp))
    | bl j => cases ry; exact ne_bool (fin_bl I q (congrArg not dec_bl))
    | str j => obtain ⟨t', rfl⟩ := ry; exact PySem.EqMixed.ne_bool_str (fin_bl I q (by simp))
    | _ => exact absurd (show false = true from hs) Bool.false_ne_true
  | int i =>
    obtain ⟨t, rfl⟩ := rx
    cases y with
    | non => cases ry; exact PySem.EqNone.ne_int_none (fin_bl I q (by simp))
    | int j => obtain ⟨t', rfl⟩ := ry; exact ne_int (fin_bl I q (congrArg not dec_int))
    | str j => obtain ⟨t', rfl⟩ := ry; exact PySem.EqMixed.ne_int_str (fin_bl I q (by simp))
    | _ => exact absurd (show false = true from hs) Bool.false_ne_true
  | str i =>
    obtain ⟨t, rfl⟩ := rx
    cases y with
    | non => cases ry; exact PySem.EqNone.ne_str_none (fin_bl I q (by simp))
    | bl j => cases ry; exact PySem.EqMixed.ne_str_bool (fin_bl I q (by simp))
    | int j => obtain ⟨t', rfl⟩ := ry; exact PySem.EqMixed.ne_str_int (fin_bl I q (by simp))
    | str j => obtain ⟨t', rfl⟩ := ry; exact ne_str (fin_bl I q (congrArg not dec_str))
    | _ => exact absurd (show false = true from hs) Bool.false_ne_true
  | byt i =>
    obtain ⟨t, rfl⟩ := rx
    cases y with
    | byt j => obtain ⟨t', rfl⟩ := ry; exact PySem.W.ne_bytes (fin_bl I q (congrArg not dec_byt))
    | _ => exact absurd (show false = true from hs) Bool.false_ne_true
  | _ => cases y <;> exact absurd (show false = true from hs) Bool.false_ne_true

theorem op_lt : OpR X (compareOp .Lt) (rI0 fun i j => .bl (decide (i < j))) := opB0 fun _ _ _ _ _ _ _ q => lt_int q
theorem op_le : OpR X (compareOp .LtE) (rI0 fun i j => .bl (decide (i ≤ j))) := opB0 fun _ _ _ _ _ _ _ q => le_int q
theorem op_gt : OpR X (compareOp .Gt) (rI0 fun i j => .bl (decide (j < i))) := opB0 fun _ _ _ _ _ _ _ q => gt_int q
theorem op_ge : OpR X (compareOp .GtE) (rI0 fun i j => .bl (decide (j ≤ i))) := opB0 fun _ _ _ _ _ _ _ q => ge_int q
/-- the one string within the other -/
theorem op_in_str : OpR X (compareOp .In) (fun x y H Q => ∃ i j, x = .str i ∧ y = .str j ∧ Q (.bl (!(Builtin.Str.occurrences j i 0 j.length 1).isEmpty)) H) := by
  intro pins s σ H x y v u Q I rx ry h
  obtain ⟨i, j, rfl, rfl, q⟩ := h
  obtain ⟨t, rfl⟩ := rx
  obtain ⟨t', rfl⟩ := ry
  exact in_str (fin_bl I q rfl)

/-- is, is not of two objects that are tracked lists or instances -/
def isObj : HO → Bool
  | .lst _ => true
  | .ins _ _ _ => true
  | _ => false
theorem nomark (b : Expr) {op : CmpOp} (h : op ≠ .In := by decide) (h2 : op ≠ .NotIn := by decide) : behindInMarks op b = false := by
  have e1 : (op == CmpOp.In) = false := by cases op <;> first | rfl | exact absurd rfl h
  have e2 : (op == CmpOp.NotIn) = false := by cases op <;> first | rfl | exact absurd rfl h2
  cases b <;> simp [behindInMarks, e1, e2]
/-- a comparison as a value; hm: nomark b, or (for in, not in) by with_unfolding_all rfl -/
theorem pe_cmpR {op : CmpOp} {r : R2} (ho : OpR X (compareOp op) r) (ha : PE X a ta) (hb : PE X b tb) (hm : behindInMarks op b = false) : PE X (.Compare a [op] [b] pos) (tOp r ta tb) := by
  intro pins s σ H Q I h
  exact wpAny_Compare1 (binT ha hb I h fun v u s2 x y H2 I2 rx ry q => ho pins s2 σ H2 x y v u Q I2 rx ry q) hm
/-- a reading of a value as a test -/
def tTest (t : TE) : TT := fun σ H Q => t σ H fun x H' => ∃ k, x = .bl k ∧ Q k H'
theorem pt_cmpR {op : CmpOp} {r : R2} (ho : OpR X (compareOp op) r) (ha : PE X a ta) (hb : PE X b tb) (hm : behindInMarks op b = false) : PT X (.Compare a [op] [b] pos) (tTest (tOp r ta tb)) := by
  intro pins s σ H Q I h
  refine wpAny_isTrue_Compare1 (thn (ha pins s σ H _ I h) fun v s1 => L2.ex5 fun x H1 I1 r1 q1 => thn (hb pins s1 σ H1 _ I1 q1) fun u s2 => L2.ex5 fun y H2 I2 r2 q2 =>
    thn (ho pins s2 σ H2 x y v u _ I2 r1 r2 q2) fun c s3 ⟨z, H3, I3, r3, k, e, q3⟩ => ?_) hm
  subst e
  cases r3
  exact wpAny_truthy_bool ⟨H3, I3, q3⟩
/-- a op1 b op2 c -/
def tChain (r r' : R2) (ta tb tc : TE) : TE := fun σ H Q => ta σ H fun x H1 => tb σ H1 fun y H2 => r x y H2 fun z H3 => ∃ k, z = .bl k ∧
  (if k = true then tc σ H3 fun w' H4 => r' y w' H4 Q else Q (.bl false) H3)
/-! ### truth -/
/-- a value's truth by the abstract heap -/
def TruV (K : PySem.W.Frag) (x : V) (H : Hp) (k : Bool) : Prop :=
  match x with
  | .non => k = false
  | .bl b => k = b
  | .int i => k = (i != 0)
  | .str y => y.length ≤ sizeLine ∧ k = ((y.length : Int) != 0)
  | .byt y => y.size ≤ sizeLine ∧ k = ((y.size : Int) != 0)
  | .ref p => (∃ xs, SqL K H p xs ∧ k = !xs.isEmpty) ∨ (∃ xs, SqT K H p xs ∧ k = !xs.isEmpty) ∨ ∃ kvs, H p = some (.dK kvs) ∧ k = !kvs.isEmpty
  | _ => False
theorem isEmpty_kv {κ : Type} {kvs : List (κ × V)} {vs : List (κ × Value)} (r : KV kvs vs) : (!vs.isEmpty) = !kvs.isEmpty := by
  cases r <;> rfl
theorem isEmpty_of {xs : List V} {its : List Value} (r : Vals xs its) : (!its.toArray.isEmpty) = !xs.isEmpty := by
  cases r <;> simp
theorem line63 : (sizeLine : Nat) < 2 ^ 63 := by rw [sizeLine_eq]; decide
theorem tru_ok : TruR X (fun x H Q => ∃ k, TruV X.K x H k ∧ Q k H) := by
  intro pins s σ H x v Q I rx h
  obtain ⟨k, e, q⟩ := h
  have hl := line63
  have hs : sizeLine = 16777216 := sizeLine_eq
  cases x with
  | non =>
    cases rx
    have e' : k = false := e
    subst e'
    exact truthy_none ⟨H, I, q⟩
  | bl b =>
    cases rx
    have e' : k = b := e
    subst e'
    exact wpAny_truthy_bool ⟨H, I, q⟩
  | int i =>
    obtain ⟨t, rfl⟩ := rx
    have e' : k = (i != 0) := e
    subst e'
    exact PySem.P.truthy_int ⟨H, I, q⟩
  | str y =>
    obtain ⟨t, rfl⟩ := rx
    obtain ⟨hy, e'⟩ : y.length ≤ sizeLine ∧ k = ((y.length : Int) != 0) := e
    subst e'
    exact PySem.P.truthy_str (by omega) ⟨H, I.tok _, q⟩
  | byt y =>
    obtain ⟨t, rfl⟩ := rx
    obtain ⟨hy, e'⟩ : y.size ≤ sizeLine ∧ k = ((y.size : Int) != 0) := e
    subst e'
    exact PySem.W.truthy_bytes (by omega) ⟨H, I.tok _, q⟩
  | ref p =>
    cases rx
    have e' : (∃ xs, SqL X.K H p xs ∧ k = !xs.isEmpty) ∨ (∃ xs, SqT X.K H p xs ∧ k = !xs.isEmpty) ∨ ∃ kvs, H p = some (.dK kvs) ∧ k = !kvs.isEmpty := e
    rcases e' with ⟨xs, hx, e'⟩ | ⟨xs, hx, e'⟩ | ⟨kvs, hx, e'⟩
    · subst e'
      obtain ⟨its, r, pl, hz⟩ := I.list hx
      have hlen := r.length
      exact wpAny_truthy_list pl.isList (by simp only [List.size_toArray]; omega) ⟨H, I.tok _, by rw [isEmpty_of r]; exact q⟩
    · subst e'
      obtain ⟨its, r, pl, hz⟩ := I.tuple hx
      have hlen := r.length
      exact truthy_tuple pl (by simp only [List.size_toArray]; omega) ⟨H, I.tok _, by rw [isEmpty_of r]; exact q⟩
    · subst e'
      obtain ⟨hz, hS, vs, r, m⟩ : kvs.length ≤ sizeLine ∧ (p == sysModules) = false ∧ ∃ vs, KV kvs vs ∧ s.heap.DictOf (mixKind X.prog X.w) p vs := I.hok p _ hx
      have hlen : kvs.length = vs.length := Paired.length r
      exact wpAny_truthy_dict hS m (by omega) ⟨H, I.tok _, by rw [isEmpty_kv r]; exact q⟩
  | _ => exact (show False from e).elim
/-- any expression whose test is its value's truth (a name, a call, a subscript, a field ..: he by fun _ => rfl) -/
theorem pt_truth (ha : PE X a ta) (he : ∀ whole, isTrue a X.env whole = (do let v ← whole; standAt a.pos; holding [v] (truthy v))) :
    PT X a (fun σ H Q => ta σ H fun x H' => ∃ k, TruV X.K x H' k ∧ Q k H') := by
  intro pins s σ H Q I h
  exact isTrue_plain (thn (ha pins s σ H _ I h) fun v s1 => L2.ex5 fun x H1 I1 r1 q1 => tru_ok pins s1 σ H1 x v Q I1 r1 q1) (he _)

/-! ### strs and bytes -/
def PlainIxT (b : Expr) : Prop := ∀ o i, subscripted b false o i = operate [o, i] (getItem o i)
/-! ### scalar builtins, by CallR -/
theorem vals1 {x : V} {us : List Value} (r : Vals [x] us) : ∃ u, us = [u] ∧ RelV x u := by
  cases r with
  | cons r1 r2 => cases r2; exact ⟨_, rfl, r1⟩
theorem vals2 {x y : V} {us : List Value} (r : Vals [x, y] us) : ∃ u w', us = [u, w'] ∧ RelV x u ∧ RelV y w' := by
  cases r with
  | cons r1 r2 =>
    cases r2 with
    | cons r3 r4 => cases r4; exact ⟨_, _, rfl, r1, r3⟩
/-- len of a str, a bytes, a list, a tuple -/
def LenV (K : PySem.W.Frag) (x : V) (H : Hp) (n : Nat) : Prop :=
  match x with
  | .str y => y.length ≤ sizeLine ∧ n = y.length
  | .byt y => y.size ≤ sizeLine ∧ n = y.size
  | .ref p => (∃ xs, SqL K H p xs ∧ n = xs.length) ∨ ∃ xs, SqT K H p xs ∧ n = xs.length
  | _ => False
end
end L2

namespace L2
open PySem PySem.Spec PyProof.Rows

/-! ### an instance, its attributes a map -/
structure ObjM (h : Heap) (x dx C : Addr) (mA : Str → Option Value) : Prop where
  obj : h.get? x = some (PySem.W.instObj C dx)
  ns : h.Ns1 dx mA
  ne : dx ≠ x

theorem lookIn_ns {h : Heap} {dx : Addr} {mA : Str → Option Value} (n : h.Ns1 dx mA) : ∃ od, h.get? dx = some od ∧ ∀ name, PySem.W.lookIn name od = some (mA name) := by
  obtain ⟨o, es, ep, ho, hd, hk, _, hm⟩ := n
  refine ⟨o, ho, fun name => ?_⟩
  have e := hm name
  unfold nsFind findBy at e
  rw [← Array.find?_toList] at e
  unfold PySem.W.lookIn
  rw [hd]
  dsimp only
  split
  · rename_i y q
    rw [q] at e
    exact congrArg some e
  · rename_i q
    rw [q] at e
    have a : es.toList.any (·.refKey) = false := by
      rw [List.any_eq_false]
      intro y hy
      obtain ⟨z, t, hkey⟩ := hk y (Array.mem_toList_iff.mp hy)
      simp [DictEntry.refKey, hkey]
    have a' : ¬ es.toList.any (·.refKey) = true := by rw [a]; exact Bool.false_ne_true
    rw [if_neg a']
    exact congrArg some e

theorem ObjM.look {h : Heap} {x dx C : Addr} {mA : Str → Option Value} (I : ObjM h x dx C mA) : ∃ od, PySem.W.InstAt h x (PySem.W.instObj C dx) C (some od) ∧ ∀ name, PySem.W.lookIn name od = some (mA name) :=
  let ⟨od, ho, hl⟩ := lookIn_ns I.ns
  ⟨od, ⟨I.obj, rfl, rfl, ho⟩, hl⟩

section
variable {prog : Program} {w : World} {A : Around} {E : Value → Shared → Prop} {s : Shared} {K : PySem.W.Frag} {x dx C f : Addr} {mA : Str → Option Value} {name : Str} {v : Value}

theorem get_map {expr : Bool} {Q : Value → Shared → Prop} (X : K.In s.heap) (I : ObjM s.heap x dx C mA) (hg : PySem.W.plainGet K C name = true) (hh : PySem.W.hasDictIn K C = true)
    (ha : PySem.W.findIn K (.ref C) name = some none) (hv : mA name = some v) (hv' : PySem.W.handedIn v = true) (h : Q v { s with toks := s.toks + 1 }) :
    wpAny (model prog w) A (getAttr (.ref x) name expr) Q E s := by
  obtain ⟨od, J, hl⟩ := I.look
  exact PySem.W.get_value X J (PySem.W.plainGet_of hg).1 (PySem.W.findObj_own hh ha rfl (by rw [hl, hv])) hv' h

theorem get_meth {pl : Sem Bool} {Q : Value × List Value → Shared → Prop} (X : K.In s.heap) (I : ObjM s.heap x dx C mA) (hg : PySem.W.plainGet K C name = true)
    (hf : PySem.W.findIn K (.ref C) name = some (some (.ref f))) (ht : PySem.W.isFn K (.ref f) = true) (hv : mA name = none) (h : Q (.ref f, [.ref x]) s) :
    wpAny (model prog w) A (getMethod (.ref x) name pl) Q E s := by
  obtain ⟨od, J, hl⟩ := I.look
  exact PySem.W.method_fn X J (PySem.W.plainGet_of hg).1 (PySem.W.plainGet_of hg).2 hf (beq_iff_eq.mp ht) (by show (PySem.W.lookIn name od).map (·.isSome) = some false; rw [hl, hv]; rfl) h

theorem set_map {ns : List Str} {Q : Unit → Shared → Prop} (X : K.In s.heap) (I : ObjM s.heap x dx C mA)
    (hs : PySem.W.findIn K (.ref C) "__setattr__" = some (some (.builtin "object.__setattr__"))) (hp : PySem.W.plainOver K C = true) (ht : PySem.W.takerIn K C name = some none) (hh : PySem.W.hasDictIn K C = true)
    (hw : PySem.Within mA ns) (hsz : ns.length ≤ sizeLine)
    (h : ∀ h', ObjM h' x dx C (fun y => if y = name then some v else mA y) → Heap.SameBut dx s.heap h' → Q () { s with heap := h', toks := s.toks + 2 }) :
    wpAny (model prog w) A (setAttr (.ref x) name v) Q E s := by
  obtain ⟨od, J, hl⟩ := I.look
  refine PySem.W.set_plain X J hs (PySem.W.osa_open (s := { s with toks := s.toks + 1 }) (r := none) X J hp ht fun b => ?_)
  obtain ⟨cd, hc, hd'⟩ := PySem.W.any_some hh
  have hx : s.heap.get? x = some ⟨.ref C, some dx, .plain, #[]⟩ := I.obj
  refine wpAny_bind (wpAny_pure (wpAny_bind (wpAny_bind (wpAny_loadPart hx (wpAny_bind (PySem.W.Looks.here (s := { s with toks := s.toks + 1 }) (PySem.W.looks_clsIn X hc) ?_))))))
  rw [hd']
  refine wpAny_pure (a := some dx) (wpAny_bind (wpAny_pure (wpAny_bind ?_)))
  refine wpAny_nsSet1 (s := { s with toks := s.toks + 1 }) I.ns fun h' hn2 hs2 => ?_
  obtain ⟨oD, esD, epD, hoD, hdD, hcD⟩ := hn2.count (PySem.Within.cons name v hw)
  refine wpAny_bind (wpAny_lookBehind hoD (by rw [hdD]; exact pastItsLine_dict (Nat.le_trans hcD (by rw [List.length_cons]; omega))) ?_)
  exact wpAny_pure (h _ ⟨(hs2.2 _ (Ne.symm I.ne)).trans I.obj, hn2, I.ne⟩ hs2)

/-- C(..): the dict at the heap's end, the instance behind it; then its __init__ -/
theorem make_map {R : Result → Shared → Prop} {vs : List Value} {kw : List (Str × Value)} (X : K.In s.heap) (hm : PySem.W.makesIn K C = true)
    (hi : PySem.W.findIn K (.ref C) "__init__" = some (some (.ref f))) (hf : PySem.W.typeIn K (.ref f) = some (.type "function"))
    (h : codeAny (model prog w) (A.under (.builtin "type.__call__" ⟨.ref C :: vs, kw⟩)) (.call (.ref f) ⟨.ref (s.heap.objs.size + 1) :: vs, kw⟩) (PySem.W.InitBack (s.heap.objs.size + 1) R)
      { s with heap := (s.heap.push PySem.W.emptyDict).push (PySem.W.instObj C s.heap.objs.size) }) :
    codeAny (model prog w) A (.call (.ref C) ⟨vs, kw⟩) R s := by
  obtain ⟨hh, g, d, t, os⟩ := s
  exact PySem.W.make_core (PySem.W.makes_of X hm) (PySem.W.looks_findIn X hi) (fun self => PySem.W.bind_fn X self hf) (.inl rfl) h
end

/-! ### the attributes as a list of pairs -/
def putF (f : Str) (v : V) : List (Str × V) → List (Str × V)
  | [] => [(f, v)]
  | (g, x) :: r => if g = f then (g, v) :: r else (g, x) :: putF f v r
theorem lookup_putF (f g : Str) (v : V) : ∀ fs : List (Str × V), (putF f v fs).lookup g = if g = f then some v else fs.lookup g
  | [] => by
    show List.lookup g [(f, v)] = _
    by_cases h : g = f
    · have hb : (g == f) = true := beq_iff_eq.mpr h
      simp only [List.lookup, hb, if_pos h]
    · have hb : (g == f) = false := beq_eq_false_iff_ne.mpr h
      simp only [List.lookup, hb, if_neg h]
  | (k, x) :: r => by
    have ih := lookup_putF f g v r
    rw [show putF f v ((k, x) :: r) = (if k = f then (k, v) :: r else (k, x) :: putF f v r) from rfl]
    by_cases hk : k = f
    · rw [if_pos hk]
      by_cases h : g = k
      · have hb : (g == k) = true := beq_iff_eq.mpr h
        simp only [List.lookup, hb, if_pos (h.trans hk)]
      · have hb : (g == k) = false := beq_eq_false_iff_ne.mpr h
        simp only [List.lookup, hb, if_neg (fun e : g = f => h (e.trans hk.symm))]
    · rw [if_neg hk]
      by_cases h : g = k
      · have hb : (g == k) = true := beq_iff_eq.mpr h
        simp only [List.lookup, hb, if_neg (fun e : g = f => hk (h.symm.trans e))]
      · have hb : (g == k) = false := beq_eq_false_iff_ne.mpr h
        simp only [List.lookup, hb]
        exact ih
theorem keys_putF (f : Str) (v : V) : ∀ fs : List (Str × V), f ∈ (putF f v fs).map (·.1) ∧ ∀ g, g ∈ fs.map (·.1) → g ∈ (putF f v fs).map (·.1)
  | [] => ⟨by simp [putF], fun g h => by simp at h⟩
  | (k, x) :: r => by
    obtain ⟨i1, i2⟩ := keys_putF f v r
    rw [show putF f v ((k, x) :: r) = (if k = f then (k, v) :: r else (k, x) :: putF f v r) from rfl]
    by_cases hk : k = f
    · rw [if_pos hk]
      subst hk
      exact ⟨by simp, fun g h => by simpa using h⟩
    · rw [if_neg hk]
      refine ⟨?_, fun g h => ?_⟩
      · rw [List.map_cons]
        exact List.mem_cons_of_mem _ i1
      · rw [List.map_cons] at h ⊢
        rcases List.mem_cons.mp h with e | e
        · exact List.mem_cons.mpr (.inl e)
        · exact List.mem_cons_of_mem _ (i2 g e)
theorem length_putF (f : Str) (v : V) : ∀ fs : List (Str × V), (putF f v fs).length ≤ fs.length + 1
  | [] => by simp [putF]
  | (k, x) :: r => by
    have ih := length_putF f v r
    rw [show putF f v ((k, x) :: r) = (if k = f then (k, v) :: r else (k, x) :: putF f v r) from rfl]
    by_cases hk : k = f
    · rw [if_pos hk, List.length_cons, List.length_cons]; omega
    · rw [if_neg hk, List.length_cons, List.length_cons]; omega

theorem RelO.some_of {v : V} {o : Option Value} (r : RelO (some v) o) : ∃ u, o = some u ∧ RelV v u := by
  cases o with
  | none => exact (show False from r).elim
  | some u => exact ⟨u, rfl, r⟩
theorem RelO.none_of {o : Option Value} (r : RelO none o) : o = none := by
  cases o with
  | none => rfl
  | some u => exact (show False from r).elim
theorem handed_of {v : V} {u : Value} (r : RelV v u) : PySem.W.handedIn u = true := by
  cases v with
  | non => cases (show u = Value.none from r); rfl
  | bl b => cases (show u = Value.bool b from r); rfl
  | int i => obtain ⟨t, e⟩ := (show ∃ t, u = Value.int i t from r); cases e; rfl
  | str x => obtain ⟨t, e⟩ := (show ∃ t, u = Value.str x t from r); cases e; rfl
  | byt b => obtain ⟨t, e⟩ := (show ∃ t, u = Value.bytes b t from r); cases e; rfl
  | flt b => obtain ⟨t, e⟩ := (show ∃ t, u = Value.float b t from r); cases e; rfl
  | ref a => cases (show u = Value.ref a from r); rfl
  | ty n => cases (show u = Value.type n from r); rfl

section
variable {P : Program} {w : World} {H H' : Hp} {h h' : Heap} {a C dx : Addr} {fs fs' : List (Str × V)}
theorem ins_get (hok : HOk P w H h) (e : H a = some (.ins C dx fs)) : ∃ mA, ObjM h a dx C mA ∧ (∀ f, RelO (fs.lookup f) (mA f)) ∧ PySem.Within mA (fs.map (·.1)) ∧ fs.length ≤ 1000 ∧ H dx = some (.own a) := by
  obtain ⟨d, z, ne, ob, mA, n, r, q⟩ := (show ObjOk P w H h a (.ins C dx fs) from hok a _ e)
  exact ⟨mA, ⟨ob, n, ne⟩, r, q, z, d⟩
end

/-! ### what of the text a class must have -/
structure Cls (K : PySem.W.Frag) (C : Addr) : Prop where
  pg : PySem.W.plainGet K C Str.empty = true
  hd : PySem.W.hasDictIn K C = true
  po : PySem.W.plainOver K C = true
  sa : PySem.W.findIn K (.ref C) "__setattr__" = some (some (.builtin "object.__setattr__"))
theorem Cls.get {K : PySem.W.Frag} {C : Addr} (c : Cls K C) (f : Str) : PySem.W.plainGet K C f = true := c.pg
/-- no class of it has the name -/
def NoAttr (K : PySem.W.Frag) (C : Addr) (f : Str) : Prop := PySem.W.findIn K (.ref C) f = some none
theorem NoAttr.taker {K : PySem.W.Frag} {C : Addr} {f : Str} (n : NoAttr K C f) : PySem.W.takerIn K C f = some none := by
  unfold PySem.W.takerIn
  rw [show PySem.W.findIn K (.ref C) f = some none from n]
  rfl
/-- a constant of the class -/
structure Con (K : PySem.W.Frag) (C : Addr) (f : Str) (v : V) (u : Value) : Prop where
  at_ : PySem.W.findIn K (.ref C) f = some (some u)
  rel : RelV v u
  get : PySem.W.specialIn K u "__get__" = some none
  cp : PySem.W.copiedNames.contains f = false
/-- a method: a plain def of the class or of one above it -/
structure Meth (K : PySem.W.Frag) (C : Addr) (m : Str) (f : Addr) : Prop where
  at_ : PySem.W.findIn K (.ref C) m = some (some (.ref f))
  fn : PySem.W.isFn K (.ref f) = true
  kp : PySem.W.keepIn K (.ref f) = true

section
variable {X : Cx} {pins : List (Addr × Obj)} {σ : St} {H : Hp} {s : Shared} {a C dx : Addr} {fs : List (Str × V)} {f : Str} {v : V} {A : Around} {E : Value → Shared → Prop}

theorem getattr_ok {b : Bool} {Q : Value → Shared → Prop} (I : Inv X pins σ H s) (e : H a = some (.ins C dx fs)) (c : Cls X.K C) (n : NoAttr X.K C f) (l : fs.lookup f = some v)
    (h : ∀ u s', Inv X pins σ H s' → RelV v u → Q u s') : wpAny (model X.prog X.w) A (getAttr (.ref a) f b) Q E s := by
  obtain ⟨mA, O, r, _, _, _⟩ := ins_get I.hok e
  obtain ⟨u, hu, ru⟩ := RelO.some_of (v := v) (o := mA f) (by rw [← l]; exact r f)
  exact get_map I.kIn O (c.get f) c.hd n hu (handed_of ru) (h u _ (I.tok _) ru)

theorem getmeth_ok {m : Str} {g : Addr} {pl : Sem Bool} {Q : Value × List Value → Shared → Prop} (I : Inv X pins σ H s) (e : H a = some (.ins C dx fs)) (c : Cls X.K C) (k : Meth X.K C m g) (l : fs.lookup m = none)
    (h : Q (.ref g, [.ref a]) s) : wpAny (model X.prog X.w) A (getMethod (.ref a) m pl) Q E s := by
  obtain ⟨mA, O, r, _, _, _⟩ := ins_get I.hok e
  have hn : mA m = none := RelO.none_of (by rw [← l]; exact r m)
  exact get_meth I.kIn O (c.get m) k.at_ k.fn hn h

theorem setattr_ok {y : V} {u : Value} {Q : Unit → Shared → Prop} (I : Inv X pins σ H s) (e : H a = some (.ins C dx fs)) (c : Cls X.K C) (n : NoAttr X.K C f) (hl : fs.length < 1000) (ry : RelV y u)
    (h : ∀ s', Inv X pins σ (upd H a (.ins C dx (putF f y fs))) s' → Q () s') : wpAny (model X.prog X.w) A (setAttr (.ref a) f u) Q E s := by
  obtain ⟨mA, O, r, wi, _, ho⟩ := ins_get I.hok e
  have hz : (fs.map (·.1)).length ≤ sizeLine := by rw [List.length_map, sizeLine_eq]; omega
  refine set_map I.kIn O c.sa c.po n.taker c.hd wi hz fun h' O' sb => h _ ?_
  have hd : ∃ o, h'.get? dx = some o := let ⟨o, _, _, e', _⟩ := O'.ns; ⟨o, e'⟩
  refine I.write (x := a) (e := dx) (by rw [e]; exact True.intro) (.inr ho) (fun b q hb z => (sb.2 b hb).trans z) hd ?_
  refine ⟨by rw [upd_ne O.ne]; exact ho, ?_, O.ne, O'.obj, _, O'.ns, fun g => ?_, fun g hg => ?_⟩
  · have := length_putF f y fs; omega
  · show RelO ((putF f y fs).lookup g) (if g = f then some u else mA g)
    rw [lookup_putF]
    by_cases q : g = f
    · rw [if_pos q, if_pos q]; exact ry
    · rw [if_neg q, if_neg q]; exact r g
  · by_cases q : g = f
    · rw [q]; exact (keys_putF f y fs).1
    · refine (keys_putF f y fs).2 g (wi g fun z => hg ?_)
      show (if g = f then some u else mA g) = none
      rw [if_neg q]; exact z

/-- a new instance, tracked, without attributes -/
theorem Inv.made (I : Inv X pins σ H s) : Inv X pins σ (upd (upd H s.heap.objs.size (.own (s.heap.objs.size + 1))) (s.heap.objs.size + 1) (.ins C s.heap.objs.size []))
    { s with heap := (s.heap.push PySem.W.emptyDict).push (PySem.W.instObj C s.heap.objs.size) } := by
  have e1 : (s.heap.push PySem.W.emptyDict).get? s.heap.objs.size = some PySem.W.emptyDict := Heap.get?_push_size s.heap rfl
  have e2 : ((s.heap.push PySem.W.emptyDict).push (PySem.W.instObj C s.heap.objs.size)).get? (s.heap.objs.size + 1) = some (PySem.W.instObj C s.heap.objs.size) := by
    have := Heap.get?_push_size (s.heap.push PySem.W.emptyDict) (o := PySem.W.instObj C s.heap.objs.size) rfl
    rwa [Heap.size_push] at this
  have e3 : (s.heap.push PySem.W.emptyDict).Ns s.heap.objs.size (fun _ => none) := ⟨PySem.W.emptyDict, #[], _, e1, rfl, (fun e he => absurd he (by simp)), fun _ => rfl⟩
  have I1 := I.laid (a := s.heap.objs.size) (o := .own (s.heap.objs.size + 1)) (h' := s.heap.push PySem.W.emptyDict) (t' := s.toks) (fun b u q => Heap.get?_push_of_some _ q) (Nat.le_refl _) ⟨_, e1⟩
  refine I1.laid (a := s.heap.objs.size + 1) (o := .ins C s.heap.objs.size []) (t' := s.toks) (fun b u q => Heap.get?_push_of_some _ q) (Nat.le_of_eq (Heap.size_push _ _)) ?_
  have ne : s.heap.objs.size ≠ s.heap.objs.size + 1 := Nat.ne_of_lt (Nat.lt_succ_self _)
  refine ⟨by rw [upd_ne ne, upd_same], Nat.zero_le _, ne, e2, fun _ => none, (Heap.Ns1.of_empty e3).at fun o q => Heap.get?_push_of_some _ q, fun _ => True.intro, fun y hy => absurd rfl hy⟩

/-- e.f where nothing but the object is asked: through attributeBase (super) and the last hold -/
theorem attr_of {prog : Program} {w : World} {env : Env} {e : Expr} {f : Str} {pos : Pos} {s : Shared} {Q : Value → Shared → Prop} (hb : attributeBase e f env (eval e env) = eval e env)
    (h : wpAny (model prog w) A (eval e env) (fun o s₁ => wpAny (model prog w) A (getAttr o f true) Q E s₁) E s) : wpAny (model prog w) A (eval (.Attribute e f pos) env) Q E s :=
  Attribute_any_ h (by rw [arm_eval_Attribute, hb])
end

/-! ### readings and rules -/
/-- e.f, an attribute of the instance -/
def tFld (K : PySem.W.Frag) (ta : TE) (f : Str) : TE := fun σ H Q => ta σ H fun x H1 => ∃ a C dx fs v, x = .ref a ∧ H1 a = some (.ins C dx fs) ∧ Cls K C ∧ NoAttr K C f ∧ fs.lookup f = some v ∧ Q v H1
/-- e.f, a constant of the class -/
def tCon (K : PySem.W.Frag) (ta : TE) (f : Str) : TE := fun σ H Q => ta σ H fun x H1 => ∃ a C dx fs v u, x = .ref a ∧ H1 a = some (.ins C dx fs) ∧ Cls K C ∧ Con K C f v u ∧ fs.lookup f = none ∧ Q v H1
/-- e.f = value -/
def sFld (K : PySem.W.Frag) (ta tv : TE) (f : Str) : TS := fun D σ H => tv σ H fun y H1 => ta σ H1 fun x H2 => ∃ a C dx fs, x = .ref a ∧ H2 a = some (.ins C dx fs) ∧ Cls K C ∧ NoAttr K C f ∧ fs.length < 1000 ∧
  D.nx σ (upd H2 a (.ins C dx (putF f y fs)))
/-- an augmented operator on two values -/
def InOp (X : Cx) (op : Operator) (rd : V → V → Hp → VK → Prop) : Prop :=
  ∀ (pins : List (Addr × Obj)) (s : Shared) (σ : St) (H : Hp) (x y : V) (u v : Value) (Q : VK), Inv X pins σ H s → RelV x u → RelV y v → rd x y H Q → wpAny (model X.prog X.w) X.A (inplaceOp op u v) (EP X pins σ Q) X.xe s
/-- e.f op= value -/
def sFldAug (K : PySem.W.Frag) (ta tv : TE) (rd : V → V → Hp → VK → Prop) (f : Str) : TS := fun D σ H => ta σ H fun x H1 => ∃ a C dx fs v, x = .ref a ∧ H1 a = some (.ins C dx fs) ∧ Cls K C ∧ NoAttr K C f ∧ fs.lookup f = some v ∧
  tv σ H1 fun y H2 => rd v y H2 fun z H3 => ∃ dx' fs', H3 a = some (.ins C dx' fs') ∧ fs'.length < 1000 ∧ D.nx σ (upd H3 a (.ins C dx' (putF f z fs')))

section
variable {X : Cx} {o e value : Expr} {f : Str} {pos pos' tpos : Pos} {ta tv : TE}
theorem pe_fld (he : PE X e ta) (hb : attributeBase e f X.env (eval e X.env) = eval e X.env) : PE X (.Attribute e f pos) (tFld X.K ta f) := by
  intro pins s σ H Q I h
  refine attr_of hb (thn (he pins s σ H _ I h) fun u s1 => L2.ex5 fun x H1 I1 rx hq_ => ?_)
  obtain ⟨a, C, dx, fs, v, ex, ea, c, n, l, q⟩ := hq_
  subst ex
  obtain rfl : u = Value.ref a := rx
  exact getattr_ok I1 ea c n l fun u' s2 I2 ru => ⟨v, H1, I2, ru, q⟩
theorem ps_fld (ha : PE X o ta) (hv : PE X value tv) (hs : swapsWith value (some (.Attribute o f pos')) pos.line X.env = pure false) : PS X (.Assign [.Attribute o f pos'] value pos) (sFld X.K ta tv f) := by
  intro pins s σ H D I h
  refine plainObj_wpAny_Assign_Attribute (thn (hv pins s σ H _ I h) fun u s1 => L2.ex5 fun y H1 I1 ry q => thn (ha pins s1 σ H1 _ I1 q) fun ov s2 => L2.ex5 fun x H2 I2 rx hq_ => ?_) hs
  obtain ⟨a, C, dx, fs, ex, ea, c, n, l, q2⟩ := hq_
  subst ex
  obtain rfl : ov = Value.ref a := rx
  exact setattr_ok I2 ea c n l ry fun s3 I3 => ⟨σ, _, I3, q2⟩
def rAdd : V → V → Hp → VK → Prop := fun x y H Q => ∃ i j, x = .int i ∧ y = .int j ∧ Q (.int (i + j)) H
def rSub : V → V → Hp → VK → Prop := fun x y H Q => ∃ i j, x = .int i ∧ y = .int j ∧ Q (.int (i - j)) H
end

/-! ### isinstance -/
section
variable {X : Cx} {pins : List (Addr × Obj)} {σ : St} {H : Hp} {s : Shared} {A : Around} {E : Value → Shared → Prop} {Q : Value → Shared → Prop} {c : Value} {b : Bool}
/-- the type of a value, as the fragment's deciders take it; for an instance its class -/
inductive TyOf (K : PySem.W.Frag) (H : Hp) : V → Value → Prop where
  | non : TyOf K H .non (.type "NoneType")
  | bl (x : Bool) : TyOf K H (.bl x) (.type "bool")
  | int (i : Int) : TyOf K H (.int i) (.type "int")
  | str (x : Str) : TyOf K H (.str x) (.type "str")
  | flt (x : UInt64) : TyOf K H (.flt x) (.type "float")
  | lst {a : Addr} {xs : List V} (e : H a = some (.lst xs)) : TyOf K H (.ref a) (.type "list")
  | frz {a : Addr} {o : Obj} {xs : List V} (e : H a = some (.frz o (.lst xs))) : TyOf K H (.ref a) (.type "list")
  | tup {a : Addr} {xs : List V} (e : H a = some (.tup xs)) : TyOf K H (.ref a) (.type "tuple")
  | dK {a : Addr} {kvs : List (Key × V)} (e : H a = some (.dK kvs)) : TyOf K H (.ref a) (.type "dict")
  | dT {a : Addr} {kvs : List (List Key × V)} (e : H a = some (.dT kvs)) : TyOf K H (.ref a) (.type "dict")
  | ins {a C dx : Addr} {fs : List (Str × V)} (e : H a = some (.ins C dx fs)) (cl : Cls K C) (ha : PySem.W.findIn K (.ref C) "__class__" = some (some (.builtin "object.__class__")))
      (hn : PySem.W.specialIn K (.builtin "object.__class__") "__get__" = some (some (.builtin "getset_descriptor.__get__"))) (htk : PySem.W.takesIn K (.builtin "object.__class__") = some true)
      (hm : PySem.W.mroIn K C (.type "object") = some true) : TyOf K H (.ref a) (.ref C)
/-- isinstance(x, c) for one class c, a built-in or an own one: kitOne's answer -/
theorem isinst_ok {x : V} {u t : Value} (I : Inv X pins σ H s) (rx : RelV x u) (ty : TyOf X.K H x t) (e : PySem.W.kitOne X.K t c = some b) (h : ∀ tk, Q (.bool b) { s with toks := tk }) :
    wpAny (model X.prog X.w) A (call (.builtin "isinstance") [u, c]) Q E s := by
  cases ty with
  | non => cases (show u = Value.none from rx); exact PySem.W.kia_one PySem.W.kitx_none I.kIn True.intro e (fun z => nomatch z) h
  | bl y => cases (show u = Value.bool y from rx); exact PySem.W.kia_one PySem.W.kitx_bool I.kIn True.intro e (fun z => nomatch z) h
  | int i => obtain ⟨t, q⟩ := (show ∃ t, u = Value.int i t from rx); cases q; exact PySem.W.kia_one PySem.W.kitx_int I.kIn True.intro e (fun z => nomatch z) h
  | str y => obtain ⟨t, q⟩ := (show ∃ t, u = Value.str y t from rx); cases q; exact PySem.W.kia_one PySem.W.kitx_str I.kIn True.intro e (fun z => nomatch z) h
  | flt y => obtain ⟨t, q⟩ := (show ∃ t, u = Value.float y t from rx); cases q; exact PySem.W.kia_one PySem.W.kitx_float I.kIn True.intro e (fun z => nomatch z) h
  | @lst a xs ea =>
    cases (show u = Value.ref a from rx)
    obtain ⟨_, _, n, _, h1⟩ := (show ObjOk X.prog X.w H s.heap a (.lst xs) from I.hok a _ ea)
    exact PySem.W.kia_one PySem.W.kitx_list I.kIn ⟨_, h1, rfl⟩ e (fun z => nomatch z) h
  | @frz a ob xs ea =>
    cases (show u = Value.ref a from rx)
    obtain ⟨_, _, _, n, _, h1⟩ := (show ObjOk X.prog X.w H s.heap a (.frz ob (.lst xs)) from I.hok a _ ea)
    exact PySem.W.kia_one PySem.W.kitx_list I.kIn ⟨_, h1, rfl⟩ e (fun z => nomatch z) h
  | @tup a xs ea =>
    cases (show u = Value.ref a from rx)
    obtain ⟨_, _, _, p⟩ := (show ObjOk X.prog X.w H s.heap a (.tup xs) from I.hok a _ ea)
    obtain ⟨o, h1, h2, _⟩ := p
    exact PySem.W.kia_one PySem.W.kitx_tuple I.kIn ⟨o, h1, h2⟩ e (fun z => nomatch z) h
  | @dK a kvs ea =>
    cases (show u = Value.ref a from rx)
    obtain ⟨_, _, vs, _, p⟩ := (show ObjOk X.prog X.w H s.heap a (.dK kvs) from I.hok a _ ea)
    obtain ⟨o, es, ep, h1, h2, _⟩ := p
    exact PySem.W.kia_one PySem.W.kitx_dict I.kIn ⟨o, h1, h2.1⟩ e (fun z => nomatch z) h
  | @dT a kvs ea =>
    cases (show u = Value.ref a from rx)
    obtain ⟨_, _, xs, _, o, es, ep, h1, h2, _⟩ := (show ObjOk X.prog X.w H s.heap a (.dT kvs) from I.hok a _ ea)
    exact PySem.W.kia_one PySem.W.kitx_dict I.kIn ⟨o, h1, h2.1⟩ e (fun z => nomatch z) h
  | @ins a C dx fs ea cl ha hn htk hm =>
    cases (show u = Value.ref a from rx)
    obtain ⟨mA, O, _⟩ := ins_get I.hok ea
    obtain ⟨od, J, _⟩ := O.look
    exact PySem.W.kia_one (PySem.W.kitx_own (cl.get _) cl.hd ha hn htk hm) I.kIn J e (fun z => nomatch z) h
end
end L2

namespace L2
open PySem PySem.Spec PyProof.Rows

/-! ### room -/
structure Room (k : Nat) (A : Around) : Prop where
  dp : A.depth + 3 * k + 5 < recursionLimit
  un : A.units + 16 * k + 200 < cLine
theorem Room.mono {j k : Nat} {A : Around} (r : Room k A) (h : j ≤ k) : Room j A := ⟨by have := r.dp; omega, by have := r.un; omega⟩
theorem Room.deeper {k : Nat} {A : Around} (r : Room (k + 1) A) (env : Env) : Room k (A.deeper env) :=
  ⟨by have := r.dp; show A.depth + 1 + 3 * k + 5 < _; omega, by have := r.un; show A.units + 3 + 16 * k + 200 < _; omega⟩
theorem make_depth {A : Around} {C : Addr} {us : List Value} {kw : List (Str × Value)} : (A.under (.builtin "type.__call__" ⟨.ref C :: us, kw⟩)).depth = A.depth + 1 := by
  first | rfl | simp [Around.under, Code.weight, Code.isCreation, Code.isGuard, Code.isCaller, Code.frames, Code.isFrame, guardIds]
theorem make_units {A : Around} {C : Addr} {us : List Value} {kw : List (Str × Value)} : (A.under (.builtin "type.__call__" ⟨.ref C :: us, kw⟩)).units = A.units + 1 := by
  first | rfl | simp [Around.under, Code.cUnits, Code.frames, Code.isFrame]
theorem Room.make {k : Nat} {A : Around} (r : Room (k + 1) A) (C : Addr) (us : List Value) (kw : List (Str × Value)) : Room k (A.under (.builtin "type.__call__" ⟨.ref C :: us, kw⟩)) :=
  ⟨by have := r.dp; rw [make_depth]; omega, by have := r.un; rw [make_units]; omega⟩
theorem Room.depth {k : Nat} {A : Around} (r : Room k A) : A.depth < recursionLimit := by have := r.dp; omega
theorem Room.units {k : Nat} {A : Around} (r : Room k A) : A.units + 64 < cLine := by have := r.un; omega
/-! ### argument lists and displays -/
def tNil : TA := fun _ H Q => Q [] H
def tCons (ta : TE) (tr : TA) : TA := fun σ H Q => ta σ H fun x H1 => tr σ H1 fun xs H2 => Q (x :: xs) H2
section
variable {X : Cx} {e : Expr} {es : List Expr} {te : TE} {t : TA} {pos : Pos}
theorem pa_nil : PA X [] tNil := fun _ _ _ _ H Q I h => Calls.spliced_nil ⟨[], H, I, .nil, h⟩
theorem pa_cons (ha : PE X e te) (hr : PA X es t) (hs : starEach (e :: es) X.env = (false, eval e X.env) :: starEach es X.env := by rfl) : PA X (e :: es) (tCons te t) := by
  intro pos pins s σ H Q I h
  rw [hs]
  show wpAny _ _ (spliced ((false, eval e X.env) :: backTo pos (starEach es X.env))) _ _ s
  refine Calls.spliced_cons (thn (ha pins s σ H _ I h) fun u s1 => L2.ex5 fun x H1 I1 r1 q1 => ?_)
  exact thn (hr pos pins s1 σ H1 _ I1 q1) fun us s2 ⟨xs, H2, I2, r2, q2⟩ => ⟨x :: xs, H2, I2, .cons r1 r2, q2⟩

/-- a tuple, a list of written items -/
def tTup (t : TA) : TE := fun σ H Q => t σ H fun xs H1 => xs.length ≤ sizeLine ∧ ∀ p, H1 p = none → Q (.ref p) (upd H1 p (.tup xs))
def tLst (t : TA) : TE := fun σ H Q => t σ H fun xs H1 => xs.length ≤ sizeLine ∧ ∀ p, H1 p = none → Q (.ref p) (upd H1 p (.lst xs))
theorem pe_tup {x1} (h : PA X es t) : PE X (.Tuple es x1 pos) (tTup t) := by
  intro pins s σ H Q I hq
  refine wpAny_Tuple_spliced (thn (h pos pins s σ H _ I hq) fun us s1 ⟨xs, H1, I1, r, z, q⟩ => ⟨by rw [← r.length]; exact z, ?_⟩)
  have hf : H1 s1.heap.objs.size = none := I1.hok.fresh (Nat.le_refl _)
  refine ⟨.ref s1.heap.objs.size, upd H1 s1.heap.objs.size (.tup xs), I1.laid (t' := s1.toks) (fun b u e => Heap.get?_push_of_some _ e) (Nat.le_refl _) ?_, rfl, q _ hf⟩
  exact ⟨z, us, r, ⟨_, Heap.get?_push_size _ rfl, rfl, _, rfl⟩⟩
theorem pe_lst (h : PA X es t) : PE X (.List es pos) (tLst t) := by
  intro pins s σ H Q I hq
  refine wpAny_List_spliced (thn (h pos pins s σ H _ I hq) fun us s1 ⟨xs, H1, I1, r, z, q⟩ => ⟨by rw [← r.length]; exact z, ?_⟩)
  have hf : H1 s1.heap.objs.size = none := I1.hok.fresh (Nat.le_refl _)
  refine ⟨.ref s1.heap.objs.size, upd H1 s1.heap.objs.size (.lst xs), I1.laid (t' := s1.toks) (fun b u e => Heap.get?_push_of_some _ e) (Nat.le_refl _) ?_, rfl, q _ hf⟩
  exact ⟨z, us, 0, r, Heap.get?_push_size _ rfl⟩
end

/-! ### what a def promises -/
/-- a def's promise: the bound arguments in the parameters' order, the heap, the wanted end, the wanted exception -/
abbrev Sp := List V → Hp → VK → XK → Prop
/-- how an exception lies behind a call (file 08 gives it): the callers' frames, abstract heap and state ahead of the call, the wish, the exception, the state -/
abbrev CXT := List Env → Hp → Shared → XK → Value → Shared → Prop

/-- the state at a call -/
structure Env0 (P : Program) (w : World) (K : PySem.W.Frag) (mg : Str → Option Value) (base : Heap) (A : Around) (outer : List Env) (s : Shared) (H : Hp) : Prop where
  frames : A.frames = some outer
  mod : Mod K mg base
  bs : ∀ b o, base.get? b = some o → s.heap.get? b = some o ∧ H b = none
  bsz : base.objs.size ≤ s.heap.objs.size
  funs : s.heap.FunFrames base outer
  frf : ∀ b ∈ frs outer, H b = none
  hok : HOk P w H s.heap
  bare : AllBare s.gens
  hd : HdAt A H
/-- a call's end -/
def CE (outer : List Env) (P : Program) (w : World) (H : Hp) (s : Shared) (Q : VK) (u : Value) (s' : Shared) : Prop :=
  ∃ v H', s'.os = s.os ∧ AllBare s'.gens ∧ Un (frs outer) [] H H' s.heap s'.heap ∧ HOk P w H' s'.heap ∧ RelV v u ∧ Q v H'
def CR (CX : CXT) (outer : List Env) (P : Program) (w : World) (H : Hp) (s : Shared) (Q : VK) (E : XK) (r : Result) (s' : Shared) : Prop :=
  match r with
  | .ok (.ret u) => CE outer P w H s Q u s'
  | .ok _ => False
  | .error e => CX outer H s E e s'
structure FnOk (P : Program) (w : World) (K : PySem.W.Frag) (mg : Str → Option Value) (base : Heap) (CX : CXT) (k : Nat) (f : Addr) (fd : FuncData) (ps : List Str) (sp : Sp) : Prop where
  len : ∀ vs H Q E, sp vs H Q E → vs.length = ps.length
  run : ∀ (A : Around) (outer : List Env) (s : Shared) (H : Hp) (args : Args) (us : List Value) (vs : List V) (Q : VK) (E : XK), Room k A → Env0 P w K mg base A outer s H → BindsTo s fd args (ps.zip us) → Vals vs us → sp vs H Q E →
    codeAny (model P w) A (.call (.ref f) args) (CR CX outer P w H s Q E) s
theorem Env0.make {P : Program} {w : World} {K : PySem.W.Frag} {mg : Str → Option Value} {base : Heap} {A : Around} {outer : List Env} {s : Shared} {H : Hp} (e : Env0 P w K mg base A outer s H) (C : Addr) (us : List Value) (kw : List (Str × Value)) :
    Env0 P w K mg base (A.under (.builtin "type.__call__" ⟨.ref C :: us, kw⟩)) outer s H := ⟨by first | exact e.frames | (simpa [Around.under, Code.envs, Code.isFrame, pushEnvs] using e.frames), e.mod, e.bs, e.bsz, e.funs, e.frf, e.hok, e.bare, e.hd⟩
section
variable {X : Cx} {pins : List (Addr × Obj)} {σ : St} {H : Hp} {s s' : Shared}
/-- from a body: what a callee wants -/
theorem Inv.env0 (I : Inv X pins σ H s) : Env0 X.prog X.w X.K X.mg X.base X.A X.stack s H :=
  ⟨I.ok.frames, I.ok.mod, I.bs, Nat.le_trans I.ok.bsz I.sz, I.stack, I.stkFree, I.hok, I.bare, I.hdAt⟩
/-- behind a call -/
theorem Inv.after {Q : VK} {u : Value} (I : Inv X pins σ H s) (h : CE X.stack X.prog X.w H s Q u s') : EP X pins σ Q u s' := by
  obtain ⟨v, H', os, bare, un, hok, r, q⟩ := h
  obtain ⟨hh, g, d, t, os'⟩ := s'
  obtain rfl : os' = s.os := os
  exact ⟨v, H', I.call (h' := hh) (g' := g) (d' := d) (t' := t) (ch := []) un hok bare (fun b z => absurd z (by simp)), r, q⟩
end

/-! ### calls -/
/-- f(..): the written arguments, then the defaults dvs; E: what is wanted of an exception -/
def tCall (sp : Sp) (dvs : List V) (E : XK) (t : TA) : TE := fun σ H Q => t σ H fun vs H1 => sp (vs ++ dvs) H1 Q E
/-- o.m(..) of an instance of the class at C -/
def tMeth (C : Addr) (m : Str) (sp : Sp) (dvs : List V) (E : XK) (ta : TE) (t : TA) : TE := fun σ H Q => ta σ H fun x H1 => ∃ a dx fs, x = .ref a ∧ H1 a = some (.ins C dx fs) ∧ fs.lookup m = none ∧
  t σ H1 fun vs H2 => sp (x :: (vs ++ dvs)) H2 Q E
/-- C(..): a new instance and its dict, then __init__ -/
def tMake (C : Addr) (sp : Sp) (dvs : List V) (E : XK) (t : TA) : TE := fun σ H Q => t σ H fun vs H1 => ∀ x dx, H1 x = none → H1 dx = none → dx ≠ x →
  sp (.ref x :: (vs ++ dvs)) (upd (upd H1 dx (.own x)) x (.ins C dx [])) (fun v H2 => v = .non ∧ Q (.ref x) H2) E

/-- how the parameters are bound: us the positional arguments, kw the keywords' values by name, ds the defaults that fill up -/
def Binds (K : PySem.W.Frag) (fd : FuncData) (ps : List Str) (ds : List Value) : Prop :=
  ∀ (s : Shared) (us : List Value), K.In s.heap → (us ++ ds).length = ps.length → BindsTo s fd ⟨us, []⟩ (ps.zip (us ++ ds))
/-- every parameter is given -/
theorem Binds.all {K : PySem.W.Frag} {fd : FuncData} {ps : List Str} (h : ∀ us : List Value, us.length = ps.length → bindArgs fd ⟨us, []⟩ = pure (ps.zip us)) : Binds K fd ps [] := fun s us _ hl => by
  rw [List.append_nil] at hl ⊢
  exact .of_eq (h us hl)

/-- an exception of a callee reaches what this body wants of exceptions -/
def Passes (CX : CXT) (X : Cx) (E : XK) : Prop := ∀ (pins : List (Addr × Obj)) (σ : St) (H : Hp) (s : Shared) (e : Value) (s' : Shared), Inv X pins σ H s → CX X.stack H s E e s' → X.xe e s'

section
variable {X : Cx} {CX : CXT} {k : Nat} {f C : Addr} {fd : FuncData} {ps : List Str} {sp : Sp} {dvs : List V} {ds : List Value} {E : XK} {x m : Str} {p pos apos : Pos} {e o : Expr} {es : List Expr} {ta : TE} {t : TA}

/-- the callee runs -/
theorem run_fn {pins : List (Addr × Obj)} {σ : St} {H : Hp} {s : Shared} {Q : VK} {us : List Value} {vs : List V} (F : FnOk X.prog X.w X.K X.mg X.base CX k f fd ps sp) (hr : Room k X.A) (hb : Binds X.K fd ps ds) (hd : Vals dvs ds) (hx : Passes CX X E)
    (I : Inv X pins σ H s) (r : Vals vs us) (h : sp (vs ++ dvs) H Q E) : wpAny (model X.prog X.w) X.A (call (.ref f) us) (EP X pins σ Q) X.xe s := by
  have r2 : Vals (vs ++ dvs) (us ++ ds) := r.append hd
  have hl : (us ++ ds).length = ps.length := by rw [← r2.length]; exact F.len _ _ _ _ h
  refine wpAny_call (codeAny_mono (F.run X.A X.stack s H ⟨us, []⟩ (us ++ ds) (vs ++ dvs) Q E hr I.env0 (hb s us I.kIn hl) r2 h) fun r s' hq => ?_)
  cases r with
  | error e => exact hx pins σ H s e s' I hq
  | ok fl =>
    cases fl with
    | ret u => exact I.after hq
    | next => exact False.elim hq
    | brk => exact False.elim hq
    | cont => exact False.elim hq

theorem pe_call (F : FnOk X.prog X.w X.K X.mg X.base CX k f fd ps sp) (hr : Room k X.A) (hg : Gl X x) (hm : X.mg x = some (.ref f)) (hk : PySem.W.keepIn X.K (.ref f) = true) (hb : Binds X.K fd ps ds) (hd : Vals dvs ds) (hx : Passes CX X E)
    (ha : PA X (e :: es) t) (hdb : (x == ("__debug__" : Str)) = false := by decide) (he : starEach (e :: es) X.env = (false, eval e X.env) :: starEach es X.env := by rfl) (hpl : (backTo pos (starEach es X.env)).any (·.1) = false := by rfl) :
    PE X (.Call (.Name x p) (e :: es) [] pos) (tCall sp dvs E t) := by
  intro pins s σ H Q I h
  refine wpAny_Call_Name_kw (ld_glob I hg hm ?_ hdb)
  refine PySem.W.callWith_K (h₀ := X.base) I.ok.mod.kin hk (thn (ha pos pins s σ H _ I h) fun us s1 => L2.ex5 fun vs H1 I1 r q => ⟨I1.kIn, ?_⟩) he hpl
  exact run_fn F hr hb hd hx I1 r q
/-- o.m(e, ..) -/
theorem pe_meth {pl : Sem Bool} (he : PE X o ta) (c : Cls X.K C) (hm : Meth X.K C m f) (F : FnOk X.prog X.w X.K X.mg X.base CX k f fd ps sp) (hr : Room k X.A) (hb : Binds X.K fd ps ds) (hd : Vals dvs ds) (hx : Passes CX X E) (ha : PA X (e :: es) t)
    (hst : starEach (e :: es) X.env = (false, eval e X.env) :: starEach es X.env := by rfl) (hpl : (backTo pos (starEach es X.env)).any (·.1) = false := by rfl)
    (ht : eval (.Call (.Attribute o m apos) (e :: es) [] pos) X.env = (do
      let ov ← eval o X.env
      standAt apos.atName
      let (f, first) ← holding [ov] (getMethod ov m pl)
      callWith pos f first (backTo pos (starEach (e :: es) X.env)) (backToKw pos (keywordEach [] X.env))) := by rfl) :
    PE X (.Call (.Attribute o m apos) (e :: es) [] pos) (tMeth C m sp dvs E ta t) := by
  intro pins s σ H Q I h
  refine PySem.W.methodCall_KW (pl := pl) (thn (he pins s σ H _ I h) fun u s1 => L2.ex5 fun x H1 I1 rx hq_ => ?_) ht
  obtain ⟨a, dx, fs, ex, ea, l, q⟩ := hq_
  subst ex
  obtain rfl : u = Value.ref a := rx
  refine getmeth_ok I1 ea c hm l ?_
  refine PySem.W.callWith_K (first := [.ref a]) (h₀ := X.base) I.ok.mod.kin hm.kp (thn (ha pos pins s1 σ H1 _ I1 q) fun us s2 => L2.ex5 fun vs H2 I2 r q2 => ⟨I2.kIn, ?_⟩) hst hpl
  exact run_fn (us := .ref a :: us) (vs := .ref a :: vs) F hr hb hd hx I2 (.cons rfl r) q2
/-- o.m() -/
theorem pe_meth0 {pl : Sem Bool} (he : PE X o ta) (c : Cls X.K C) (hm : Meth X.K C m f) (F : FnOk X.prog X.w X.K X.mg X.base CX k f fd ps sp) (hr : Room k X.A) (hb : Binds X.K fd ps ds) (hd : Vals dvs ds) (hx : Passes CX X E)
    (ht : eval (.Call (.Attribute o m apos) [] [] pos) X.env = (do
      let ov ← eval o X.env
      standAt apos.atName
      let (f, first) ← holding [ov] (getMethod ov m pl)
      callWith pos f first (backTo pos (starEach [] X.env)) (backToKw pos (keywordEach [] X.env))) := by rfl) :
    PE X (.Call (.Attribute o m apos) [] [] pos) (tMeth C m sp dvs E ta tNil) := by
  intro pins s σ H Q I h
  refine PySem.W.methodCall_KW (pl := pl) (thn (he pins s σ H _ I h) fun u s1 => L2.ex5 fun x H1 I1 rx hq_ => ?_) ht
  obtain ⟨a, dx, fs, ex, ea, l, q⟩ := hq_
  subst ex
  obtain rfl : u = Value.ref a := rx
  refine getmeth_ok I1 ea c hm l ?_
  exact PySem.W.callWith_K0 (first := [.ref a]) I1.kIn hm.kp (run_fn (us := [.ref a]) (vs := [.ref a]) F hr hb hd hx I1 (.cons rfl .nil) q)

/-- what a class must have to be made -/
structure Mk (K : PySem.W.Frag) (C f : Addr) : Prop where
  makes : PySem.W.makesIn K C = true
  init : PySem.W.findIn K (.ref C) "__init__" = some (some (.ref f))
  fn : PySem.W.isFn K (.ref f) = true
  kp : PySem.W.keepIn K (.ref C) = true

theorem run_make {pins : List (Addr × Obj)} {σ : St} {H : Hp} {s : Shared} {Q : VK} {us : List Value} {vs : List V} (M : Mk X.K C f) (F : FnOk X.prog X.w X.K X.mg X.base CX k f fd ps sp) (hr : Room (k + 1) X.A) (hb : Binds X.K fd ps ds) (hd : Vals dvs ds)
    (hx : Passes CX X E) (I : Inv X pins σ H s) (r : Vals vs us)
    (h : ∀ x dx, H x = none → H dx = none → dx ≠ x → sp (.ref x :: (vs ++ dvs)) (upd (upd H dx (.own x)) x (.ins C dx [])) (fun v H2 => v = .non ∧ Q (.ref x) H2) E) :
    wpAny (model X.prog X.w) X.A (call (.ref C) us) (EP X pins σ Q) X.xe s := by
  have hq := h (s.heap.objs.size + 1) s.heap.objs.size (I.hok.fresh (Nat.le_succ _)) (I.hok.fresh (Nat.le_refl _)) (Nat.ne_of_lt (Nat.lt_succ_self _))
  have I2 := Inv.made (C := C) I
  have r2 : Vals (V.ref (s.heap.objs.size + 1) :: (vs ++ dvs)) (Value.ref (s.heap.objs.size + 1) :: (us ++ ds)) := .cons rfl (r.append hd)
  have hl : (Value.ref (s.heap.objs.size + 1) :: us ++ ds).length = ps.length := by
    have e := r2.length
    rw [F.len _ _ _ _ hq] at e
    exact e.symm
  refine wpAny_call (make_map (f := f) I.kIn M.makes M.init (beq_iff_eq.mp M.fn) (codeAny_mono (F.run _ X.stack _ _ ⟨Value.ref (s.heap.objs.size + 1) :: us, []⟩ (Value.ref (s.heap.objs.size + 1) :: (us ++ ds)) _ _ E (hr.make C us [])
    (I2.env0.make C us []) (hb _ (Value.ref (s.heap.objs.size + 1) :: us) I2.kIn hl) r2 hq) fun r s' hq' => ?_))
  cases r with
  | error e => exact hx pins σ _ _ e s' I2 hq'
  | ok fl =>
    cases fl with
    | ret u =>
      obtain ⟨v, H', I3, rv, ev, q3⟩ := I2.after hq'
      subst ev
      exact ⟨rv, ⟨V.ref (s.heap.objs.size + 1), H', I3, rfl, q3⟩⟩
    | next => exact False.elim hq'
    | brk => exact False.elim hq'
    | cont => exact False.elim hq'
theorem pe_make0 (M : Mk X.K C f) (F : FnOk X.prog X.w X.K X.mg X.base CX k f fd ps sp) (hr : Room (k + 1) X.A) (hg : Gl X x) (hm : X.mg x = some (.ref C)) (hb : Binds X.K fd ps ds) (hd : Vals dvs ds) (hx : Passes CX X E)
    (hdb : (x == ("__debug__" : Str)) = false := by decide) : PE X (.Call (.Name x p) [] [] pos) (tMake C sp dvs E tNil) := by
  intro pins s σ H Q I h
  refine wpAny_Call_Name_kw (ld_glob I hg hm ?_ hdb)
  exact PySem.W.callWith_K0 I.kIn M.kp (run_make (us := []) M F hr hb hd hx I .nil h)
end

/-! ### keywords -/
/-- the values of the keywords, from the left -/
def PK (X : Cx) (kws : List Keyword) (t : TA) : Prop :=
  ∀ (pos : Pos) (pins : List (Addr × Obj)) (s : Shared) (σ : St) (H : Hp) (Q : List V → Hp → Prop), Inv X pins σ H s → t σ H Q → wpAny (model X.prog X.w) X.A (evalAll ((backToKw pos (keywordEach kws X.env)).map (·.2))) (AP X pins σ Q) X.xe s
section
variable {X : Cx} {CX : CXT} {k : Nat} {f C : Addr} {fd : FuncData} {ps ks : List Str} {sp : Sp} {E : XK} {x m : Str} {p pos apos kpos : Pos} {e o : Expr} {es : List Expr} {kws : List Keyword} {te ta : TE} {t tk : TA} {nm : Option Str}
/-- how a call with keywords binds: g puts the positional values us and the keywords' values ws (names ks) in the parameters' order, defaults among them -/
structure KBinds (K : PySem.W.Frag) (fd : FuncData) (ps ks : List Str) (g : List Value → List Value → List Value) (gV : List V → List V → List V) : Prop where
  to : ∀ (s : Shared) (us ws : List Value), K.In s.heap → (g us ws).length = ps.length → BindsTo s fd ⟨us, ks.zip ws⟩ (ps.zip (g us ws))
  rel : ∀ {vs : List V} {us : List Value} {zs : List V} {ws : List Value}, Vals vs us → Vals zs ws → Vals (gV vs zs) (g us ws)
def tCallK (sp : Sp) (gV : List V → List V → List V) (E : XK) (t tk : TA) : TE := fun σ H Q => t σ H fun vs H1 => tk σ H1 fun zs H2 => sp (gV vs zs) H2 Q E
variable {g : List Value → List Value → List Value} {gV : List V → List V → List V}
end

/-! ### a def's body keeps its promise -/
/-- names: the parameters first -/
structure FnScope (N P : List Str) (sc : Scope) : Prop where
  kind : sc.kind = .function
  co : sc.isCoroutine = false
  gen : sc.isGenerator = false
  nd : N.Nodup
  pre : N.take P.length = P
  par : ∀ x ∈ P, sc.names.lookup x = some .local ∨ sc.names.lookup x = some .cell
  nofree : ∀ y ∈ sc.names, y.2 ≠ .free

theorem bindL_out {kindOf : Str → Option NameKind} {x : Str} : ∀ {binds : List (Str × Value)} {m : Str → Option Value}, (∀ v, (x, v) ∉ binds) → bindL kindOf binds m x = m x
  | [], _, _ => rfl
  | (n, v) :: r, m, h => by
    unfold bindL
    rw [bindL_out fun w hw => h w (List.mem_cons_of_mem _ hw)]
    split
    · have : x ≠ n := by rintro rfl; exact h v List.mem_cons_self
      simp [this]
    · rfl
theorem bindC_out {kindOf : Str → Option NameKind} {x : Str} : ∀ {binds : List (Str × Value)} {m : Str → Option Value}, (∀ v, (x, v) ∉ binds) → bindC kindOf binds m x = m x
  | [], _, _ => rfl
  | (n, v) :: r, m, h => by
    unfold bindC
    rw [bindC_out fun w hw => h w (List.mem_cons_of_mem _ hw)]
    split
    · rfl
    · have : x ≠ n := by rintro rfl; exact h v List.mem_cons_self
      simp [this]
theorem bindL_get {kindOf : Str → Option NameKind} {x : Str} {v : Value} : ∀ {P : List Str} {vs : List Value} {i : Nat} {m : Str → Option Value}, P.Nodup → P[i]? = some x → vs[i]? = some v → kindOf x = some .local →
    bindL kindOf (P.zip vs) m x = some v
  | [], _, _, _, _, h, _, _ => by simp at h
  | _ :: _, [], _, _, _, _, h, _ => by simp at h
  | p :: P, w :: vs, 0, m, nd, h1, h2, hk => by
    simp at h1 h2; subst h1; subst h2
    show bindL kindOf ((p, w) :: P.zip vs) m p = _
    unfold bindL
    rw [bindL_out fun v hv => (List.nodup_cons.mp nd).1 (List.of_mem_zip hv).1, if_pos hk]
    simp
  | p :: P, w :: vs, i + 1, m, nd, h1, h2, hk => by
    show bindL kindOf ((p, w) :: P.zip vs) m x = _
    unfold bindL
    exact bindL_get (i := i) (List.nodup_cons.mp nd).2 (by simpa using h1) (by simpa using h2) hk
theorem bindC_get {kindOf : Str → Option NameKind} {x : Str} {v : Value} : ∀ {P : List Str} {vs : List Value} {i : Nat} {m : Str → Option Value}, P.Nodup → P[i]? = some x → vs[i]? = some v → kindOf x ≠ some .local →
    bindC kindOf (P.zip vs) m x = some v
  | [], _, _, _, _, h, _, _ => by simp at h
  | _ :: _, [], _, _, _, _, h, _ => by simp at h
  | p :: P, w :: vs, 0, m, nd, h1, h2, hk => by
    simp at h1 h2; subst h1; subst h2
    show bindC kindOf ((p, w) :: P.zip vs) m p = _
    unfold bindC
    rw [bindC_out fun v hv => (List.nodup_cons.mp nd).1 (List.of_mem_zip hv).1, if_neg hk]
    simp
  | p :: P, w :: vs, i + 1, m, nd, h1, h2, hk => by
    show bindC kindOf ((p, w) :: P.zip vs) m x = _
    unfold bindC
    exact bindC_get (i := i) (List.nodup_cons.mp nd).2 (by simpa using h1) (by simpa using h2) hk

/-- the names' values at the entry -/
def start (N : List Str) (vs : List V) : St := vs.map some ++ List.replicate (N.length - vs.length) none

/-- the context of a def's body, at its entry; an exception leaves the frame, then lies as CX says -/
def cxOf (CX : CXT) (P : Program) (w : World) (K : PySem.W.Frag) (mg : Str → Option Value) (base : Heap) (N : List Str) (qual : Str) (scope : Scope) (f : Addr) (cd : Value) (A : Around) (outer : List Env) (s : Shared) (H : Hp) (E : XK) : Cx where
  prog := P
  w := w
  K := K
  mg := mg
  base := base
  A := A.deeper (envOfC qual scope s.heap.objs.size f cd)
  N := N
  s₀ := s
  H₀ := H
  env := envOfC qual scope s.heap.objs.size f cd
  outer := outer
  stack := envOfC qual scope s.heap.objs.size f cd :: outer
  ex := []
  calm := true
  fn := fun _ => true
  pn := []
  xe := fun e s' => wpAny (model P w) (A.deeper (envOfC qual scope s.heap.objs.size f cd)) (leaving (envOfC qual scope s.heap.objs.size f cd) e) (fun _ s'' => CX outer H s E e s'') (fun e' s'' => CX outer H s E e' s'') s'

theorem cell_has {sc : Scope} {n : Nat} {x : Str} (h : sc.names.lookup x = some .cell) : ∃ c, (cellsFrom n sc.names []).lookup x = some c := by
  have q := PySem.W.cellsFrom_some sc.names n [] (.inl h)
  exact Option.isSome_iff_exists.mp q

theorem inv_start {CX : CXT} {P : Program} {w : World} {K : PySem.W.Frag} {mg : Str → Option Value} {base : Heap} {N ps : List Str} {qual : Str} {scope : Scope} {f : Addr} {cd : Value} {A : Around} {outer : List Env} {s s1 : Shared} {H : Hp} {E : XK} {us : List Value} {vs : List V}
    (S : FnScope N ps scope) (e0 : Env0 P w K mg base A outer s H) (hl : vs.length = ps.length) (r : Vals vs us)
    (x : InCallC s s.heap.objs.size (bindL (envOfC qual scope s.heap.objs.size f cd).kindOf (ps.zip us) fun _ => none) (cellsFrom (s.heap.objs.size + 1) scope.names []) (bindC (envOfC qual scope s.heap.objs.size f cd).kindOf (ps.zip us) fun _ => none) s1) :
    Inv (cxOf CX P w K mg base N qual scope f cd A outer s H E) [] (start N vs) H s1 := by
  have hpl : ps.length ≤ N.length := by have := congrArg List.length S.pre; rw [List.length_take] at this; omega
  obtain ⟨h1, tk, rfl, hk⟩ := x.done
  have noA : ∀ b : Addr, b ∉ (cxOf CX P w K mg base N qual scope f cd A outer s H E).ex := fun b z => absurd (show b ∈ ([] : List Addr) from z) (by simp)
  refine ⟨⟨e0.mod, S.kind, rfl, rfl, Nat.le_refl _, fun y z c h1 h2 => ?_, fun y hy => ?_, fun y c _ h => ?_, e0.hd, Around.frames_deeper e0.frames, .inr ⟨rfl, rfl⟩, fun b z => absurd z (noA b), e0.bs, e0.bsz, fun b _ _ => noA b, fun b z => absurd z (noA b), e0.funs, e0.frf⟩,
    rfl, e0.bare, Un.kept hk, ⟨_, x.toInCall.ns, fun i y v h1 h2 h3 => ?_⟩, fun y c h => ⟨_, x.cell y c h⟩, e0.hok.fresh (Nat.le_refl _), fun y c h => ?_, fun p hp => absurd (show p ∈ ([] : List (Addr × Obj)) from hp) (by simp), e0.hok.kept hk, ?_⟩
  · exact name_of_addr x.apart (PySem.mem_of_lookup h1) (PySem.mem_of_lookup h2)
  · have hy : scope.names.lookup y = some .cell ∨ scope.names.lookup y = some .free := hy
    rcases hy with hy | hy
    · exact cell_has hy
    · exact absurd rfl (S.nofree _ (PySem.mem_of_lookup hy))
  · exact Nat.le_of_lt (x.above y c (PySem.mem_of_lookup h))
  · have hi : i < vs.length := by
      unfold start at h2
      by_cases hi : i < vs.length
      · exact hi
      · rw [List.getElem?_append_right (by simpa using hi)] at h2
        rw [List.getElem?_replicate] at h2
        split at h2 <;> cases h2
    have ha : vs[i]? = some v := by
      unfold start at h2
      rw [List.getElem?_append_left (by simpa using hi), List.getElem?_map] at h2
      cases e : vs[i]? with
      | none => rw [e] at h2; cases h2
      | some a => rw [e] at h2; cases h2; rfl
    obtain ⟨u, hu, rv⟩ := r.get ha
    have hp : ps[i]? = some y := by
      rw [← S.pre, List.getElem?_take_of_lt (by omega)]; exact h1
    have ndP : ps.Nodup := by rw [← S.pre]; exact S.nd.sublist (List.take_sublist _ _)
    refine ⟨u, rv, ?_⟩
    rcases S.par y (List.mem_of_getElem? hp) with k | k
    · exact .inl ⟨k, bindL_get ndP hp hu k⟩
    · obtain ⟨c, e⟩ := cell_has (n := s.heap.objs.size + 1) k
      refine .inr ⟨.inl k, c, e, ?_⟩
      have q := x.cell y c e
      rw [bindC_get ndP hp hu (by show scope.names.lookup y ≠ _; rw [k]; decide)] at q
      exact q
  · exact e0.hok.fresh (Nat.le_of_lt (x.above y c (PySem.mem_of_lookup h)))
  · unfold start
    show _ = N.length
    rw [List.length_append, List.length_map, List.length_replicate]
    omega

/-- THE RULE: a def (or a method) of the text, by its body. The body's reading t is chosen for each entry; it is run at the parameters' values -/
theorem fn_of {CX : CXT} {P : Program} {w : World} {K : PySem.W.Frag} {mg : Str → Option Value} {base : Heap} {k : Nat} {f : Addr} {name qual : Str} {params : Arguments} {body : List Stmt} {scope : Scope} {dV kV doc pm cdv ct oc : Value} {an od : Option Addr}
    {osl : Array (Option Value)} {N ps : List Str} {sp : Sp} (lk : K.lookup f = some ⟨oc, od, .func (PySem.W.fnOf name qual params body scope dV kV doc pm an cdv ct), osl⟩) (hcd : PySem.W.codeIn K cdv qual = true) (S : FnScope N ps scope)
    (len : ∀ vs H Q E, sp vs H Q E → vs.length = ps.length)
    (hbody : ∀ (A : Around) (outer : List Env) (s : Shared) (H : Hp) (vs : List V) (Q : VK) (E : XK), Room k (A.deeper (envOfC qual scope s.heap.objs.size f cdv)) → sp vs H Q E →
      ∃ t, PSs (cxOf CX P w K mg base N qual scope f cdv A outer s H E) body t ∧ t { nx := fun _ H' => Q .non H', rt := Q } (start N vs) H) :
    FnOk P w K mg base CX (k + 1) f (PySem.W.fnOf name qual params body scope dV kV doc pm an cdv ct) ps sp := by
  refine ⟨len, fun A outer s H args us vs Q E hr e0 hb r hsp => ?_⟩
  have hl := len _ _ _ _ hsp
  have KX : K.In s.heap := e0.mod.kin.keeps fun b o e => (e0.bs b o e).1
  have lim : s.heap.NoLimit := e0.mod.nolimit.keeps fun b o e => (e0.bs b o e).1
  have hkind : ∀ y ∈ ps.zip us, scope.names.lookup y.1 = some .local ∨ (scope.names.lookup y.1 = some .cell ∧ ((cellsFrom (s.heap.objs.size + 1) scope.names []).lookup y.1).isSome = true) := fun ⟨n, v⟩ hy => by
    rcases S.par n (List.of_mem_zip hy).1 with q | q
    · exact .inl q
    · exact .inr ⟨q, PySem.W.cellsFrom_some _ _ _ (.inl q)⟩
  refine codeAny_call_function hr.depth (KX _ _ lk) rfl S.co S.gen rfl (PySem.W.codeRec_of KX hcd) (hb _ _ _ _ ?_)
  refine wpAny_newFunctionEnv_cells S.kind hkind fun env he s1 x => ?_
  subst he
  refine ⟨lim.keeps x.toInCall.keep, codeAny_func ?_⟩
  obtain ⟨t, ht, hq⟩ := hbody A outer s H vs Q E (hr.deeper _) hsp
  have I : Inv (cxOf CX P w K mg base N qual scope f cdv A outer s H E) [] (start N vs) H s1 := inv_start S e0 hl r x
  refine wpAny_mono (ht [] s1 (start N vs) H _ I hq) (fun fl s' hs => ?_) fun e s' hs => hs
  have fin : ∀ {σ' : St} {H' : Hp} {v : V} {u : Value}, Inv (cxOf CX P w K mg base N qual scope f cdv A outer s H E) [] σ' H' s' → RelV v u → Q v H' → CE outer P w H s Q u s' :=
    fun {σ' H' v u} J rv q => ⟨v, H', J.os, J.bare, J.base, J.hok, rv, q⟩
  cases fl with
  | ret u =>
    obtain ⟨v, σ', H', J, rv, q⟩ := hs
    exact fin J rv q
  | next =>
    obtain ⟨σ', H', J, q⟩ := hs
    exact fin (v := V.non) (u := Value.none) J rfl q
  | brk =>
    obtain ⟨_, _, _, q⟩ := hs
    exact False.elim q
  | cont =>
    obtain ⟨_, _, _, q⟩ := hs
    exact False.elim q
end L2

namespace L2
open PySem PySem.Spec PyProof.Rows
section
variable {X : Cx} {x : Str} {p pos : Pos} {e : Expr} {es : List Expr} {t : TA} {id T : String} {r : List V → Hp → VK → Prop}

def tCB (r : List V → Hp → VK → Prop) (t : TA) : TE := fun σ H Q => t σ H fun vs H1 => r vs H1 Q
/-- f(e, ..), f a built-in function -/
theorem pe_callB (hc : CallR X (.builtin id) r) (hg : Gl X x) (hm : X.mg x = none) (hv : bootBuiltins x = some (.builtin id)) (ha : PA X (e :: es) t) (hn : x ≠ "__name__" := by decide) (hdb : (x == ("__debug__" : Str)) = false := by decide)
    (he : starEach (e :: es) X.env = (false, eval e X.env) :: starEach es X.env := by rfl) (hpl : (backTo pos (starEach es X.env)).any (·.1) = false := by rfl) : PE X (.Call (.Name x p) (e :: es) [] pos) (tCB r t) := by
  intro pins s σ H Q I h
  refine wpAny_Call_Name_kw (ld_blt I hg hm hv ?_ hn hdb)
  exact PyProof.Rows.callWith_builtin1 (thn (ha pos pins s σ H _ I h) fun us s1 => L2.ex5 fun vs H1 I1 r1 q1 => hc pins s1 σ H1 vs us Q I1 r1 q1) he hpl
/-- T(e, ..), T a built-in type -/
theorem pe_callTy (hc : CallR X (.type T) r) (hg : Gl X x) (hm : X.mg x = none) (hv : bootBuiltins x = some (.type T)) (ha : PA X (e :: es) t) (hn : x ≠ "__name__" := by decide) (hdb : (x == ("__debug__" : Str)) = false := by decide)
    (he : starEach (e :: es) X.env = (false, eval e X.env) :: starEach es X.env := by rfl) (hpl : (backTo pos (starEach es X.env)).any (·.1) = false := by rfl) : PE X (.Call (.Name x p) (e :: es) [] pos) (tCB r t) := by
  intro pins s σ H Q I h
  refine wpAny_Call_Name_kw (ld_blt I hg hm hv ?_ hn hdb)
  exact PyProof.Rows.callWith_type1 (thn (ha pos pins s σ H _ I h) fun us s1 => L2.ex5 fun vs H1 I1 r1 q1 => hc pins s1 σ H1 vs us Q I1 r1 q1) he hpl
end
end L2

namespace HT
open PySem PyProof.Rows

/-- t < u of tuples of ints -/
def lexLt : List Int → List Int → Bool
  | [], [] => false
  | [], _ :: _ => true
  | _ :: _, [] => false
  | x :: xs, y :: ys => if x = y then lexLt xs ys else decide (x < y)
section
open PySem.SeqAt
open PySem.AutoSeq1 (wpAny_loadPart')
open PySem.MeetsSeq PySem.MeetsSeq2 PySem.MeetsSeq3

end

section
variable {prog : Program} {w : World} {A : Around} {E : Value → Shared → Prop} {s : Shared}

/-! ### t[a:b], not the whole -/
/-- a slice's bound as a place among n (d where it is left out) -/
def sIx (n d : Nat) : Option Int → Nat
  | none => d
  | some v => if v < 0 then (v + (n : Int)).toNat else min v.toNat n
theorem sIx_none (n d : Nat) : sIx n d none = d := rfl
theorem sIx_nat (n d k : Nat) : sIx n d (some (k : Int)) = min k n := by
  show (if (k : Int) < 0 then ((k : Int) + (n : Int)).toNat else min (k : Int).toNat n) = min k n
  rw [if_neg (by omega), Int.toNat_natCast]
end
end HT

namespace L2
open PySem PySem.Spec PyProof.Rows

/-! ### the parts of a slice -/
abbrev TO := St → Hp → (Option Int → Hp → Prop) → Prop
/-- a slice's part (left out, or an int) -/
def PO (X : Cx) (e : Option Expr) (t : TO) : Prop :=
  ∀ (pins : List (Addr × Obj)) (s : Shared) (σ : St) (H : Hp) (Q : Option Int → Hp → Prop), Inv X pins σ H s → t σ H Q →
    wpAny (model X.prog X.w) X.A (evalPart e X.env) (fun u s' => ∃ o H', Inv X pins σ H' s' ∧ IsPart u o ∧ Q o H') X.xe s
def tNoPart : TO := fun _ H Q => Q none H
def tPart (t : TE) : TO := fun σ H Q => t σ H fun x H1 => ∃ i, x = .int i ∧ Q (some i) H1

section
variable {X : Cx} {e : Expr} {te : TE} {lo hi : Option Expr} {tl th : TO} {pos p2 : Pos}

theorem po_none : PO X none tNoPart := by
  intro pins s σ H Q I h
  rw [evalPart_none]
  exact wpAny_pure ⟨none, H, I, .none, h⟩
theorem po_some (h : PE X e te) : PO X (some e) (tPart te) := by
  intro pins s σ H Q I hw
  rw [evalPart_some]
  refine thn (h pins s σ H _ I hw) fun u s1 => L2.ex5 fun x H1 I1 r1 q1 => ?_
  obtain ⟨i, rfl, q⟩ := q1
  obtain ⟨t, rfl⟩ := r1
  exact ⟨some i, H1, I1, .int i t, q⟩

/-- what a slice of a value is, by values: the slice object stands at sl -/
def SlR (X : Cx) (r : V → Option Int → Option Int → Hp → VK → Prop) : Prop :=
  ∀ (pins : List (Addr × Obj)) (s : Shared) (σ : St) (H : Hp) (x : V) (v vl vu : Value) (lo hi : Option Int) (sl : Addr) (Q : VK), Inv X pins σ H s → RelV x v → s.heap.IsSliceOf sl vl vu .none → IsPart vl lo → IsPart vu hi → r x lo hi H Q →
    ∃ T id, typeLookup (.type T) "__getitem__" = pure (some (.builtin id)) ∧ s.TypeIs v T ∧ wpAny (model X.prog X.w) X.A (getItem v (.ref sl)) (EP X pins σ Q) X.xe s
def tSl (r : V → Option Int → Option Int → Hp → VK → Prop) (te : TE) (tl th : TO) : TE := fun σ H Q => te σ H fun x H1 => tl σ H1 fun l H2 => th σ H2 fun u H3 => r x l u H3 Q
/-- a[lo:hi], any a -/
theorem pe_slice {r : V → Option Int → Option Int → Hp → VK → Prop} (hr : SlR X r) (he : PE X e te) (hl : PO X lo tl) (hu : PO X hi th) : PE X (.Subscript e (.Slice lo hi none p2) pos) (tSl r te tl th) := by
  intro pins s σ H Q I h
  refine Subscript_ (thn (he pins s σ H _ I h) fun v s1 => L2.ex5 fun x H1 I1 r1 q1 => ?_)
  refine wpAny_Slice (thn (hl pins s1 σ H1 _ I1 q1) fun vl s2 ⟨l, H2, I2, pl, q2⟩ => thn (hu pins s2 σ H2 _ I2 q2) fun vu s3 => L2.ex5 fun u H3 I3 pu q3 => ?_)
  rw [evalPart_none]
  refine wpAny_pure ?_
  have I4 : Inv X pins σ H3 { s3 with heap := s3.heap.push { cls := .type "slice", data := .fields #[vl, vu, .none] } } := I3.kept (t' := s3.toks) fun b ob q => Heap.get?_push_of_some _ q
  obtain ⟨T, id, hT, ht, hg⟩ := hr pins { s3 with heap := s3.heap.push { cls := .type "slice", data := .fields #[vl, vu, .none] } } σ H3 x v vl vu l u s3.heap.objs.size Q I4 r1 (Heap.IsSliceOf.new ..) pl pu q3
  show wpAny (model X.prog X.w) X.A (subscriptTail e (.Slice lo hi none p2) v (.ref s3.heap.objs.size)) (EP X pins σ Q) X.xe { s3 with heap := s3.heap.push { cls := .type "slice", data := .fields #[vl, vu, .none] } }
  exact tail_any (ops := [.ref s3.heap.objs.size, v]) ht hT hg (by with_unfolding_all rfl)

/-- the items of xs[lo:hi] -/
def cutV (xs : List V) (lo hi : Option Int) : List V := (xs.drop (HT.sIx xs.length 0 lo)).take (HT.sIx xs.length xs.length hi - HT.sIx xs.length 0 lo)
theorem cutV_length (xs : List V) (lo hi : Option Int) : (cutV xs lo hi).length ≤ xs.length := by
  unfold cutV
  rw [List.length_take, List.length_drop]
  omega
/-- t[lo:hi], not the whole of it (the whole would be t itself) -/
def rSlT (K : PySem.W.Frag) : V → Option Int → Option Int → Hp → VK → Prop := fun x lo hi H Q => ∃ a xs, x = .ref a ∧ SqT K H a xs ∧
  ¬ (HT.sIx xs.length 0 lo = 0 ∧ HT.sIx xs.length xs.length hi = xs.length) ∧ ∀ p, H p = none → Q (.ref p) (upd H p (.tup (cutV xs lo hi)))
/-! ### t < u, t + u -/
def rLtT (K : PySem.W.Frag) : R2 := fun x y H Q => ∃ a b ns ms, x = .ref a ∧ y = .ref b ∧ SqT K H a (ns.map V.int) ∧ SqT K H b (ms.map V.int) ∧ Q (.bl (HT.lexLt ns ms)) H
/-- t + u, t not empty: u empty gives t itself -/
def rCatT (K : PySem.W.Frag) : R2 := fun x y H Q => ∃ a b xs ys, x = .ref a ∧ y = .ref b ∧ SqT K H a xs ∧ SqT K H b ys ∧ xs ≠ [] ∧ xs.length + ys.length ≤ sizeLine ∧
  (ys = [] → Q (.ref a) H) ∧ (ys ≠ [] → ∀ p, H p = none → Q (.ref p) (upd H p (.tup (xs ++ ys))))
end
end L2

namespace L2
open PySem PySem.Spec PyProof.Rows

/-! ### places -/
/-- the place that an index of any sign means -/
def ixN (n : Nat) (i : Int) : Option Nat := if 0 ≤ i then (if i < n then some i.toNat else none) else if -(n : Int) ≤ i then some (i + n).toNat else none
def atI {α : Type} (xs : List α) (i : Int) : Option α := (ixN xs.length i).bind fun j => xs[j]?
theorem ixN_seq {n : Nat} {i : Int} {j : Nat} (h : ixN n i = some j) : seqIndex? i n = some j ∧ j < n ∧ -(n : Int) ≤ i ∧ i < n := by
  unfold ixN at h
  by_cases h0 : 0 ≤ i
  · rw [if_pos h0] at h
    by_cases h1 : i < n
    · rw [if_pos h1] at h
      have e : i.toNat = j := Option.some.inj h
      exact ⟨by rw [seqIndex_of h0 h1, e], by omega, by omega, h1⟩
    · rw [if_neg h1] at h; cases h
  · rw [if_neg h0] at h
    by_cases h1 : -(n : Int) ≤ i
    · rw [if_pos h1] at h
      have e : (i + n).toNat = j := Option.some.inj h
      exact ⟨by rw [seqIndex_neg (by omega) h1, e], by omega, h1, by omega⟩
    · rw [if_neg h1] at h; cases h
theorem atI_get {α : Type} {xs : List α} {i : Int} {v : α} (h : atI xs i = some v) : ∃ j, seqIndex? i xs.length = some j ∧ xs[j]? = some v ∧ j < xs.length ∧ -(xs.length : Int) ≤ i ∧ i < xs.length := by
  unfold atI at h
  cases e : ixN xs.length i with
  | none => rw [e] at h; cases h
  | some j =>
    rw [e] at h
    obtain ⟨h1, h2, h3, h4⟩ := ixN_seq e
    exact ⟨j, h1, h, h2, h3, h4⟩
/-! ### what may be subscripted -/
/-- what stands as an index of a plain subscript -/
def PlainIx (b : Expr) : Prop := ∀ o i, subscripted b false o i = operate [o, i] (getItem o i)
/-- a subscript by values -/
def IxR (X : Cx) (r : R2) : Prop :=
  ∀ (value slice : Expr) (pins : List (Addr × Obj)) (s : Shared) (σ : St) (H : Hp) (x y : V) (v u : Value) (Q : VK), Inv X pins σ H s → RelV x v → RelV y u → r x y H Q →
    subscripted slice false v u = operate [v, u] (getItem v u) → wpAny (model X.prog X.w) X.A (subscriptTail value slice v u) (EP X pins σ Q) X.xe s
/-- a call of a builtin's method by values: the receiver, the arguments -/
def MtR (X : Cx) (id : String) (r : V → List V → Hp → VK → Prop) : Prop :=
  ∀ (pins : List (Addr × Obj)) (s : Shared) (σ : St) (H : Hp) (x : V) (xs : List V) (v : Value) (us : List Value) (Q : VK), Inv X pins σ H s → RelV x v → Vals xs us → r x xs H Q →
    wpAny (model X.prog X.w) X.A (call (.builtin id) (v :: us)) (EP X pins σ Q) X.xe s
section
variable {X : Cx} {a b : Expr} {ta tb : TE} {pos : Pos}
/-- a[b] -/
theorem pe_ix {r : R2} (hr : IxR X r) (ha : PE X a ta) (hb : PE X b tb) (hs : PlainIx b) : PE X (.Subscript a b pos) (tOp r ta tb) := by
  intro pins s σ H Q I h
  exact Subscript_ (binT ha hb I h fun v u s2 x y H2 I2 rx ry q => hr a b pins s2 σ H2 x y v u Q I2 rx ry q (hs _ _))

def rIxL (K : PySem.W.Frag) : R2 := fun x y H Q => ∃ p xs i v, x = .ref p ∧ y = .int i ∧ SqL K H p xs ∧ atI xs i = some v ∧ Q v H
def rIxT (K : PySem.W.Frag) : R2 := fun x y H Q => ∃ p xs i v, x = .ref p ∧ y = .int i ∧ SqT K H p xs ∧ atI xs i = some v ∧ Q v H
def rIxS : R2 := fun x y H Q => ∃ z i c, x = .str z ∧ y = .int i ∧ z.length ≤ sizeLine ∧ atI z.cps.toList i = some c ∧ Q (.str ⟨#[c]⟩) H
theorem ix_list : IxR X (rIxL X.K) := by
  intro value slice pins s σ H x y v u Q I rx ry h hs
  obtain ⟨p, xs, i, z, rfl, rfl, hq, he, q⟩ := h
  cases rx
  obtain ⟨t, rfl⟩ := ry
  obtain ⟨its, r, pl, hz⟩ := I.list hq
  obtain ⟨j, h1, h2, h3, h4, h5⟩ := atI_get he
  obtain ⟨w, ew, rw'⟩ := r.get h2
  have hl := r.length
  have hn := line63
  have fin : EP X pins σ Q w s := ⟨z, H, I, rw', q⟩
  by_cases h0 : 0 ≤ i
  · have hj : i.toNat = j := by
      rw [seqIndex_of h0 h5] at h1
      exact Option.some.inj h1
    exact item_listR pl.isList h0 (by omega) (by rw [hj]; simpa using ew) fin hs
  · have hj : (i + (its.toArray.size : Int)).toNat = j := by
      rw [seqIndex_neg (by omega) h4] at h1
      rw [List.size_toArray, ← hl]
      exact Option.some.inj h1
    exact subscriptTail_builtinR (x := w) pl.isList.typeIs slot_list_getitem.lookup
      (wpAny_getItem_list_neg (Q := fun r s' => r = w ∧ EP X pins σ Q r s') pl.isList (by omega) (by rw [List.size_toArray] <;> omega) (by omega) (by rw [hj]; simpa using ew) ⟨rfl, fin⟩) hs
theorem ix_tup : IxR X (rIxT X.K) := by
  intro value slice pins s σ H x y v u Q I rx ry h hs
  obtain ⟨p, xs, i, z, rfl, rfl, hq, he, q⟩ := h
  cases rx
  obtain ⟨t, rfl⟩ := ry
  obtain ⟨its, r, pl, hz⟩ := I.tuple hq
  obtain ⟨j, h1, h2, h3, h4, h5⟩ := atI_get he
  obtain ⟨w, ew, rw'⟩ := r.get h2
  have hl := r.length
  have hn := line63
  have fin : EP X pins σ Q w s := ⟨z, H, I, rw', q⟩
  exact subscriptTail_builtinR (x := w) pl.typeIs slot_tuple_getitem.lookup
    (getItem_tuple (j := j) (Q := fun r s' => r = w ∧ EP X pins σ Q r s') pl (by omega) (by omega) (by rw [List.size_toArray, ← hl]; exact h1) (by simpa using ew) ⟨rfl, fin⟩) hs
/-- list, tuple or str -/
def rIx (K : PySem.W.Frag) : R2 := fun x y H Q => rIxL K x y H Q ∨ rIxT K x y H Q ∨ rIxS x y H Q
/-! ### xs[i] = v, any sign -/
/-- the list's object behind a store -/
theorem mapSeq_set (its : List Value) (n j : Nat) (u : Value) : Obj.mapSeq (·.setIfInBounds j u) { cls := .type "list", data := .seq its.toArray n } = { cls := .type "list", data := .seq (its.set j u).toArray n } := by
  simp [Obj.mapSeq]
theorem Inv.lst {pins : List (Addr × Obj)} {σ : St} {H : Hp} {s : Shared} {p : Addr} {xs : List V} (I : Inv X pins σ H s) (h : H p = some (.lst xs)) :
    ∃ (its : List Value) (n : Nat), Vals xs its ∧ s.heap.get? p = some { cls := .type "list", data := .seq its.toArray n } ∧ xs.length ≤ sizeLine := by
  obtain ⟨z, its, n, r, e⟩ := I.hok p _ h
  exact ⟨its, n, r, e, z⟩
/-- the list at p is written by an update of its object -/
theorem Inv.lstUpd {pins : List (Addr × Obj)} {σ : St} {H : Hp} {s : Shared} {p : Addr} {xs ys : List V} {its its' : List Value} {n n' : Nat} {f : Obj → Obj} (I : Inv X pins σ H s) (h : H p = some (.lst xs))
    (ho : s.heap.get? p = some { cls := .type "list", data := .seq its.toArray n }) (hf : f { cls := .type "list", data := .seq its.toArray n } = { cls := .type "list", data := .seq its'.toArray n' }) (r : Vals ys its') (hz : ys.length ≤ sizeLine) (t : Nat) :
    Inv X pins σ (upd H p (.lst ys)) { s with heap := s.heap.update p f, toks := t } := by
  have e : (s.heap.update p f).get? p = some { cls := .type "list", data := .seq its'.toArray n' } := by
    rw [Heap.get?_update_self f ho (by rw [hf] <;> rfl), hf]
  refine I.write (x := p) (e := p) (by rw [h]; trivial) (.inl rfl) (fun b u hb q => (Heap.get?_update_other _ _ (Ne.symm hb)).trans q) ⟨_, e⟩ ?_
  exact ⟨hz, its', n', r, e⟩
def rSetL : V → V → V → Hp → (Hp → Prop) → Prop := fun o i v H Q => ∃ p xs k j, o = .ref p ∧ i = .int k ∧ H p = some (.lst xs) ∧ ixN xs.length k = some j ∧ Q (upd H p (.lst (xs.set j v)))
theorem set_list : PSet X rSetL := by
  intro pins s σ H o i v ov iv u Q I ro ri rv h
  obtain ⟨p, xs, k, j, rfl, rfl, hp, hj, q⟩ := h
  cases ro
  obtain ⟨t, rfl⟩ := ri
  obtain ⟨its, n, r, ho, hz⟩ := I.lst hp
  obtain ⟨h1, h2, h3, h4⟩ := ixN_seq hj
  have hl := r.length
  have hn := line63
  have I' : Inv X pins σ (upd H p (.lst (xs.set j v))) { s with heap := s.heap.update p (Obj.mapSeq (·.setIfInBounds j u)) } :=
    I.lstUpd hp ho (mapSeq_set its n j u) (r.set rv j) (by rw [List.length_set]; exact hz) s.toks
  by_cases h0 : 0 ≤ k
  · have hk : k.toNat = j := by
      rw [seqIndex_of h0 h4] at h1
      exact Option.some.inj h1
    exact PySem.W.ki_setAt ho h0 (by omega) (by rw [List.size_toArray, ← hl]; exact h4) (by rw [hk]; exact ⟨_, I', q⟩)
  · have hk : (k + (its.toArray.size : Int)).toNat = j := by
      rw [seqIndex_neg (by omega) h3] at h1
      rw [List.size_toArray, ← hl]
      exact Option.some.inj h1
    exact PySem.W.ki_setBack ho (by omega) (by rw [List.size_toArray, ← hl]; exact h3) (by omega) (by rw [hk]; exact ⟨_, I', q⟩)

/-! ### slices -/
theorem slice_bounds (lo hi : Option Int) (n : Nat) : (sliceBounds lo hi none n).1 = ((HT.sIx n 0 lo : Nat) : Int) ∧ (sliceBounds lo hi none n).2.1 = ((HT.sIx n n hi : Nat) : Int) ∧ (sliceBounds lo hi none n).2.2 = 1 := by
  refine ⟨?_, ?_, rfl⟩
  · cases lo with
    | none => simp [sliceBounds, HT.sIx]
    | some i =>
      simp only [sliceBounds, HT.sIx, Option.getD_none, show (1 : Int) > 0 by decide, if_true]
      by_cases h : i < 0
      · simp only [h, if_true] <;> omega
      · simp only [h, if_false] <;> omega
  · cases hi with
    | none => simp [sliceBounds, HT.sIx]
    | some i =>
      simp only [sliceBounds, HT.sIx, Option.getD_none, show (1 : Int) > 0 by decide, if_true]
      by_cases h : i < 0
      · simp only [h, if_true] <;> omega
      · simp only [h, if_false] <;> omega
theorem slicePick_cut (its : List Value) (lo hi : Option Int) : slicePick its.toArray lo hi none = ((its.drop (HT.sIx its.length 0 lo)).take (HT.sIx its.length its.length hi - HT.sIx its.length 0 lo)).toArray := by
  obtain ⟨h1, h2, h3⟩ := slice_bounds lo hi its.toArray.size
  unfold slicePick
  rw [h1, h2, h3]
  simp only [sliceRange_one, pick_run, List.size_toArray] <;> rfl
/-- xs[lo:hi] of a list: a new list -/
def rSlL (K : PySem.W.Frag) : V → Option Int → Option Int → Hp → VK → Prop := fun x lo hi H Q => ∃ a xs, x = .ref a ∧ SqL K H a xs ∧ ∀ p, H p = none → Q (.ref p) (upd H p (.lst (cutV xs lo hi)))
theorem sl_list : SlR X (rSlL X.K) := by
  intro pins s σ H x v vl vu lo hi sl Q I rx hs pl pu h
  obtain ⟨a, xs, rfl, hx, q⟩ := h
  cases rx
  obtain ⟨its, r, ht, hz⟩ := I.list hx
  have hlen := r.length
  refine ⟨"list", _, slot_list_getitem.lookup, ht.isList.typeIs, ?_⟩
  refine wpAny_getItem_list_slice ht.isList hs pl pu .none (by simp) ?_ (by rw [List.size_toArray] <;> omega)
  rw [slicePick_cut, ← hlen]
  refine ⟨.ref s.heap.objs.size, _, I.laid (t' := s.toks) (o := .lst (cutV xs lo hi)) (fun b ob q => Heap.get?_push_of_some _ q) (Nat.le_refl _) ?_, rfl, q _ (I.hok.fresh (Nat.le_refl _))⟩
  exact ⟨Nat.le_trans (cutV_length xs lo hi) hz, _, 0, (r.drop (HT.sIx xs.length 0 lo)).take (HT.sIx xs.length xs.length hi - HT.sIx xs.length 0 lo), Heap.get?_push_size _ rfl⟩

/-! ### in, not in: flat items -/
def flatV : V → Bool
  | .non => true
  | .bl _ => true
  | .int _ => true
  | .str _ => true
  | _ => false
/-- == of flat values -/
def eqV : V → V → Bool
  | .non, .non => true
  | .bl a, .bl b => a == b
  | .bl a, .int b => (if a then 1 else 0) == b
  | .int a, .bl b => a == (if b then 1 else 0)
  | .int a, .int b => a == b
  | .str a, .str b => a == b
  | _, _ => false
theorem eqAt_V {A : Around} {s : Shared} {y x : V} {u v : Value} (ry : RelV y u) (rx : RelV x v) (fy : flatV y = true) (fx : flatV x = true) : SeqAt.EqAt A s u v (eqV y x) := by
  cases y with
  | non =>
    cases ry
    cases x with
    | non => cases rx; exact SeqAt.EqAt.same _
    | bl b => cases rx; exact SeqAt.EqAt.none_bool b
    | int b => obtain ⟨t, rfl⟩ := rx; exact SeqAt.EqAt.none_int b t
    | str b => obtain ⟨t, rfl⟩ := rx; exact SeqAt.EqAt.none_str b t
    | _ => exact absurd (show false = true from fx) Bool.false_ne_true
  | bl a =>
    cases ry
    cases x with
    | non => cases rx; exact SeqAt.EqAt.bool_none a
    | bl b => cases rx; exact SeqAt.EqAt.bool_bool a b
    | int b => obtain ⟨t, rfl⟩ := rx; exact SeqAt.EqAt.bool_int a b t
    | str b => obtain ⟨t, rfl⟩ := rx; exact SeqAt.EqAt.bool_str a b t
    | _ => exact absurd (show false = true from fx) Bool.false_ne_true
  | int a =>
    obtain ⟨t', rfl⟩ := ry
    cases x with
    | non => cases rx; exact SeqAt.EqAt.int_none a t'
    | bl b => cases rx; exact SeqAt.EqAt.int_bool a t' b
    | int b => obtain ⟨t, rfl⟩ := rx; exact SeqAt.EqAt.int_int a t' b t
    | str b => obtain ⟨t, rfl⟩ := rx; exact SeqAt.EqAt.int_str a t' b t
    | _ => exact absurd (show false = true from fx) Bool.false_ne_true
  | str a =>
    obtain ⟨t', rfl⟩ := ry
    cases x with
    | non => cases rx; exact SeqAt.EqAt.str_none a t'
    | bl b => cases rx; exact SeqAt.EqAt.str_bool a t' b
    | int b => obtain ⟨t, rfl⟩ := rx; exact SeqAt.EqAt.str_int a t' b t
    | str b => obtain ⟨t, rfl⟩ := rx; exact SeqAt.EqAt.str_str a t' b t
    | _ => exact absurd (show false = true from fx) Bool.false_ne_true
  | _ => exact absurd (show false = true from fy) Bool.false_ne_true
/-- the items' answers, read off the values (a value's own answer does not lean on its token) -/
def eqU (x : V) (u : Value) : Bool := match u with
  | .none => eqV .non x
  | .bool b => eqV (.bl b) x
  | .int i _ => eqV (.int i) x
  | .str z _ => eqV (.str z) x
  | _ => false
theorem eqU_of {x y : V} {u : Value} (r : RelV y u) (f : flatV y = true) : eqU x u = eqV y x := by
  cases y with
  | non => cases r; rfl
  | bl b => cases r; rfl
  | int i => obtain ⟨t, rfl⟩ := r; rfl
  | str z => obtain ⟨t, rfl⟩ := r; rfl
  | _ => exact absurd (show false = true from f) Bool.false_ne_true
theorem any_eqU {x : V} : ∀ {xs : List V} {us : List Value}, Vals xs us → xs.all flatV = true → us.any (eqU x) = xs.any fun y => eqV y x
  | _, _, .nil, _ => rfl
  | y :: xs, u :: us, .cons r t, f => by
    rw [List.all_cons, Bool.and_eq_true] at f
    rw [List.any_cons, List.any_cons, eqU_of r f.1, any_eqU t f.2]
theorem mem_eqAt {A : Around} {s : Shared} {x : V} {v : Value} (rx : RelV x v) (fx : flatV x = true) : ∀ {xs : List V} {us : List Value}, Vals xs us → xs.all flatV = true → ∀ u ∈ us, SeqAt.EqAt A s u v (eqU x u)
  | _, _, .nil, _ => fun u hu => by cases hu
  | y :: xs, u :: us, .cons r t, f => fun u' hu => by
    rw [List.all_cons, Bool.and_eq_true] at f
    rcases List.mem_cons.mp hu with rfl | hu
    · rw [eqU_of r f.1]; exact eqAt_V r rx f.1 fx
    · exact mem_eqAt rx fx t f.2 u' hu
def inV (x : V) (xs : List V) : Bool := xs.any fun y => eqV y x
/-- x in a list or tuple of flat items -/
def rIn (K : PySem.W.Frag) (neg : Bool) : R2 := fun x y H Q => ∃ p xs, y = .ref p ∧ (SqL K H p xs ∨ SqT K H p xs) ∧ flatV x = true ∧ xs.all flatV = true ∧ Q (.bl (if neg then !inV x xs else inV x xs)) H
theorem op_in_seq : OpR X (compareOp .In) (rIn X.K false) := by
  intro pins s σ H x y v u Q I rx ry h
  obtain ⟨p, xs, rfl, hq, fx, fs, q⟩ := h
  cases ry
  rcases hq with hq | hq
  · obtain ⟨its, r, pl, hz⟩ := I.list hq
    refine SeqAt.in_listAt (eqU x) pl.isList (fun w hw => mem_eqAt rx fx r fs w (by simpa using hw)) ⟨.bl _, H, I, rfl, ?_⟩
    rw [show its.toArray.any (eqU x) = its.any (eqU x) by simp, any_eqU r fs]
    exact q
  · obtain ⟨its, r, pl, hz⟩ := I.tuple hq
    refine SeqAt.in_tupleAt (eqU x) pl (fun w hw => mem_eqAt rx fx r fs w (by simpa using hw)) ⟨.bl _, H, I, rfl, ?_⟩
    rw [show its.toArray.any (eqU x) = its.any (eqU x) by simp, any_eqU r fs]
    exact q
theorem op_notIn_seq : OpR X (compareOp .NotIn) (rIn X.K true) := by
  intro pins s σ H x y v u Q I rx ry h
  obtain ⟨p, xs, rfl, hq, fx, fs, q⟩ := h
  cases ry
  rcases hq with hq | hq
  · obtain ⟨its, r, pl, hz⟩ := I.list hq
    refine SeqAt.notIn_listAt (eqU x) pl.isList (fun w hw => mem_eqAt rx fx r fs w (by simpa using hw)) ⟨.bl _, H, I, rfl, ?_⟩
    rw [show its.toArray.any (eqU x) = its.any (eqU x) by simp, any_eqU r fs]
    exact q
  · obtain ⟨its, r, pl, hz⟩ := I.tuple hq
    refine SeqAt.notIn_tupleAt (eqU x) pl (fun w hw => mem_eqAt rx fx r fs w (by simpa using hw)) ⟨.bl _, H, I, rfl, ?_⟩
    rw [show its.toArray.any (eqU x) = its.any (eqU x) by simp, any_eqU r fs]
    exact q
/-! ### len, list(x), tuple(x) of any list or tuple that is read -/
theorem call_len_seq : CallR X (.builtin "len") (fun xs H Q => ∃ p ys, xs = [.ref p] ∧ (SqL X.K H p ys ∨ SqT X.K H p ys) ∧ Q (.int ys.length) H) := by
  intro pins s σ H xs us Q I r h
  obtain ⟨p, ys, rfl, hq, q⟩ := h
  obtain ⟨u, rfl, rx⟩ := vals1 r
  cases rx
  have hn := line63
  rcases hq with hq | hq
  · obtain ⟨its, r', pl, hz⟩ := I.list hq
    have hlen := r'.length
    exact Calls.call_len_list pl.isList (by simp only [List.size_toArray] <;> omega) ⟨.int ys.length, H, I.tok _, ⟨s.toks + 1, by rw [List.size_toArray, hlen]⟩, q⟩
  · obtain ⟨its, r', pl, hz⟩ := I.tuple hq
    have hlen := r'.length
    exact len_tuple pl (by simp only [List.size_toArray] <;> omega) ⟨.int ys.length, H, I.tok _, ⟨s.toks + 1, by rw [List.size_toArray, hlen]⟩, q⟩
theorem call_len_str : CallR X (.builtin "len") (fun xs H Q => ∃ z, xs = [.str z] ∧ z.length ≤ sizeLine ∧ Q (.int z.length) H) := by
  intro pins s σ H xs us Q I r h
  obtain ⟨z, rfl, hz, q⟩ := h
  obtain ⟨u, rfl, t, rfl⟩ := vals1 r
  have hn := line63
  exact len_str (by omega) ⟨.int z.length, H, I.tok _, ⟨_, rfl⟩, q⟩
/-! ### the call of a builtin's method: o.m(..) -/
/-- the value is of that builtin type -/
def tyV (K : PySem.W.Frag) (T : String) (x : V) (H : Hp) : Prop := match x with
  | .str _ => T = "str"
  | .int _ => T = "int"
  | .ref p => (T = "list" ∧ ∃ xs, SqL K H p xs) ∨ (T = "tuple" ∧ ∃ o, K.lookup p = some o ∧ o.cls = .type "tuple" ∧ o.dict = none) ∨
      (T = "dict" ∧ ((∃ kvs, H p = some (.dK kvs)) ∨ ∃ kvs, H p = some (.dT kvs))) ∨ (T = "set" ∧ ∃ S n, H p = some (.set S n))
  | _ => False
theorem tyV_is {pins : List (Addr × Obj)} {σ : St} {H : Hp} {s : Shared} {T : String} {x : V} {v : Value} (I : Inv X pins σ H s) (r : RelV x v) (ty : tyV X.K T x H) :
    s.TypeIs v T ∧ ∀ a, v = .ref a → ∃ ob, s.heap.get? a = some ob ∧ ob.dict = none := by
  cases x with
  | str z =>
    obtain ⟨t, rfl⟩ := r
    cases (show T = "str" from ty)
    exact ⟨typeIs_str s z t, fun _ e => nomatch e⟩
  | int i =>
    obtain ⟨t, rfl⟩ := r
    cases (show T = "int" from ty)
    exact ⟨typeIs_int s i t, fun _ e => nomatch e⟩
  | ref p =>
    cases r
    rcases ty with ⟨rfl, xs, hq⟩ | ⟨rfl, o, hk, hc, hd⟩ | ⟨rfl, hk⟩ | ⟨rfl, S, n, hk⟩
    · obtain ⟨its, _, pl, _⟩ := I.list hq
      refine ⟨pl.isList.typeIs, fun a e => ?_⟩
      cases e
      obtain ⟨o, n, e, c, hd, _⟩ := pl
      exact ⟨o, e, hd⟩
    · refine ⟨⟨o, I.kIn p o hk, hc⟩, fun a e => ?_⟩
      cases e
      exact ⟨o, I.kIn _ o hk, hd⟩
    · have z : ∃ o, s.heap.get? p = some o ∧ o.ExactDict := by
        rcases hk with ⟨kvs, hk⟩ | ⟨kvs, hk⟩
        · obtain ⟨_, _, _, _, o, _, _, e, ex, _⟩ := I.hok p _ hk
          exact ⟨o, e, ex⟩
        · obtain ⟨_, _, _, _, o, _, _, e, ex, _⟩ := I.hok p _ hk
          exact ⟨o, e, ex⟩
      obtain ⟨o, e, ex⟩ := z
      refine ⟨⟨o, e, ex.1⟩, fun a e2 => ?_⟩
      cases e2
      exact ⟨o, e, ex.2.1⟩
    · obtain ⟨o, _, _, _, e, ex, _⟩ := I.hok p _ hk
      refine ⟨⟨o, e, ex.1⟩, fun a e2 => ?_⟩
      cases e2
      exact ⟨o, e, ex.2.1⟩
  | _ => exact False.elim ty
def tBM0 (K : PySem.W.Frag) (T : String) (r : V → List V → Hp → VK → Prop) (to : TE) : TE := fun σ H Q => to σ H fun x H1 => tyV K T x H1 ∧ r x [] H1 Q
def tBM (K : PySem.W.Frag) (T : String) (r : V → List V → Hp → VK → Prop) (to : TE) (t : TA) : TE := fun σ H Q => to σ H fun x H1 => tyV K T x H1 ∧ t σ H1 fun xs H2 => r x xs H2 Q
variable {o e : Expr} {es : List Expr} {to : TE} {t : TA} {name : Str} {apos cpos : Pos} {T id : String} {r : V → List V → Hp → VK → Prop}
theorem pe_bm0 (pa : PlainAttrs T) (slot : Slot T name id) (hty : typeOf (.builtin id) = pure (.type "method_descriptor")) (hm : MtR X id r) (ho : PE X o to)
    (hbase : attributeBase o name X.env (eval o X.env) = eval o X.env := by rfl) (hline : (apos.endLine == cpos.line) = true := by rfl) : PE X (.Call (.Attribute o name apos) [] [] cpos) (tBM0 X.K T r to) := by
  intro pins s σ H Q I h
  refine wpAny_Call_method0_late hbase hline (thn (ho pins s σ H _ I h) fun v s1 => L2.ex5 fun x H1 I1 r1 hq_ => ?_)
  obtain ⟨ty, q1⟩ := hq_
  obtain ⟨h1, h2⟩ := tyV_is I1 r1 ty
  exact ⟨T, id, pa, slot, hty, h1, h2, Calls.callWith_builtin rfl (PySem.evalArgs_none (hm pins s1 σ H1 x [] v [] Q I1 r1 .nil q1))⟩
theorem pe_bm (pa : PlainAttrs T) (slot : Slot T name id) (hty : typeOf (.builtin id) = pure (.type "method_descriptor")) (hm : MtR X id r) (ho : PE X o to) (ha : PA X (e :: es) t)
    (hbase : attributeBase o name X.env (eval o X.env) = eval o X.env := by rfl)
    (hfew : ((backTo cpos (starEach (e :: es) X.env)).all (fun x => !x.1) && (backToKw cpos (keywordEach [] X.env)).all (fun x => x.1.isSome)
      && decide ((e :: es).length + ([] : List Keyword).length + (if ([] : List Keyword).isEmpty then 0 else 1) < 30)) = true := by rfl)
    (hline : (apos.endLine == cpos.line) = true := by rfl) (hs : starEach (e :: es) X.env = (false, eval e X.env) :: starEach es X.env := by rfl) (hplain : (backTo cpos (starEach es X.env)).any (·.1) = false := by rfl) :
    PE X (.Call (.Attribute o name apos) (e :: es) [] cpos) (tBM X.K T r to t) := by
  intro pins s σ H Q I h
  refine wpAny_Call_method_late hbase hfew hline rfl (thn (ho pins s σ H _ I h) fun v s1 => L2.ex5 fun x H1 I1 r1 hq_ => ?_)
  obtain ⟨ty, q1⟩ := hq_
  obtain ⟨h1, h2⟩ := tyV_is I1 r1 ty
  refine ⟨T, id, pa, slot, hty, h1, h2, ?_⟩
  have hA := ha cpos pins s1 σ H1 _ I1 q1
  rw [hs] at hA ⊢
  refine Calls.callWith_builtin (by show (false || (backTo cpos (starEach es X.env)).any (·.1)) = false; rw [hplain] <;> rfl) (Calls.evalArgs_plain ?_)
  exact thn hA fun us s2 => L2.ex5 fun vs H2 I2 r2 q2 => hm pins s2 σ H2 x vs v us Q I2 r1 r2 q2
/- xs.append(e), list.index on a module's tuple .. are MtR facts of 06m -/
end
end L2

namespace L2
open PySem PySem.Spec PyProof.Rows

def MtM (X : Cx) (id : String) (r : V → List V → Hp → VK → Prop) : Prop :=
  ∀ (pins : List (Addr × Obj)) (s : Shared) (σ : St) (H : Hp) (x : V) (xs : List V) (v : Value) (us : List Value) (Q : VK), Inv X pins σ H s → RelV x v → Vals xs us → r x xs H Q →
    wpAny (model X.prog X.w) X.A (call (.builtin id) (v :: us)) (EP X pins σ Q) X.xe s

/-! ### lists of values -/
theorem Vals.one : ∀ {x : V} {us : List Value}, Vals [x] us → ∃ u, us = [u] ∧ RelV x u
  | _, _, .cons r .nil => ⟨_, rfl, r⟩
theorem Vals.eraseIdx : ∀ {xs : List V} {us : List Value} (i : Nat), Vals xs us → Vals (xs.eraseIdx i) (us.eraseIdx i)
  | _, _, _, .nil => .nil
  | _, _, 0, .cons _ t => t
  | _, _, i + 1, .cons r t => .cons r (Vals.eraseIdx i t)
theorem len_erase {α : Type} : ∀ (l : List α) (i : Nat), (l.eraseIdx i).length ≤ l.length
  | [], _ => Nat.le_refl _
  | _ :: _, 0 => Nat.le_succ _
  | _ :: r, i + 1 => Nat.succ_le_succ (len_erase r i)
section
variable {X : Cx} {pins : List (Addr × Obj)} {σ : St} {H : Hp} {s : Shared} {l b : Addr} {xs ys zs : List V}

/-! ### the two steps: a tracked list is rewritten, a new list is laid -/
theorem Inv.lset {its its' : List Value} {n : Nat} {f : Array Value → Array Value} {t' : Nat} (I : Inv X pins σ H s) (hH : H l = some (.lst xs))
    (e : s.heap.get? l = some { cls := .type "list", data := .seq its.toArray n }) (hf : f its.toArray = its'.toArray) (hv : Vals ys its') (hz : ys.length ≤ sizeLine) :
    Inv X pins σ (upd H l (.lst ys)) { s with heap := s.heap.update l (Obj.mapSeq f), toks := t' } := by
  have q := PySem.IsL.update e f
  rw [hf] at q
  refine I.write (x := l) (e := l) (by rw [hH]; exact trivial) (.inl rfl) (fun b' u hb hu => (Heap.get?_update_other s.heap (Obj.mapSeq f) (Ne.symm hb)).trans hu) ⟨_, q⟩ ?_
  exact ⟨hz, its', _, hv, q⟩
theorem Inv.lnew {its : List Value} {t' : Nat} (I : Inv X pins σ H s) (hv : Vals ys its) (hz : ys.length ≤ sizeLine) :
    Inv X pins σ (upd H s.heap.objs.size (.lst ys)) { s with heap := s.heap.push { cls := .type "list", data := .seq its.toArray }, toks := t' } :=
  I.laid (fun _ _ q => Heap.get?_push_of_some _ q) (Nat.le_refl _) ⟨hz, its, 0, hv, Heap.get?_push_size _ rfl⟩
theorem Inv.fresh (I : Inv X pins σ H s) : H s.heap.objs.size = none := I.hok.fresh (Nat.le_refl _)
theorem Inv.lstM (I : Inv X pins σ H s) (hH : H l = some (.lst xs)) : xs.length ≤ sizeLine ∧ ∃ (its : List Value) (n : Nat), Vals xs its ∧ xs.length = its.length ∧ s.heap.get? l = some { cls := .type "list", data := .seq its.toArray n } := by
  obtain ⟨z, its, n, r, e⟩ := I.hok l _ hH
  exact ⟨z, its, n, r, r.length, e⟩

theorem notLongL {n : Nat} (h : n ≤ sizeLine) : Builtin.List.listTooLong n = false := by
  unfold Builtin.List.listTooLong
  exact decide_eq_false (by omega)
end

section
variable {X : Cx}

/-! ### methods -/
def rAppend : V → List V → Hp → VK → Prop := fun x vs H Q => ∃ l xs y, x = .ref l ∧ vs = [y] ∧ H l = some (.lst xs) ∧ xs.length < sizeLine ∧ Q .non (upd H l (.lst (xs ++ [y])))
theorem mt_append : MtM X "list.append" rAppend := by
  intro pins s σ H x vs v us Q I rx rv h
  obtain ⟨l, xs, y, rfl, rfl, hH, hz, q⟩ := h
  cases rx
  obtain ⟨u, rfl, ru⟩ := rv.one
  obtain ⟨z, its, n, r, hl, e⟩ := I.lstM hH
  refine call_meets F.slot_list_append ⟨_, e, rfl⟩ F.entry_list_append (F.args_list_append_2 _ _) (PySem.list_append l its.toArray n u (by rw [List.size_toArray]; omega)) ⟨e, ?_⟩
  refine ⟨.non, _, I.lset (its' := its ++ [u]) hH e (by simp) (r.append (.cons ru .nil)) ?_, rfl, q⟩
  rw [List.length_append, List.length_singleton]
  omega

def rExtend : V → List V → Hp → VK → Prop := fun x vs H Q => ∃ l b xs zs, x = .ref l ∧ vs = [.ref b] ∧ H l = some (.lst xs) ∧ H b = some (.lst zs) ∧ xs.length + zs.length ≤ sizeLine ∧ Q .non (upd H l (.lst (xs ++ zs)))
def rPop : V → List V → Hp → VK → Prop := fun x vs H Q => ∃ l xs y, x = .ref l ∧ vs = [] ∧ H l = some (.lst xs) ∧ xs[xs.length - 1]? = some y ∧ Q y (upd H l (.lst xs.dropLast))
def rPopAt : V → List V → Hp → VK → Prop := fun x vs H Q => ∃ l xs i k y, x = .ref l ∧ vs = [.int i] ∧ H l = some (.lst xs) ∧ -(2 ^ 63) ≤ i ∧ i < 2 ^ 63 ∧ seqIndex? i xs.length = some k ∧ xs[k]? = some y ∧ Q y (upd H l (.lst (xs.eraseIdx k)))
theorem mt_popAt : MtM X "list.pop" rPopAt := by
  intro pins s σ H x vs v us Q I rx rv h
  obtain ⟨l, xs, i, k, y, rfl, rfl, hH, h1, h2, hk, hy, q⟩ := h
  cases rx
  obtain ⟨u, rfl, ru⟩ := rv.one
  obtain ⟨t, rfl⟩ := ru
  obtain ⟨z, its, n, r, hl, e⟩ := I.lstM hH
  obtain ⟨w, hw, rw'⟩ := r.get hy
  refine call_meets F.slot_list_pop ⟨_, e, rfl⟩ F.entry_list_pop (F.args_list_pop_2 _ _)
    (MeetsSeq.list_pop_at l its.toArray n i t k w (fitsIndex_both h1 h2) (by rw [List.size_toArray, ← hl]; exact hk) (by rw [← Array.getElem?_toList]; exact hw) (by rw [List.size_toArray]; omega)) ⟨e, ?_⟩
  refine ⟨y, _, I.lset (its' := its.eraseIdx k) hH e ?_ (r.eraseIdx k) ?_, rw', q⟩
  · show its.toArray.eraseIdxIfInBounds k = (its.eraseIdx k).toArray
    rw [List.eraseIdxIfInBounds_toArray]
  · have := len_erase xs k
    omega

def rReverse : V → List V → Hp → VK → Prop := fun x vs H Q => ∃ l xs, x = .ref l ∧ vs = [] ∧ H l = some (.lst xs) ∧ Q .non (upd H l (.lst xs.reverse))
def rClear : V → List V → Hp → VK → Prop := fun x vs H Q => ∃ l xs, x = .ref l ∧ vs = [] ∧ H l = some (.lst xs) ∧ Q .non (upd H l (.lst []))
/-! ### list + list, list += list, list * int -/
def rCat : R2 := fun x y H Q => ∃ l b xs zs, x = .ref l ∧ y = .ref b ∧ H l = some (.lst xs) ∧ H b = some (.lst zs) ∧ xs.length + zs.length ≤ sizeLine ∧ ∀ p, H p = none → Q (.ref p) (upd H p (.lst (xs ++ zs)))
theorem op_cat : OpR X (binaryOp .Add) rCat := by
  intro pins s σ H x y v u Q I rx ry h
  obtain ⟨l, b, xs, zs, rfl, rfl, hH, hB, hz, q⟩ := h
  cases rx
  cases ry
  obtain ⟨z, its, n, r, hl, e⟩ := I.lstM hH
  obtain ⟨z2, its2, n2, r2, hl2, e2⟩ := I.lstM hB
  refine PySem.P.add_list e e2 ?_ (by rw [List.size_toArray, List.size_toArray]; omega)
  have ea : its.toArray ++ its2.toArray = (its ++ its2).toArray := by simp
  rw [ea]
  exact ⟨.ref _, _, I.lnew (t' := s.toks) (r.append r2) (by rw [List.length_append]; omega), rfl, q _ I.fresh⟩
/-- a list times an int (a negative one is nothing) -/
def rRep : R2 := fun x y H Q => ∃ l k xs, x = .ref l ∧ y = .int k ∧ H l = some (.lst xs) ∧ -(2 ^ 63) ≤ k ∧ k < 2 ^ 63 ∧ xs.length * k.toNat ≤ sizeLine ∧
  ∀ p, H p = none → Q (.ref p) (upd H p (.lst (List.replicate k.toNat xs).flatten))
/-! ### del xs[i] -/
end

/-! ### xs[a:b] = ys -/
section
variable {prog : Program} {w : World} {A : Around} {E : Value → Shared → Prop} {s : Shared}
end

section
variable {X : Cx}
end
end L2

namespace L2
open PySem PySem.Spec PyProof.Rows

/-! ### lists of pairs as tables -/
section
variable {κ : Type} [DecidableEq κ]
def valV (kvs : List (κ × V)) (k : κ) : Option V := (kvs.find? fun kv => decide (kv.1 = k)).map (·.2)
/-- in its place, or at the end -/
def putK (kvs : List (κ × V)) (k : κ) (v : V) : List (κ × V) :=
  if (kvs.any fun kv => decide (kv.1 = k)) = true then kvs.map (fun kv => if kv.1 = k then (kv.1, v) else kv) else kvs ++ [(k, v)]
def dropK (kvs : List (κ × V)) (k : κ) : List (κ × V) := kvs.filter fun kv => decide (kv.1 ≠ k)

theorem valV_pos {p : κ × V} {r : List (κ × V)} {k : κ} (e : p.1 = k) : valV (p :: r) k = some p.2 := by simp [valV, List.find?_cons, e]
theorem valV_neg {p : κ × V} {r : List (κ × V)} {k : κ} (e : ¬ p.1 = k) : valV (p :: r) k = valV r k := by simp [valV, List.find?_cons, e]
theorem valV_any (k : κ) : ∀ kvs : List (κ × V), (kvs.any fun kv => decide (kv.1 = k)) = (valV kvs k).isSome
  | [] => rfl
  | p :: r => by
    rw [List.any_cons]
    by_cases e : p.1 = k
    · simp only [valV_pos e, decide_eq_true e, Bool.true_or, Option.isSome_some]
    · rw [valV_neg e, decide_eq_false e, Bool.false_or]; exact valV_any k r
theorem valV_map (k j : κ) (y : V) : ∀ kvs : List (κ × V), valV (kvs.map fun kv => if kv.1 = k then (kv.1, y) else kv) j = (valV kvs j).map fun x => if j = k then y else x
  | [] => rfl
  | p :: r => by
    have ih := valV_map k j y r
    rw [List.map_cons]
    by_cases h : p.1 = k
    · rw [if_pos h]
      by_cases e : p.1 = j
      · rw [valV_pos (p := (p.1, y)) e, valV_pos e, Option.map_some, if_pos (e.symm.trans h)]
      · rw [valV_neg (p := (p.1, y)) e, valV_neg e, ih]
    · rw [if_neg h]
      by_cases e : p.1 = j
      · rw [valV_pos (p := p) e, valV_pos e, Option.map_some, if_neg (fun z => h (e.trans z))]
      · rw [valV_neg (p := p) e, valV_neg e, ih]
theorem valV_snoc (k j : κ) (y : V) : ∀ kvs : List (κ × V), valV kvs k = none → valV (kvs ++ [(k, y)]) j = if j = k then some y else valV kvs j
  | [], _ => by
    by_cases e : k = j
    · rw [if_pos e.symm]; exact valV_pos (p := (k, y)) e
    · rw [if_neg (fun z => e z.symm)]; exact valV_neg (p := (k, y)) e
  | p :: r, hn => by
    rw [List.cons_append]
    have hk : ¬ p.1 = k := fun z => by rw [valV_pos z] at hn; cases hn
    rw [valV_neg hk] at hn
    have ih := valV_snoc k j y r hn
    by_cases e : p.1 = j
    · rw [valV_pos e, valV_pos e, if_neg (fun z => hk (e.trans z))]
    · rw [valV_neg e, valV_neg e, ih]
theorem valV_put (kvs : List (κ × V)) (k j : κ) (y : V) : valV (putK kvs k y) j = if j = k then some y else valV kvs j := by
  unfold putK
  by_cases a : (kvs.any fun kv => decide (kv.1 = k)) = true
  · rw [if_pos a, valV_map]
    rw [valV_any] at a
    by_cases e : j = k
    · obtain ⟨x, hx⟩ := Option.isSome_iff_exists.mp a
      rw [if_pos e, e, hx, Option.map_some, if_pos rfl]
    · rw [if_neg e]
      cases valV kvs j with
      | none => rfl
      | some x => rw [Option.map_some, if_neg e]
  · rw [if_neg a]
    refine valV_snoc k j y kvs ?_
    rw [valV_any] at a
    cases q : valV kvs k with
    | none => rfl
    | some x => rw [q] at a; exact (a rfl).elim
theorem length_putK (kvs : List (κ × V)) (k : κ) (v : V) : (putK kvs k v).length ≤ kvs.length + 1 := by
  unfold putK
  split
  · rw [List.length_map]; omega
  · rw [List.length_append, List.length_cons, List.length_nil]; omega
theorem putK_new {kvs : List (κ × V)} {k : κ} (v : V) (h : valV kvs k = none) : putK kvs k v = kvs ++ [(k, v)] := by
  unfold putK
  rw [valV_any, h]
  exact if_neg (by decide)

theorem RelO.isSome_eq {o : Option V} {u : Option Value} (r : RelO o u) : o.isSome = u.isSome := by
  cases o with
  | none => cases u with
    | none => rfl
    | some _ => exact (show False from r).elim
  | some _ => cases u with
    | none => exact (show False from r).elim
    | some _ => rfl
theorem RelO.getD {o : Option V} {u : Option Value} {d : V} {d' : Value} (r : RelO o u) (rd : RelV d d') : RelV (o.getD d) (u.getD d') := by
  cases o with
  | none => cases u with
    | none => exact rd
    | some _ => exact (show False from r).elim
  | some _ => cases u with
    | none => exact (show False from r).elim
    | some _ => exact r

/-- raw tables of the same keys -/
theorem KV.val {kvs : List (κ × V)} {vs : List (κ × Value)} (r : KV kvs vs) (k : κ) : RelO (valV kvs k) (valueAt vs k) := by
  unfold KV at r
  induction r with
  | nil => exact True.intro
  | @cons p q ps qs h t ih =>
    obtain ⟨h1, h2⟩ := h
    by_cases e : p.1 = k
    · have e' : q.1 = k := h1.symm.trans e
      have b : valueAt (q :: qs) k = some q.2 := by simp [valueAt, List.find?_cons, e']
      rw [valV_pos e, b]; exact h2
    · have e' : ¬ q.1 = k := fun z => e (h1.trans z)
      have b : valueAt (q :: qs) k = valueAt qs k := by simp [valueAt, List.find?_cons, e']
      rw [valV_neg e, b]; exact ih
theorem KV.any {kvs : List (κ × V)} {vs : List (κ × Value)} (r : KV kvs vs) (k : κ) : (kvs.any fun kv => decide (kv.1 = k)) = vs.any fun kv => decide (kv.1 = k) := by
  unfold KV at r
  induction r with
  | nil => rfl
  | cons h t ih => rw [List.any_cons, List.any_cons, ih, h.1]
theorem KV.repl {kvs : List (κ × V)} {vs : List (κ × Value)} (r : KV kvs vs) (k : κ) {y : V} {u : Value} (ry : RelV y u) :
    KV (kvs.map fun kv => if kv.1 = k then (kv.1, y) else kv) (vs.map fun kv => if kv.1 = k then (kv.1, u) else kv) := by
  unfold KV at r ⊢
  induction r with
  | nil => exact .nil
  | @cons p q ps qs h t ih =>
    rw [List.map_cons, List.map_cons]
    refine .cons ?_ ih
    obtain ⟨h1, h2⟩ := h
    by_cases e : p.1 = k
    · rw [if_pos e, if_pos (h1.symm.trans e)]; exact ⟨h1, ry⟩
    · rw [if_neg e, if_neg (fun z => e (h1.trans z))]; exact ⟨h1, h2⟩
theorem KV.put {kvs : List (κ × V)} {vs : List (κ × Value)} (r : KV kvs vs) (k : κ) {y : V} {u : Value} (ry : RelV y u) : KV (putK kvs k y) (stored vs k u) := by
  unfold putK stored
  rw [r.any k]
  by_cases e : (vs.any fun kv => decide (kv.1 = k)) = true
  · rw [if_pos e, if_pos e]; exact r.repl k ry
  · rw [if_neg e, if_neg e]; exact Paired.snoc r ⟨rfl, ry⟩
theorem KV.drop {kvs : List (κ × V)} {vs : List (κ × Value)} (r : KV kvs vs) (k : κ) : KV (dropK kvs k) (without vs k) := by
  unfold KV at r ⊢
  unfold dropK without
  induction r with
  | nil => exact .nil
  | @cons p q ps qs h t ih =>
    obtain ⟨h1, h2⟩ := h
    rw [List.filter_cons, List.filter_cons]
    by_cases e : p.1 = k
    · have a : ¬ decide (p.1 ≠ k) = true := by simp [e]
      have b : ¬ decide (q.1 ≠ k) = true := by simp [h1.symm.trans e]
      rw [if_neg a, if_neg b]; exact ih
    · have e' : ¬ q.1 = k := fun z => e (h1.trans z)
      have a : decide (p.1 ≠ k) = true := by simp [e]
      have b : decide (q.1 ≠ k) = true := by simp [e']
      rw [if_pos a, if_pos b]; exact .cons ⟨h1, h2⟩ ih
theorem KV.length {kvs : List (κ × V)} {vs : List (κ × Value)} (r : KV kvs vs) : kvs.length = vs.length := Paired.length r
theorem dropK_le (kvs : List (κ × V)) (k : κ) : (dropK kvs k).length ≤ kvs.length := List.length_filter_le _ _
end


/-! ### a tracked dict, its keys ints and texts or tuples of these -/
theorem kV_is {P : Program} {w : World} {k : Key} {u : Value} (r : RelV (kV k) u) : (mixKind P w).is k u = true := by
  cases k with
  | inl i => obtain ⟨t, e⟩ := (show ∃ t, u = Value.int i t from r); subst e; exact mixKind_int P w i t
  | inr x => obtain ⟨t, e⟩ := (show ∃ t, u = Value.str x t from r); subst e; exact mixKind_str P w x t
theorem items_are {P : Program} {w : World} : ∀ {ks : List Key} {us : List Value}, Vals (ks.map kV) us → ItemsAre (mixKind P w) ks us
  | [], _, r => by rw [List.map_nil] at r; cases r; exact .nil
  | k :: ks, _, r => by
    rw [List.map_cons] at r
    cases r with
    | cons h t => exact .cons (kV_is h) (items_are t)

/-- raw entries of a dict with tuple keys -/
abbrev KT (H : Hp) : List (List Key × V) → List (List Key × Addr × Value) → Prop := Paired fun p q => p.1 = q.1 ∧ H q.2.1 = some (.tup (p.1.map kV)) ∧ RelV p.2 q.2.2
theorem KT.val {H : Hp} {kvs : List (List Key × V)} {xs : List (List Key × Addr × Value)} (r : KT H kvs xs) (k : List Key) : RelO (valV kvs k) ((atKey xs k).map (·.2)) := by
  induction r with
  | nil => exact True.intro
  | @cons p q ps qs h t ih =>
    obtain ⟨h1, _, h2⟩ := h
    by_cases e : p.1 = k
    · have e' : q.1 = k := h1.symm.trans e
      have b : atKey (q :: qs) k = some q.2 := by simp [atKey, List.find?_cons, e']
      rw [valV_pos e, b]; exact h2
    · have e' : ¬ q.1 = k := fun z => e (h1.trans z)
      have b : atKey (q :: qs) k = atKey qs k := by simp [atKey, List.find?_cons, e']
      rw [valV_neg e, b]; exact ih
theorem KT.repl {H : Hp} {kvs : List (List Key × V)} {xs : List (List Key × Addr × Value)} (r : KT H kvs xs) (k : List Key) {y : V} {u : Value} (ry : RelV y u) :
    KT H (kvs.map fun kv => if kv.1 = k then (kv.1, y) else kv) (xs.map (putAt k u)) := by
  induction r with
  | nil => exact .nil
  | @cons p q ps qs h t ih =>
    rw [List.map_cons, List.map_cons]
    refine .cons ?_ ih
    obtain ⟨h1, h2, h3⟩ := h
    unfold putAt
    by_cases e : p.1 = k
    · rw [if_pos e, if_pos (h1.symm.trans e)]; exact ⟨h1, h2, ry⟩
    · rw [if_neg e, if_neg (fun z => e (h1.trans z))]; exact ⟨h1, h2, h3⟩
theorem KT.put {H : Hp} {kvs : List (List Key × V)} {xs : List (List Key × Addr × Value)} (r : KT H kvs xs) (k : List Key) {b : Addr} {y : V} {u : Value} (hb : H b = some (.tup (k.map kV))) (ry : RelV y u) :
    KT H (putK kvs k y) (storedH xs k b u) := by
  have e : (kvs.any fun kv => decide (kv.1 = k)) = (atKey xs k).isSome := by
    rw [valV_any, (r.val k).isSome_eq, Option.isSome_map]
  unfold putK storedH
  rw [e]
  by_cases q : (atKey xs k).isSome = true
  · rw [if_pos q, if_pos q]; exact r.repl k ry
  · rw [if_neg q, if_neg q]; exact Paired.snoc r ⟨rfl, hb, ry⟩
theorem KT.keeps {H H' : Hp} {kvs : List (List Key × V)} {xs : List (List Key × Addr × Value)} (r : KT H kvs xs) (ht : ∀ b ys, H b = some (.tup ys) → H' b = some (.tup ys)) : KT H' kvs xs :=
  Paired.mapP r fun _ _ z => ⟨z.1, ht _ _ z.2.1, z.2.2⟩

section
variable {P : Program} {w : World} {H : Hp} {h : Heap} {a : Addr}
theorem rd_of {u : HO} (ok : HOk P w H h) (e : Rd H a u) : ObjOk P w H h a u := e.ok ok
theorem dk_rd {kvs : List (Key × V)} (ok : HOk P w H h) (e : Rd H a (.dK kvs)) : kvs.length ≤ sizeLine ∧ (a == sysModules) = false ∧ ∃ vs, KV kvs vs ∧ h.DictOf (mixKind P w) a vs :=
  show ObjOk P w H h a (.dK kvs) from rd_of ok e
theorem dk_of {kvs : List (Key × V)} (ok : HOk P w H h) (e : H a = some (.dK kvs)) : kvs.length ≤ sizeLine ∧ (a == sysModules) = false ∧ ∃ vs, KV kvs vs ∧ h.DictOf (mixKind P w) a vs := dk_rd ok (.inl e)
/-- a tracked tuple of ints and texts is a key -/
theorem key_of {ks : List Key} (ok : HOk P w H h) (e : H a = some (.tup (ks.map kV))) : (tupleKind (mixKind P w)).is h ks a := by
  obtain ⟨_, its, r, o, h1, h2, n, h3⟩ := (show ObjOk P w H h a (.tup (ks.map kV)) from ok a _ e)
  exact ⟨o, its.toArray, n, h1, h2, h3, by simpa using items_are r⟩
theorem dt_rd {kvs : List (List Key × V)} (ok : HOk P w H h) (e : Rd H a (.dT kvs)) : kvs.length ≤ sizeLine ∧ (a == sysModules) = false ∧
    ∃ xs, KT H kvs xs ∧ h.DictOfH (tupleKind (mixKind P w)) a xs := by
  obtain ⟨z, y, xs, r, o, es, ep, h1, h2, h3, h4, h5⟩ := (show ObjOk P w H h a (.dT kvs) from rd_of ok e)
  refine ⟨z, y, xs, r, o, es, ep, h1, h2, h3, h4, fun x hx => ?_, h5⟩
  have all : ∀ {l : List (List Key × V)} {m : List (List Key × Addr × Value)}, KT H l m → ∀ x ∈ m, (tupleKind (mixKind P w)).is h x.1 x.2.1 := by
    intro l m q
    induction q with
    | nil => intro x hx; exact nomatch hx
    | @cons p q ps qs hq t ih =>
      intro x hx
      rcases List.mem_cons.mp hx with e | hx
      · subst e
        exact key_of ok (by rw [← hq.1]; exact hq.2.1)
      · exact ih x hx
  exact all r x hx
theorem dt_of {kvs : List (List Key × V)} (ok : HOk P w H h) (e : H a = some (.dT kvs)) : kvs.length ≤ sizeLine ∧ (a == sysModules) = false ∧
    ∃ xs, KT H kvs xs ∧ h.DictOfH (tupleKind (mixKind P w)) a xs := dt_rd ok (.inl e)
end

/-- what the dict at a holds at the key y -/
def DGet (H : Hp) (a : Addr) (y : V) (r : Option V) : Prop :=
  (∃ kvs k, Rd H a (.dK kvs) ∧ y = kV k ∧ r = valV kvs k) ∨ ∃ kvs k b, Rd H a (.dT kvs) ∧ y = .ref b ∧ H b = some (.tup (k.map kV)) ∧ r = valV kvs k
/-- the heap behind a[y] = v -/
def DPut (H : Hp) (a : Addr) (y v : V) (H' : Hp) : Prop :=
  (∃ kvs k, H a = some (.dK kvs) ∧ y = kV k ∧ kvs.length < sizeLine ∧ H' = upd H a (.dK (putK kvs k v))) ∨
  ∃ kvs k b, H a = some (.dT kvs) ∧ y = .ref b ∧ H b = some (.tup (k.map kV)) ∧ kvs.length < sizeLine ∧ H' = upd H a (.dT (putK kvs k v))
theorem DGet.k {H : Hp} {a : Addr} {kvs : List (Key × V)} {k : Key} (e : H a = some (.dK kvs)) : DGet H a (kV k) (valV kvs k) := .inl ⟨kvs, k, .inl e, rfl, rfl⟩
theorem DPut.k {H : Hp} {a : Addr} {kvs : List (Key × V)} {k : Key} {v : V} (e : H a = some (.dK kvs)) (hl : kvs.length < sizeLine) : DPut H a (kV k) v (upd H a (.dK (putK kvs k v))) := .inl ⟨kvs, k, e, rfl, hl, rfl⟩
section
variable {X : Cx} {pins : List (Addr × Obj)} {σ : St} {H : Hp} {s : Shared} {a : Addr} {y v : V} {u r : Value} {o : Option V} {A : Around} {E : Value → Shared → Prop}

theorem Inv.big (I : Inv X pins σ H s) : sysModules < s.heap.objs.size := by
  have h : mainGlobals < s.heap.objs.size := (I.mod.glob.keeps I.bk).lt
  exact Nat.lt_trans (by decide) h

/-- d[y], there -/
theorem d_getItem {Q : Value → Shared → Prop} (hu : A.units + 1 < cLine) (I : Inv X pins σ H s) (g : DGet H a y (some v)) (ry : RelV y u) (h : ∀ w' s', Inv X pins σ H s' → RelV v w' → Q w' s') :
    wpAny (model X.prog X.w) A (getItem (.ref a) u) Q E s := by
  rcases g with ⟨kvs, k, e, ey, l⟩ | ⟨kvs, k, b, e, ey, eb, l⟩
  · subst ey
    obtain ⟨z, hd, vs, rel, dd⟩ := dk_rd I.hok e
    obtain ⟨w', hw, rw'⟩ := RelO.some_of (v := v) (o := valueAt vs k) (by rw [l]; exact rel.val k)
    exact wpAny_getItem_of (kV_is ry) dd.mapOf hw (h w' _ (I.tok _) rw')
  · subst ey
    cases (show u = Value.ref b from ry)
    obtain ⟨z, hd, xs, rel, dd⟩ := dt_rd I.hok e
    obtain ⟨w', hw, rw'⟩ := RelO.some_of (v := v) (o := (atKey xs k).map (·.2)) (by rw [l]; exact rel.val k)
    obtain ⟨p, hp, hp2⟩ := Option.map_eq_some_iff.mp hw
    refine wpAny_getItem_heap (tupleKind_room_in1 hu) (key_of I.hok eb) dd hp ?_
    rw [hp2]
    exact h w' _ (I.tok _) rw'
/-- y in d -/
theorem d_in {Q : Value → Shared → Prop} (hu : A.units + 1 < cLine) (I : Inv X pins σ H s) (g : DGet H a y o) (ry : RelV y u) (h : ∀ s', Inv X pins σ H s' → Q (.bool o.isSome) s') :
    wpAny (model X.prog X.w) A (compareOp .In u (.ref a)) Q E s := by
  rcases g with ⟨kvs, k, e, ey, l⟩ | ⟨kvs, k, b, e, ey, eb, l⟩
  · subst ey
    obtain ⟨z, hd, vs, rel, dd⟩ := dk_rd I.hok e
    refine wpAny_in_of (kV_is ry) hd dd.mapOf ?_
    rw [← (rel.val k).isSome_eq, ← l]
    exact h _ (I.tok _)
  · subst ey
    cases (show u = Value.ref b from ry)
    obtain ⟨z, hd, xs, rel, dd⟩ := dt_rd I.hok e
    refine wpAny_in_heap (tupleKind_room_in1 hu) (key_of I.hok eb) hd dd ?_
    have q := (rel.val k).isSome_eq
    rw [Option.isSome_map] at q
    rw [← q, ← l]
    exact h _ (I.tok _)
theorem d_notIn {Q : Value → Shared → Prop} (hu : A.units + 1 < cLine) (I : Inv X pins σ H s) (g : DGet H a y o) (ry : RelV y u) (h : ∀ s', Inv X pins σ H s' → Q (.bool (!o.isSome)) s') :
    wpAny (model X.prog X.w) A (compareOp .NotIn u (.ref a)) Q E s := by
  rcases g with ⟨kvs, k, e, ey, l⟩ | ⟨kvs, k, b, e, ey, eb, l⟩
  · subst ey
    obtain ⟨z, hd, vs, rel, dd⟩ := dk_rd I.hok e
    refine wpAny_notIn_of (kV_is ry) hd dd.mapOf ?_
    rw [← (rel.val k).isSome_eq, ← l]
    exact h _ (I.tok _)
  · subst ey
    cases (show u = Value.ref b from ry)
    obtain ⟨z, hd, xs, rel, dd⟩ := dt_rd I.hok e
    refine wpAny_notIn_heap (tupleKind_room_in1 hu) (key_of I.hok eb) hd dd ?_
    have q := (rel.val k).isSome_eq
    rw [Option.isSome_map] at q
    rw [← q, ← l]
    exact h _ (I.tok _)
/-- a dict's object is replaced -/
theorem d_write {h' : Heap} {t' : Nat} {ob : HO} (I : Inv X pins σ H s) (mu : Mut (H a)) (hs : Heap.SameBut a s.heap h') (he : ∃ q, h'.get? a = some q) (new : ObjOk X.prog X.w (upd H a ob) h' a ob) :
    Inv X pins σ (upd H a ob) { s with heap := h', toks := t' } :=
  I.write (x := a) (e := a) mu (.inl rfl) (fun b q hb z => (hs.2 b hb).trans z) he new
theorem dk_new {P : Program} {w : World} {H' : Hp} {h' : Heap} {kvs : List (Key × V)} {vs : List (Key × Value)} (z : kvs.length ≤ sizeLine) (hd : (a == sysModules) = false) (rel : KV kvs vs) (dd : h'.DictOf (mixKind P w) a vs) :
    ObjOk P w H' h' a (.dK kvs) := ⟨z, hd, vs, rel, dd⟩
/-- d[y] = v -/
theorem d_setItem {H' : Hp} {Q : Unit → Shared → Prop} (hu : A.units + 1 < cLine) (I : Inv X pins σ H s) (g : DPut H a y v H') (ry : RelV y u) (rv : RelV v r) (h : ∀ s', Inv X pins σ H' s' → Q () s') :
    wpAny (model X.prog X.w) A (setItem (.ref a) u r) Q E s := by
  rcases g with ⟨kvs, k, e, ey, l, eH⟩ | ⟨kvs, k, b, e, ey, eb, l, eH⟩
  · subst ey eH
    obtain ⟨z, hd, vs, rel, dd⟩ := dk_of I.hok e
    have hz : vs.length ≤ sizeLine := by rw [← rel.length]; exact z
    have hl : (putK kvs k v).length ≤ sizeLine := by have := length_putK kvs k v; omega
    refine wpAny_setItem_pairs (hsz := hz) (kV_is ry) dd fun h' dd' hs => h _ ?_
    have he : ∃ q, h'.get? a = some q := let ⟨q, _, _, hq, _⟩ := dd'; ⟨q, hq⟩
    exact d_write I (by rw [e]; exact True.intro) hs he (dk_new hl hd (rel.put k rv) dd')
  · subst ey eH
    cases (show u = Value.ref b from ry)
    obtain ⟨z, hd, xs, rel, dd⟩ := dt_of I.hok e
    have hz : xs.length ≤ sizeLine := by rw [← Paired.length rel]; exact z
    have hl : (putK kvs k v).length ≤ sizeLine := by have := length_putK kvs k v; omega
    refine wpAny_setItem_heap (hsz := hz) (tupleKind_room_in1 hu) (key_of I.hok eb) dd fun h' dd' hs => h _ ?_
    obtain ⟨q, es, ep, hq, h2, h3, h4, _, h5⟩ := dd'
    refine d_write I (by rw [e]; exact True.intro) hs ⟨q, hq⟩ ⟨hl, hd, _, (rel.put k eb rv).keeps fun c ys ec => ?_, q, es, ep, hq, h2, h3, h4, h5⟩
    rw [upd_ne (ne_of ec e (fun z => nomatch z))]
    exact ec
end

section
variable {X : Cx} {pins : List (Addr × Obj)} {σ : St} {H : Hp} {s : Shared} {a : Addr} {kvs : List (Key × V)} {k : Key} {u : Value} {A : Around} {E : Value → Shared → Prop}
/-- d.pop(k[, x]), there -/
theorem d_pop {v : V} {more : List Value} {Q : Value → Shared → Prop} (I : Inv X pins σ H s) (e : H a = some (.dK kvs)) (ry : RelV (kV k) u) (l : valV kvs k = some v) (hm : more = [] ∨ ∃ x, more = [x])
    (h : ∀ w' s', Inv X pins σ (upd H a (.dK (dropK kvs k))) s' → RelV v w' → Q w' s') : wpAny (model X.prog X.w) A (call (.builtin "dict.pop") (.ref a :: u :: more)) Q E s := by
  obtain ⟨z, hd, vs, rel, dd⟩ := dk_of I.hok e
  obtain ⟨w', hw, rw'⟩ := RelO.some_of (v := v) (o := valueAt vs k) (by rw [← l]; exact rel.val k)
  have hp : (keyPart u).isSome = true := by
    cases k with
    | inl i => obtain ⟨t, q⟩ := (show ∃ t, u = Value.int i t from ry); subst q; rfl
    | inr x => obtain ⟨t, q⟩ := (show ∃ t, u = Value.str x t from ry); subst q; rfl
  have ha : argsOk "dict.pop" ⟨.ref a :: u :: more, []⟩ := by
    rcases hm with q | ⟨x, q⟩
    · subst q; exact PySem.F.args_dict_pop_2 _ _
    · subst q; exact PySem.F.args_dict_pop_3 _ _ _
  refine call_meetsIn PySem.F.slot_dict_pop dd.typeIs PySem.F.entry_dict_pop ha (meets_dict_pop_there (mixKind X.prog X.w) a (kV_is ry) more hm hp)
    ⟨vs, w', dd, by rw [← rel.length]; exact z, hw, fun h' dd' hs => h w' _ ?_ rw'⟩
  have he : ∃ q, h'.get? a = some q := let ⟨q, _, _, hq, _⟩ := dd'; ⟨q, hq⟩
  exact d_write I (by rw [e]; exact True.intro) hs he (dk_new (Nat.le_trans (dropK_le kvs k) z) hd (rel.drop k) dd')
/-- len(d) -/
theorem d_len {Q : Value → Shared → Prop} (I : Inv X pins σ H s) (e : Rd H a (.dK kvs)) (h : ∀ t s', Inv X pins σ H s' → Q (.int kvs.length t) s') : wpAny (model X.prog X.w) A (call (.builtin "len") [.ref a]) Q E s := by
  obtain ⟨z, hd, vs, rel, dd⟩ := dk_rd I.hok e
  refine call_len_dict hd dd (by rw [← rel.length]; rw [sizeLine_eq] at z; omega) ?_
  rw [← rel.length]
  exact h _ _ (I.tok _)
end


/-! ### readings and rules -/
/-- the element of a subscription, not a slice -/
def NoSl (i : Expr) : Prop := ∀ ov iv, subscripted i false ov iv = operate [ov, iv] (getItem ov iv)
theorem subD_of {prog : Program} {w : World} {A : Around} {E : Value → Shared → Prop} {s : Shared} {env : Env} {value slice : Expr} {pos : Pos} {T id : String} {Q : Value → Shared → Prop}
    (hl : typeLookup (.type T) "__getitem__" = pure (some (.builtin id))) (hs : NoSl slice)
    (h : wpAny (model prog w) A (eval value env) (fun o s₁ => wpAny (model prog w) A (eval slice env) (fun i s₂ => s₂.TypeIs o T ∧ wpAny (model prog w) A (getItem o i) Q E s₂) E s₁) E s) :
    wpAny (model prog w) A (eval (.Subscript value slice pos) env) Q E s := by
  refine Subscript_ (wpAny_mono h (fun o s₁ h₁ => wpAny_mono h₁ (fun i s₂ h₂ => ?_) fun _ _ x => x) fun _ _ x => x)
  obtain ⟨hT, h₂⟩ := h₂
  unfold subscriptTail
  refine wpAny_bind ?_
  rw [getitemInPython_of_ne hT.not_modules]
  refine wpAny_bind (wpAny_specialOf hT hl ?_)
  have fin : wpAny (model prog w) A (subscripted slice false o i) (fun r s₃ => wpAny (model prog w) A (letTemporaryGo value o r >>= fun _ => pure r) Q E s₃) E s₂ := by
    rw [hs o i]
    exact wpAny_operating (wpAny_mono h₂ (fun r s₃ h₃ => wpAny_bind (wpAny_letTemporaryGo (wpAny_pure h₃))) fun _ _ x => x)
  first
    | exact wpAny_pure (wpAny_bind fin)
    | exact wpAny_bind (wpAny_pure (wpAny_bind fin))
    | exact wpAny_bind fin

theorem dict_typeIs {X : Cx} {pins : List (Addr × Obj)} {σ : St} {H : Hp} {s : Shared} {a : Addr} {y : V} {o : Option V} (I : Inv X pins σ H s) (g : DGet H a y o) : s.TypeIs (.ref a) "dict" := by
  rcases g with ⟨kvs, k, e, _, _⟩ | ⟨kvs, k, b, e, _, _, _⟩
  · obtain ⟨_, _, vs, _, dd⟩ := dk_rd I.hok e
    exact dd.typeIs
  · obtain ⟨_, _, xs, _, dd⟩ := dt_rd I.hok e
    exact dd.typeIs
/-- d[y] -/
def tDGet (td ty : TE) : TE := fun σ H Q => td σ H fun x H1 => ty σ H1 fun y H2 => ∃ a v, x = .ref a ∧ DGet H2 a y (some v) ∧ Q v H2
/-- y in d, y not in d -/
def tDIn (ty td : TE) : TE := fun σ H Q => ty σ H fun y H1 => td σ H1 fun x H2 => ∃ a o, x = .ref a ∧ DGet H2 a y o ∧ Q (.bl o.isSome) H2
def tDNotIn (ty td : TE) : TE := fun σ H Q => ty σ H fun y H1 => td σ H1 fun x H2 => ∃ a o, x = .ref a ∧ DGet H2 a y o ∧ Q (.bl (!o.isSome)) H2
/-- d[y] = v -/
def sDPut (td ty tv : TE) : TS := fun D σ H => tv σ H fun v H1 => td σ H1 fun x H2 => ty σ H2 fun y H3 => ∃ a H4, x = .ref a ∧ DPut H3 a y v H4 ∧ D.nx σ H4
/-- d[y] op= v -/
def sDAug (td ty tv : TE) (rd : V → V → Hp → VK → Prop) : TS := fun D σ H => td σ H fun x H1 => ty σ H1 fun y H2 => ∃ a v, x = .ref a ∧ DGet H2 a y (some v) ∧
  tv σ H2 fun y2 H3 => rd v y2 H3 fun z H4 => ∃ H5, DPut H4 a y z H5 ∧ D.nx σ H5
/-- del d[y] -/
def sDDel (td ty : TE) : TS := fun D σ H => td σ H fun x H1 => ty σ H1 fun y H2 => ∃ a kvs k, x = .ref a ∧ H2 a = some (.dK kvs) ∧ y = kV k ∧ (valV kvs k).isSome = true ∧ D.nx σ (upd H2 a (.dK (dropK kvs k)))

section
variable {X : Cx} {o i e value : Expr} {pos pos' tpos : Pos} {td ty tv : TE}
theorem pe_dget (hu : X.A.units + 1 < cLine) (ho : PE X o td) (hi : PE X i ty) (hs : NoSl i) : PE X (.Subscript o i pos) (tDGet td ty) := by
  intro pins s σ H Q I h
  refine subD_of PySem.F.slot_dict_getitem.lookup hs (thn (ho pins s σ H _ I h) fun u s1 => L2.ex5 fun x H1 I1 rx q1 => thn (hi pins s1 σ H1 _ I1 q1) fun iv s2 => L2.ex5 fun y H2 I2 ry hq_ => ?_)
  obtain ⟨a, v, ex, g, q2⟩ := hq_
  subst ex
  obtain rfl : u = Value.ref a := rx
  exact ⟨dict_typeIs I2 g, d_getItem hu I2 g ry fun w' s3 I3 rw' => ⟨v, H2, I3, rw', q2⟩⟩
theorem pc_din (hu : X.A.units + 1 < cLine) (hi : PE X i ty) (ho : PE X o td) : PC X .In i o (tDIn ty td) := by
  intro pins s σ H Q I h
  refine thn (hi pins s σ H _ I h) fun iv s1 => L2.ex5 fun y H1 I1 ry q1 => thn (ho pins s1 σ H1 _ I1 q1) fun u s2 => L2.ex5 fun x H2 I2 rx hq_ => ?_
  obtain ⟨a, ov, ex, g, q2⟩ := hq_
  subst ex
  obtain rfl : u = Value.ref a := rx
  exact d_in hu I2 g ry fun s3 I3 => ⟨.bl ov.isSome, H2, I3, rfl, q2⟩
theorem pc_dnotin (hu : X.A.units + 1 < cLine) (hi : PE X i ty) (ho : PE X o td) : PC X .NotIn i o (tDNotIn ty td) := by
  intro pins s σ H Q I h
  refine thn (hi pins s σ H _ I h) fun iv s1 => L2.ex5 fun y H1 I1 ry q1 => thn (ho pins s1 σ H1 _ I1 q1) fun u s2 => L2.ex5 fun x H2 I2 rx hq_ => ?_
  obtain ⟨a, ov, ex, g, q2⟩ := hq_
  subst ex
  obtain rfl : u = Value.ref a := rx
  exact d_notIn hu I2 g ry fun s3 I3 => ⟨.bl (!ov.isSome), H2, I3, rfl, q2⟩
theorem ps_dput (hu : X.A.units + 1 < cLine) (ho : PE X o td) (hi : PE X i ty) (hv : PE X value tv) (hs : swapsWith value (some (.Subscript o i pos')) pos.line X.env = pure false) :
    PS X (.Assign [.Subscript o i pos'] value pos) (sDPut td ty tv) := by
  intro pins s σ H D I h
  refine wpAny_Assign_Subscript (thn (hv pins s σ H _ I h) fun r s1 => L2.ex5 fun v H1 I1 rv q1 => thn (ho pins s1 σ H1 _ I1 q1) fun u s2 => L2.ex5 fun x H2 I2 rx q2 => thn (hi pins s2 σ H2 _ I2 q2) fun iv s3 => L2.ex5 fun y H3 I3 ry hq_ => ?_) hs
  obtain ⟨a, H4, ex, g, q3⟩ := hq_
  subst ex
  obtain rfl : u = Value.ref a := rx
  exact d_setItem hu I3 g ry rv fun s4 I4 => ⟨σ, H4, I4, q3⟩
end


/-! ### displays -/
theorem dk_empty {P : Program} {w : World} {H : Hp} (h : Heap) (hb : sysModules < h.objs.size) : ObjOk P w H (h.push { cls := .type "dict", data := .dict #[] }) h.objs.size (.dK []) :=
  ⟨Nat.zero_le _, beq_eq_false_iff_ne.mpr (Ne.symm (Nat.ne_of_lt hb)), [], .nil, Heap.DictOf.new h⟩
/-- {}, to be a dict of the kind that is wanted -/
def tDNewK : TE := fun _ H Q => ∀ p, H p = none → Q (.ref p) (upd H p (.dK []))
def tDNewT : TE := fun _ H Q => ∀ p, H p = none → Q (.ref p) (upd H p (.dT []))
section
variable {X : Cx} {pos : Pos}
theorem pe_dnewK : PE X (.Dict [] [] pos) tDNewK := fun pins s σ H Q I h =>
  wpAny_Dict_empty ⟨.ref s.heap.objs.size, _, I.laid (a := s.heap.objs.size) (o := .dK []) (t' := s.toks) (fun _ _ q => Heap.get?_push_of_some _ q) (Nat.le_refl _) (dk_empty s.heap I.big), rfl, h _ (I.hok.fresh (Nat.le_refl _))⟩
end

/-- the pairs of a display, from the left -/
def tPairs : List (TE × TE) → St → Hp → (List (V × V) → Hp → Prop) → Prop
  | [], _, H, Q => Q [] H
  | (tk, tv) :: r, σ, H, Q => tk σ H fun x H1 => tv σ H1 fun y H2 => tPairs r σ H2 fun ps H3 => Q ((x, y) :: ps) H3
abbrev VV : List (V × V) → List (Value × Value) → Prop := Paired fun p q => RelV p.1 q.1 ∧ RelV p.2 q.2
def PPs (X : Cx) (pos : Pos) (keys : List (Option Expr)) (values : List Expr) (trs : List (TE × TE)) : Prop :=
  ∀ (pins : List (Addr × Obj)) (s : Shared) (σ : St) (H : Hp) (Q : List (V × V) → Hp → Prop), Inv X pins σ H s → tPairs trs σ H Q →
    wpAny (model X.prog X.w) X.A (evalPairs (pairTrees keys values X.env pos)) (fun vs s' => ∃ ps H', Inv X pins σ H' s' ∧ VV ps vs ∧ Q ps H') X.xe s
theorem pps_nil {X : Cx} {pos : Pos} : PPs X pos [] [] [] := fun pins s σ H Q I h => pairTrees_nil_walk ⟨[], H, I, .nil, h⟩
theorem pps_cons {X : Cx} {pos : Pos} {k v : Expr} {ks : List (Option Expr)} {vs : List Expr} {tk tv : TE} {trs : List (TE × TE)} (hk : PE X k tk) (hv : PE X v tv) (hr : PPs X pos ks vs trs) :
    PPs X pos (some k :: ks) (v :: vs) ((tk, tv) :: trs) := fun pins s σ H Q I h =>
  pairTrees_cons_walk (thn (hk pins s σ H _ I h) fun u s1 => L2.ex5 fun x H1 I1 rx q1 => thn (hv pins s1 σ H1 _ I1 q1) fun w2 s2 => L2.ex5 fun y H2 I2 ry q2 =>
    thn (hr pins s2 σ H2 _ I2 q2) fun ws s3 ⟨ps, H3, I3, rel, q3⟩ => ⟨(x, y) :: ps, H3, I3, .cons ⟨rx, ry⟩ rel, q3⟩)

def mergeK (kvs more : List (Key × V)) : List (Key × V) := more.foldl (fun acc kv => putK acc kv.1 kv.2) kvs
theorem KV.merge : ∀ {more : List (Key × V)} {rs : List (Key × Value)} {kvs : List (Key × V)} {vs : List (Key × Value)}, KV more rs → KV kvs vs → KV (mergeK kvs more) (merged vs rs) := by
  intro more rs kvs vs r
  unfold KV at r
  induction r generalizing kvs vs with
  | nil => intro q; exact q
  | @cons p q ps qs h t ih =>
    intro r0
    have e : KV (putK kvs p.1 p.2) (stored vs q.1 q.2) := by
      have := r0.put p.1 h.2
      rw [← h.1]; exact this
    exact ih e
theorem length_mergeK : ∀ (more kvs : List (Key × V)), (mergeK kvs more).length ≤ kvs.length + more.length
  | [], kvs => by show kvs.length ≤ kvs.length + 0; omega
  | p :: r, kvs => by
    have h1 := length_mergeK r (putK kvs p.1 p.2)
    have h2 := length_putK kvs p.1 p.2
    show (mergeK (putK kvs p.1 p.2) r).length ≤ _
    rw [List.length_cons]; omega
theorem carries_of {P : Program} {w : World} : ∀ {kvs : List (Key × V)} {ws : List (Value × Value)}, VV (kvs.map fun kv => (kV kv.1, kv.2)) ws → ∃ rs, Carries (mixKind P w) ws rs ∧ KV kvs rs
  | [], _, r => by rw [List.map_nil] at r; cases r; exact ⟨[], True.intro, .nil⟩
  | p :: kvs, _, r => by
    rw [List.map_cons] at r
    cases r with
    | @cons a b as bs h t =>
      obtain ⟨rs, c, q⟩ := carries_of (P := P) (w := w) t
      obtain ⟨b1, b2⟩ := b
      exact ⟨(p.1, b2) :: rs, ⟨kV_is h.1, rfl, c⟩, .cons ⟨rfl, h.2⟩ q⟩
/-- {k: v, ..} with keys ints and texts; the new dict stands empty while the pairs are made -/
def tDisp (trs : List (TE × TE)) : TE := fun σ H Q => ∀ p, H p = none → tPairs trs σ (upd H p (.dK [])) fun ps H2 => H2 p = some (.dK []) ∧ ∃ kvs : List (Key × V), ps = kvs.map (fun kv => (kV kv.1, kv.2)) ∧ kvs.length ≤ 15 ∧ Q (.ref p) (upd H2 p (.dK (mergeK [] kvs)))
theorem pe_disp {X : Cx} {pos : Pos} {keys : List (Option Expr)} {values : List Expr} {trs : List (TE × TE)} (h : PPs X pos keys values trs) (hall : keys.all (·.isSome) = true) (hl : keys.length = values.length) (h0 : keys ≠ [])
    (h15 : keys.length ≤ 15) : PE X (.Dict keys values pos) (tDisp trs) := by
  intro pins s σ H Q I q
  have hn := I.hok.fresh (Nat.le_refl s.heap.objs.size)
  have I1 := I.laid (a := s.heap.objs.size) (o := .dK []) (h' := s.heap.push { cls := .type "dict", data := .dict #[] }) (t' := s.toks) (fun _ _ q => Heap.get?_push_of_some _ q) (Nat.le_refl _) (dk_empty s.heap I.big)
  refine wpAny_Dict_walk (knd := mixKind X.prog X.w) hall hl h0 h15 (thn (h pins _ σ _ _ I1 (q _ hn)) fun ws s2 => L2.ex5 fun ps H2 I2 rel hq_ => ?_)
  obtain ⟨e, kvs, ep, lk, q2⟩ := hq_
  subst ep
  obtain ⟨rs, c, rk⟩ := carries_of (P := X.prog) (w := X.w) rel
  obtain ⟨z, hd, vs0, r0, dd⟩ := dk_of I2.hok e
  cases r0
  refine ⟨rs, c, dd, fun h' dd' hs => ⟨.ref s.heap.objs.size, _, ?_, rfl, q2⟩⟩
  have hz : (mergeK [] kvs).length ≤ sizeLine := by
    have h1 := length_mergeK kvs []
    rw [List.length_nil] at h1
    rw [sizeLine_eq]; omega
  have he : ∃ q, h'.get? s.heap.objs.size = some q := let ⟨q, _, _, hq, _⟩ := dd'; ⟨q, hq⟩
  exact d_write I2 (by rw [e]; exact True.intro) hs he (dk_new hz hd (rk.merge .nil) dd')


/-! ### methods -/
/-- a method call o.m(e) of a built-in, with one argument: what must be seen of the text -/
structure M1 (X : Cx) (o : Expr) (m : Str) (apos : Pos) (e : Expr) (cpos : Pos) : Prop where
  base : attributeBase o m X.env (eval o X.env) = eval o X.env
  few : ((backTo cpos (starEach [e] X.env)).all (fun x => !x.1) && (backToKw cpos (keywordEach [] X.env)).all (fun x => x.1.isSome)
    && decide (([e] : List Expr).length + ([] : List Keyword).length + (if ([] : List Keyword).isEmpty then 0 else 1) < 30)) = true
  line : (apos.endLine == cpos.line) = true
  trees : backTo cpos (starEach [e] X.env) = [(false, eval e X.env)]
structure M2 (X : Cx) (o : Expr) (m : Str) (apos : Pos) (e f : Expr) (cpos : Pos) : Prop where
  base : attributeBase o m X.env (eval o X.env) = eval o X.env
  few : ((backTo cpos (starEach [e, f] X.env)).all (fun x => !x.1) && (backToKw cpos (keywordEach [] X.env)).all (fun x => x.1.isSome)
    && decide (([e, f] : List Expr).length + ([] : List Keyword).length + (if ([] : List Keyword).isEmpty then 0 else 1) < 30)) = true
  line : (apos.endLine == cpos.line) = true
  trees : backTo cpos (starEach [e, f] X.env) = [(false, eval e X.env), (false, eval f X.env)]

/-- a is a dict, whatever its keys -/
def IsD (H : Hp) (a : Addr) : Prop := (∃ kvs, Rd H a (.dK kvs)) ∨ ∃ kvs, Rd H a (.dT kvs)
theorem isD_at {X : Cx} {pins : List (Addr × Obj)} {σ : St} {H : Hp} {s : Shared} {a : Addr} (I : Inv X pins σ H s) (d : IsD H a) :
    s.TypeIs (.ref a) "dict" ∧ (∀ b, Value.ref a = .ref b → ∃ ob, s.heap.get? b = some ob ∧ ob.dict = none) ∧ (a == sysModules) = false := by
  rcases d with ⟨kvs, e⟩ | ⟨kvs, e⟩
  · obtain ⟨_, hd, vs, _, dd⟩ := dk_rd I.hok e
    refine ⟨dd.typeIs, fun b q => ?_, hd⟩
    cases q
    obtain ⟨ob, _, _, h1, h2, _⟩ := dd
    exact ⟨ob, h1, h2.2.1⟩
  · obtain ⟨_, hd, xs, _, dd⟩ := dt_rd I.hok e
    refine ⟨dd.typeIs, fun b q => ?_, hd⟩
    cases q
    obtain ⟨ob, _, _, h1, h2, _⟩ := dd
    exact ⟨ob, h1, h2.2.1⟩

section
variable {X : Cx} {pins : List (Addr × Obj)} {σ : St} {H : Hp} {s : Shared} {a : Addr} {y d : V} {u r : Value} {o : Option V} {A : Around} {E : Value → Shared → Prop}
/-- d.get(y) -/
theorem d_get1 {Q : Value → Shared → Prop} (hu : A.units + 1 < cLine) (I : Inv X pins σ H s) (g : DGet H a y o) (ry : RelV y u) (h : ∀ w' s', Inv X pins σ H s' → RelV (o.getD .non) w' → Q w' s') :
    wpAny (model X.prog X.w) A (call (.builtin "dict.get") [.ref a, u]) Q E s := by
  rcases g with ⟨kvs, k, e, ey, l⟩ | ⟨kvs, k, b, e, ey, eb, l⟩
  · subst ey
    obtain ⟨z, hd, vs, rel, dd⟩ := dk_rd I.hok e
    refine call_meetsIn PySem.F.slot_dict_get dd.typeIs PySem.F.entry_dict_get (PySem.F.args_dict_get_2 _ _) (meets_dict_get (mixKind X.prog X.w) a (kV_is ry) hd) ⟨_, dd.mapOf, h _ _ (I.tok _) ?_⟩
    rw [l]
    exact (rel.val k).getD rfl
  · subst ey
    cases (show u = Value.ref b from ry)
    obtain ⟨z, hd, xs, rel, dd⟩ := dt_rd I.hok e
    refine call_meetsIn PySem.F.slot_dict_get dd.typeIs PySem.F.entry_dict_get (PySem.F.args_dict_get_2 _ _) (meetsH_dict_get (tupleKind (mixKind X.prog X.w)) a b hd) ⟨tupleKind_room_in1 hu, k, xs, key_of I.hok eb, dd, h _ _ (I.tok _) ?_⟩
    rw [l]
    exact (rel.val k).getD rfl
end

def tDGet1 (td ty : TE) : TE := fun σ H Q => td σ H fun x H1 => ∃ a, x = .ref a ∧ IsD H1 a ∧ ty σ H1 fun y H2 => ∃ o, DGet H2 a y o ∧ Q (o.getD .non) H2
def tDGet2 (td ty tx : TE) : TE := fun σ H Q => td σ H fun x H1 => ∃ a, x = .ref a ∧ IsD H1 a ∧ ty σ H1 fun y H2 => tx σ H2 fun z H3 => ∃ o, DGet H3 a y o ∧ Q (o.getD z) H3
/-- d.pop(k): there; d.pop(k, x): there or not -/
def tDPop1 (td ty : TE) : TE := fun σ H Q => td σ H fun x H1 => ∃ a, x = .ref a ∧ IsD H1 a ∧ ty σ H1 fun y H2 => ∃ kvs k v, H2 a = some (.dK kvs) ∧ y = kV k ∧ valV kvs k = some v ∧ Q v (upd H2 a (.dK (dropK kvs k)))
def tDPop2 (td ty tx : TE) : TE := fun σ H Q => td σ H fun x H1 => ∃ a, x = .ref a ∧ IsD H1 a ∧ ty σ H1 fun y H2 => tx σ H2 fun z H3 => ∃ kvs k, H3 a = some (.dK kvs) ∧ y = kV k ∧
  (∀ v, valV kvs k = some v → Q v (upd H3 a (.dK (dropK kvs k)))) ∧ (valV kvs k = none → Q z H3)
section
variable {X : Cx} {o e f : Expr} {apos cpos : Pos} {td ty tx : TE}
theorem pe_dget1 (hu : X.A.units + 1 < cLine) (ho : PE X o td) (he : PE X e ty) (m : M1 X o "get" apos e cpos) : PE X (.Call (.Attribute o "get" apos) [e] [] cpos) (tDGet1 td ty) := by
  intro pins s σ H Q I h
  refine wpAny_Call_method m.base m.few m.line PySem.F.plainAttrs_dict PySem.F.slot_dict_get PySem.F.type_dict_get (thn (ho pins s σ H _ I h) fun u s1 => L2.ex5 fun x H1 I1 rx hq_ => ?_)
  obtain ⟨a, ex, d, q1⟩ := hq_
  subst ex
  obtain rfl : u = Value.ref a := rx
  obtain ⟨t1, t2, _⟩ := isD_at I1 d
  refine ⟨t1, t2, ?_⟩
  rw [m.trees]
  refine Calls.callWith_builtin rfl (Calls.evalArgs_plain (Calls.spliced_cons (thn (he pins s1 σ H1 _ I1 q1) fun iv s2 ⟨y, H2, I2, ry, ov, g, q2⟩ => Calls.spliced_nil ?_)))
  exact d_get1 hu I2 g ry fun w' s3 I3 rw' => ⟨_, H2, I3, rw', q2⟩
theorem pe_dpop1 (ho : PE X o td) (he : PE X e ty) (m : M1 X o "pop" apos e cpos) : PE X (.Call (.Attribute o "pop" apos) [e] [] cpos) (tDPop1 td ty) := by
  intro pins s σ H Q I h
  refine wpAny_Call_method m.base m.few m.line PySem.F.plainAttrs_dict PySem.F.slot_dict_pop PySem.F.type_dict_pop (thn (ho pins s σ H _ I h) fun u s1 => L2.ex5 fun x H1 I1 rx hq_ => ?_)
  obtain ⟨a, ex, d, q1⟩ := hq_
  subst ex
  obtain rfl : u = Value.ref a := rx
  obtain ⟨t1, t2, _⟩ := isD_at I1 d
  refine ⟨t1, t2, ?_⟩
  rw [m.trees]
  refine Calls.callWith_builtin rfl (Calls.evalArgs_plain (Calls.spliced_cons (thn (he pins s1 σ H1 _ I1 q1) fun iv s2 ⟨y, H2, I2, ry, kvs, k, v, ea, ey, l, q2⟩ => Calls.spliced_nil ?_)))
  subst ey
  exact d_pop I2 ea ry l (.inl rfl) fun w' s3 I3 rw' => ⟨v, _, I3, rw', q2⟩
end

/-! ### dict(d): a copy -/
section
variable {X : Cx} {pins : List (Addr × Obj)} {σ : St} {H : Hp} {s : Shared} {a : Addr} {kvs : List (Key × V)} {A : Around} {E : Value → Shared → Prop}
end


section
variable {X : Cx} {pins : List (Addr × Obj)} {σ : St} {H : Hp} {s : Shared} {a : Addr} {y : V} {u : Value} {A : Around} {E : Value → Shared → Prop}
end
end L2

namespace Att
open PySem PySem.W PySem.Calls PyProof.Rows

/-! ### the script -/
theorem ints_of_wellAll {P : Params} {h : Heap} : ∀ (ns : List Int) (vs : List Value), WellAll P h vs (ns.map WData.int) → IntsAre vs ns := by
  intro ns
  induction ns with
  | nil =>
    intro vs w
    rw [List.map_nil] at w
    cases w
    exact .nil
  | cons n ns ih =>
    intro vs w
    rw [List.map_cons] at w
    cases w with
    | cons a b =>
      cases a
      exact .cons _ _ (ih _ b)

theorem script_of {l : OpenLaw} {n : Nat} (hn : l.most = some n) {P : Params} {h : Heap} {args : List WData} {vals : List Value}
    (hpre : l.row.toRowW.claim.pre args = true) (hwl : WellAll P h vals args) :
    ∃ a vs ns, vals = [Value.ref a] ∧ args = [WData.list (ns.map WData.int)] ∧ h.get? a = some { cls := .type "list", data := .seq vs.toArray } ∧ IntsAre vs ns ∧ ns.length ≤ n := by
  have hsh : WShape.hasAll [] args [.list .int] = true := (pre_splitW hpre).1
  have hc : l.pre.holds [] { args := args } = true := (pre_splitW hpre).2
  obtain ⟨d, r, rfl, h1, h2⟩ := hasAllW_cons hsh
  obtain rfl := hasAllW_nil h2
  obtain ⟨xs, rfl, h3⟩ := hasW_list h1
  obtain ⟨ns, rfl⟩ := items_int h3
  have hlen : ns.length ≤ n := by
    unfold OpenLaw.pre at hc
    have h4 : (WTm.not (.lt (.lit (.int (n : Int))) (.len (.arg 0)))).holds [] { args := [.list (ns.map .int)] } = true := by
      have h4 := (holds_andW hc).1
      rw [hn] at h4
      exact h4
    have h5 := condW_of h4 (w_not (w_lt w_lit (w_len_list (w_arg rfl))))
    rw [List.length_map] at h5
    refine Nat.le_of_not_lt fun q => ?_
    have q' : (n : Int) < ((ns.length : Nat) : Int) := by omega
    first
      | (rw [decide_eq_true q'] at h5; exact absurd h5 (by decide))
      | (simp at h5; omega)
  cases hwl with
  | cons w1 w2 =>
    cases w2
    cases w1 with
    | list ho hall => exact ⟨_, _, ns, rfl, rfl, ho, ints_of_wellAll ns _ hall, hlen⟩

theorem post_true (l : OpenLaw) (args : List WData) : l.row.toRowW.claim.post args (.bool true) args = true :=
  postW_of (r := l.row.toRowW) (X := (true == true))
    (show WShape.has [] (.bool true) .bool = true by first | rfl | decide | simp [WShape.has, WShape.arms, WShape.armsAll])
    (show (WTm.eq .res (.lit (.bool true))).value [] { args := args, res := some (.bool true), after := args } = some (.bool (true == true)) from w_eq_bool (w_res rfl) w_lit) rfl

/-! ### the attachment: holds_open's last premise (the goal 'hc' behind k_head) from a wpAny of the law's body -/
/-- the same from a codeAny of the CALL (for a layer whose function contracts speak of calls) -/
theorem attach_call {l : OpenLaw} {n : Nat} {q : Program} {loose : List Str} {XP : (Str → Option Value) → Heap → Prop} {YP : World → Heap → Prop} {d : DefRec}
    (hn : l.most = some n) (hdf : d.params.defaults = [])
    (call : ∀ (w : World) (s₀ s₁ : Shared) (mg mb : Str → Option Value) (fa : Addr) (o : Obj) (pm cd doc : Value) (a : Addr) (vs : List Value) (ns : List Int),
      Ground q loose [] XP w s₀ mg mb s₁.heap → YP w s₁.heap →
      s₁.heap.get? fa = some o → o.data = .func (docDef d.name d.params d.body d.scope pm cd doc) → s₁.heap.CodeRec cd d.name → mg d.name = some (.ref fa) →
      s₁.heap.get? a = some { cls := .type "list", data := .seq vs.toArray } → IntsAre vs ns → ns.length ≤ n → s₁.gens = #[] →
      codeAny (model l.prog w) callerA (.call (.ref fa) ⟨[.ref a], []⟩) (fun r s' => r = .ok (.ret (.bool true)) ∧ OldK s₁.heap s'.heap ∧ s'.os = s₁.os ∧ AllBare s'.gens) s₁) :
    WalkO q loose XP YP l.row.toRowW d [] (fun f vs => PySem.call f vs) := by
  intro w s₀ s₁ mg mb G Y fa o pm cd doc dV kV ho hd hcd hD hmg hg args vals as hpre hlay hrd hwl hlo
  obtain rfl : dV = .none := Dflts.none hD hdf
  obtain rfl : kV = .none := Dflts.noKw hD
  obtain ⟨a, vs, ns, rfl, rfl, hobj, hints, hlen⟩ := script_of hn hpre hwl
  refine enter_call (codeAny_mono (call w s₀ s₁ mg mb fa o pm cd doc a vs ns G Y ho (fd_plain hd) hcd hmg hobj hints hlen hg) fun r s' hq => ?_)
  obtain ⟨rfl, h2, h3, h4⟩ := hq
  exact ⟨.inl ⟨.bool true, .bool true, [], rfl, fun _ => rfl, .bool true, post_true l _, fun _ => ⟨List.Pairwise.nil, fun _ hm => (nomatch hm)⟩⟩, h2, h3, h4⟩

/-! ### rules over ANY heap (no ledger) from facts about the written part K: the library's own take a ledger (News) for what they write -/
section
variable {prog : Program} {w : World} {A : Around} {E : Value → Shared → Prop} {s : Shared} {K : Frag}

/-! the whole heap as the ledger: makes every rule that writes through a ledger a rule over any heap -/
def noObjs (h : Heap) : Heap := { h with objs := #[] }
def ledger (h : Heap) (L d : Addr) : List (Addr × Obj) := (List.range h.objs.size).filterMap fun a => if a = L ∨ a = d then none else (h.get? a).map fun o => (a, o)
end
end Att

namespace L2
open PySem PySem.Spec PyProof.Rows

theorem vals_ints : ∀ {vs : List Value} {ns : List Int}, IntsAre vs ns → Vals (ns.map V.int) vs
  | _, _, .nil => .nil
  | _, _, .cons n t h => .cons ⟨t, rfl⟩ (vals_ints h)

/-- nothing is tracked but the script, known to the object (or it is an object of the module) -/
def Only (H : Hp) : Prop := ∀ b, H b = none ∨ ∃ o xs, H b = some (.frz o (.lst xs))

/-- THE HEAD: the law's promise, at the heap behind the top. F, the promise of the law's def, may use that base is part of the heap (so K.In base, base.Ns mainGlobals mg stand in Mod) -/
theorem law_call {P : Program} {w : World} {K : PySem.W.Frag} {mg mb : Str → Option Value} {CX : CXT} {k : Nat} {fa a : Addr} {fd : FuncData} {x : Str} {sp : Sp} {s₁ : Shared} {vs : List Value} {ns : List Int}
    (KX : K.In s₁.heap) (hns : s₁.heap.Ns mainGlobals mg) (hb : s₁.heap.Ns builtinsNs mb) (hbb : ∀ x : Str, x ≠ "__name__" → mb x = bootBuiltins x) (hlim : s₁.heap.NoLimit) (hg : s₁.gens = #[])
    (ha : s₁.heap.get? a = some { cls := .type "list", data := .seq vs.toArray }) (hi : IntsAre vs ns) (hl : ns.length ≤ sizeLine) (hr : Room k callerA)
    (F : ∀ base : Heap, K.In base → base.Ns mainGlobals mg → FnOk P w K mg base CX k fa fd [x] sp) (hbind : ∀ (s : Shared) (u : Value), BindsTo s fd ⟨[u], []⟩ [(x, u)])
    (hsp : ∀ H : Hp, Only H → SqL K H a (ns.map V.int) → sp [.ref a] H (fun v _ => v = .bl true) fun _ _ _ => False)
    (hCX : ∀ H e s', CX [] H s₁ (fun _ _ _ => False) e s' → False) :
    codeAny (model P w) callerA (.call (.ref fa) ⟨[.ref a], []⟩) (fun r s' => r = .ok (.ret (.bool true)) ∧ OldK s₁.heap s'.heap ∧ s'.os = s₁.os ∧ AllBare s'.gens) s₁ := by
  have rv := vals_ints hi
  have lenV := hi.length
  -- from an abstract heap in which nothing but the script may be tracked
  have core : ∀ H : Hp, Only H → SqL K H a (ns.map V.int) → HOk P w H s₁.heap → (∀ b, H b ≠ none → b = a) → (H a ≠ none → K.lookup a = none) →
      codeAny (model P w) callerA (.call (.ref fa) ⟨[.ref a], []⟩) (fun r s' => r = .ok (.ret (.bool true)) ∧ OldK s₁.heap s'.heap ∧ s'.os = s₁.os ∧ AllBare s'.gens) s₁ := by
    intro H hO hS hok hA hK
    have base_of : ∀ {b : Addr} {o : Obj}, s₁.heap.get? b = some o → H b = none → (hidT s₁.heap H).get? b = some o := fun e n => hidT_get e n
    have noA : ∀ {b : Addr} {o : Obj} {es : Array DictEntry} {ep : Nat}, s₁.heap.get? b = some o → o.data = .dict es ep → H b = none := fun {b o es ep} e d => by
      cases q : H b with
      | none => rfl
      | some u =>
        have e' : b = a := hA b (by rw [q]; simp)
        subst e'
        rw [ha] at e; cases e
        have d' : Data.seq vs.toArray _ = Data.dict es ep := d
        cases d'
    have nsK : ∀ {b : Addr} {m : Str → Option Value}, s₁.heap.Ns b m → (hidT s₁.heap H).Ns b m := fun {b m} ⟨o, es, ep, e, d, r⟩ => ⟨o, es, ep, base_of e (noA e d), d, r⟩
    have hKb : K.In (hidT s₁.heap H) := fun b o e => base_of (KX b o e) (by
      cases q : H b with
      | none => rfl
      | some u =>
        have e' : b = a := hA b (by rw [q]; simp)
        subst e'
        rw [hK (by rw [q]; simp)] at e; cases e)
    have hM : Mod K mg (hidT s₁.heap H) := ⟨hKb, nsK hns, ⟨mb, nsK hb, hbb⟩, let ⟨mc, h1, h2⟩ := hlim; ⟨mc, nsK h1, h2⟩⟩
    have e0 : Env0 P w K mg (hidT s₁.heap H) callerA [] s₁ H := ⟨rfl, hM, fun b o e => of_hidT e, Nat.le_of_eq (hidT_size _ _), trivial, fun b hb => absurd (show b ∈ ([] : List Addr) from hb) (by simp), hok, .of_eq hg, .inl rfl⟩
    refine codeAny_mono ((F _ hKb (nsK hns)).run callerA [] s₁ H ⟨[.ref a], []⟩ [.ref a] [.ref a] _ _ hr e0 (hbind s₁ (.ref a)) (.cons rfl .nil) (hsp H hO hS)) fun r s' h => ?_
    cases r with
    | error e => exact (hCX H e s' h).elim
    | ok fl =>
      cases fl with
      | next => exact False.elim h
      | brk => exact False.elim h
      | cont => exact False.elim h
      | ret u =>
        obtain ⟨v, H', os, bare, un, hok', r', q⟩ := h
        have q' : v = .bl true := q
        subst q'
        obtain rfl : u = Value.bool true := r'
        refine ⟨rfl, OldK.of_keep fun b o e => ?_, os, bare⟩
        cases q : H b with
        | none => exact un.keep b o e q (by intro z; exact absurd (show b ∈ ([] : List Addr) from z) (by simp)) (by simp)
        | some u =>
          rcases hO b with z | ⟨ob, xs, z⟩
          · rw [q] at z; cases z
          · have z2 := un.frzs b ob _ z
            obtain ⟨e1, _⟩ := hok b _ z
            obtain ⟨e2, _⟩ := hok' b _ z2
            rw [e] at e1; cases e1
            exact e2
  cases hk : K.lookup a with
  | some o =>
    -- the script is one of the module's own objects
    have e := KX a o hk
    rw [ha] at e
    cases e
    refine core (fun _ => none) (fun _ => .inl rfl) (.inr ⟨_, vs.toArray, _, hk, rfl, rfl, rfl, by rw [List.size_toArray, lenV]; exact hl, by simpa using rv⟩) (fun b u z => by have z' : (none : Option HO) = some u := z; cases z') (fun b z => absurd rfl z) fun z => absurd rfl z
  | none =>
    refine core (fun b => if b = a then some (.frz { cls := .type "list", data := .seq vs.toArray } (.lst (ns.map V.int))) else none) (fun b => ?_) (.inl (.inr ⟨{ cls := .type "list", data := .seq vs.toArray }, if_pos rfl⟩)) (fun b u z => ?_) (fun b z => ?_) fun _ => hk
    · by_cases hb : b = a
      · exact .inr ⟨_, _, if_pos hb⟩
      · exact .inl (if_neg hb)
    · by_cases hb : b = a
      · have z' := (if_pos hb).symm.trans z
        cases z'
        subst hb
        exact ⟨ha, by rw [List.length_map]; exact hl, vs, _, rv, ha⟩
      · have z' := (if_neg hb).symm.trans z
        cases z'
    · by_cases hb : b = a
      · exact hb
      · exact absurd (if_neg hb) z
end L2

namespace L2
open PySem PySem.Spec PyProof.Rows

abbrev KOf {K : PySem.W.Frag} {h : Heap} (_ : K.In h) : PySem.W.Frag := K

/-- the goal that k_head leaves (case hc), from the law's promise. F gives the function object fd (K's own) once, then the promise over every base -/
theorem walk_of {l : PySem.W.OpenLaw} {n k : Nat} {q : Program} {loose : List Str} {XP : (Str → Option Value) → Heap → Prop} {YP : World → Heap → Prop} {d : DefRec} {K : Params → PySem.W.Frag} {CX : World → CXT} {sp : World → Sp} {x : Str}
    (hn : l.most = some n) (hn2 : n ≤ sizeLine) (hdf : d.params.defaults = []) (hr : Room k callerA)
    (hY : ∀ (w : World) (h : Heap), YP w h → (K w.params).In h)
    (F : ∀ (w : World) (mg : Str → Option Value) (fa : Addr) (h : Heap), (K w.params).In h → h.Ns mainGlobals mg → mg d.name = some (.ref fa) →
      ∃ fd : FuncData, (∀ (s : Shared) (u : Value), BindsTo s fd ⟨[u], []⟩ [(x, u)]) ∧
        ∀ base : Heap, (K w.params).In base → base.Ns mainGlobals mg → FnOk l.prog w (K w.params) mg base (CX w) k fa fd [x] (sp w))
    (hsp : ∀ (w : World) (H : Hp) (a : Addr) (ns : List Int), ns.length ≤ n → Only H → SqL (K w.params) H a (ns.map V.int) → sp w [.ref a] H (fun v _ => v = .bl true) fun _ _ _ => False)
    (hCX : ∀ (w : World) (H : Hp) (s : Shared) (e : Value) (s' : Shared), CX w [] H s (fun _ _ _ => False) e s' → False) :
    PySem.W.WalkO q loose XP YP l.row.toRowW d [] (fun f vs => PySem.call f vs) := by
  refine Att.attach_call hn hdf fun w s₀ s₁ mg mb fa o pm cd doc a vs ns G Y ho hd hcd hmg hobj hints hlen hg => ?_
  have KX := hY w _ Y
  obtain ⟨fd, hb, hF⟩ := F w mg fa _ KX G.T.g hmg
  exact law_call KX G.T.g G.T.b G.T.builtins G.T.nolimit hg hobj hints (Nat.le_trans hlen hn2) hr hF hb (fun H hO hS => hsp w H a ns hlen hO hS) fun H e s' => hCX w H s₁ e s'
end L2

/- THE LAST THEOREM (shape; LID, My.* are yours):
   My.Adr: a structure of the addresses that your layer names (classes, functions); My.Txt K t: a structure (Prop) of the equations over K;
   My.txt_mk : {K} {implicit addresses ..} (e1 : nsIn K mainGlobals "law" = some (some (.ref f))) (e2 : K.lookup f = some ⟨oc, od, .func (fnOf "law" "law" params body scope dV kV doc pm an cdv ct), sl⟩) (e3 : codeIn K cdv "law" = true) .. : ∃ t, My.Txt K t

set_option maxRecDepth 100000 in
set_option maxHeartbeats 0 in
theorem PySem.Challenge.cw_LID_holds : PySem.Challenge.rw_LID.Holds := by
  w_on; o_law; k_head; (case hw => w_witness2)
  k_fill
  refine L2.walk_of (l := PySem.Challenge.rw_LID) (n := 63) (k := 40) (x := "script") (CX := fun w => ..) (sp := fun _ => My.sp_law) rfl (by decide) rfl ⟨rfl, by decide, by decide⟩ (fun w h Y => PySem.W.kIn_of Y) ?F ?S ?C
  case F =>
    intro w mg fa h KX G hmg
    have T : ∃ t, My.Txt (L2.KOf KX) t := by
      dsimp only [L2.KOf]                          -- K must stand as «<heap const> w.params» for k_is
      refine' My.txt_mk ?e1 ?e2 ?e3 ..
      (case e1 => PySem.W.k_is)                    -- in the order: a name -> its address -> its object -> its parts
      (case e2 => PySem.W.k_is)
      ..
    obtain ⟨t, T⟩ := T
    have e0 := hmg.symm.trans (PySem.W.mg_of KX G T.law)
    cases e0                                       -- fa is the law's own address
    exact ⟨_, fun s u => .of_eq rfl, fun base kb nb => My.law_fn T kb nb⟩     -- if «.of_eq rfl» comes too early: refine' ⟨_, ?b, fun base kb nb => My.law_fn T kb nb⟩; exact fun s u => .of_eq rfl
  case S => exact fun w H a ns hl hO hS => ..
  case C => exact ..
(the tactic k_is has no namespace: write k_is) -/

/-! SHORT WORDS over the layer: a def of the text, its body, what a loop and a test want. -/
namespace L2
open PySem PySem.Spec PyProof.Rows

/-! ### the text by places -/
/-- the j-th statement of a class's body -/
def inClass (s : Stmt) (j : Nat) : Stmt := match s with
  | .ClassDef _ _ _ body _ _ _ _ _ _ _ => body.getD j (.Pass ⟨0, 0, 0, 0⟩)
  | _ => .Pass ⟨0, 0, 0, 0⟩
def defArgs (s : Stmt) : Arguments := match s with
  | .FunctionDef _ a _ _ _ _ _ _ _ _ => a
  | _ => { posonlyargs := [], args := [], vararg := none, kwonlyargs := [], kw_defaults := [], kwarg := none, defaults := [] }
def defBody (s : Stmt) : List Stmt := match s with
  | .FunctionDef _ _ b _ _ _ _ _ _ _ => b
  | _ => []
def defScope (s : Stmt) : Scope := match s with
  | .FunctionDef _ _ _ _ _ _ sc _ _ _ => sc
  | _ => { kind := .function, names := [], isGenerator := false, isCoroutine := false }

/-! ### no exception leaves a def -/
abbrev CX0 : CXT := fun _ _ _ _ _ _ => False
abbrev E0 : XK := fun _ _ _ => False
theorem pass0 {X : Cx} : Passes CX0 X E0 := fun _ _ _ _ _ _ _ h => h.elim

/-! ### a def (or method) of the text as it stands behind the top -/
structure Fun (K : PySem.W.Frag) (x qual : Str) (st : Stmt) (f : Addr) (fd : FuncData) : Prop where
  ex : ∃ (oc : Value) (od : Option Addr) (kV doc pm : Value) (an : Option Addr) (cdv ct : Value) (osl : Array (Option Value)),
    fd = PySem.W.fnOf x qual (defArgs st) (defBody st) (defScope st) .none kV doc pm an cdv ct ∧ K.lookup f = some ⟨oc, od, .func fd, osl⟩ ∧ PySem.W.codeIn K cdv qual = true
  kp : PySem.W.keepIn K (.ref f) = true
section
variable {P : Program} {w : World} {K : PySem.W.Frag} {mg : Str → Option Value} {base : Heap}
end
theorem hu_of {A : Around} {k : Nat} (hr : Room k A) : A.units + 1 < cLine := Nat.lt_of_le_of_lt (Nat.add_le_add_left (by decide : 1 ≤ 64) _) hr.units
/-! ### expressions in short: the name that stands in the i-th slot -/
section
variable {X : Cx}
theorem pv (i : Nat) {x : Str} {pos : Pos} (hN : X.N[i]? = some x := by rfl) (hv : Vis X.env.scope x := by first | exact Or.inl rfl | exact Or.inr (Or.inl rfl) | exact Or.inr (Or.inr rfl)) (hd : (x == ("__debug__" : Str)) = false := by decide)
    (hcd : (x == ("__classdict__" : Str)) = false := by decide) : PE X (.Name x pos) (tVar i) := pe_var hN hv hd hcd
/-- len of a dict -/
theorem call_lenD : CallR X (.builtin "len") (fun xs H Q => ∃ a kvs, xs = [V.ref a] ∧ H a = some (.dK kvs) ∧ Q (.int kvs.length) H) := by
  intro pins s σ H xs us Q I r h
  obtain ⟨a, kvs, rfl, ha, q⟩ := h
  obtain ⟨u, rfl, ru⟩ := vals1 r
  cases ru
  exact d_len I (.inl ha) fun t s' I' => ⟨.int kvs.length, H, I', ⟨t, rfl⟩, q⟩
end

/-! ### tests -/
theorem iteF {A B : Prop} (h : B) : if false = true then A else B := by
  rw [if_neg Bool.false_ne_true]
  exact h
theorem iteT {A B : Prop} (h : A) : if true = true then A else B := by
  rw [if_pos rfl]
  exact h
/-! ### heaps -/
/-- all that was tracked is as it was -/
def Same (H H' : Hp) : Prop := ∀ b o, H b = some o → H' b = some o
theorem Same.refl (H : Hp) : Same H H := fun _ _ h => h
theorem Same.trans {H H1 H2 : Hp} (a : Same H H1) (b : Same H1 H2) : Same H H2 := fun c o h => b c o (a c o h)
theorem Same.seq {K : PySem.W.Frag} {H H' : Hp} {a : Addr} {xs : List V} (e : Same H H') (h : SqL K H a xs) : SqL K H' a xs := by
  rcases h with (h | ⟨o, h⟩) | h
  · exact .inl (.inl (e _ _ h))
  · exact .inl (.inr ⟨o, e _ _ h⟩)
  · exact .inr h

/-! ### a dict's pairs: keys that differ -/
section
variable {κ : Type} [DecidableEq κ]
theorem dropK_pos {p : κ × V} {r : List (κ × V)} {k : κ} (e : p.1 = k) : dropK (p :: r) k = dropK r k := by
  unfold dropK
  rw [List.filter_cons, if_neg (by simp [e])]
theorem dropK_neg {p : κ × V} {r : List (κ × V)} {k : κ} (e : ¬ p.1 = k) : dropK (p :: r) k = p :: dropK r k := by
  unfold dropK
  rw [List.filter_cons, if_pos (by simp [e])]
end
end L2

/-! ### list comprehensions: the block's own context, its entry, the loop -/
namespace L2
open PySem PySem.Spec PyProof.Rows

/-- the cells that the block is handed -/
def closL (cells : List (Str × Addr)) : List (Str × NameKind) → List (Str × Addr) → List (Str × Addr)
  | [], acc => acc
  | (n, k) :: r, acc => closL cells r (if (k == NameKind.free) = true then (n, (cells.lookup n).getD 0) :: acc else acc)
theorem closureFor_clos {scope : Scope} {env : Env} (h : ∀ y ∈ scope.names, y.2 = .free → (env.cells.lookup y.1).isSome = true) :
    closureFor scope env = pure (closL env.cells scope.names []) := by
  simp only [closureFor]
  generalize scope.names = l at h ⊢
  generalize ([] : List (Str × Addr)) = acc
  induction l generalizing acc with
  | nil => rfl
  | cons x r ih =>
    obtain ⟨n, k⟩ := x
    have hr := fun y hy => h y (List.mem_cons_of_mem _ hy)
    by_cases hk : k = .free
    · subst hk
      obtain ⟨c, hc⟩ := Option.isSome_iff_exists.mp (h (n, .free) List.mem_cons_self rfl)
      have ih' := ih hr ((n, c) :: acc)
      simp only [List.forIn_cons, cellOf, hc, closL, beq_self_eq_true, if_true, Option.getD_some] at ih' ⊢
      exact ih'
    · have hb : (k == NameKind.free) = false := by simpa using hk
      have ih' := ih hr acc
      simp only [List.forIn_cons, closL, hb, Bool.false_eq_true, if_false] at ih' ⊢
      exact ih'
theorem closL_in {cells : List (Str × Addr)} {x : Str} {c : Addr} : ∀ {l : List (Str × NameKind)} {acc : List (Str × Addr)}, (∀ y ∈ l, y.2 = .free → (cells.lookup y.1).isSome = true) →
    (closL cells l acc).lookup x = some c → acc.lookup x = some c ∨ cells.lookup x = some c
  | [], _, _, h => .inl h
  | (n, k) :: r, acc, hf, h => by
    have hr : ∀ y ∈ r, y.2 = .free → (cells.lookup y.1).isSome = true := fun y hy => hf y (List.mem_cons_of_mem _ hy)
    by_cases hk : k = .free
    · subst hk
      rcases closL_in (l := r) hr (show (closL cells r ((n, (cells.lookup n).getD 0) :: acc)).lookup x = some c from h) with q | q
      · rw [List.lookup_cons] at q
        by_cases hx : x = n
        · subst hx
          rw [beq_self_eq_true] at q
          obtain ⟨c', hc⟩ := Option.isSome_iff_exists.mp (hf (x, .free) List.mem_cons_self rfl)
          have hc : cells.lookup x = some c' := hc
          rw [hc] at q ⊢
          exact .inr q
        · rw [beq_eq_false_iff_ne.mpr hx] at q
          exact .inl q
      · exact .inr q
    · have hb : ¬ (k == NameKind.free) = true := by simpa using hk
      have h' : (closL cells r (if (k == NameKind.free) = true then (n, (cells.lookup n).getD 0) :: acc else acc)).lookup x = some c := h
      rw [if_neg hb] at h'
      exact closL_in hr h'
theorem closL_has {cells : List (Str × Addr)} {x : Str} : ∀ {l : List (Str × NameKind)} {acc : List (Str × Addr)}, ((x, NameKind.free) ∈ l ∨ (acc.lookup x).isSome = true) → ((closL cells l acc).lookup x).isSome = true
  | [], _, h => by
    rcases h with h | h
    · cases h
    · exact h
  | (n, k) :: r, acc, h => by
    show ((closL cells r (if (k == NameKind.free) = true then (n, (cells.lookup n).getD 0) :: acc else acc)).lookup x).isSome = true
    refine closL_has ?_
    rcases h with h | h
    · rcases List.mem_cons.mp h with e | e
      · cases e
        right
        rw [if_pos (by rfl), List.lookup_cons, beq_self_eq_true]
        rfl
      · exact .inl e
    · right
      by_cases hb : (k == NameKind.free) = true
      · rw [if_pos hb, List.lookup_cons]
        cases hx : x == n with
        | true => rfl
        | false => exact h
      · rw [if_neg hb]
        exact h

/-- what a name of the block is behind the new labels -/
theorem head_lookup (c : Bool) {n x : Str} {k : NameKind} {r : List (Str × NameKind)} (hx : (x == n) = true) : ((if c = true then (n, NameKind.cell) else (n, k)) :: r).lookup x = some (if c = true then .cell else k) := by
  cases c <;> simp [List.lookup_cons, hx]
theorem head_skip (c : Bool) {n x : Str} {k : NameKind} {r : List (Str × NameKind)} (hx : (x == n) = false) : ((if c = true then (n, NameKind.cell) else (n, k)) :: r).lookup x = r.lookup x := by
  cases c <;> simp [List.lookup_cons, hx]
theorem relabel_free {env : Env} : ∀ {names : List (Str × NameKind)} {x : Str}, names.lookup x = some .free →
    (names.map fun (n, k) => if (k == NameKind.free && env.scope.kind == .function && env.kindOf n == some .cell) then (n, NameKind.cell) else (n, k)).lookup x = some .cell ∨
    (names.map fun (n, k) => if (k == NameKind.free && env.scope.kind == .function && env.kindOf n == some .cell) then (n, NameKind.cell) else (n, k)).lookup x = some .free
  | [], _, h => by simp at h
  | (n, k) :: r, x, h => by
    have ih := @relabel_free env r x
    rw [List.lookup_cons] at h
    rw [List.map_cons]
    cases hx : x == n with
    | true =>
      rw [hx] at h
      cases h
      dsimp only
      rw [head_lookup _ hx]
      cases (NameKind.free == NameKind.free && env.scope.kind == .function && env.kindOf n == some .cell) with
      | true => exact .inl rfl
      | false => exact .inr rfl
    | false =>
      rw [hx] at h
      dsimp only
      rw [head_skip _ hx]
      exact ih h
theorem relabel_back {env : Env} : ∀ {names : List (Str × NameKind)} {x : Str} {k' : NameKind}, (k' = .cell ∨ k' = .free) →
    (names.map fun (n, k) => if (k == NameKind.free && env.scope.kind == .function && env.kindOf n == some .cell) then (n, NameKind.cell) else (n, k)).lookup x = some k' →
    ∃ k, (k = .free ∨ k = .cell) ∧ (x, k) ∈ names
  | [], _, _, _, h => by simp at h
  | (n, k) :: r, x, k', hk, h => by
    have ih := @relabel_back env r x k' hk
    rw [List.map_cons] at h
    dsimp only at h
    cases hx : x == n with
    | true =>
      have e : x = n := eq_of_beq hx
      subst e
      rw [head_lookup _ hx] at h
      cases hc : (k == NameKind.free && env.scope.kind == .function && env.kindOf x == some .cell) with
      | true =>
        simp only [Bool.and_eq_true, beq_iff_eq] at hc
        obtain ⟨⟨rfl, _⟩, _⟩ := hc
        exact ⟨.free, .inl rfl, List.mem_cons_self⟩
      | false =>
        rw [hc] at h
        have h : some k = some k' := h
        cases h
        rcases hk with rfl | rfl
        · exact ⟨_, .inr rfl, List.mem_cons_self⟩
        · exact ⟨_, .inl rfl, List.mem_cons_self⟩
    | false =>
      rw [head_skip _ hx] at h
      obtain ⟨k2, h1, h2⟩ := ih h
      exact ⟨k2, h1, List.mem_cons_of_mem _ h2⟩

/-- the block's context: its names N, its frame at C, handed the cells cl; entered at s with H; the iterators fp -/
def compCx (X : Cx) (scope : Scope) (cl : List (Str × Addr)) (C : Addr) (N : List Str) (s : Shared) (H : Hp) (fp : List Addr) (pins : List (Addr × Obj)) : Cx :=
  { X with N := N, s₀ := s, H₀ := H, env := compEnvC scope cl C X.env, outer := X.stack, stack := X.stack, ex := fp, fn := fun _ => false, pn := X.pn ++ pins, xe := fun _ _ => False }
/-- the values at the block's entry: cap tells, name by name, the slot it is taken from -/
def capS (cap : List (Option Nat)) (σ : St) : St := cap.map fun o => o.bind fun j => (σ[j]?).join
def isCF : Option NameKind → Bool
  | some .cell => true
  | some .free => true
  | _ => false
def capAt (sc : Scope) (XN : List Str) : List (Option Nat) → List Str → Bool
  | [], [] => true
  | some j :: r, x :: xs => (XN[j]? == some x) && (sc.names.lookup x == some NameKind.free) && capAt sc XN r xs
  | none :: r, _ :: xs => capAt sc XN r xs
  | _, _ => false
/-- osc, XN: the scope and the names around; sc, N: the block's -/
def capOk (osc sc : Scope) (XN N : List Str) (cap : List (Option Nat)) : Bool :=
  (sc.kind == ScopeKind.function) && sc.names.all (fun y => y.2 != NameKind.cell) && sc.names.all (fun y => y.2 != NameKind.local || sc.names.lookup y.1 == some NameKind.local) &&
  sc.names.all (fun y => y.2 != NameKind.free || isCF (osc.names.lookup y.1)) && capAt sc XN cap N
theorem capAt_len {sc : Scope} {XN : List Str} : ∀ {cap : List (Option Nat)} {N : List Str}, capAt sc XN cap N = true → cap.length = N.length
  | [], [], _ => rfl
  | some _ :: r, _ :: xs, h => by
    simp only [capAt, Bool.and_eq_true] at h
    simp [capAt_len h.2]
  | none :: r, _ :: xs, h => by
    simp only [capAt] at h
    simp [capAt_len h]
  | [], _ :: _, h => by simp [capAt] at h
  | some _ :: _, [], h => by simp [capAt] at h
  | none :: _, [], h => by simp [capAt] at h
theorem capAt_get {sc : Scope} {XN : List Str} : ∀ {cap : List (Option Nat)} {N : List Str} {i j : Nat} {x : Str}, capAt sc XN cap N = true → cap[i]? = some (some j) → N[i]? = some x → XN[j]? = some x ∧ sc.names.lookup x = some .free
  | [], _, i, _, _, _, h, _ => by simp at h
  | some _ :: r, y :: xs, 0, j, x, h, h1, h2 => by
    simp only [capAt, Bool.and_eq_true, beq_iff_eq] at h
    simp at h1 h2
    subst h1; subst h2
    exact ⟨h.1.1, h.1.2⟩
  | some _ :: r, y :: xs, i + 1, j, x, h, h1, h2 => by
    simp only [capAt, Bool.and_eq_true] at h
    exact capAt_get (i := i) h.2 (by simpa using h1) (by simpa using h2)
  | none :: r, y :: xs, 0, j, x, h, h1, h2 => by simp at h1
  | none :: r, y :: xs, i + 1, j, x, h, h1, h2 => by
    simp only [capAt] at h
    exact capAt_get (i := i) h (by simpa using h1) (by simpa using h2)
  | some _ :: _, [], _, _, _, h, _, _ => by simp [capAt] at h
  | none :: _, [], _, _, _, h, _, _ => by simp [capAt] at h

section
variable {X : Cx} {pins : List (Addr × Obj)} {σ : St} {H : Hp} {s : Shared} {scope : Scope} {N : List Str} {cap : List (Option Nat)} {fp : List Addr}
theorem Inv.clos (I : Inv X pins σ H s) (ok : capOk X.env.scope scope X.N N cap = true) : ∀ y ∈ scope.names, y.2 = .free → (X.env.cells.lookup y.1).isSome = true := fun y hy hf => by
  simp only [capOk, Bool.and_eq_true, List.all_eq_true] at ok
  have h := ok.1.2 y hy
  rw [hf] at h
  have h' : isCF (X.env.scope.names.lookup y.1) = true := by simpa using h
  have hk : X.env.kindOf y.1 = some .cell ∨ X.env.kindOf y.1 = some .free := by
    show X.env.scope.names.lookup y.1 = _ ∨ X.env.scope.names.lookup y.1 = _
    cases e : X.env.scope.names.lookup y.1 with
    | none => rw [e] at h'; cases h'
    | some k =>
      rw [e] at h'
      cases k <;> first | exact .inl rfl | exact .inr rfl | cases h'
  obtain ⟨c, e⟩ := I.ok.has y.1 hk
  rw [e]
  rfl
/-- the block is entered: the list at D is laid, its frame at C -/
theorem Inv.comp (I : Inv X pins σ H s) (ok : capOk X.env.scope scope X.N N cap = true) (f : ∀ b ∈ fp, FpOk X pins H b) (fo : ∀ b ∈ fp, ∃ o, s.heap.get? b = some o) {h₁ : Heap} {tk : Nat} {fo' : Obj}
    (hn : h₁.Ns (s.heap.push { cls := .type "list", data := .seq #[] }).objs.size (fun _ => none))
    (hs : Heap.SameBut (s.heap.push { cls := .type "list", data := .seq #[] }).objs.size ((s.heap.push { cls := .type "list", data := .seq #[] }).push fo') h₁) :
    Inv (compCx X scope (closL X.env.cells scope.names []) (s.heap.push { cls := .type "list", data := .seq #[] }).objs.size N { s with heap := s.heap.push { cls := .type "list", data := .seq #[] } } (upd H s.heap.objs.size (.lst [])) fp pins)
      [] (capS cap σ) (upd H s.heap.objs.size (.lst [])) { s with heap := h₁, toks := tk } := by
  have okC := ok
  simp only [capOk, Bool.and_eq_true, List.all_eq_true, beq_iff_eq] at ok
  obtain ⟨⟨⟨⟨hkind, hcell⟩, _⟩, _⟩, hcap⟩ := ok
  have cl := I.clos okC
  have hC : (s.heap.push { cls := .type "list", data := .seq #[] }).objs.size = s.heap.objs.size + 1 := Heap.size_push ..
  generalize hCC : (s.heap.push { cls := .type "list", data := .seq #[] }).objs.size = C at hn hs hC ⊢
  have below : ∀ b o, s.heap.get? b = some o → b ≠ C ∧ b ≠ s.heap.objs.size := fun b o e => by
    have := Heap.lt_size e
    exact ⟨by rw [hC]; exact Nat.ne_of_lt (Nat.lt_succ_of_lt this), Nat.ne_of_lt this⟩
  have old : ∀ b o, s.heap.get? b = some o → h₁.get? b = some o := fun b o e => hs.extBut b o (below b o e).1 (Heap.get?_push_of_some _ (Heap.get?_push_of_some _ e))
  have up3 : ∀ b o, s.heap.get? b = some o → (s.heap.push { cls := .type "list", data := .seq #[] }).get? b = some o := fun b o e => Heap.get?_push_of_some _ e
  have old3 : ∀ b o, (s.heap.push { cls := .type "list", data := .seq #[] }).get? b = some o → h₁.get? b = some o := fun b o e => by
    have : b < C := by rw [← hCC]; exact Heap.lt_size e
    exact hs.extBut b o (Nat.ne_of_lt this) (Heap.get?_push_of_some _ e)
  have hD : H s.heap.objs.size = none := I.hok.fresh (Nat.le_refl _)
  have free3 : ∀ b o, s.heap.get? b = some o → H b = none → upd H s.heap.objs.size (.lst []) b = none := fun b o e n => by rw [upd_ne (below b o e).2]; exact n
  have hCn : upd H s.heap.objs.size (.lst []) C = none := by
    rw [upd_ne (by rw [hC]; exact Nat.ne_of_gt (Nat.lt_succ_self _))]
    exact I.hok.fresh (by rw [hC]; exact Nat.le_succ _)
  have cellsIn : ∀ x c, (closL X.env.cells scope.names []).lookup x = some c → X.env.cells.lookup x = some c := fun x c e => by
    rcases closL_in cl e with q | q
    · simp at q
    · exact q
  have cellO : ∀ x c, (closL X.env.cells scope.names []).lookup x = some c → ∃ v o, s.heap.IsCell c v ∧ s.heap.get? c = some o := fun x c e => by
    obtain ⟨v, q⟩ := I.cell x c (cellsIn x c e)
    obtain ⟨o, ho, _⟩ := id q
    exact ⟨v, o, q, ho⟩
  have hok3 : HOk X.prog X.w (upd H s.heap.objs.size (.lst [])) h₁ := I.hok.laid old (Nat.le_refl _) (show ObjOk X.prog X.w _ h₁ s.heap.objs.size (.lst []) from ⟨Nat.zero_le _, [], 0, .nil, old3 _ _ (Heap.get?_push_size _ rfl)⟩)
  have stkb : ∀ b ∈ frs X.stack, ∃ o, s.heap.get? b = some o := fun b hb => by
    obtain ⟨_, o, ho, _⟩ := I.stack.mem hb
    exact ⟨o, ho⟩
  refine ⟨⟨I.ok.mod, hkind, I.ok.glob, I.ok.blt, Nat.le_of_eq hCC, fun y z c h1 h2 => I.ok.inj y z c (cellsIn y c h1) (cellsIn z c h2), fun y hy => ?_, fun y c hf _ => Bool.noConfusion hf, I.hdAt.new hD, I.ok.frames, .inl rfl, fun b hb => ?_,
      fun b o e => ⟨up3 b o (I.bs b o e).1, free3 b o (I.bs b o e).1 (I.bs b o e).2⟩, ?_, fun b o e hb => ?_, fun b hb hb2 => ?_, ?_, fun b hb => ?_⟩,
    rfl, I.bare, Un.kept old3, ⟨_, hn, fun i x v h1 h2 h3 => ?_⟩, fun x c e => ?_, hCn, fun x c e => ?_, fun p hp => ?_, hok3, ?_⟩
  · -- has
    have hy : (relabel scope X.env).names.lookup y = some .cell ∨ (relabel scope X.env).names.lookup y = some .free := hy
    have : (y, NameKind.free) ∈ scope.names := by
      rcases hy with q | q
      · obtain ⟨k, hk, hm⟩ := relabel_back (.inl rfl) q
        rcases hk with rfl | rfl
        · exact hm
        · exact absurd (show (NameKind.cell != NameKind.cell) = true from hcell _ hm) (by decide)
      · obtain ⟨k, hk, hm⟩ := relabel_back (.inr rfl) q
        rcases hk with rfl | rfl
        · exact hm
        · exact absurd (show (NameKind.cell != NameKind.cell) = true from hcell _ hm) (by decide)
    exact Option.isSome_iff_exists.mp (closL_has (.inl this))
  · -- exf
    obtain ⟨o, e⟩ := fo b hb
    exact ⟨(below b o e).1, fun x c q => (f b hb).2.2.2.2.1 x c (cellsIn x c q)⟩
  · -- bsz
    show X.base.objs.size ≤ (s.heap.push { cls := .type "list", data := .seq #[] }).objs.size
    rw [Heap.size_push]
    exact Nat.le_succ_of_le (Nat.le_trans I.ok.bsz I.sz)
  · -- noex
    rcases (f b hb).2.2.2.1 with q | q
    · exact I.ok.noex b o e q
    · exact absurd (Nat.lt_of_lt_of_le (Heap.lt_size (I.ok.bs b o e).1) q) (Nat.lt_irrefl _)
  · -- exfs
    rcases List.mem_cons.mp (I.stkSub b hb2) with q | q
    · exact (f b hb).2.1 q
    · exact (f b hb).2.2.1 q
  · -- funs
    exact I.stack.of_keeps fun b o e _ => ⟨o, up3 b o e, rfl⟩
  · -- frf
    obtain ⟨o, e⟩ := stkb b hb
    exact free3 b o e (I.stkFree b hb)
  · -- loc
    have hi : ∃ j, cap[i]? = some (some j) ∧ σ[j]? = some (some v) := by
      unfold capS at h2
      rw [List.getElem?_map] at h2
      cases e : cap[i]? with
      | none => rw [e] at h2; cases h2
      | some o =>
        rw [e] at h2
        cases o with
        | none => cases h2
        | some j =>
          refine ⟨j, rfl, ?_⟩
          have h2' : (σ[j]?).join = some v := Option.some.inj h2
          cases e2 : σ[j]? with
          | none => rw [e2] at h2'; cases h2'
          | some o2 => rw [e2] at h2'; rw [show o2 = some v from h2']
    obtain ⟨j, hj, hv⟩ := hi
    obtain ⟨hX, hfr⟩ := capAt_get hcap hj h1
    have hmem : (x, NameKind.free) ∈ scope.names := PySem.mem_of_lookup hfr
    have hcf := okC
    simp only [capOk, Bool.and_eq_true, List.all_eq_true] at hcf
    have h' : isCF (X.env.scope.names.lookup x) = true := by simpa using hcf.1.2 _ hmem
    have hk : X.env.scope.names.lookup x = some .cell ∨ X.env.scope.names.lookup x = some .free := by
      cases e : X.env.scope.names.lookup x with
      | none => rw [e] at h'; cases h'
      | some k =>
        rw [e] at h'
        cases k <;> first | exact .inl rfl | exact .inr rfl | cases h'
    obtain ⟨m, _, hl⟩ := I.loc
    obtain ⟨u, ru, lk⟩ := hl j x v hX hv (hk.elim (fun q => .inr (.inl q)) fun q => .inr (.inr q))
    refine ⟨u, ru, .inr ⟨relabel_free hfr, ?_⟩⟩
    rcases lk with ⟨q, _⟩ | ⟨_, c, hc, hcell2⟩
    · have q' : X.env.scope.names.lookup x = some .local := q
      rcases hk with z | z
      · rw [z] at q'; cases q'
      · rw [z] at q'; cases q'
    · obtain ⟨c', hc'⟩ := Option.isSome_iff_exists.mp (closL_has (cells := X.env.cells) (acc := []) (.inl hmem))
      have : c' = c := by
        have := cellsIn x c' hc'
        rw [hc] at this
        exact (Option.some.inj this).symm
      subst this
      obtain ⟨o, ho, hd⟩ := hcell2
      exact ⟨c', hc', o, old c' o ho, hd⟩
  · -- cell
    obtain ⟨v, o, ⟨o', ho, hd⟩, _⟩ := cellO x c e
    exact ⟨v, o', old c o' ho, hd⟩
  · -- freeC
    obtain ⟨v, o, _, ho⟩ := cellO x c e
    exact free3 c o ho (I.freeC x c (cellsIn x c e))
  · -- pins
    have hp' : p ∈ X.pn ++ pins := by simpa [compCx] using hp
    obtain ⟨e, n, ne, nf, d⟩ := I.pin p hp'
    refine ⟨old _ _ e, free3 _ _ e n, (below _ _ e).1, fun z => ?_, d⟩
    rcases List.mem_cons.mp (I.stkSub p.1 z) with q | q
    · exact ne q
    · exact nf q
  · -- len
    show (capS cap σ).length = N.length
    unfold capS
    rw [List.length_map]
    exact capAt_len hcap
end

/-! ### the loop of a comprehension -/
section
variable {prog : Program} {w : World} {A : Around} {R : Result → Shared → Prop} {s : Shared}
theorem compLoop_go {elt target iter : Expr} {ifs : List Expr} {scope : Scope} {pos : Pos} {it acc : Value} {env : Env} (J : Nat → Shared → Prop)
    (turn : ∀ n s, J n s → wpAny (model prog w) A (pyNext it) (fun r s₁ => match r with
      | none => R (.ok .next) s₁
      | some v => wpAny (model prog w) A (letOwnedTupleGo target it v) (fun _ s₂ => wpAny (model prog w) A (assign target env v) (fun _ s₃ =>
          wpAny (model prog w) A (forIn ifs true fun c r => if r = true then do let ok ← isTrue c env (eval c env); pure (ForInStep.yield ok) else pure (ForInStep.yield r)) (fun ok s₄ =>
            if ok = true then wpAny (model prog w) A (eval elt env) (fun x s₅ =>
              wpAny (model prog w) A (call (.builtin "list.append") [acc, x]) (fun _ s₆ => ∃ m, m < n ∧ J m s₆) (fun _ _ => False) s₅) (fun _ _ => False) s₄
            else ∃ m, m < n ∧ J m s₄) (fun _ _ => False) s₃) (fun _ _ => False) s₂) (fun _ _ => False) s₁) (fun _ _ => False) s)
    (n : Nat) (h : J n s) : codeAny (model prog w) A (.compLoop (.ListComp elt [⟨target, iter, ifs, 0⟩] scope pos) 0 it acc env) R s := by
  have no : ∀ {E : Value → Shared → Prop} (e : Value) (s' : Shared), (fun (_ : Value) (_ : Shared) => False) e s' → E e s' := fun _ _ z => z.elim
  refine codeAny_loop rfl J (fun n s hI => ?_) n h
  show wpAny _ A ((compTurn (.ListComp elt [⟨target, iter, ifs, 0⟩] scope pos) 0 it acc env).onRaise (fun x => do noteFrame x env; theTreesLotGoes x)) _ _ s
  refine wpAny_noted ?_
  rw [compTurn_list]
  refine wpAny_bind (wpAny_standAt (wpAny_bind (wpAny_mono (turn n s hI) (fun r s₁ h₁ => ?_) no)))
  cases r with
  | none => exact wpAny_pure h₁
  | some v =>
    refine wpAny_bind (wpAny_mono h₁ (fun _ s₂ h₂ => wpAny_bind (wpAny_mono h₂ (fun _ s₃ h₃ => wpAny_bind (wpAny_mono h₃ (fun ok s₄ h₄ => ?_) no)) no)) no)
    cases ok with
    | false => exact wpAny_pure ⟨rfl, h₄⟩
    | true =>
      exact wpAny_bind (wpAny_bind (wpAny_mono h₄ (fun x s₅ h₅ => wpAny_bind (wpAny_mono h₅ (fun _ s₆ h₆ => wpAny_pure (wpAny_pure ⟨rfl, h₆⟩)) no)) no))
end

/-- the tests of a comprehension's clause: none, or one -/
def PIf (X : Cx) (cs : List Expr) (t : TT) : Prop :=
  ∀ (pins : List (Addr × Obj)) (s : Shared) (σ : St) (H : Hp) (Q : Bool → Hp → Prop), Inv X pins σ H s → t σ H Q →
    wpAny (model X.prog X.w) X.A (forIn cs true fun c r => if r = true then do let ok ← isTrue c X.env (eval c X.env); pure (ForInStep.yield ok) else pure (ForInStep.yield r)) (TP X pins σ Q) X.xe s
def tYes : TT := fun _ H Q => Q true H
theorem pif_nil {X : Cx} : PIf X [] tYes := fun _ _ _ H _ I h => wpAny_tests_nil ⟨H, I, h⟩
theorem pif_one {X : Cx} {c : Expr} {t : TT} (h : PT X c t) : PIf X [c] t := fun pins s σ H Q I hq => wpAny_tests_one (h pins s σ H Q I hq)

/-- what a comprehension's walk asks: an invariant W by the turn and a measure, over the block's values and the heap in which the list grows at D -/
def CompW (J : It) (D : Addr) (τ : St) (H : Hp) (g : TG) (tt : TT) (te : TE) (Q : VK) : Prop :=
  ∃ W : Nat → Nat → St → Hp → Prop, (∃ m, W 0 m τ H) ∧ ∀ i m τ H, W i m τ H →
    (J.stop i H ∧ Q (.ref D) H) ∨ (J.go i H ∧ ∃ M : St → Hp → Prop, (∀ τ' H', M τ' H' → ∃ m', m' < m ∧ W (i + 1) m' τ' H') ∧ ∀ x H', J.yld i H x H' → g x τ H' fun τ2 H2 => tt τ2 H2 fun b H3 =>
      if b = true then te τ2 H3 fun y H4 => ∃ ys, H4 D = some (.lst ys) ∧ ys.length < sizeLine ∧ M τ2 (upd H4 D (.lst (ys ++ [y]))) else M τ2 H3)
def tComp (wi : TI) (cap : List (Option Nat)) (g : TG) (tt : TT) (te : TE) : TE := fun σ H Q => wi σ H fun J H1 => ∀ D, H1 D = none → CompW J D (capS cap σ) (upd H1 D (.lst [])) g tt te Q

section
variable {X : Cx} {elt tg iter : Expr} {ifs : List Expr} {scope : Scope} {pos : Pos} {N : List Str} {cap : List (Option Nat)} {wi : TI} {g : TG} {tt : TT} {te : TE}
theorem comp_block {pins : List (Addr × Obj)} {σ : St} {H : Hp} {s : Shared} {J : It} {fp : List Addr} {it : Addr} {tn : Nat → Heap → Prop} {Q : VK} {E : Value → Shared → Prop} {RR : Value → Addr → Result → Shared → Prop}
    (hc : X.calm = true) (ok : capOk X.env.scope scope X.N N cap = true)
    (hg : ∀ cl C s H fp pins, PG (compCx X scope cl C N s H fp pins) tg g) (hf : ∀ cl C s H fp pins, PIf (compCx X scope cl C N s H fp pins) ifs tt) (he : ∀ cl C s H fp pins, PE (compCx X scope cl C N s H fp pins) elt te)
    (I : Inv X pins σ H s) (T : Turn X.prog X.w X.K tg J fp it tn) (st : tn 0 s.heap) (f : ∀ b ∈ fp, FpOk X pins H b)
    (q : ∀ D, H D = none → CompW J D (capS cap σ) (upd H D (.lst [])) g tt te Q)
    (fin : ∀ D C H' s' m, Inv X pins σ H' s' → FpOk X pins H' C → s'.heap.Ns C m → Q (.ref D) H' → RR (.ref D) C (.ok .next) s') :
    wpAny (model X.prog X.w) X.A (newList []) (fun acc s₃ => wpAny (model X.prog X.w) X.A (newFunctionEnv scope X.env.globals (closL X.env.cells scope.names []) [] X.env.qual none .none (some X.env)) (fun cenv s₄ =>
      codeAny (model X.prog X.w) X.A (.compStart (.ListComp elt [⟨tg, iter, ifs, 0⟩] scope pos) 0 (.ref it) acc { cenv with scope := relabel scope X.env }) (RR acc cenv.locals) s₄) E s₃) E s := by
  have ok' := ok
  simp only [capOk, Bool.and_eq_true, List.all_eq_true, beq_iff_eq] at ok'
  obtain ⟨⟨⟨⟨hkind, hcell⟩, _⟩, _⟩, hcap⟩ := ok'
  refine wpAny_newObj_type (wpAny_newFunctionEnv (fun y hy => by simpa using hcell y hy) (by intro y hy; simp at hy) (fun h₁ hns₁ hsb₁ => ?_) hkind)
  dsimp only at hns₁ hsb₁ ⊢
  have fo : ∀ b ∈ fp, ∃ o, s.heap.get? b = some o := fun b hb => let ⟨o, e, _⟩ := T.obj _ _ st b hb; ⟨o, e⟩
  have J0 := I.comp (h₁ := h₁) (tk := s.toks + ([] : List (Str × Value)).length) ok f fo hns₁ hsb₁
  have hDfree : H s.heap.objs.size = none := I.hok.fresh (Nat.le_refl _)
  obtain ⟨W, ⟨m0, w0⟩, turn⟩ := q _ hDfree
  generalize hY : compCx X scope (closL X.env.cells scope.names []) (s.heap.push { cls := .type "list", data := .seq #[] }).objs.size N { s with heap := s.heap.push { cls := .type "list", data := .seq #[] } } (upd H s.heap.objs.size (.lst [])) fp pins = Y at J0
  have below : ∀ b ∈ fp, b < s.heap.objs.size := fun b hb => let ⟨o, e⟩ := fo b hb; Heap.lt_size e
  have cl := I.clos ok
  have stat : ∀ {H' : Hp}, (∀ b ∈ fp, H' b = none) → ∀ b ∈ fp, FpOk Y [] H' b := fun {H'} hn b hb => by
    subst hY
    refine ⟨hn b hb, ?_, fun z => ?_, .inl hb, fun x c e => ?_, fun p hp => ?_⟩
    · show b ≠ (s.heap.push { cls := .type "list", data := .seq #[] }).objs.size
      rw [Heap.size_push]
      exact Nat.ne_of_lt (Nat.lt_succ_of_lt (below b hb))
    · rcases List.mem_cons.mp (I.stkSub b z) with q | q
      · exact (f b hb).2.1 q
      · exact (f b hb).2.2.1 q
    · refine (f b hb).2.2.2.2.1 x c ?_
      rcases closL_in cl e with z | z
      · simp at z
      · exact z
    · exact (f b hb).2.2.2.2.2 p (by simpa [compCx] using hp)
  have hgY : PG Y tg g := hY ▸ hg _ _ _ _ _ _
  have hfY : PIf Y ifs tt := hY ▸ hf _ _ _ _ _ _
  have heY : PE Y elt te := hY ▸ he _ _ _ _ _ _
  have e1 : Y.prog = X.prog := by subst hY; rfl
  have e2 : Y.w = X.w := by subst hY; rfl
  have e3 : Y.K = X.K := by subst hY; rfl
  have e4 : Y.calm = true := by subst hY; exact hc
  have e5 : Y.A = X.A := by subst hY; rfl
  have e6 : Y.env = compEnvC scope (closL X.env.cells scope.names []) (s.heap.push { cls := .type "list", data := .seq #[] }).objs.size X.env := by subst hY; rfl
  have e7 : Y.xe = fun _ _ => False := by subst hY; rfl
  have hfp0 : ∀ b ∈ fp, upd H s.heap.objs.size (.lst []) b = none := fun b hb => by rw [upd_ne (Nat.ne_of_lt (below b hb))]; exact (f b hb).1
  have st0 : tn 0 h₁ := T.keep _ _ _ st fun b hb o e => hsb₁.extBut b o (by
    have := below b hb
    rw [Heap.size_push]
    exact Nat.ne_of_lt (Nat.lt_succ_of_lt this)) (Heap.get?_push_of_some _ (Heap.get?_push_of_some _ e))
  have loop : ∀ s₃ : Shared, s₃ = { s with heap := h₁, toks := s.toks + ([] : List (Str × Value)).length } →
      codeAny (model X.prog X.w) X.A (.compLoop (.ListComp elt [⟨tg, iter, ifs, 0⟩] scope pos) 0 (.ref it) (.ref s.heap.objs.size)
        (compEnvC scope (closL X.env.cells scope.names []) (s.heap.push { cls := .type "list", data := .seq #[] }).objs.size X.env)) (RR (.ref s.heap.objs.size) (s.heap.push { cls := .type "list", data := .seq #[] }).objs.size) s₃ := by
    rintro s₃ rfl
    refine compLoop_go (fun n s' => ∃ i τ H', Inv Y [] τ H' s' ∧ tn i s'.heap ∧ (∀ b ∈ fp, H' b = none) ∧ W i n τ H') ?_ m0 ⟨0, _, _, J0, st0, hfp0, w0⟩
    rintro n s' ⟨i, τ, H', I', st', fr', w'⟩
    rcases turn i n τ H' w' with ⟨stop, qn⟩ | ⟨go, M, hM, step⟩
    · have z := T.done Y e1 e2 e3 e4 i [] s' τ H' (fun _ _ => False) I' (stat fr') st' stop
      rw [e5] at z
      refine thn z fun r s4 ⟨hr, I4⟩ => ?_
      subst hr
      subst hY
      obtain ⟨m, hn4, _⟩ := I4.loc
      have ho : s4.os = s.os := I4.os
      have un : Un (frs X.stack) fp H H' s.heap s4.heap := by
        have u1 : Un (frs X.stack) fp H (upd H s.heap.objs.size (.lst [])) s.heap (s.heap.push { cls := .type "list", data := .seq #[] }) := Un.laid (fun b u e => Heap.get?_push_of_some _ e) (Nat.le_refl _) hDfree
        exact u1.trans I4.base
      have IX : Inv X pins σ H' s4 := I.call' ho un I4.hok I4.bare fun b hb => ⟨(f b hb).2.2.2.1, (f b hb).2.1, (f b hb).2.2.2.2.1, (f b hb).2.2.2.2.2⟩
      exact fin _ _ H' s4 m IX (I.fpOk (by rw [Heap.size_push]; exact Nat.le_succ _) I4.free) hn4 qn
    · have z := T.item Y e1 e2 e3 e4 i [] s' τ H' (fun _ _ => False) I' (stat fr') st' go
      rw [e5] at z
      refine thn z fun r s4 ⟨u, hr, h4⟩ => ?_
      subst hr
      refine thn h4 fun _ s5 => L2.ex5 fun x H5 I5 r5 hq_ => ?_
      obtain ⟨y5, st5, fr5⟩ := hq_
      have I5' := I5.pinned (stat fr5) (T.obj _ _ st5)
      have zg := hgY _ s5 τ H5 x u _ I5' r5 (step x H5 y5)
      rw [e1, e2, e5, e6, e7] at zg
      refine thn zg fun _ s6 ⟨τ6, H6, I6, q6⟩ => ?_
      have zf := hfY _ s6 τ6 H6 _ I6 q6
      rw [e1, e2, e5, e6, e7] at zf
      refine thn zf fun b s7 => L2.ex3 fun H7 I7 q7 => ?_
      have again : ∀ {H8 : Hp} {s8 : Shared}, Inv Y ([] ++ pinsAt fp s5.heap) τ6 H8 s8 → M τ6 H8 → ∃ m, m < n ∧ ∃ i τ H', Inv Y [] τ H' s8 ∧ tn i s8.heap ∧ (∀ b ∈ fp, H' b = none) ∧ W i m τ H' := fun {H8 s8} I8 w8 => by
        obtain ⟨m', hm, w8⟩ := hM _ _ w8
        refine ⟨m', hm, i + 1, τ6, H8, I8.unpinned, T.keep _ _ _ st5 fun b hb o e => (I8.pin (b, o) (List.mem_append_right _ (List.mem_append_right _ (mem_pinsAt hb e)))).1, fun b hb => ?_, w8⟩
        obtain ⟨o, e, d⟩ := T.obj _ _ st5 b hb
        exact (I8.pin (b, o) (List.mem_append_right _ (List.mem_append_right _ (mem_pinsAt hb e)))).2.1
      cases b with
      | false => exact again I7 q7
      | true =>
        have ze := heY _ s7 τ6 H7 _ I7 q7
        rw [e1, e2, e5, e6, e7] at ze
        refine thn ze fun v s8 => L2.ex5 fun y H8 I8 r8 hq_ => ?_
        obtain ⟨ys, hD, hz, q8⟩ := hq_
        have za := mt_append (X := Y) _ s8 τ6 H8 (.ref s.heap.objs.size) [y] (.ref s.heap.objs.size) [v] (fun _ H9 => H9 = upd H8 s.heap.objs.size (.lst (ys ++ [y]))) I8 rfl (.cons r8 .nil) ⟨_, ys, y, rfl, rfl, hD, hz, rfl⟩
        rw [e1, e2, e5, e7] at za
        refine thn za fun _ s9 ⟨_, H9, I9, _, e9⟩ => ?_
        subst e9
        exact again I9 q8
  exact codeAny_compStart_list (loop _ rfl) (T.self X.A 0 _ _ _ st0 (loop _ rfl))

theorem cap_ok {osc : Scope} {XN : List Str} (h1 : X.env.scope = osc) (h2 : X.N = XN) (ok : capOk osc scope XN N cap = true) : capOk X.env.scope scope X.N N cap = true := by
  rw [h1, h2]
  exact ok
theorem pe_comp (hc : X.calm = true) (ok : capOk X.env.scope scope X.N N cap = true) (hi : PI X tg iter wi)
    (hg : ∀ cl C s H fp pins, PG (compCx X scope cl C N s H fp pins) tg g) (hf : ∀ cl C s H fp pins, PIf (compCx X scope cl C N s H fp pins) ifs tt) (he : ∀ cl C s H fp pins, PE (compCx X scope cl C N s H fp pins) elt te)
    (hs : ∀ x, foldedSetIterable iter X.env x = pure x := by intro _; rfl) : PE X (.ListComp elt [⟨tg, iter, ifs, 0⟩] scope pos) (tComp wi cap g tt te) := by
  intro pins s σ H Q I h
  have ok' := ok
  simp only [capOk, Bool.and_eq_true, List.all_eq_true, beq_iff_eq] at ok'
  obtain ⟨⟨⟨⟨hkind, _⟩, hnames⟩, _⟩, _⟩ := ok'
  rw [eval_ListComp]
  refine wpAny_comprehension_free (use := none) rfl hs (closureFor_clos (I.clos ok)) hkind (fun y hy hl => by simpa [hl] using hnames y hy) (thn (hi pins s σ H _ I h) fun xv s1 h1 => thn h1 fun itv s2 h2 => ?_)
  obtain ⟨it, fp, tn, J, H2, e, I2, T, st2, f2, q⟩ := h2
  subst e
  refine comp_block (RR := fun acc C => compPost (model X.prog X.w) X.A X.xe none (EP X pins σ Q) acc C) hc ok hg hf he I2 T st2 f2 q ?_
  intro D C H' s' m I' fC hn qn
  obtain ⟨f0, f1, f2', f3, f4, f5⟩ := fC
  exact ⟨m, hn, fun h' sb => ⟨.ref D, H', I'.turned (t' := s'.toks) (fun b o hb e => sb.extBut b o hb e) f0 f1 f3 f4 f5, rfl, qn⟩⟩

/-- name = [ .. ] on one row, the name a plain local: it is stored ahead of the block's end -/
theorem ps_setC {i : Nat} {x : Str} {pos' spos : Pos} (hN : X.N.Nodup) (hi' : X.N[i]? = some x) (hx : X.env.scope.names.lookup x = some .local) (hc : X.calm = true) (ok : capOk X.env.scope scope X.N N cap = true) (hi : PI X tg iter wi)
    (hg : ∀ cl C s H fp pins, PG (compCx X scope cl C N s H fp pins) tg g) (hf : ∀ cl C s H fp pins, PIf (compCx X scope cl C N s H fp pins) ifs tt) (he : ∀ cl C s H fp pins, PE (compCx X scope cl C N s H fp pins) elt te)
    (hsw : swapsWith (.ListComp elt [⟨tg, iter, ifs, 0⟩] scope pos) (some (.Name x pos')) spos.line X.env = pure true)
    (hs : ∀ x, foldedSetIterable iter X.env x = pure x := by intro _; rfl) :
    PS X (.Assign [.Name x pos'] (.ListComp elt [⟨tg, iter, ifs, 0⟩] scope pos) spos) (tAsg (tComp wi cap g tt te) (gName i)) := by
  intro pins s σ H D I h
  have ok' := ok
  simp only [capOk, Bool.and_eq_true, List.all_eq_true, beq_iff_eq] at ok'
  obtain ⟨⟨⟨⟨hkind, _⟩, hnames⟩, _⟩, _⟩ := ok'
  rw [exec_Assign_Name_used _ _ _ _ hsw]
  refine wpAny_bind (wpAny_standAt (wpAny_bind ?_))
  show wpAny _ X.A (do let _ ← comprehension (.ListComp elt [⟨tg, iter, ifs, 0⟩] scope pos) scope X.env _ (newList []) false (eval iter X.env) (some (assign (.Name x pos') X.env))) _ _ s
  refine wpAny_bind (wpAny_mono (wpAny_comprehension_free (use := some (assign (.Name x pos') X.env)) (Q := fun _ s' => SP X pins D .next s') rfl hs (closureFor_clos (I.clos ok)) hkind (fun y hy hl => by simpa [hl] using hnames y hy)
    (thn (hi pins s σ H _ I h) fun xv s1 h1 => thn h1 fun itv s2 h2 => ?_)) (fun _ s' hq => wpAny_pure (wpAny_pure hq)) fun _ _ e => e)
  obtain ⟨it, fp, tn, J, H2, e, I2, T, st2, f2, q⟩ := h2
  subst e
  refine comp_block (RR := fun acc C => compPost (model X.prog X.w) X.A X.xe (some (assign (.Name x pos') X.env)) (fun _ s' => SP X pins D .next s') acc C) hc ok hg hf he I2 T st2 f2 q ?_
  intro Dd C H' s' m I' fC hn qn
  obtain ⟨f0, f1, f2', f3, f4, f5⟩ := fC
  show wpAny _ X.A (assign (.Name x pos') X.env (.ref Dd)) _ _ _
  refine wpAny_assign_Name (store_ok2 I' hN hi' (.inl hx) (v := .ref Dd) rfl (fun s3 I3 ⟨a, sb, ha⟩ => ?_) (.inr hx))
  have hCa : C ≠ a := by
    rcases ha with z | z
    · rw [z]; exact f1
    · exact fun w => f4 x a z w.symm
  refine ⟨m, hn.sameBut sb hCa, fun h' sb2 => ?_⟩
  exact ⟨_, H', I3.turned (t' := s3.toks) (fun b o hb e => sb2.extBut b o hb e) f0 f1 f3 f4 f5, qn⟩

/-! the forms one uses: over a list, a tuple, a range -/
/-- over a list that the block leaves as it is -/
theorem comp_list {K : PySem.W.Frag} {a D : Addr} {xs : List V} {τ : St} {H : Hp} {Q : VK} (Pv : Nat → St → Hp → Prop) (h0 : Pv 0 τ H) (hl : ∀ i τ H, i ≤ xs.length → Pv i τ H → SqL K H a xs)
    (hs : ∀ i x τ H, xs[i]? = some x → Pv i τ H → g x τ H fun τ2 H2 => tt τ2 H2 fun b H3 =>
      if b = true then te τ2 H3 fun y H4 => ∃ ys, H4 D = some (.lst ys) ∧ ys.length < sizeLine ∧ Pv (i + 1) τ2 (upd H4 D (.lst (ys ++ [y]))) else Pv (i + 1) τ2 H3)
    (hd : ∀ τ H, Pv xs.length τ H → Q (.ref D) H) : CompW (Itl K a) D τ H g tt te Q := by
  refine ⟨fun i m τ H => m = xs.length - i ∧ i ≤ xs.length ∧ Pv i τ H, ⟨xs.length, by simp, Nat.zero_le _, h0⟩, ?_⟩
  rintro i m τ H ⟨rfl, hi, p⟩
  have q := hl i τ H hi p
  by_cases hlt : i < xs.length
  · refine .inr ⟨⟨xs, xs[i], q, by simp [hlt]⟩, Pv (i + 1), fun τ' H' p' => ⟨xs.length - (i + 1), by omega, rfl, hlt, p'⟩, fun x H' y => ?_⟩
    obtain ⟨e, y⟩ := y
    subst e
    exact hs i x τ _ (y xs q) p
  · have e : i = xs.length := by omega
    subst e
    exact .inl ⟨⟨xs, q, Nat.le_refl _⟩, hd τ H p⟩
theorem comp_tup {K : PySem.W.Frag} {a D : Addr} {xs : List V} {τ : St} {H : Hp} {Q : VK} (Pv : Nat → St → Hp → Prop) (h0 : Pv 0 τ H) (hl : ∀ i τ H, i ≤ xs.length → Pv i τ H → SqT K H a xs)
    (hs : ∀ i x τ H, xs[i]? = some x → Pv i τ H → g x τ H fun τ2 H2 => tt τ2 H2 fun b H3 =>
      if b = true then te τ2 H3 fun y H4 => ∃ ys, H4 D = some (.lst ys) ∧ ys.length < sizeLine ∧ Pv (i + 1) τ2 (upd H4 D (.lst (ys ++ [y]))) else Pv (i + 1) τ2 H3)
    (hd : ∀ τ H, Pv xs.length τ H → Q (.ref D) H) : CompW (Itt K a) D τ H g tt te Q := by
  refine ⟨fun i m τ H => m = xs.length - i ∧ i ≤ xs.length ∧ Pv i τ H, ⟨xs.length, by simp, Nat.zero_le _, h0⟩, ?_⟩
  rintro i m τ H ⟨rfl, hi, p⟩
  have q := hl i τ H hi p
  by_cases hlt : i < xs.length
  · refine .inr ⟨⟨xs, xs[i], q, by simp [hlt]⟩, Pv (i + 1), fun τ' H' p' => ⟨xs.length - (i + 1), by omega, rfl, hlt, p'⟩, fun x H' y => ?_⟩
    obtain ⟨e, y⟩ := y
    subst e
    exact hs i x τ _ (y xs q) p
  · have e : i = xs.length := by omega
    subst e
    exact .inl ⟨⟨xs, q, Nat.le_refl _⟩, hd τ H p⟩
theorem comp_range {lo : Int} {n : Nat} {D : Addr} {τ : St} {H : Hp} {Q : VK} (Pv : Nat → St → Hp → Prop) (h0 : Pv 0 τ H)
    (hs : ∀ i τ H, i < n → Pv i τ H → g (.int (lo + i)) τ H fun τ2 H2 => tt τ2 H2 fun b H3 =>
      if b = true then te τ2 H3 fun y H4 => ∃ ys, H4 D = some (.lst ys) ∧ ys.length < sizeLine ∧ Pv (i + 1) τ2 (upd H4 D (.lst (ys ++ [y]))) else Pv (i + 1) τ2 H3)
    (hd : ∀ τ H, Pv n τ H → Q (.ref D) H) : CompW (Itr lo n) D τ H g tt te Q := by
  refine ⟨fun i m τ H => m = n - i ∧ i ≤ n ∧ Pv i τ H, ⟨n, by simp, Nat.zero_le _, h0⟩, ?_⟩
  rintro i m τ H ⟨rfl, hi, p⟩
  by_cases hlt : i < n
  · refine .inr ⟨hlt, Pv (i + 1), fun τ' H' p' => ⟨n - (i + 1), by omega, rfl, hlt, p'⟩, fun x H' y => ?_⟩
    obtain ⟨e, y⟩ := y
    subst e y
    exact hs i τ _ hlt p
  · have e : i = n := by omega
    subst e
    exact .inl ⟨Nat.le_refl _, hd τ H p⟩
end
end L2

/-! ### plain data: None, bools, ints, texts, lists and tuples of these; == and != of them -/
namespace L2
open PySem PySem.Spec PyProof.Rows PySem.SeqAt

inductive Dt where
  | non | bl (b : Bool) | int (i : Int) | str (x : Str) | lst (xs : List Dt) | tup (xs : List Dt)

mutual
/-- the value x stands for the datum -/
def DtV (K : PySem.W.Frag) (H : Hp) : Dt → V → Prop
  | .non, x => x = .non
  | .bl b, x => x = .bl b
  | .int i, x => x = .int i
  | .str z, x => x = .str z
  | .lst ds, x => ∃ a xs, x = .ref a ∧ SqL K H a xs ∧ DtVs K H ds xs
  | .tup ds, x => ∃ a xs, x = .ref a ∧ SqT K H a xs ∧ DtVs K H ds xs
def DtVs (K : PySem.W.Frag) (H : Hp) : List Dt → List V → Prop
  | [], xs => xs = []
  | d :: ds, xs => ∃ y ys, xs = y :: ys ∧ DtV K H d y ∧ DtVs K H ds ys
end
mutual
/-- how deep, at most -/
def DeepLe : Nat → Dt → Prop
  | n + 1, .lst ds => DeepsLe n ds
  | n + 1, .tup ds => DeepsLe n ds
  | 0, .lst _ => False
  | 0, .tup _ => False
  | _, .non => True
  | _, .bl _ => True
  | _, .int _ => True
  | _, .str _ => True
def DeepsLe : Nat → List Dt → Prop
  | _, [] => True
  | n, d :: ds => DeepLe n d ∧ DeepsLe n ds
end
mutual
def eqD : Dt → Dt → Bool
  | .non, .non => true
  | .bl a, .bl b => a == b
  | .bl a, .int b => (if a then 1 else 0) == b
  | .int a, .bl b => a == (if b then 1 else 0)
  | .int a, .int b => a == b
  | .str a, .str b => a == b
  | .lst xs, .lst ys => eqDs xs ys
  | .tup xs, .tup ys => eqDs xs ys
  | _, _ => false
def eqDs : List Dt → List Dt → Bool
  | [], [] => true
  | x :: xs, y :: ys => eqD x y && eqDs xs ys
  | _, _ => false
end
mutual
theorem eqD_refl : ∀ d : Dt, eqD d d = true
  | .non => rfl
  | .bl b => by simp [eqD]
  | .int i => by simp [eqD]
  | .str x => by simp [eqD]
  | .lst xs => by
    rw [eqD]
    exact eqDs_refl xs
  | .tup xs => by
    rw [eqD]
    exact eqDs_refl xs
theorem eqDs_refl : ∀ ds : List Dt, eqDs ds ds = true
  | [] => rfl
  | d :: ds => by rw [eqDs, eqD_refl d, eqDs_refl ds]; rfl
end
theorem DtVs.length {K : PySem.W.Frag} {H : Hp} : ∀ {ds : List Dt} {xs : List V}, DtVs K H ds xs → ds.length = xs.length
  | [], xs, h => by
    have e : xs = [] := h
    subst e
    rfl
  | d :: ds, xs, h => by
    obtain ⟨y, ys, e, _, h2⟩ := h
    subst e
    simp [DtVs.length h2]
theorem DtVs.get {K : PySem.W.Frag} {H : Hp} : ∀ {ds : List Dt} {xs : List V} {j : Nat} {d : Dt}, DtVs K H ds xs → ds[j]? = some d → ∃ x, xs[j]? = some x ∧ DtV K H d x
  | [], _, _, _, _, e => by simp at e
  | d :: ds, xs, j, d', h, e => by
    obtain ⟨y, ys, e2, h1, h2⟩ := h
    subst e2
    cases j with
    | zero =>
      simp at e
      subst e
      exact ⟨y, rfl, h1⟩
    | succ j =>
      obtain ⟨x, hx, hd⟩ := DtVs.get (j := j) h2 (by simpa using e)
      exact ⟨x, by simpa using hx, hd⟩
theorem DtVs.snoc {K : PySem.W.Frag} {H : Hp} {d : Dt} {x : V} (hd : DtV K H d x) : ∀ {ds : List Dt} {xs : List V}, DtVs K H ds xs → DtVs K H (ds ++ [d]) (xs ++ [x])
  | [], xs, h => by
    have e : xs = [] := h
    subst e
    exact ⟨x, [], rfl, hd, rfl⟩
  | e :: ds, xs, h => by
    obtain ⟨y, ys, e2, h1, h2⟩ := h
    subst e2
    exact ⟨y, ys ++ [x], rfl, h1, h2.snoc hd⟩
theorem DeepsLe.get {n : Nat} : ∀ {ds : List Dt} {j : Nat} {d : Dt}, DeepsLe n ds → ds[j]? = some d → DeepLe n d
  | [], _, _, _, e => by simp at e
  | d :: ds, j, d', h, e => by
    cases j with
    | zero =>
      simp at e
      subst e
      exact h.1
    | succ j => exact DeepsLe.get (j := j) h.2 (by simpa using e)
theorem DeepsLe.of {n : Nat} : ∀ {ds : List Dt}, (∀ d ∈ ds, DeepLe n d) → DeepsLe n ds
  | [], _ => trivial
  | d :: ds, h => ⟨h d List.mem_cons_self, DeepsLe.of fun e he => h e (List.mem_cons_of_mem _ he)⟩
/-- what was tracked is as it was: the data stand -/
theorem Same.sqL {K : PySem.W.Frag} {H H' : Hp} {a : Addr} {xs : List V} (e : Same H H') (h : SqL K H a xs) : SqL K H' a xs := e.seq h
theorem Same.sqT {K : PySem.W.Frag} {H H' : Hp} {a : Addr} {xs : List V} (e : Same H H') (h : SqT K H a xs) : SqT K H' a xs := by
  rcases h with (h | ⟨o, h⟩) | h
  · exact .inl (.inl (e _ _ h))
  · exact .inl (.inr ⟨o, e _ _ h⟩)
  · exact .inr h
mutual
theorem Same.dt {K : PySem.W.Frag} {H H' : Hp} (e : Same H H') : ∀ {d : Dt} {x : V}, DtV K H d x → DtV K H' d x
  | .non, _, h => h
  | .bl _, _, h => h
  | .int _, _, h => h
  | .str _, _, h => h
  | .lst ds, _, h => by
    obtain ⟨a, xs, e1, h1, h2⟩ := h
    exact ⟨a, xs, e1, e.sqL h1, e.dts h2⟩
  | .tup ds, _, h => by
    obtain ⟨a, xs, e1, h1, h2⟩ := h
    exact ⟨a, xs, e1, e.sqT h1, e.dts h2⟩
theorem Same.dts {K : PySem.W.Frag} {H H' : Hp} (e : Same H H') : ∀ {ds : List Dt} {xs : List V}, DtVs K H ds xs → DtVs K H' ds xs
  | [], _, h => h
  | d :: ds, _, h => by
    obtain ⟨y, ys, e1, h1, h2⟩ := h
    exact ⟨y, ys, e1, e.dt h1, e.dts h2⟩
end
theorem Same.new {H : Hp} {p : Addr} {o : HO} (h : H p = none) : Same H (upd H p o) := fun b u e => by
  rw [upd_ne (ne_of_none e h)]
  exact e

section
variable {X : Cx} {pins : List (Addr × Obj)} {σ : St} {H : Hp} {s : Shared}
theorem Inv.notBoth (I : Inv X pins σ H s) {a : Addr} {xs ys : List V} (h : SqL X.K H a xs) (h' : SqT X.K H a ys) : False := by
  obtain ⟨its, _, pl, _⟩ := I.list h
  obtain ⟨its', _, pt, _⟩ := I.tuple h'
  obtain ⟨o, n, e, c, _⟩ := pl
  obtain ⟨o', e', c', _⟩ := pt
  rw [e] at e'
  cases e'
  rw [c] at c'
  exact absurd c' (by simp)
mutual
theorem Inv.dtUniq (I : Inv X pins σ H s) : ∀ {d e : Dt} {x : V}, DtV X.K H d x → DtV X.K H e x → d = e
  | .non, e, _, h, h' => by
    have h : _ = V.non := h
    subst h
    cases e with
    | non => rfl
    | bl _ => exact nomatch (show V.non = _ from h')
    | int _ => exact nomatch (show V.non = _ from h')
    | str _ => exact nomatch (show V.non = _ from h')
    | lst _ => obtain ⟨_, _, q, _⟩ := h'; cases q
    | tup _ => obtain ⟨_, _, q, _⟩ := h'; cases q
  | .bl b, e, _, h, h' => by
    have h : _ = V.bl b := h
    subst h
    cases e with
    | non => exact nomatch (show V.bl b = _ from h')
    | bl c =>
      have q : V.bl b = V.bl c := h'
      cases q
      rfl
    | int _ => exact nomatch (show V.bl b = _ from h')
    | str _ => exact nomatch (show V.bl b = _ from h')
    | lst _ => obtain ⟨_, _, q, _⟩ := h'; cases q
    | tup _ => obtain ⟨_, _, q, _⟩ := h'; cases q
  | .int b, e, _, h, h' => by
    have h : _ = V.int b := h
    subst h
    cases e with
    | non => exact nomatch (show V.int b = _ from h')
    | bl c => exact nomatch (show V.int b = _ from h')
    | int c =>
      have q : V.int b = V.int c := h'
      cases q
      rfl
    | str _ => exact nomatch (show V.int b = _ from h')
    | lst _ => obtain ⟨_, _, q, _⟩ := h'; cases q
    | tup _ => obtain ⟨_, _, q, _⟩ := h'; cases q
  | .str b, e, _, h, h' => by
    have h : _ = V.str b := h
    subst h
    cases e with
    | non => exact nomatch (show V.str b = _ from h')
    | bl c => exact nomatch (show V.str b = _ from h')
    | int _ => exact nomatch (show V.str b = _ from h')
    | str c =>
      have q : V.str b = V.str c := h'
      cases q
      rfl
    | lst _ => obtain ⟨_, _, q, _⟩ := h'; cases q
    | tup _ => obtain ⟨_, _, q, _⟩ := h'; cases q
  | .lst ds, e, _, h, h' => by
    obtain ⟨a, xs, e1, h1, h2⟩ := h
    subst e1
    cases e with
    | non => exact nomatch (show V.ref a = _ from h')
    | bl c => exact nomatch (show V.ref a = _ from h')
    | int _ => exact nomatch (show V.ref a = _ from h')
    | str _ => exact nomatch (show V.ref a = _ from h')
    | lst es =>
      obtain ⟨b, ys, e2, h3, h4⟩ := h'
      cases e2
      have q := I.list_inj h1 h3
      subst q
      rw [I.dtsUniq h2 h4]
    | tup es =>
      obtain ⟨b, ys, e2, h3, h4⟩ := h'
      cases e2
      exact (I.notBoth h1 h3).elim
  | .tup ds, e, _, h, h' => by
    obtain ⟨a, xs, e1, h1, h2⟩ := h
    subst e1
    cases e with
    | non => exact nomatch (show V.ref a = _ from h')
    | bl c => exact nomatch (show V.ref a = _ from h')
    | int _ => exact nomatch (show V.ref a = _ from h')
    | str _ => exact nomatch (show V.ref a = _ from h')
    | lst es =>
      obtain ⟨b, ys, e2, h3, h4⟩ := h'
      cases e2
      exact (I.notBoth h3 h1).elim
    | tup es =>
      obtain ⟨b, ys, e2, h3, h4⟩ := h'
      cases e2
      have q := I.tuple_inj h1 h3
      subst q
      rw [I.dtsUniq h2 h4]
theorem Inv.dtsUniq (I : Inv X pins σ H s) : ∀ {ds es : List Dt} {xs : List V}, DtVs X.K H ds xs → DtVs X.K H es xs → ds = es
  | [], es, _, h, h' => by
    have h : _ = [] := h
    subst h
    cases es with
    | nil => rfl
    | cons e es => obtain ⟨_, _, q, _⟩ := h'; cases q
  | d :: ds, es, _, h, h' => by
    obtain ⟨y, ys, e1, h1, h2⟩ := h
    subst e1
    cases es with
    | nil => exact nomatch (show y :: ys = [] from h')
    | cons e es =>
      obtain ⟨z, zs, q, h3, h4⟩ := h'
      cases q
      rw [I.dtUniq h1 h3, I.dtsUniq h2 h4]
end
def pairD (ds es : List Dt) (j : Nat) : Bool := eqD (ds.getD j .non) (es.getD j .non)
theorem eqDs_all : ∀ ds es : List Dt, ((List.range (min ds.length es.length)).all (pairD ds es) && ds.length == es.length) = eqDs ds es
  | [], [] => rfl
  | [], _ :: _ => by simp [eqDs]
  | _ :: _, [] => by simp [eqDs]
  | d :: ds, e :: es => by
    have ih := eqDs_all ds es
    have e1 : min (d :: ds).length (e :: es).length = min ds.length es.length + 1 := by simp only [List.length_cons]; omega
    have e2 : ((d :: ds).length == (e :: es).length) = (ds.length == es.length) := by simp
    have e3 : (List.range (min ds.length es.length + 1)).all (pairD (d :: ds) (e :: es)) = (eqD d e && (List.range (min ds.length es.length)).all (pairD ds es)) := by
      rw [List.range_succ_eq_map, List.all_cons, List.all_map]
      rfl
    rw [e1, e2, e3, eqDs, ← ih, Bool.and_assoc]
theorem eqDs_len {ds es : List Dt} (h : ds.length = es.length) : (List.range ds.length).all (pairD ds es) = eqDs ds es := by
  have := eqDs_all ds es
  rw [← h, Nat.min_self] at this
  simpa using this
theorem eqDs_nolen {ds es : List Dt} (h : ds.length ≠ es.length) : eqDs ds es = false := by
  rw [← eqDs_all ds es]
  simp [h]
end
section
variable {X : Cx} {pins : List (Addr × Obj)} {σ : St} {H : Hp} {s : Shared}
theorem Inv.isL (I : Inv X pins σ H s) {a : Addr} {xs : List V} (h : SqL X.K H a xs) : ∃ its : List Value, Vals xs its ∧ s.heap.IsList a its.toArray :=
  let ⟨its, r, pl, _⟩ := I.list h
  ⟨its, r, pl.isList⟩
theorem Inv.isT (I : Inv X pins σ H s) {a : Addr} {xs : List V} (h : SqT X.K H a xs) : ∃ its : List Value, Vals xs its ∧ s.heap.IsTuple a its.toArray :=
  let ⟨its, r, pt, _⟩ := I.tuple h
  ⟨its, r, pt⟩
theorem pairD_get {ds es : List Dt} {j : Nat} {d e : Dt} (h1 : ds[j]? = some d) (h2 : es[j]? = some e) : pairD ds es j = eqD d e := by
  unfold pairD
  rw [List.getD_eq_getElem?_getD, List.getD_eq_getElem?_getD, h1, h2]
  rfl
theorem get_of {α : Type} {l : List α} {j : Nat} (h : j < l.length) : ∃ x, l[j]? = some x := ⟨l[j], by simp [h]⟩
mutual
theorem Inv.eqAt (I : Inv X pins σ H s) : ∀ {d e : Dt} {x y : V} {u v : Value} {n : Nat} {A : Around}, DtV X.K H d x → DtV X.K H e y → RelV x u → RelV y v → DeepLe n d → A.units + n < cLine → EqAt A s u v (eqD d e)
  | .non, e, x, y, u, v, n, A, h, h', rx, ry, _, hu => by
    have hu : A.units < cLine := Nat.lt_of_le_of_lt (Nat.le_add_right _ _) hu
    have h : x = V.non := h
    subst h
    cases e with
    | non =>
      have h' : y = V.non := h'
      subst h'
      exact eqAt_V rx ry rfl rfl
    | bl c =>
      have h' : y = V.bl c := h'
      subst h'
      exact eqAt_V rx ry rfl rfl
    | int c =>
      have h' : y = V.int c := h'
      subst h'
      exact eqAt_V rx ry rfl rfl
    | str c =>
      have h' : y = V.str c := h'
      subst h'
      exact eqAt_V rx ry rfl rfl
    | lst es =>
      obtain ⟨a, ys, rfl, h1, _⟩ := h'
      obtain rfl : v = Value.ref a := ry
      obtain ⟨its, _, hl⟩ := I.isL h1
      obtain rfl : u = Value.none := rx
      exact EqAt.none_list hl hu
    | tup es =>
      obtain ⟨a, ys, rfl, h1, _⟩ := h'
      obtain rfl : v = Value.ref a := ry
      obtain ⟨its, _, hl⟩ := I.isT h1
      obtain rfl : u = Value.none := rx
      exact EqAt.none_tuple hl hu
  | .bl b, e, x, y, u, v, n, A, h, h', rx, ry, _, hu => by
    have hu : A.units < cLine := Nat.lt_of_le_of_lt (Nat.le_add_right _ _) hu
    have h : x = V.bl b := h
    subst h
    cases e with
    | non =>
      have h' : y = V.non := h'
      subst h'
      exact eqAt_V rx ry rfl rfl
    | bl c =>
      have h' : y = V.bl c := h'
      subst h'
      exact eqAt_V rx ry rfl rfl
    | int c =>
      have h' : y = V.int c := h'
      subst h'
      exact eqAt_V rx ry rfl rfl
    | str c =>
      have h' : y = V.str c := h'
      subst h'
      exact eqAt_V rx ry rfl rfl
    | lst es =>
      obtain ⟨a, ys, rfl, h1, _⟩ := h'
      obtain rfl : v = Value.ref a := ry
      obtain ⟨its, _, hl⟩ := I.isL h1
      obtain rfl : u = Value.bool b := rx
      exact EqAt.bool_list b hl hu
    | tup es =>
      obtain ⟨a, ys, rfl, h1, _⟩ := h'
      obtain rfl : v = Value.ref a := ry
      obtain ⟨its, _, hl⟩ := I.isT h1
      obtain rfl : u = Value.bool b := rx
      exact EqAt.bool_tuple b hl hu
  | .int b, e, x, y, u, v, n, A, h, h', rx, ry, _, hu => by
    have hu : A.units < cLine := Nat.lt_of_le_of_lt (Nat.le_add_right _ _) hu
    have h : x = V.int b := h
    subst h
    cases e with
    | non =>
      have h' : y = V.non := h'
      subst h'
      exact eqAt_V rx ry rfl rfl
    | bl c =>
      have h' : y = V.bl c := h'
      subst h'
      exact eqAt_V rx ry rfl rfl
    | int c =>
      have h' : y = V.int c := h'
      subst h'
      exact eqAt_V rx ry rfl rfl
    | str c =>
      have h' : y = V.str c := h'
      subst h'
      exact eqAt_V rx ry rfl rfl
    | lst es =>
      obtain ⟨a, ys, rfl, h1, _⟩ := h'
      obtain rfl : v = Value.ref a := ry
      obtain ⟨its, _, hl⟩ := I.isL h1
      obtain ⟨t, rfl⟩ := rx
      exact EqAt.int_list b t hl hu
    | tup es =>
      obtain ⟨a, ys, rfl, h1, _⟩ := h'
      obtain rfl : v = Value.ref a := ry
      obtain ⟨its, _, hl⟩ := I.isT h1
      obtain ⟨t, rfl⟩ := rx
      exact EqAt.int_tuple b t hl hu
  | .str b, e, x, y, u, v, n, A, h, h', rx, ry, _, hu => by
    have hu : A.units < cLine := Nat.lt_of_le_of_lt (Nat.le_add_right _ _) hu
    have h : x = V.str b := h
    subst h
    cases e with
    | non =>
      have h' : y = V.non := h'
      subst h'
      exact eqAt_V rx ry rfl rfl
    | bl c =>
      have h' : y = V.bl c := h'
      subst h'
      exact eqAt_V rx ry rfl rfl
    | int c =>
      have h' : y = V.int c := h'
      subst h'
      exact eqAt_V rx ry rfl rfl
    | str c =>
      have h' : y = V.str c := h'
      subst h'
      exact eqAt_V rx ry rfl rfl
    | lst es =>
      obtain ⟨a, ys, rfl, h1, _⟩ := h'
      obtain rfl : v = Value.ref a := ry
      obtain ⟨its, _, hl⟩ := I.isL h1
      obtain ⟨t, rfl⟩ := rx
      exact EqAt.str_list b t hl hu
    | tup es =>
      obtain ⟨a, ys, rfl, h1, _⟩ := h'
      obtain rfl : v = Value.ref a := ry
      obtain ⟨its, _, hl⟩ := I.isT h1
      obtain ⟨t, rfl⟩ := rx
      exact EqAt.str_tuple b t hl hu
  | .lst ds, e, x, y, u, v, n, A, h, h', rx, ry, hd, hu => by
    obtain ⟨a, xs, rfl, g1, g2⟩ := h
    obtain rfl : u = Value.ref a := rx
    obtain ⟨its, rv, hl⟩ := I.isL g1
    cases n with
    | zero => exact False.elim hd
    | succ n =>
    have hu0 : A.units < cLine := Nat.lt_of_le_of_lt (Nat.le_add_right _ _) hu
    cases e with
    | non =>
      have h' : y = V.non := h'
      subst h'
      obtain rfl : v = Value.none := ry
      exact EqAt.list_none hl hu0
    | bl c =>
      have h' : y = V.bl c := h'
      subst h'
      obtain rfl : v = Value.bool c := ry
      exact EqAt.list_bool c hl hu0
    | int c =>
      have h' : y = V.int c := h'
      subst h'
      obtain ⟨t, rfl⟩ := ry
      exact EqAt.list_int c t hl hu0
    | str c =>
      have h' : y = V.str c := h'
      subst h'
      obtain ⟨t, rfl⟩ := ry
      exact EqAt.list_str c t hl hu0
    | tup es =>
      obtain ⟨b, ys, rfl, h1, _⟩ := h'
      obtain rfl : v = Value.ref b := ry
      obtain ⟨its', _, hl'⟩ := I.isT h1
      exact EqAt.list_tuple hl hl' hu0
    | lst es =>
      obtain ⟨b, ys, rfl, h1, h2⟩ := h'
      obtain rfl : v = Value.ref b := ry
      obtain ⟨its', rv', hl'⟩ := I.isL h1
      show EqAt A s (.ref a) (.ref b) (eqDs ds es)
      by_cases hab : a = b
      · subst hab
        have e : Dt.lst ds = Dt.lst es := I.dtUniq ⟨a, xs, rfl, g1, g2⟩ ⟨a, ys, rfl, h1, h2⟩
        injection e with e
        subst e
        rw [eqDs_refl]
        exact EqAt.same _
      · have n1 : ds.length = its.length := g2.length.trans rv.length
        have n2 : es.length = its'.length := h2.length.trans rv'.length
        have items : ∀ j (h1 : j < its.toArray.size) (h2 : j < its'.toArray.size), EqAt A.in1 s its.toArray[j] its'.toArray[j] (pairD ds es j) := fun j j1 j2 => by
          have j1 : j < its.length := by simpa using j1
          have j2 : j < its'.length := by simpa using j2
          obtain ⟨d', hd'⟩ := get_of (l := ds) (j := j) (by omega)
          obtain ⟨e', he'⟩ := get_of (l := es) (j := j) (by omega)
          obtain ⟨x', hx', kx⟩ := g2.get hd'
          obtain ⟨y', hy', ky⟩ := h2.get he'
          obtain ⟨u', hu', ru⟩ := rv.get hx'
          obtain ⟨v', hv', rv2⟩ := rv'.get hy'
          have q1 : its.toArray[j] = u' := by
            have := List.getElem?_eq_some_iff.mp hu'
            simpa using this.2
          have q2 : its'.toArray[j] = v' := by
            have := List.getElem?_eq_some_iff.mp hv'
            simpa using this.2
          rw [q1, q2, pairD_get hd' he']
          exact Inv.eqAtI I ds j hd' kx ky ru rv2 (DeepsLe.get hd hd') (show A.units + 1 + n < cLine by omega)
        by_cases hsz : its.toArray.size = its'.toArray.size
        · have hsz' : ds.length = es.length := by simpa [n1, n2] using hsz
          rw [← eqDs_len hsz', n1, ← List.size_toArray]
          exact EqAt.of_refs hab (RcAt.lists hl hl' hsz hu0 items)
        · rw [eqDs_nolen (by simpa [n1, n2] using hsz)]
          exact EqAt.of_refs hab (RcAt.lists_lengths hl hl' (by simpa using hsz) hu0)
  | .tup ds, e, x, y, u, v, n, A, h, h', rx, ry, hd, hu => by
    obtain ⟨a, xs, rfl, g1, g2⟩ := h
    obtain rfl : u = Value.ref a := rx
    obtain ⟨its, rv, hl⟩ := I.isT g1
    cases n with
    | zero => exact False.elim hd
    | succ n =>
    have hu0 : A.units < cLine := Nat.lt_of_le_of_lt (Nat.le_add_right _ _) hu
    cases e with
    | non =>
      have h' : y = V.non := h'
      subst h'
      obtain rfl : v = Value.none := ry
      exact EqAt.tuple_none hl hu0
    | bl c =>
      have h' : y = V.bl c := h'
      subst h'
      obtain rfl : v = Value.bool c := ry
      exact EqAt.tuple_bool c hl hu0
    | int c =>
      have h' : y = V.int c := h'
      subst h'
      obtain ⟨t, rfl⟩ := ry
      exact EqAt.tuple_int c t hl hu0
    | str c =>
      have h' : y = V.str c := h'
      subst h'
      obtain ⟨t, rfl⟩ := ry
      exact EqAt.tuple_str c t hl hu0
    | lst es =>
      obtain ⟨b, ys, rfl, h1, _⟩ := h'
      obtain rfl : v = Value.ref b := ry
      obtain ⟨its', _, hl'⟩ := I.isL h1
      exact EqAt.tuple_list hl hl' hu0
    | tup es =>
      obtain ⟨b, ys, rfl, h1, h2⟩ := h'
      obtain rfl : v = Value.ref b := ry
      obtain ⟨its', rv', hl'⟩ := I.isT h1
      show EqAt A s (.ref a) (.ref b) (eqDs ds es)
      by_cases hab : a = b
      · subst hab
        have e : Dt.tup ds = Dt.tup es := I.dtUniq ⟨a, xs, rfl, g1, g2⟩ ⟨a, ys, rfl, h1, h2⟩
        injection e with e
        subst e
        rw [eqDs_refl]
        exact EqAt.same _
      · have n1 : ds.length = its.length := g2.length.trans rv.length
        have n2 : es.length = its'.length := h2.length.trans rv'.length
        have items : ∀ j (h1 : j < its.toArray.size) (h2 : j < its'.toArray.size), EqAt A.in1 s its.toArray[j] its'.toArray[j] (pairD ds es j) := fun j j1 j2 => by
          have j1 : j < its.length := by simpa using j1
          have j2 : j < its'.length := by simpa using j2
          obtain ⟨d', hd'⟩ := get_of (l := ds) (j := j) (by omega)
          obtain ⟨e', he'⟩ := get_of (l := es) (j := j) (by omega)
          obtain ⟨x', hx', kx⟩ := g2.get hd'
          obtain ⟨y', hy', ky⟩ := h2.get he'
          obtain ⟨u', hu', ru⟩ := rv.get hx'
          obtain ⟨v', hv', rv2⟩ := rv'.get hy'
          have q1 : its.toArray[j] = u' := by
            have := List.getElem?_eq_some_iff.mp hu'
            simpa using this.2
          have q2 : its'.toArray[j] = v' := by
            have := List.getElem?_eq_some_iff.mp hv'
            simpa using this.2
          rw [q1, q2, pairD_get hd' he']
          exact Inv.eqAtI I ds j hd' kx ky ru rv2 (DeepsLe.get hd hd') (show A.units + 1 + n < cLine by omega)
        have q := EqAt.of_refs hab (RcAt.tuples hl hl' hu0 items)
        rw [← eqDs_all ds es, n1, n2]
        simpa using q
theorem Inv.eqAtI (I : Inv X pins σ H s) : ∀ (ds : List Dt) (j : Nat) {d e : Dt} {x y : V} {u v : Value} {n : Nat} {A : Around}, ds[j]? = some d → DtV X.K H d x → DtV X.K H e y → RelV x u → RelV y v → DeepLe n d → A.units + n < cLine → EqAt A s u v (eqD d e)
  | [], j, _, _, _, _, _, _, _, _, h, _, _, _, _, _, _ => by simp at h
  | c :: _, 0, d, e, x, y, u, v, n, A, h, hx, hy, ru, rv, hd, hu => by
    simp at h
    subst h
    exact Inv.eqAt I hx hy ru rv hd hu
  | _ :: cs, j + 1, d, e, x, y, u, v, n, A, h, hx, hy, ru, rv, hd, hu => Inv.eqAtI I cs j (by simpa using h) hx hy ru rv hd hu
end
theorem Inv.items (I : Inv X pins σ H s) {ds es : List Dt} {xs ys : List V} {its its' : List Value} {n : Nat} {A : Around} (g2 : DtVs X.K H ds xs) (h2 : DtVs X.K H es ys) (rv : Vals xs its) (rv' : Vals ys its') (hd : DeepsLe n ds)
    (hu : A.units + 1 + n < cLine) : ∀ j (h1 : j < its.toArray.size) (h2 : j < its'.toArray.size), EqAt A.in1 s its.toArray[j] its'.toArray[j] (pairD ds es j) := fun j j1 j2 => by
  have n1 : ds.length = its.length := g2.length.trans rv.length
  have n2 : es.length = its'.length := h2.length.trans rv'.length
  have j1 : j < its.length := by simpa using j1
  have j2 : j < its'.length := by simpa using j2
  obtain ⟨d', hd'⟩ := get_of (l := ds) (j := j) (by omega)
  obtain ⟨e', he'⟩ := get_of (l := es) (j := j) (by omega)
  obtain ⟨x', hx', kx⟩ := g2.get hd'
  obtain ⟨y', hy', ky⟩ := h2.get he'
  obtain ⟨u', hu', ru⟩ := rv.get hx'
  obtain ⟨v', hv', rv2⟩ := rv'.get hy'
  have q1 : its.toArray[j] = u' := by
    have := List.getElem?_eq_some_iff.mp hu'
    simpa using this.2
  have q2 : its'.toArray[j] = v' := by
    have := List.getElem?_eq_some_iff.mp hv'
    simpa using this.2
  rw [q1, q2, pairD_get hd' he']
  exact I.eqAt kx ky ru rv2 (DeepsLe.get hd hd') hu
/-- lists or tuples -/
def isBox : Dt → Bool
  | .lst _ => true
  | .tup _ => true
  | _ => false
theorem Inv.rcAt (I : Inv X pins σ H s) {d e : Dt} {x y : V} {u v : Value} {n : Nat} {A : Around} (bd : isBox d = true) (be : isBox e = true) (h : DtV X.K H d x) (h' : DtV X.K H e y) (rx : RelV x u) (ry : RelV y v) (hd : DeepLe n d) (hu : A.units + n < cLine) :
    RcAt A s u v (eqD d e) ∧ RcNeAt A s u v (!eqD d e) := by
  cases n with
  | zero => cases d <;> first | exact False.elim hd | cases bd
  | succ n =>
  have hu0 : A.units < cLine := Nat.lt_of_le_of_lt (Nat.le_add_right _ _) hu
  have hu1 : A.units + 1 + n < cLine := by omega
  cases d with
  | lst ds =>
    obtain ⟨a, xs, rfl, g1, g2⟩ := h
    obtain rfl : u = Value.ref a := rx
    obtain ⟨its, rv, hl⟩ := I.isL g1
    cases e with
    | lst es =>
      obtain ⟨b, ys, rfl, h1, h2⟩ := h'
      obtain rfl : v = Value.ref b := ry
      obtain ⟨its', rv', hl'⟩ := I.isL h1
      have n1 : ds.length = its.length := g2.length.trans rv.length
      have n2 : es.length = its'.length := h2.length.trans rv'.length
      show RcAt A s (.ref a) (.ref b) (eqDs ds es) ∧ RcNeAt A s (.ref a) (.ref b) (!eqDs ds es)
      by_cases hsz : its.toArray.size = its'.toArray.size
      · have hsz' : ds.length = es.length := by simpa [n1, n2] using hsz
        rw [← eqDs_len hsz', n1, ← List.size_toArray]
        exact ⟨RcAt.lists hl hl' hsz hu0 (I.items g2 h2 rv rv' hd hu1), RcNeAt.lists hl hl' hsz hu0 (I.items g2 h2 rv rv' hd hu1)⟩
      · rw [eqDs_nolen (by simpa [n1, n2] using hsz)]
        exact ⟨RcAt.lists_lengths hl hl' (by simpa using hsz) hu0, RcNeAt.lists_lengths hl hl' (by simpa using hsz) hu0⟩
    | tup es =>
      obtain ⟨b, ys, rfl, h1, _⟩ := h'
      obtain rfl : v = Value.ref b := ry
      obtain ⟨its', _, hl'⟩ := I.isT h1
      exact ⟨RcAt.list_tuple hl hl' hu0, RcNeAt.list_tuple hl hl' hu0⟩
    | _ => cases be
  | tup ds =>
    obtain ⟨a, xs, rfl, g1, g2⟩ := h
    obtain rfl : u = Value.ref a := rx
    obtain ⟨its, rv, hl⟩ := I.isT g1
    cases e with
    | tup es =>
      obtain ⟨b, ys, rfl, h1, h2⟩ := h'
      obtain rfl : v = Value.ref b := ry
      obtain ⟨its', rv', hl'⟩ := I.isT h1
      have n1 : ds.length = its.length := g2.length.trans rv.length
      have n2 : es.length = its'.length := h2.length.trans rv'.length
      have q := RcAt.tuples hl hl' hu0 (I.items g2 h2 rv rv' hd hu1)
      have q' := RcNeAt.tuples hl hl' hu0 (I.items g2 h2 rv rv' hd hu1)
      show RcAt A s (.ref a) (.ref b) (eqDs ds es) ∧ RcNeAt A s (.ref a) (.ref b) (!eqDs ds es)
      rw [← eqDs_all ds es, n1, n2]
      exact ⟨by simpa using q, by simpa using q'⟩
    | lst es =>
      obtain ⟨b, ys, rfl, h1, _⟩ := h'
      obtain rfl : v = Value.ref b := ry
      obtain ⟨its', _, hl'⟩ := I.isL h1
      exact ⟨RcAt.tuple_list hl hl' hu0, RcNeAt.tuple_list hl hl' hu0⟩
    | _ => cases be
  | _ => cases bd
/-- x == y, x != y of two lists or tuples -/
def rEqD (K : PySem.W.Frag) (neg : Bool) : R2 := fun x y H Q => ∃ d e, isBox d = true ∧ isBox e = true ∧ DtV K H d x ∧ DtV K H e y ∧ DeepLe 60 d ∧ Q (.bl (if neg then !eqD d e else eqD d e)) H
theorem op_eqD (hu : X.A.units + 64 < cLine) : OpR X (compareOp .Eq) (rEqD X.K false) := by
  intro pins s σ H x y v u Q I rx ry h
  obtain ⟨d, e, bd, be, h1, h2, hd, q⟩ := h
  exact (I.rcAt bd be h1 h2 rx ry hd (by omega)).1 X.prog X.w _ _ ⟨.bl _, H, I, rfl, q⟩
theorem op_neD (hu : X.A.units + 64 < cLine) : OpR X (compareOp .NotEq) (rEqD X.K true) := by
  intro pins s σ H x y v u Q I rx ry h
  obtain ⟨d, e, bd, be, h1, h2, hd, q⟩ := h
  exact (I.rcAt bd be h1 h2 rx ry hd (by omega)).2 X.prog X.w _ _ ⟨.bl _, H, I, rfl, q⟩
end
end L2

/-! ### isinstance, join, and their like -/
namespace L2
open PySem PySem.Spec PyProof.Rows
section
variable {X : Cx}
/-- a class as it is handed to isinstance -/
def clsOf : V → Option Value
  | .ref a => some (.ref a)
  | .ty n => some (.type n)
  | _ => none
theorem clsOf_rel {c : V} {u k : Value} (r : RelV c u) (e : clsOf c = some k) : u = k := by
  cases c with
  | ref a =>
    cases e
    exact r
  | ty n =>
    cases e
    exact r
  | _ => cases e
/-- isinstance(x, c), c one class -/
theorem call_isinst : CallR X (.builtin "isinstance") (fun xs H Q => ∃ x c k t b, xs = [x, c] ∧ clsOf c = some k ∧ TyOf X.K H x t ∧ PySem.W.kitOne X.K t k = some b ∧ Q (.bl b) H) := by
  intro pins s σ H xs us Q I r h
  obtain ⟨x, c, k, t, b, rfl, ec, ty, eb, q⟩ := h
  obtain ⟨u, v, rfl, rx, rc⟩ := vals2 r
  have e := clsOf_rel rc ec
  subst e
  exact isinst_ok I rx ty eb fun tk => ⟨.bl b, H, I.tok tk, rfl, q⟩
def rJoin (K : PySem.W.Frag) : V → List V → Hp → VK → Prop := fun x vs H Q => ∃ z a ys, x = .str z ∧ vs = [.ref a] ∧ SqL K H a (ys.map V.str) ∧ (ys.map (·.length)).sum + ys.length * z.length ≤ 16777216 ∧ Q (.str (Txt.join z ys)) H
end
end L2

/-! ### exceptions: an object that flies, is noted, lands; how it lies behind a call -/
namespace L2
open PySem PySem.Spec PyProof.Rows

/-- what stands at a: an exception of class c, its own dict dd, its contexts; tb: its newest traceback entry and what that says of flight -/
structure ExcAt (H : Hp) (h : Heap) (a : Addr) (c : Value) (dd : Option Addr) (tb : Option (Addr × Value)) : Prop where
  ob : ∃ o vs, h.get? a = some o ∧ o.cls = c ∧ o.dict = dd ∧ o.data = .fields vs ∧ vs.size = 6 ∧ (∃ cs, ChnH H cs ∧ vs[2]? = some (nxt cs 0)) ∧ vs[1]? = some (match tb with | none => .none | some p => .ref p.1)
  tr : ∀ p, tb = some p → p.1 ≠ a ∧ ∃ oT ts, h.get? p.1 = some oT ∧ oT.data = .fields ts ∧ ts[3]? = some p.2
/-- .. and nobody tracks it -/
structure Exc (X : Cx) (pins : List (Addr × Obj)) (H : Hp) (h : Heap) (a : Addr) (c : Value) (dd : Option Addr) (tb : Option (Addr × Value)) : Prop where
  fp : FpOk X pins H a
  fpT : ∀ p, tb = some p → FpOk X pins H p.1
  at_ : ExcAt H h a c dd tb

theorem dict_mapFields (o : Obj) (f : Array Value → Array Value) : (o.mapFields f).dict = o.dict := by
  obtain ⟨c, d, dt, sl⟩ := o
  cases dt <;> rfl
section
variable {X : Cx} {pins : List (Addr × Obj)} {σ : St} {H : Hp} {s : Shared} {a : Addr} {c : Value} {dd : Option Addr}
/-- the frames' slots and the records at ch have turned, all else is as it was -/
theorem Inv.slot0 {h' : Heap} {ch : List Addr} {tk : Nat} (I : Inv X pins σ H s) (hch : ∀ b ∈ ch, FpOk X pins H b) (keep : ∀ b o, b ∉ frs X.stack → b ∉ ch → s.heap.get? b = some o → h'.get? b = some o)
    (slot : ∀ b o, b ∈ frs X.stack → s.heap.get? b = some o → ∃ sl, h'.get? b = some { o with slots := sl }) : Inv X pins σ H { s with heap := h', toks := tk } := by
  have any : ∀ b o, b ∉ ch → s.heap.get? b = some o → ∃ sl, h'.get? b = some { o with slots := sl } := fun b o hc e => by
    by_cases hb : b ∈ frs X.stack
    · exact slot b o hb e
    · exact ⟨o.slots, keep b o hb hc e⟩
  have sub : ∀ b, b ∈ frs X.stack → b = X.env.locals ∨ b ∈ X.fs := fun b hb => List.mem_cons.mp (I.stkSub b hb)
  refine I.step (g' := s.gens) (d' := s.drawn) (ch := ch) (fun b hb => ?_) (fun b o hL hf hc e _ => keep b o (fun z => (sub b z).elim hL hf) hc e) (fun b o _ _ hc e _ => any b o hc e) (fun _ _ _ _ n => n) (fun b o hc e => ?_)
    (fun _ _ e => e) (fun _ _ _ e => e) (fun b ps e => ⟨#[], by rw [e]; simp⟩) (fun m hm => ?_) (fun b u e => ?_) I.bare
  · obtain ⟨_, f1, _, f3, f4, f5⟩ := hch b hb
    exact ⟨f3, f1, f4, f5⟩
  · obtain ⟨sl, q⟩ := any b o hc e
    exact ⟨_, q⟩
  · obtain ⟨o, es, ep, ho, r⟩ := hm
    obtain ⟨sl, q⟩ := any _ o (fun z => (hch _ z).2.1 rfl) ho
    exact ⟨_, es, ep, q, r⟩
  · have nf : ∀ d v, H d = some v → d ∉ frs X.stack ∧ d ∉ ch := fun d v q => ⟨fun z => (by rw [I.stkFree d z] at q; cases q), fun z => (by rw [(hch d z).1] at q; cases q)⟩
    refine (I.hok b u e).stay (fun d v hd q => ?_) (fun _ q => q) fun _ _ q => q
    rcases hd with z | z
    · subst z
      exact keep d v (nf d _ e).1 (nf d _ e).2 q
    · exact keep d v (nf d _ z).1 (nf d _ z).2 q
theorem Inv.slots {h' : Heap} {ch : List Addr} {tk : Nat} (I : Inv X pins σ H s) (hch : ∀ b ∈ ch, FpOk X pins H b) (keep : ∀ b o, b ∉ frs X.stack → b ∉ ch → s.heap.get? b = some o → h'.get? b = some o)
    (slot : ∀ b o, b ∈ frs X.stack → s.heap.get? b = some o → ∃ sl, h'.get? b = some { o with slots := sl }) (_ : ∀ b ∈ ch, ∀ o, s.heap.get? b = some o → ∃ o', h'.get? b = some o') : Inv X pins σ H { s with heap := h', toks := tk } := I.slot0 hch keep slot
/-- a def's own body (not a comprehension's block) -/
def Body (X : Cx) : Prop := X.stack = X.env :: X.outer ∧ X.env.frame = some X.env.locals
theorem note_entry {M : Model} {E : Value → Shared → Prop} {Q : Unit → Shared → Prop} {o : Obj} {vs : Array Value} {head : Value} {hadNext : Bool} (B : Body X) (I : Inv X pins σ H s) (fp : FpOk X pins H a) (he : s.heap.get? a = some o) (hd : o.data = .fields vs) (hz : vs.size = 6)
    (hQ : ∀ s' T, Inv X pins σ H s' → s.heap.objs.size ≤ T → FpOk X pins H T → T ≠ a → s'.heap.get? a = some (o.mapFields (·.setIfInBounds 1 (.ref T))) → (∃ oT ts, s'.heap.get? T = some oT ∧ oT.data = .fields ts ∧ ts[3]? = some (rawInt X.env.locals)) → Q () s') :
    wpAny M X.A (do let f ← frameOf X.env; let pl ← entryPlaceOf X.env.locals hadNext; let b ← EntryCells.newEntry head f .none (rawInt X.env.locals) .none pl; setField (.ref a) 1 b) Q E s := by
  have hl := I.stack
  rw [B.1] at hl
  have hfr : X.A.frames = some (X.env :: X.outer) := by rw [I.ok.frames, B.1]
  have nfr : ∀ b, FpOk X pins H b → b ∉ frs X.stack := fun b f z => (List.mem_cons.mp (I.stkSub b z)).elim f.2.1 f.2.2.1
  refine wpAny_bind (wpAny_frameOf_fun hfr hl B.2 fun h₁ hs₁ => ?_)
  rw [← B.1] at hs₁
  refine wpAny_bind (wpAny_entryPlaceOf fun pl hpl => ?_)
  simp only [EntryCells.newEntry, newFields]
  refine wpAny_bind (wpAny_newObj_type ?_ (hpl.sizeOk5 _ _ _ _ _))
  generalize hoT : ({ cls := .type "traceback", dict := none, data := .fields ([head, .ref X.env.locals, .none, rawInt X.env.locals, .none] ++ (if pl.isEmpty then List.replicate 6 Value.none else pl)).toArray } : Obj) = oT
  have e1 : h₁.get? a = some o := (hs₁.2.1 a (nfr a fp)).trans he
  have e2 : (h₁.push oT).get? a = some o := Heap.get?_push_of_some _ e1
  have hsz : s.heap.objs.size = h₁.objs.size := hs₁.1.symm
  have hTa : h₁.objs.size ≠ a := Nat.ne_of_gt (Heap.lt_size e1)
  have hd3 := Obj.data_mapFields hd (·.setIfInBounds 1 (Value.ref h₁.objs.size))
  have e3 := Heap.get?_update_self (Obj.mapFields (·.setIfInBounds 1 (Value.ref h₁.objs.size))) e2 (Obj.isFreed_of_fields hd3)
  have eT : ((h₁.push oT).update a (Obj.mapFields (·.setIfInBounds 1 (Value.ref h₁.objs.size)))).get? h₁.objs.size = some oT :=
    (Heap.get?_update_other _ _ (Ne.symm hTa)).trans (Heap.get?_push_size h₁ (by rw [← hoT]; rfl))
  have kp : ∀ b q, b ≠ a → h₁.get? b = some q → ((h₁.push oT).update a (Obj.mapFields (·.setIfInBounds 1 (Value.ref h₁.objs.size)))).get? b = some q := fun b q hb e =>
    (Heap.get?_update_other _ _ (Ne.symm hb)).trans (Heap.get?_push_of_some _ e)
  refine wpAny_setField e2 hd (by rw [hz]; decide) ?_
  refine hQ _ h₁.objs.size (I.slots (ch := [a]) (tk := s.toks) (fun b hb => ?_) (fun b q hb hc e => ?_) (fun b q hb e => ?_) (fun b hb q e => ?_)) (Nat.le_of_eq hsz) (I.fpOk (Nat.le_of_eq hsz) (I.hok.fresh (Nat.le_of_eq hsz))) hTa e3 ⟨oT, _, eT, by rw [← hoT], ?_⟩
  · rw [List.mem_singleton.mp hb]; exact fp
  · exact kp b q (fun z => hc (by simp [z])) ((hs₁.2.1 b hb).trans e)
  · obtain ⟨sl, q'⟩ := hs₁.2.2 b q e
    refine ⟨sl, kp b _ (fun z => ?_) q'⟩
    subst z
    exact nfr b fp hb
  · rw [List.mem_singleton.mp hb]; exact ⟨_, e3⟩
  · first | (simp; done) | (rcases hpl with rfl | ⟨_, _, _, _, _, _, _, rfl⟩ <;> simp)
theorem vs_set {vs : Array Value} {v : Value} {H : Hp} (hz : vs.size = 6) (h2 : ∃ cs, ChnH H cs ∧ vs[2]? = some (nxt cs 0)) : (vs.setIfInBounds 1 v).size = 6 ∧ (∃ cs, ChnH H cs ∧ (vs.setIfInBounds 1 v)[2]? = some (nxt cs 0)) ∧ (vs.setIfInBounds 1 v)[1]? = some v := by
  refine ⟨by simpa using hz, ?_, ?_⟩
  · obtain ⟨cs, hc, h2⟩ := h2
    exact ⟨cs, hc, by rw [Array.getElem?_setIfInBounds_ne (by decide)]; exact h2⟩
  · simp [hz]
/-- noteFrame: the entry of this frame is there -/
theorem Inv.note {M : Model} {E : Value → Shared → Prop} {Q : Unit → Shared → Prop} {tb : Option (Addr × Value)} (B : Body X) (I : Inv X pins σ H s) (x : Exc X pins H s.heap a c dd tb) (hfl : ∀ p, tb = some p → p.2 = .none ∨ p.2 = rawInt X.env.locals)
    (hQ : ∀ s' T, Inv X pins σ H s' → Exc X pins H s'.heap a c dd (some (T, rawInt X.env.locals)) → Q () s') : wpAny M X.A (noteFrame (.ref a) X.env) Q E s := by
  obtain ⟨o, vs, h1, hc, hdd, hd, hz, h2, hv1⟩ := x.at_.ob
  have fin : ∀ s' T, Inv X pins σ H s' → FpOk X pins H T → T ≠ a → s'.heap.get? a = some (o.mapFields (·.setIfInBounds 1 (.ref T))) → (∃ oT ts, s'.heap.get? T = some oT ∧ oT.data = .fields ts ∧ ts[3]? = some (rawInt X.env.locals)) → Q () s' := fun s' T I' fT ne e' tr => by
    obtain ⟨z1, z2, z3⟩ := vs_set (v := .ref T) hz h2
    refine hQ s' T I' ⟨x.fp, fun p q => ?_, ⟨_, _, e', (Obj.cls_mapFields _ _).trans hc, (dict_mapFields _ _).trans hdd, Obj.data_mapFields hd _, z1, z2, z3⟩, fun p q => ?_⟩
    · cases q; exact fT
    · cases q; exact ⟨ne, tr⟩
  unfold noteFrame
  simp only [B.2]
  cases tb with
  | none =>
    refine wpAny_bind (wpAny_field h1 hd hv1 ?_)
    rw [if_neg (by decide)]
    exact note_entry B I x.fp h1 hd hz fun s' T I' _ fT ne e' tr => fin s' T I' fT ne e' tr
  | some p =>
    obtain ⟨T, fl⟩ := p
    obtain ⟨ne, oT, ts, hT, hdT, h3⟩ := x.at_.tr _ rfl
    refine wpAny_bind (wpAny_field h1 hd hv1 ?_)
    rw [if_pos (show (Value.ref T != Value.none) = true from by simp)]
    refine wpAny_bind (wpAny_field hT hdT h3 ?_)
    rcases hfl _ rfl with z | z
    · have z : fl = .none := z
      subst z
      rw [if_neg (show ¬ ((Value.none == rawInt X.env.locals) = true) from by simp [rawInt])]
      refine wpAny_bind (wpAny_setField hT hdT (Array.getElem?_eq_some_iff.mp h3).1 ?_)
      have other : ∀ b, b ≠ T → (s.heap.update T (Obj.mapFields (·.setIfInBounds 3 Value.none))).get? b = s.heap.get? b := fun b hb => Heap.get?_update_other _ _ (Ne.symm hb)
      have nfr : T ∉ frs X.stack := fun z => (List.mem_cons.mp (I.stkSub T z)).elim (x.fpT _ rfl).2.1 (x.fpT _ rfl).2.2.1
      have I1 : Inv X pins σ H { s with heap := s.heap.update T (Obj.mapFields (·.setIfInBounds 3 Value.none)) } := I.slots (ch := [T]) (tk := s.toks) (fun b hb => by rw [List.mem_singleton.mp hb]; exact x.fpT _ rfl)
        (fun b q _ hc e => (other b fun z => hc (by simp [z])).trans e) (fun b q hb e => ⟨q.slots, (other b fun z => nfr (z ▸ hb)).trans e⟩)
        (fun b hb q e => (by obtain rfl := List.mem_singleton.mp hb; exact ⟨_, Heap.get?_update_self _ hT (Obj.isFreed_of_fields (Obj.data_mapFields hdT _))⟩))
      exact note_entry B I1 x.fp ((other a (Ne.symm ne)).trans h1) hd hz fun s' T' I' _ fT' ne' e' tr => fin s' T' I' fT' ne' e' tr
    · have z : fl = rawInt X.env.locals := z
      subst z
      rw [if_pos (show (rawInt X.env.locals == rawInt X.env.locals) = true from beq_self_eq_true _)]
      exact wpAny_pure (hQ s T I x)
/-- setFlight .. none: it lands -/
theorem Inv.land {M : Model} {E : Value → Shared → Prop} {Q : Unit → Shared → Prop} {T : Addr} {fl : Value} {A : Around} (I : Inv X pins σ H s) (x : Exc X pins H s.heap a c dd (some (T, fl)))
    (hQ : ∀ s', Inv X pins σ H s' → Exc X pins H s'.heap a c dd (some (T, .none)) → Q () s') : wpAny M A (setFlight (.ref a) none) Q E s := by
  obtain ⟨o, vs, h1, hc, hdd, hd, hz, h2, hv1⟩ := x.at_.ob
  obtain ⟨ne, oT, ts, hT, hdT, h3⟩ := x.at_.tr _ rfl
  have h33 : 3 < ts.size := (Array.getElem?_eq_some_iff.mp h3).1
  unfold setFlight
  refine wpAny_bind (wpAny_field h1 hd hv1 ?_)
  rw [if_pos (show (Value.ref T != Value.none) = true from by simp)]
  refine wpAny_setField hT hdT h33 ?_
  have other : ∀ b, b ≠ T → (s.heap.update T (Obj.mapFields (·.setIfInBounds 3 ((none : Option Addr).elim Value.none fun f => rawInt f)))).get? b = s.heap.get? b := fun b hb => Heap.get?_update_other _ _ (Ne.symm hb)
  have self := Heap.get?_update_self (Obj.mapFields (·.setIfInBounds 3 ((none : Option Addr).elim Value.none fun f => rawInt f))) hT (Obj.isFreed_of_fields (Obj.data_mapFields hdT _))
  have nfr : T ∉ frs X.stack := fun z => (List.mem_cons.mp (I.stkSub T z)).elim (x.fpT _ rfl).2.1 (x.fpT _ rfl).2.2.1
  refine hQ _ (I.slots (ch := [T]) (tk := s.toks) (fun b hb => by rw [List.mem_singleton.mp hb]; exact x.fpT _ rfl) (fun b q _ hc e => (other b fun z => hc (by simp [z])).trans e)
    (fun b q hb e => ⟨q.slots, (other b fun z => nfr (z ▸ hb)).trans e⟩) (fun b hb q e => (by obtain rfl := List.mem_singleton.mp hb; exact ⟨_, self⟩))) ⟨x.fp, fun p q => ?_, ⟨o, vs, (other a (Ne.symm ne)).trans h1, hc, hdd, hd, hz, h2, hv1⟩, fun p q => ?_⟩
  · cases q; exact x.fpT (T, fl) rfl
  · cases q; exact ⟨ne, _, _, self, Obj.data_mapFields hdT _, by simp [h33]⟩
end

/-- an exception behind a call: what it has left; E: what is wanted of its class, its dict and the heap -/
def CXe (P : Program) (w : World) : CXT := fun outer H s E e s' => ∃ a c dd T H', e = .ref a ∧ s'.os = s.os ∧ AllBare s'.gens ∧ Un (frs outer) [] H H' s.heap s'.heap ∧ HOk P w H' s'.heap ∧
  (s.heap.objs.size ≤ a ∧ H' a = none) ∧ (s.heap.objs.size ≤ T ∧ H' T = none) ∧ ExcAt H' s'.heap a c dd (some (T, .none)) ∧ E c dd H'
/-- what is wanted of an exception in this body: R, by the names' values -/
abbrev RK := St → XK
def PX (X : Cx) (R : RK) : Prop := ∀ (pins : List (Addr × Obj)) (σ : St) (H : Hp) (s : Shared) (a : Addr) (c : Value) (dd : Option Addr) (tb : Option Addr), Inv X pins σ H s → Exc X pins H s.heap a c dd (tb.map fun T => (T, Value.none)) → R σ c dd H → X.xe (.ref a) s
theorem map_tb {tb : Option Addr} {v : Value} : ∀ p, (tb.map fun T => (T, Value.none)) = some p → p.2 = Value.none ∨ p.2 = v := fun p e => by
  cases tb with
  | none => cases e
  | some T => cases e; exact .inl rfl
/-- out of a def's body -/
theorem px_body {P : Program} {w : World} {K : PySem.W.Frag} {mg : Str → Option Value} {base : Heap} {N : List Str} {qual : Str} {scope : Scope} {f : Addr} {cd : Value} {A : Around} {outer : List Env} {s : Shared} {H : Hp} {E : XK} :
    PX (cxOf (CXe P w) P w K mg base N qual scope f cd A outer s H E) (fun _ => E) := by
  intro pins σ H' s1 a c dd tb I x hE
  have B : Body (cxOf (CXe P w) P w K mg base N qual scope f cd A outer s H E) := ⟨rfl, rfl⟩
  show wpAny _ _ (leaving _ (.ref a)) _ _ s1
  unfold leaving
  refine wpAny_bind (I.note B x map_tb fun s2 T I2 x2 => ?_)
  refine I2.land x2 fun s3 I3 x3 => ?_
  have sz : ∀ b, FpOk (cxOf (CXe P w) P w K mg base N qual scope f cd A outer s H E) pins H' b → s.heap.objs.size ≤ b ∧ H' b = none := fun b fb => by
    refine ⟨?_, fb.1⟩
    rcases fb.2.2.2.1 with z | z
    · exact absurd (show b ∈ ([] : List Addr) from z) (by simp)
    · exact z
  exact ⟨a, c, dd, T, H', rfl, I3.os, I3.bare, I3.base, I3.hok, sz a x3.fp, sz T (x3.fpT _ rfl), x3.at_, hE⟩
/-- into a caller's body -/
theorem px_call {X : Cx} {R : RK} (hp : PX X R) : ∀ (pins : List (Addr × Obj)) (σ : St) (H : Hp) (s : Shared) (e : Value) (s' : Shared), Inv X pins σ H s → CXe X.prog X.w X.stack H s (R σ) e s' → X.xe e s' := by
  intro pins σ H s e s' I h
  obtain ⟨a, c, dd, T, H', rfl, os, bare, un, hok, ha, hT, x, hE⟩ := h
  have I' : Inv X pins σ H' s' := I.call' os un hok bare fun b z => absurd z (by simp)
  refine hp pins σ H' s' a c dd (some T) I' ⟨I.fpOk ha.1 ha.2, fun p q => ?_, x⟩ hE
  cases q
  exact I.fpOk hT.1 hT.2
end L2

/-! ### exceptions of the program's own classes: made, raised -/
namespace L2
open PySem PySem.Spec PyProof.Rows

section
variable {prog : Program} {w : World} {A : Around} {E : Value → Shared → Prop} {h : Heap} {g : Array GenState} {d : Drawn} {t : Nat} {os : OsState}
variable {nm q : Str} {C N : Addr} {bs bm bmB : List Value} {hdct : Bool} {sn : List Str} {sub : List Value} {ab : Bool} {col : Option Bool} {dd : Option Addr} {k0 k1 k2 k3 k5 : Option Value} {B newId initId : String}
/-- the new exception as __new__ lays it -/
abbrev excNew (C t : Addr) : Obj := { cls := .ref C, data := .fields #[.ref t, .none, .none, .none, .bool false, .none] }
abbrev tupNew (rest : List Value) : Obj := { cls := .type "tuple", data := .seq rest.toArray }
/-- C(..) where no class of the program's own has an __init__ -/
theorem call_exc0 (F : ExcBaseFacts B newId initId bmB) (T : OwnTail h bmB bm) {rest : List Value} {Q : Value → Shared → Prop}
    (oC : h.get? C = some (excClassObj nm q C N bs bm hdct sn sub ab col dd k0 k1 k2 k3 k5 newId)) (lk : PySem.W.Looks (model prog w) h (typeLookup (.ref C) "__init__") (some (.builtin initId))) (few : rest.length ≤ sizeLine)
    (fin : ∀ h', (∀ b o, h.get? b = some o → h'.get? b = some o) → h'.get? (h.objs.size + 1) = some (excNew C (h.objs.size + 2)) → Q (.ref (h.objs.size + 1)) ⟨h', g, d, t, os⟩) :
    wpAny (model prog w) A (call (.ref C) rest) Q E ⟨h, g, d, t, os⟩ := by
  have l1 := tc_lookup
  have l2 := tc_bind (.ref C)
  have tyC : (⟨h, g, d, t, os⟩ : Shared).TypeIs (.ref C) "type" := ⟨_, oC, rfl⟩
  refine wpAny_call (codeAny_of_tree ?_)
  show wpAny _ _ (callAny (.ref C) _) _ _ _
  repeat (any_goals (first | assumption | (with_reducible refine wpAny_loadPart_at oC ?_) | wp_step))
  refine ⟨rfl, codeAny_call_builtin_at (Code.quiet_builtin _ (by decide +kernel)) entry_typeCall (wpAny_check_type_call_sub oC ?_)⟩
  show wpAny _ (A.under (.builtin "type.__call__" ⟨.ref C :: rest, []⟩)) (Builtin.«type.__call__» ⟨.ref C :: rest, []⟩) _ _ _
  repeat (first | (with_reducible refine wpAny_loadPart_at oC ?_) | (with_reducible refine wpAny_madeBy_exc oC ?_) | wp_step)
  refine codeAny_call_builtin_code (Code.quiet_builtin _ F.quiet) (wpAny_check_new_subT F T oC (codeAny_exc_new_subT F T oC ?_ few))
  show wpAny _ _ _ _ _ _
  have kk : ∀ b o, h.get? b = some o → ((h.push (tupNew rest)).push (excNew C h.objs.size)).get? b = some o := fun b o e => Heap.get?_push_of_some _ (Heap.get?_push_of_some _ e)
  have oC1 := kk _ _ oC
  have oX : ((h.push (tupNew rest)).push (excNew C h.objs.size)).get? (h.objs.size + 1) = some { cls := .ref C, data := .fields #[.ref h.objs.size, .none, .none, .none, .bool false, .none] } := by heap_get
  have isC : (Value.ref C :: bm).contains (.ref C) = true := by simp
  have T1 := T.keeps kk
  unfold isInstance
  repeat (first | (with_reducible refine wpAny_loadPart_at oX ?_) | (with_reducible refine wpAny_isSubtype_exc oC1 ?_; rw [isC]) | wp_step)
  show wpAny _ _ (typeLookup (.ref C) _) _ _ _
  refine lk _ _ _ _ kk ?_
  refine wpAny_holding (wpAny_bind (wpAny_of_eq (F.init.bind _) (wpAny_bind (wpAny_call (codeAny_call_builtin F.init.plain F.initEntry (wpAny_check_init_subT F T1 oC1 oX rfl ?_))))))
  wp_walk
  refine fin _ (fun b o hb => ?_) ?_
  · rw [Heap.get?_update_other _ _ (Nat.ne_of_gt (Nat.lt_succ_of_lt (Heap.lt_size hb)))]
    exact Heap.get?_push_of_some _ (kk b o hb)
  · rw [Heap.get?_update_self _ (Heap.get?_push_of_some _ oX) rfl]
    simp only [Heap.size_push]; rfl
/-- C(..) where the class has its own __init__ -/
theorem call_excI (F : ExcBaseFacts B newId initId bmB) (T : OwnTail h bmB bm) {rest : List Value} {fI : Addr} {oI : Obj} {Q : Value → Shared → Prop}
    (oC : h.get? C = some (excClassObj nm q C N bs bm hdct sn sub ab col dd k0 k1 k2 k3 k5 newId)) (lk : PySem.W.Looks (model prog w) h (typeLookup (.ref C) "__init__") (some (.ref fI))) (oF : h.get? fI = some oI) (fF : oI.cls = .type "function") (few : rest.length ≤ sizeLine)
    (fin : wpAny (model prog w) (A.under (.builtin "type.__call__" ⟨.ref C :: rest, []⟩)) (call (.ref fI) (.ref (h.objs.size + 1) :: rest)) (fun r s' => r = .none ∧ Q (.ref (h.objs.size + 1)) s') E ⟨(h.push (tupNew rest)).push (excNew C h.objs.size), g, d, t, os⟩) :
    wpAny (model prog w) A (call (.ref C) rest) Q E ⟨h, g, d, t, os⟩ := by
  have l1 := tc_lookup
  have l2 := tc_bind (.ref C)
  have tyC : (⟨h, g, d, t, os⟩ : Shared).TypeIs (.ref C) "type" := ⟨_, oC, rfl⟩
  refine wpAny_call (codeAny_of_tree ?_)
  show wpAny _ _ (callAny (.ref C) _) _ _ _
  repeat (any_goals (first | assumption | (with_reducible refine wpAny_loadPart_at oC ?_) | wp_step))
  refine ⟨rfl, codeAny_call_builtin_at (Code.quiet_builtin _ (by decide +kernel)) entry_typeCall (wpAny_check_type_call_sub oC ?_)⟩
  show wpAny _ (A.under (.builtin "type.__call__" ⟨.ref C :: rest, []⟩)) (Builtin.«type.__call__» ⟨.ref C :: rest, []⟩) _ _ _
  repeat (first | (with_reducible refine wpAny_loadPart_at oC ?_) | (with_reducible refine wpAny_madeBy_exc oC ?_) | wp_step)
  refine codeAny_call_builtin_code (Code.quiet_builtin _ F.quiet) (wpAny_check_new_subT F T oC (codeAny_exc_new_subT F T oC ?_ few))
  show wpAny _ _ _ _ _ _
  have kk : ∀ b o, h.get? b = some o → ((h.push (tupNew rest)).push (excNew C h.objs.size)).get? b = some o := fun b o e => Heap.get?_push_of_some _ (Heap.get?_push_of_some _ e)
  have oC1 := kk _ _ oC
  have oF1 := kk _ _ oF
  have oX : ((h.push (tupNew rest)).push (excNew C h.objs.size)).get? (h.objs.size + 1) = some { cls := .ref C, data := .fields #[.ref h.objs.size, .none, .none, .none, .bool false, .none] } := by heap_get
  have isC : (Value.ref C :: bm).contains (.ref C) = true := by simp
  unfold isInstance
  repeat (first | (with_reducible refine wpAny_loadPart_at oX ?_) | (with_reducible refine wpAny_isSubtype_exc oC1 ?_; rw [isC]) | wp_step)
  show wpAny _ _ (typeLookup (.ref C) _) _ _ _
  refine lk _ _ _ _ kk ?_
  refine wpAny_holding (wpAny_bind ?_)
  unfold bindSpecial
  refine wpAny_bind (wpAny_typeOf (T := "function") ⟨_, oF1, fF⟩ ?_)
  rw [if_pos (by decide)]
  refine wpAny_pure (wpAny_bind (wpAny_mono fin (fun r s' z => ?_) fun _ _ x => x))
  obtain ⟨rfl, z⟩ := z
  wp_walk
  exact z
/-- raise with an exception just made -/
theorem raise_made {M : Model} {env : Env} {s : Shared} {x : Sem Value} {Q : Flow → Shared → Prop} (hb : bm.contains (.type "BaseException") = true)
    (hx : wpAny M A x (fun v s₁ => ∃ e t dx, v = .ref e ∧ s₁.heap.get? C = some (excClassObj nm q C N bs bm hdct sn sub ab col dd k0 k1 k2 k3 k5 newId) ∧ s₁.heap.get? e = some { cls := .ref C, dict := dx, data := .fields #[.ref t, .none, .none, .none, .bool false, .none] } ∧ wpAny M A (raiseNew (.ref e) : Sem Flow) Q E s₁) E s) :
    wpAny M A (raiseStmt env (some x) none) Q E s := by
  have isB : (Value.ref C :: bm).contains (.type "BaseException") = true := by rw [List.contains_cons, hb, Bool.or_true]
  unfold raiseStmt
  refine wpAny_bind (wpAny_mono hx (fun v s₁ z => ?_) fun _ _ y => y)
  obtain ⟨e, t, dx, rfl, oC, oe, z⟩ := z
  obtain ⟨hp, g, d, tk, os⟩ := s₁
  repeat (first | exact z | (with_reducible refine wpAny_loadPart_at oe ?_) | (with_reducible refine wpAny_loadPart_at oC ?_) | (with_reducible refine wpAny_isSubtype_exc oC ?_; rw [isB]) | wp_step)
end

/-- what the program's part tells of an exception class -/
def excAt (K : PySem.W.Frag) (C : Addr) (bmB : List Value) (newId : String) : Bool := match K.lookup C with
  | some ⟨.type "type", _, .cls cd, sl⟩ => (match cd.mro, sl.toList with
    | .ref C1 :: bm, [_, _, _, _, some (.builtin n), _] => C1 == C && n == newId && !cd.hasDel && PySem.W.tailIn K bmB bm
    | _, _ => false)
  | _ => false
/-- the class stands there -/
structure XCls (h : Heap) (C : Addr) (bmB bm : List Value) (newId : String) : Prop where
  obj : ∃ nm q N bs hdct sn sub ab col dd k0 k1 k2 k3 k5, h.get? C = some (excClassObj nm q C N bs bm hdct sn sub ab col dd k0 k1 k2 k3 k5 newId)
  tail : OwnTail h bmB bm
theorem excAt_of {K : PySem.W.Frag} {h : Heap} {C : Addr} {bmB : List Value} {newId : String} (X : K.In h) (e : excAt K C bmB newId = true) : ∃ bm, XCls h C bmB bm newId := by
  unfold excAt at e
  split at e
  · rename_i d1 c1 s1 at1
    split at e
    · rename_i C1 bm j0 j1 j2 j3 n1 j5 m1 z1
      simp only [Bool.and_eq_true, beq_iff_eq, Bool.not_eq_true'] at e
      obtain ⟨⟨⟨rfl, rfl⟩, nd⟩, tl⟩ := e
      obtain ⟨f1, f2, f3, f4, f5, f6, f7, f8, f9, f10, f11⟩ := c1
      dsimp only at m1 nd
      subst m1 nd
      obtain rfl : s1 = #[j0, j1, j2, j3, some (.builtin n1), j5] := by
        obtain ⟨l1⟩ := s1
        simp only at z1
        rw [z1]
      exact ⟨bm, ⟨f1, f5, f4, f2, f6, f7, f8, f9, f10, d1, j0, j1, j2, j3, j5, X _ _ at1⟩, PySem.W.tail_of_in X tl⟩
    · cases e
  · cases e
end L2

/-! ### an exception's own attributes -/
namespace L2
open PySem PySem.Spec PyProof.Rows PySem.Builtin.ObjectAttr
abbrev bmV : List Value := [.type "ValueError", .type "Exception", .type "BaseException", .type "object"]
theorem passV (self : Value) : refuseLoop self "__setattr__" bmV = pure () := by kernel_rfl
/-- the classes of the program's own ahead of ValueError -/
def ownV : List Value → Bool
  | .ref _ :: r => ownV r
  | l => l == bmV
theorem ownV_pass (self : Value) : ∀ {l : List Value}, ownV l = true → refuseLoop self "__setattr__" l = pure ()
  | .ref c :: r, e => by rw [refuseLoop_ref]; exact ownV_pass self (l := r) (by simpa [ownV] using e)
  | [], e => by cases e
  | .type n :: r, e => by rw [beq_iff_eq.mp (show ((Value.type n :: r) == bmV) = true from e)]; exact passV self
  | .none :: r, e => by cases e
  | .bool _ :: r, e => by cases e
  | .int _ _ :: r, e => by cases e
  | .str _ _ :: r, e => by cases e
  | .bytes _ _ :: r, e => by cases e
  | .float _ _ :: r, e => by cases e
  | .builtin _ :: r, e => by cases e
  | .notImplemented :: r, e => by cases e
  | .ellipsis :: r, e => by cases e
theorem ownV_obj : ∀ {l : List Value}, ownV l = true → l.contains (.type "object") = true
  | .ref c :: r, e => by rw [List.contains_cons, ownV_obj (l := r) (by simpa [ownV] using e), Bool.or_true]
  | [], e => by cases e
  | .type n :: r, e => by rw [beq_iff_eq.mp (show ((Value.type n :: r) == bmV) = true from e)]; rfl
  | .none :: r, e => by cases e
  | .bool _ :: r, e => by cases e
  | .int _ _ :: r, e => by cases e
  | .str _ _ :: r, e => by cases e
  | .bytes _ _ :: r, e => by cases e
  | .float _ _ :: r, e => by cases e
  | .builtin _ :: r, e => by cases e
  | .notImplemented :: r, e => by cases e
  | .ellipsis :: r, e => by cases e
def ownVIn (K : PySem.W.Frag) (C : Addr) : Bool := (PySem.W.clsIn K C).any fun cd => ownV cd.mro
/-- what stores an attribute on an exception asks of its class -/
structure XSet (K : PySem.W.Frag) (C : Addr) (f : Str) : Prop where
  sa : PySem.W.findIn K (.ref C) "__setattr__" = some (some (.builtin "object.__setattr__"))
  ov : ownVIn K C = true
  tk : PySem.W.takerIn K C f = some none
  hd : PySem.W.hasDictIn K C = true
section
variable {prog : Program} {w : World} {A : Around} {E : Value → Shared → Prop} {s : Shared} {K : PySem.W.Frag} {C x : Addr} {name : Str} {v : Value} {vs : Array Value}
theorem set_exc {Q : Unit → Shared → Prop} (X : K.In s.heap) (hx : s.heap.get? x = some { cls := .ref C, data := .fields vs }) (Z : XSet K C name)
    (fin : ∀ h', (∀ b o, b ≠ x → s.heap.get? b = some o → h'.get? b = some o) → h'.get? x = some { cls := .ref C, dict := some s.heap.objs.size, data := .fields vs } →
      h'.Ns1 s.heap.objs.size (fun y => if y = name then some v else none) → Q () { s with heap := h', toks := s.toks + 2 }) : wpAny (model prog w) A (setAttr (.ref x) name v) Q E s := by
  have J : PySem.W.InstAt s.heap x { cls := .ref C, data := .fields vs } C none := ⟨hx, rfl, rfl, True.intro⟩
  refine PySem.W.set_plain X J Z.sa ?_
  have SF := PySem.F.store_object
  obtain ⟨cd, hc, ho⟩ := PySem.W.any_some Z.ov
  have ne : cd.mro.isEmpty = false := by cases q : cd.mro with | nil => rw [q] at ho; cases ho | cons _ _ => rfl
  have isO : PySem.W.Looks (model prog w) s.heap (isInstance (.ref x) (.type "object")) true := J.type.andThen (PySem.W.looks_mroIn X (by unfold PySem.W.mroIn; rw [hc, Option.bind_some, if_neg (by rw [ne]; decide), ownV_obj ho]))
  refine codeAny_call_builtin SF.slot.plain SF.entry (@PySem.W.check_slot (model prog w) _ _ { s with toks := s.toks + 1 } "object.__setattr__" "object" "__setattr__" (.ref x) [.str name s.toks, v] [] _ SF.kind SF.split isO (SF.args (.ref x) (.str name s.toks) v) ?_)
  obtain ⟨attr, ha, hr⟩ := Option.bind_eq_some_iff.mp Z.tk
  have mr : PySem.W.Looks (model prog w) s.heap (mroOf (.ref C)) cd.mro := (PySem.W.looks_clsIn X hc).andThen .now
  have tk : PySem.W.Looks (model prog w) s.heap (storeTaker? attr) none := by
    cases attr with
    | none => cases hr; exact .now
    | some a =>
      obtain ⟨b, hb, z⟩ := Option.map_eq_some_iff.mp hr
      refine (PySem.W.looks_takesIn X hb).andThen ?_
      cases b with
      | true => cases z
      | false => exact .now
  rw [PySem.W.osa_eq, refuse_eq]
  refine wpAny_bind (wpAny_bind (PySem.W.Looks.here (s := { s with toks := s.toks + 1 }) J.type (wpAny_bind (PySem.W.Looks.here (s := { s with toks := s.toks + 1 }) mr ?_))))
  rw [ownV_pass _ ho]
  refine wpAny_pure (wpAny_bind (PySem.W.Looks.here (s := { s with toks := s.toks + 1 }) J.type (wpAny_bind (PySem.W.Looks.here (s := { s with toks := s.toks + 1 }) (PySem.W.looks_findIn X ha) (wpAny_bind (PySem.W.Looks.here (s := { s with toks := s.toks + 1 }) tk ?_))))))
  obtain ⟨cd', hc', hd'⟩ := PySem.W.any_some Z.hd
  refine wpAny_bind (wpAny_pure (wpAny_bind (wpAny_bind (wpAny_loadPart hx (wpAny_bind (PySem.W.Looks.here (s := { s with toks := s.toks + 1 }) (PySem.W.looks_clsIn X hc') ?_))))))
  rw [hd']
  have lt := Heap.lt_size hx
  have xs : x ≠ s.heap.objs.size := Nat.ne_of_lt lt
  have hx1 : (s.heap.push { cls := .type "dict", data := .dict #[] }).get? x = some { cls := .ref C, data := .fields vs } := Heap.get?_push_of_some _ hx
  refine wpAny_bind (wpAny_alloc' (wpAny_bind (wpAny_update' hx1 (wpAny_pure (wpAny_bind (wpAny_pure (wpAny_bind ?_)))))))
  generalize hG : (s.heap.push { cls := .type "dict", data := .dict #[] }).update x (fun o => { cls := o.cls, dict := some s.heap.objs.size, data := o.data, slots := o.slots }) = G
  have oth : ∀ b, b ≠ x → G.get? b = (s.heap.push { cls := .type "dict", data := .dict #[] }).get? b := fun b hb => by rw [← hG]; exact Heap.get?_update_other _ _ (Ne.symm hb)
  have gd : G.get? s.heap.objs.size = some { cls := .type "dict", data := .dict #[] } := (oth _ (Ne.symm xs)).trans (Heap.get?_push_size _ rfl)
  have gx : G.get? x = some { cls := .ref C, dict := some s.heap.objs.size, data := .fields vs } := by rw [← hG, Heap.get?_update_self _ hx1 rfl]
  have n0 : G.Ns s.heap.objs.size (fun _ => none) := ⟨_, #[], _, gd, rfl, fun e he => absurd he (by simp), fun _ => rfl⟩
  refine wpAny_nsSet1 (s := ⟨G, s.gens, s.drawn, s.toks + 1, s.os⟩) (Heap.Ns1.of_empty n0) fun h' hn2 hs2 => ?_
  obtain ⟨oD, esD, epD, hoD, hdD, hcD⟩ := hn2.count (ns := [name]) (fun y hy => by
    split at hy
    · rename_i z; simp [z]
    · exact absurd rfl hy)
  refine wpAny_bind (wpAny_lookBehind hoD (by rw [hdD]; exact pastItsLine_dict (Nat.le_trans hcD (by simp [sizeLine_eq]))) ?_)
  refine wpAny_pure (fin h' (fun b o hb q => ?_) ((hs2.2 _ xs).trans gx) hn2)
  exact (hs2.2 b (Nat.ne_of_lt (Heap.lt_size q))).trans ((oth b hb).trans (Heap.get?_push_of_some _ q))
end
/-- what reads an attribute of an exception asks of its class -/
structure XGet (K : PySem.W.Frag) (C : Addr) (f : Str) : Prop where
  ga : PySem.W.findIn K (.ref C) "__getattribute__" = some (some (.builtin "BaseException.__getattribute__"))
  gt : PySem.W.findIn K (.ref C) "__getattr__" = some none
  ba : PySem.W.mroIn K C (.type "BaseException") = some true
  na : PySem.W.findIn K (.ref C) f = some none
  hd : PySem.W.hasDictIn K C = true
section
variable {prog : Program} {w : World} {A : Around} {E : Value → Shared → Prop} {s : Shared} {K : PySem.W.Frag} {C x dx : Addr} {name : Str} {v : Value} {o : Obj} {mA : Str → Option Value}
end
end L2

/-! ### raise -/
namespace L2
open PySem PySem.Spec PyProof.Rows
/-- nothing is said of a any more -/
def del (H : Hp) (a : Addr) : Hp := fun b => if b = a then none else H b
theorem del_same {H : Hp} {a : Addr} : del H a a = none := by unfold del; rw [if_pos rfl]
theorem del_ne {H : Hp} {a b : Addr} (h : b ≠ a) : del H a b = H b := by unfold del; rw [if_neg h]
/-- an exception that its class is just making -/
def XObj (C t a : Addr) (dx : Option Addr) : HO := .ext fun h => h.get? a = some { cls := .ref C, dict := dx, data := .fields #[.ref t, .none, .none, .none, .bool false, .none] }
section
variable {X : Cx} {pins : List (Addr × Obj)} {σ : St} {H : Hp} {s : Shared}
theorem Inv.del {a : Addr} {φ : Heap → Prop} (I : Inv X pins σ H s) (e : H a = some (.ext φ)) : Inv X pins σ (del H a) s := by
  have ne : ∀ b u, H b = some u → (∀ ψ, u ≠ .ext ψ) → b ≠ a := fun b u q n z => by rw [z, e] at q; cases q; exact n _ rfl
  have un : Un X.fs X.ex X.H₀ (L2.del H a) X.s₀.heap s.heap := by
    obtain ⟨b1, b2, b3, b4, b5, b6, b7⟩ := I.base
    refine ⟨b1, b2, fun b o q n x => ?_, b4, fun b xs q => ?_, fun b o u q => ?_, fun b ps q => ?_⟩
    · unfold L2.del; split
      · rfl
      · exact b3 b o q n x
    · have := b5 b xs q
      rw [del_ne (ne b _ this (by intro ψ z; cases z))]; exact this
    · have := b6 b o u q
      rw [del_ne (ne b _ this (by intro ψ z; cases z))]; exact this
    · obtain ⟨m, this⟩ := b7 b ps q
      exact ⟨m, by rw [del_ne (ne b _ this (by intro ψ z; cases z))]; exact this⟩
  have none_of : ∀ b, H b = none → L2.del H a b = none := fun b q => by unfold L2.del; split <;> first | rfl | exact q
  refine { I with base := un, free := none_of _ I.free, freeC := fun x c q => none_of _ (I.freeC x c q), pin := fun p hp => ?_, hok := fun b o q => ?_ }
  · obtain ⟨p1, p2, p3⟩ := I.pin p hp
    exact ⟨p1, none_of _ p2, p3⟩
  · by_cases hb : b = a
    · subst hb; rw [del_same] at q; cases q
    · rw [del_ne hb] at q
      refine (I.hok b o q).stay (fun c u _ r => r) (fun c r => ?_) fun c xs r => ?_
      · rw [del_ne (ne c _ r (by intro ψ z; cases z))]; exact r
      · rw [del_ne (ne c _ r (by intro ψ z; cases z))]; exact r
/-- the exception at a, made just now, is raised -/
theorem raise_new {R : RK} {C t a : Addr} {dx : Option Addr} {Q : Flow → Shared → Prop} (hp : PX X R) (I : Inv X pins σ H s) (fp : FpOk X pins H a)
    (he : s.heap.get? a = some { cls := .ref C, dict := dx, data := .fields #[.ref t, .none, .none, .none, .bool false, .none] }) (hR : R σ (.ref C) dx H) : wpAny (model X.prog X.w) X.A (raiseNew (.ref a) : Sem Flow) Q X.xe s := by
  obtain ⟨f0, f1, f2, f3, f4, f5⟩ := id fp
  refine raise_hd (s := s) ?_ he rfl (by simp) fun h' o' vs' k1 k2 k3 k4 k5 k6 k7 k8 => ?_
  · rcases I.hdAt with z | ⟨b, cs, z, c⟩
    · exact .inl z
    · exact .inr ⟨b, cs, z, c.chn I.hok, c.not_mem f0⟩
  · have I' : Inv X pins σ H { s with heap := h' } := I.turned (t' := s.toks) k1 f0 f1 f3 f4 f5
    refine hp pins σ H _ a (.ref C) dx none I' ⟨fp, fun p q => (by cases q), ⟨⟨o', vs', k2, k3, k4, k5, k6, ?_, ?_⟩, fun p q => (by cases q)⟩⟩ hR
    · rcases I.hdAt with z | ⟨b, cs, z, c⟩
      · rw [z] at k8
        exact ⟨[], ⟨List.nodup_nil, fun j a q => by simp at q⟩, k8⟩
      · rw [z] at k8
        exact ⟨b :: cs, c, k8⟩
    · exact k7
end
/-- an exception class that has no __init__ of its own -/
structure XC0 (K : PySem.W.Frag) (C : Addr) : Prop where
  at_ : excAt K C bmV "ValueError.__new__" = true
  kp : PySem.W.keepIn K (.ref C) = true
  init : PySem.W.findIn K (.ref C) "__init__" = some (some (.builtin "ValueError.__init__"))
/-- .. that has one -/
structure XCI (K : PySem.W.Frag) (C f : Addr) : Prop where
  at_ : excAt K C bmV "ValueError.__new__" = true
  kp : PySem.W.keepIn K (.ref C) = true
  init : PySem.W.findIn K (.ref C) "__init__" = some (some (.ref f))
  fn : PySem.W.isFn K (.ref f) = true
def sRaise0 (C : Addr) (R : RK) (t : TA) : TS := fun _ σ H => t σ H fun vs H1 => vs.length ≤ sizeLine ∧ R σ (.ref C) none H1
def sRaiseI (C : Addr) (sp : Sp) (dvs : List V) (R : RK) (t : TA) : TS := fun _ σ H => t σ H fun vs H1 => vs.length ≤ sizeLine ∧ ∀ a t', H1 a = none →
  sp (.ref a :: (vs ++ dvs)) (upd H1 a (XObj C t' a none)) (fun v H2 => v = .non ∧ ∃ dx, H2 a = some (XObj C t' a dx) ∧ R σ (.ref C) dx (del H2 a)) (R σ)
section
variable {X : Cx} {R : RK} {C : Addr} {x : Str} {np cpos pos : Pos} {e : Expr} {es : List Expr} {t : TA}
theorem raise_at {a : List Expr} {s : Shared} {bm : List Value} {Q : Flow → Shared → Prop} (hx : XCls s.heap C bmV bm "ValueError.__new__")
    (h : wpAny (model X.prog X.w) X.A (eval (.Call (.Name x np) a [] cpos) X.env) (fun v s₁ => ∃ b t dx, v = .ref b ∧ (∀ o, s.heap.get? C = some o → s₁.heap.get? C = some o) ∧ s₁.heap.get? b = some { cls := .ref C, dict := dx, data := .fields #[.ref t, .none, .none, .none, .bool false, .none] } ∧ wpAny (model X.prog X.w) X.A (raiseNew (.ref b) : Sem Flow) Q X.xe s₁) X.xe s) :
    wpAny (model X.prog X.w) X.A (exec (.Raise (some (.Call (.Name x np) a [] cpos)) none pos) X.env) Q X.xe s := by
  obtain ⟨⟨nm, q, N, bs, hdct, sn, sub, ab, col, dd, k0, k1, k2, k3, k5, oC⟩, T⟩ := hx
  rw [arm_exec_Raise]
  refine wpAny_bind (wpAny_standAt (raise_made (C := C) (nm := nm) (q := q) (N := N) (bs := bs) (bm := bm) (hdct := hdct) (sn := sn) (sub := sub) (ab := ab) (col := col) (dd := dd) (k0 := k0) (k1 := k1) (k2 := k2) (k3 := k3) (k5 := k5) (newId := "ValueError.__new__") (T.hasType rfl) (wpAny_bind (wpAny_mono h (fun v s1 z => wpAny_bind (wpAny_standAt (wpAny_pure ?_))) fun _ _ y => y))))
  obtain ⟨b, t, dx, z1, z2, z3, z4⟩ := z
  exact ⟨b, t, dx, z1, z2 _ oC, z3, z4⟩
theorem raise0_end {pins : List (Addr × Obj)} {σ : St} {H : Hp} {s0 s : Shared} {us : List Value} {Q : Flow → Shared → Prop} (hp : PX X R) (c : XC0 X.K C) (I : Inv X pins σ H s) (hz : us.length ≤ sizeLine) (hs : ∀ o, s0.heap.get? C = some o → s.heap.get? C = some o) (hR : R σ (.ref C) none H) :
    wpAny (model X.prog X.w) X.A (call (.ref C) us) (fun v s₁ => ∃ b t dx, v = .ref b ∧ (∀ o, s0.heap.get? C = some o → s₁.heap.get? C = some o) ∧ s₁.heap.get? b = some { cls := .ref C, dict := dx, data := .fields #[.ref t, .none, .none, .none, .bool false, .none] } ∧ wpAny (model X.prog X.w) X.A (raiseNew (.ref b) : Sem Flow) Q X.xe s₁) X.xe s := by
  obtain ⟨bm, ⟨nm, q, N, bs, hdct, sn, sub, ab, col, dd, k0, k1, k2, k3, k5, oC⟩, T⟩ := excAt_of I.kIn c.at_
  have I0 := I
  obtain ⟨h, g, d, tk, os⟩ := s
  refine call_exc0 PySem.F.excBase_ValueError T oC (PySem.W.looks_findIn I.kIn c.init) hz fun h' k' e' => ?_
  have I' : Inv X pins σ H ⟨h', g, d, tk, os⟩ := I0.kept (t' := tk) k'
  refine ⟨_, _, none, rfl, fun o q => k' _ _ (hs o q), e', raise_new hp I' ?_ e' hR⟩
  exact I0.fpOk (s := ⟨h, g, d, tk, os⟩) (Nat.le_succ _) (I0.hok.fresh (Nat.le_succ _))
/-- raise C(..), raise C() -/
theorem ps_raise0 (hp : PX X R) (c : XC0 X.K C) (hg : Gl X x) (hm : X.mg x = some (.ref C)) (hdb : (x == ("__debug__" : Str)) = false := by decide) : PS X (.Raise (some (.Call (.Name x np) [] [] cpos)) none pos) (sRaise0 C R tNil) := by
  intro pins s σ H D I h
  obtain ⟨bm, xc⟩ := excAt_of I.kIn c.at_
  refine raise_at xc (wpAny_Call_Name_kw (ld_glob I hg hm ?_ hdb))
  exact PySem.W.callWith_K0 I.kIn c.kp (raise0_end hp c I h.1 (fun _ q => q) h.2)
variable {CX : CXT} {k : Nat} {f : Addr} {fd : FuncData} {ps : List Str} {sp : Sp} {dvs : List V} {ds : List Value}
/-- raise C(..), C with its own __init__ -/
theorem ps_raiseI (hp : PX X R) (c : XCI X.K C f) (F : FnOk X.prog X.w X.K X.mg X.base CX k f fd ps sp) (hr : Room (k + 1) X.A) (hb : Binds X.K fd ps ds) (hd : Vals dvs ds) (hxx : ∀ σ, Passes CX X (R σ)) (hg : Gl X x) (hm : X.mg x = some (.ref C)) (ha : PA X (e :: es) t)
    (hdb : (x == ("__debug__" : Str)) = false := by decide) (he : starEach (e :: es) X.env = (false, eval e X.env) :: starEach es X.env := by rfl) (hpl : (backTo cpos (starEach es X.env)).any (·.1) = false := by rfl) :
    PS X (.Raise (some (.Call (.Name x np) (e :: es) [] cpos)) none pos) (sRaiseI C sp dvs R t) := by
  intro pins s σ H D I h
  obtain ⟨bm0, xc⟩ := excAt_of I.kIn c.at_
  refine raise_at xc (wpAny_Call_Name_kw (ld_glob I hg hm ?_ hdb))
  refine PySem.W.callWith_K (h₀ := X.base) I.ok.mod.kin c.kp (thn (ha cpos pins s σ H _ I h) fun us s1 ⟨vs, H1, I1, r, z, q⟩ => ⟨I1.kIn, ?_⟩) he hpl
  obtain ⟨bm2, ⟨nm2, q2, N2, bs2, hdct2, sn2, sub2, ab2, col2, dd2, l0, l1, l2, l3, l5, oC2⟩, _⟩ := excAt_of I.ok.mod.kin c.at_
  have C0 : ∀ o, s.heap.get? C = some o → X.base.get? C = some o := fun o q => by rw [I.bk _ _ oC2] at q; rw [← q]; exact oC2
  obtain ⟨bm, ⟨nm, qn, N, bs, hdct, sn, sub, ab, col, dd, k0, k1, k2, k3, k5, oC⟩, T⟩ := excAt_of I1.kIn c.at_
  have fnC : (X.K.lookup f).map (·.cls) = some (.type "function") := beq_iff_eq.mp c.fn
  obtain ⟨oF, hF, hFc⟩ : ∃ oF, X.K.lookup f = some oF ∧ oF.cls = .type "function" := by
    cases hk : X.K.lookup f with
    | none => rw [hk] at fnC; cases fnC
    | some oF => rw [hk] at fnC; exact ⟨oF, rfl, Option.some.inj fnC⟩
  have hz : us.length ≤ sizeLine := by rw [← r.length]; exact z
  have J := I1
  obtain ⟨hp1, g, d, tk, os⟩ := s1
  refine call_excI PySem.F.excBase_ValueError T oC (PySem.W.looks_findIn I1.kIn c.init) (I1.kIn _ _ hF) hFc hz ?_
  have kk : ∀ b o, hp1.get? b = some o → ((hp1.push (tupNew us)).push (excNew C hp1.objs.size)).get? b = some o := fun b o e => Heap.get?_push_of_some _ (Heap.get?_push_of_some _ e)
  have oX : ((hp1.push (tupNew us)).push (excNew C hp1.objs.size)).get? (hp1.objs.size + 1) = some { cls := .ref C, data := .fields #[.ref hp1.objs.size, .none, .none, .none, .bool false, .none] } := by heap_get
  have fr : H1 (hp1.objs.size + 1) = none := J.hok.fresh (Nat.le_succ _)
  have I2 : Inv X pins σ (upd H1 (hp1.objs.size + 1) (XObj C hp1.objs.size (hp1.objs.size + 1) none)) ⟨(hp1.push (tupNew us)).push (excNew C hp1.objs.size), g, d, tk, os⟩ :=
    J.laid (t' := tk) kk (Nat.le_succ _) ⟨oX, ⟨_, oX⟩, fun h1 h2 p1 p2 => p2 _ p1⟩
  have q' := q (hp1.objs.size + 1) hp1.objs.size fr
  have r2 : Vals (V.ref (hp1.objs.size + 1) :: (vs ++ dvs)) (Value.ref (hp1.objs.size + 1) :: (us ++ ds)) := .cons rfl (r.append hd)
  have hl : (Value.ref (hp1.objs.size + 1) :: us ++ ds).length = ps.length := by
    have e := r2.length
    rw [F.len _ _ _ _ q'] at e
    exact e.symm
  refine wpAny_call (codeAny_mono (F.run _ X.stack _ _ ⟨Value.ref (hp1.objs.size + 1) :: us, []⟩ (Value.ref (hp1.objs.size + 1) :: (us ++ ds)) _ _ (R σ) (hr.make C us []) (I2.env0.make C us []) (hb _ (Value.ref (hp1.objs.size + 1) :: us) I2.kIn hl) r2 q') fun rr s' hq' => ?_)
  cases rr with
  | error e => exact hxx σ pins σ _ _ e s' I2 hq'
  | ok fl =>
    cases fl with
    | ret u =>
      obtain ⟨v, H', I3, rv, ev, dx, e3, q3⟩ := I2.after hq'
      subst ev
      refine ⟨rv, _, hp1.objs.size, dx, rfl, fun o q => I3.bk _ _ (C0 o q), (I3.hok _ _ e3).1, ?_⟩
      refine raise_new hp (I3.del e3) ?_ (I3.hok _ _ e3).1 q3
      exact J.fpOk (s := ⟨hp1, g, d, tk, os⟩) (Nat.le_succ _) del_same
    | next => exact False.elim hq'
    | brk => exact False.elim hq'
    | cont => exact False.elim hq'
/-- self.f = e in an exception's __init__ -/
def sFldX (K : PySem.W.Frag) (ta tv : TE) (f : Str) : TS := fun D σ H => tv σ H fun y H1 => ta σ H1 fun x H2 => ∃ a C t, x = .ref a ∧ H2 a = some (XObj C t a none) ∧ XSet K C f ∧
  ∀ dx, H2 dx = none → D.nx σ (upd (upd H2 dx (.xd [(f, y)])) a (XObj C t a (some dx)))
theorem ps_fldX {o value : Expr} {ta tv : TE} {f : Str} {pos' : Pos} (ha : PE X o ta) (hv : PE X value tv) (hs : swapsWith value (some (.Attribute o f pos')) pos.line X.env = pure false) : PS X (.Assign [.Attribute o f pos'] value pos) (sFldX X.K ta tv f) := by
  intro pins s σ H D I h
  refine plainObj_wpAny_Assign_Attribute (thn (hv pins s σ H _ I h) fun v s1 => L2.ex5 fun y H1 I1 ry q1 => thn (ha pins s1 σ H1 _ I1 q1) fun u s2 => L2.ex5 fun x H2 I2 rx q2 => ?_) hs
  obtain ⟨a, C, t, rfl, e2, Z, q2⟩ := q2
  obtain rfl : u = Value.ref a := rx
  have oa := (I2.hok _ _ e2).1
  refine set_exc I2.kIn oa Z fun h' k1 k2 k3 => ?_
  have dn : H2 s2.heap.objs.size = none := I2.hok.fresh (Nat.le_refl _)
  have da : s2.heap.objs.size ≠ a := (ne_of_none e2 dn).symm
  have old : ∀ b o, s2.heap.get? b = some o → b ≠ s2.heap.objs.size := fun b o q => Nat.ne_of_lt (Heap.lt_size q)
  have na : ∀ b u, H2 b = some u → (∀ ψ, u ≠ .ext ψ) → b ≠ a := fun b u q n z => by rw [z, e2] at q; cases q; exact n _ rfl
  have nd : ∀ b u, H2 b = some u → b ≠ s2.heap.objs.size := fun b u q => ne_of_none q dn
  have keepH : ∀ b u, H2 b = some u → (∀ ψ, u ≠ .ext ψ) → upd (upd H2 s2.heap.objs.size (.xd [(f, y)])) a (XObj C t a (some s2.heap.objs.size)) b = some u := fun b u q n => by rw [upd_ne (na b u q n), upd_ne (nd b u q)]; exact q
  refine ⟨σ, _, I2.un (t' := s2.toks + 2) ⟨fun b o q n _ _ => k1 b o (fun z => ?_) q, fun b o q n _ _ => ⟨o.slots, k1 b o (fun z => ?_) q⟩, fun b o q n _ => ?_, fun b o q _ => ?_, fun b xs q => ?_, fun b o u q => ?_, fun b ps q => ?_⟩ (fun b o q => ?_), q2 _ dn⟩
  · rw [z, e2] at n; cases n
  · rw [z, e2] at n; cases n
  · rw [upd_ne (fun z => by rw [z, e2] at n; cases n), upd_ne (old b o q)]; exact n
  · by_cases z : b = a
    · subst z; exact ⟨_, k2⟩
    · exact ⟨o, k1 b o z q⟩
  · exact keepH b _ q (by intro ψ z; cases z)
  · exact keepH b _ q (by intro ψ z; cases z)
  · exact ⟨#[], by rw [keepH b _ q (by intro ψ z; cases z)]; simp⟩
  · by_cases z : b = a
    · subst z
      rw [upd_same] at q; cases q
      exact ⟨k2, ⟨_, k2⟩, fun h1 h2 p1 p2 => p2 _ p1⟩
    · rw [upd_ne z] at q
      by_cases z2 : b = s2.heap.objs.size
      · subst z2
        rw [upd_same] at q; cases q
        refine ⟨_, k3, fun g => ?_⟩
        by_cases hg : g = f
        · subst hg; simpa [RelO] using ry
        · have e0 : ([(f, y)] : List (Str × V)).lookup g = none := by rw [List.lookup_cons, show (g == f) = false from by simpa using hg]; rfl
          rw [e0, if_neg hg]; exact True.intro
      · rw [upd_ne z2] at q
        refine (I2.hok b o q).stay (fun c u hc r => k1 c u ?_ r) (fun c r => keepH c _ r (by intro ψ z; cases z)) fun c xs r => keepH c _ r (by intro ψ z; cases z)
        rcases hc with hc | hc
        · rw [hc]; exact z
        · exact na c _ hc (by intro ψ z; cases z)
end
end L2

/-! ### isinstance of exceptions -/
namespace L2
open PySem PySem.Spec PyProof.Rows PySem.Builtin.ObjectAttr
/-- what isinstance asks of an exception's class -/
structure XIs (K : PySem.W.Frag) (C : Addr) : Prop where
  ga : PySem.W.findIn K (.ref C) "__getattribute__" = some (some (.builtin "BaseException.__getattribute__"))
  gt : PySem.W.findIn K (.ref C) "__getattr__" = some none
  ba : PySem.W.mroIn K C (.type "BaseException") = some true
  ob : PySem.W.mroIn K C (.type "object") = some true
  cl : PySem.W.findIn K (.ref C) "__class__" = some (some (.builtin "object.__class__"))
  gs : PySem.W.specialIn K (.builtin "object.__class__") "__get__" = some (some (.builtin "getset_descriptor.__get__"))
  tk : PySem.W.takesIn K (.builtin "object.__class__") = some true
  hd : PySem.W.hasDictIn K C = true
section
variable {prog : Program} {w : World} {A : Around} {E : Value → Shared → Prop} {s : Shared} {K : PySem.W.Frag} {C x : Addr} {ox : Obj} {od : Option Obj}
end
/-- an exception that is held by a name: frozen -/
structure IsX (H : Hp) (a C : Addr) (dd : Option Addr) : Prop where
  at_ : ∃ o u, H a = some (.frz o u) ∧ o.cls = .ref C ∧ o.dict = dd ∧ ∃ vs, o.data = .fields vs
section
variable {X : Cx}
/-- the exception's dict stands, if it has one -/
def XDs (H : Hp) : Option Addr → Prop
  | none => True
  | some dx => ∃ fs, H dx = some (.xd fs)
/-- e.f of an exception -/
def tFldX (K : PySem.W.Frag) (ta : TE) (f : Str) : TE := fun σ H Q => ta σ H fun x H1 => ∃ a C dx fs v, x = .ref a ∧ IsX H1 a C (some dx) ∧ H1 dx = some (.xd fs) ∧ XGet K C f ∧ fs.lookup f = some v ∧ Q v H1
end
end L2

/-! ### try .. except -/
namespace L2
open PySem PySem.Spec PyProof.Rows
/-- the body of a try; the suite of an except -/
abbrev Cx.tr (X : Cx) (pn : List (Addr × Obj)) (E : Value → Shared → Prop) : Cx := { X with pn := pn, xe := E }
abbrev Cx.hnd (X : Cx) (a : Addr) (H₀ : Hp) : Cx := { X with A := X.A.mark (some (.ref a)), H₀ := H₀, xe := fun _ _ => False }
/-- what is frozen in H, else what H₀ has -/
def frzO (H H₀ : Hp) : Hp := fun b => match H b with | some (.frz o u) => some (.frz o u) | _ => H₀ b
section
variable {X : Cx} {pins : List (Addr × Obj)} {σ : St} {H : Hp} {s : Shared} {a : Addr} {c : Value} {dd : Option Addr} {tb : Option (Addr × Value)}
end
/-- the handlers' readings: the class, the name's slot, the suite -/
abbrev Hd1 := Addr × Option Nat × TS
def Ends.as (D : Ends) (i : Nat) : Ends := ⟨fun σ H => D.nx (σ.set i none) H, D.rt, fun σ H => D.bk (σ.set i none) H, fun σ H => D.ct (σ.set i none) H⟩
def tHand (K : PySem.W.Frag) : List Hd1 → Ends → RK
  | [], _, _, _, _, _ => False
  | (D, i, t) :: r, En, σ, c, dd, H => ∃ C b, c = .ref C ∧ PySem.W.mroIn K C (.ref D) = some b ∧ if b = true then ∀ a o, H a = none → o.cls = c → o.dict = dd → (∃ vs, o.data = .fields vs) →
      (match i with | none => t En σ (upd H a (.frz o (.own a))) | some i => t (En.as i) (σ.set i (some (.ref a))) (upd H a (.frz o (.own a)))) else tHand K r En σ c dd H
/-- the handlers -/
inductive PHs (X : Cx) : List ExceptHandler → List Hd1 → Prop where
  | nil : PHs X [] []
  | one {x : Str} {np pos : Pos} {b₀ : Stmt} {su : List Stmt} {D : Addr} {t : TS} {hs : List ExceptHandler} {ts : List Hd1} (hg : Gl X x) (hm : X.mg x = some (.ref D)) (hB : PySem.W.mroIn X.K D (.type "BaseException") = some true) (hT : PySem.W.typeIn X.K (.ref D) = some (.type "type"))
      (hdb : (x == ("__debug__" : Str)) = false) (hb : ∀ a H₀, PSs (X.hnd a H₀) (b₀ :: su) t) (r : PHs X hs ts) : PHs X (.ExceptHandler (some (.Name x np)) none (b₀ :: su) pos :: hs) ((D, none, t) :: ts)
  | as_ {x n : Str} {i : Nat} {np pos : Pos} {b₀ : Stmt} {su : List Stmt} {D : Addr} {t : TS} {hs : List ExceptHandler} {ts : List Hd1} (hg : Gl X x) (hm : X.mg x = some (.ref D)) (hB : PySem.W.mroIn X.K D (.type "BaseException") = some true) (hT : PySem.W.typeIn X.K (.ref D) = some (.type "type"))
      (hdb : (x == ("__debug__" : Str)) = false) (hN : X.N.Nodup) (hi : X.N[i]? = some n) (hk : X.env.kindOf n = some .local) (hb : ∀ a H₀, PSs (X.hnd a H₀) (b₀ :: su) t) (r : PHs X hs ts) : PHs X (.ExceptHandler (some (.Name x np)) (some n) (b₀ :: su) pos :: hs) ((D, some i, t) :: ts)
section
variable {X : Cx}
/-- try .. except .. else -/
def tTry (K : PySem.W.Frag) (ts : List Hd1) (tb : RK → TS) (te : TS) : TS := fun D σ H => tb (tHand K ts D) { D with nx := fun σ H => te D σ H } σ H
end
end L2

/-! ### defs, methods, classes of the text as their callers see them -/
namespace L2
open PySem PySem.Spec PyProof.Rows
/-- a def of the text, with what stands for its defaults -/
structure FunD (K : PySem.W.Frag) (x qual : Str) (st : Stmt) (f : Addr) (fd : FuncData) : Prop where
  ex : ∃ (oc : Value) (od : Option Addr) (dV kV doc pm : Value) (an : Option Addr) (cdv ct : Value) (osl : Array (Option Value)),
    fd = PySem.W.fnOf x qual (defArgs st) (defBody st) (defScope st) dV kV doc pm an cdv ct ∧ K.lookup f = some ⟨oc, od, .func fd, osl⟩ ∧ PySem.W.codeIn K cdv qual = true
theorem funD_mk {K : PySem.W.Frag} {x qual : Str} {st : Stmt} {f : Addr} {oc : Value} {od an : Option Addr} {osl : Array (Option Value)} {dV kV doc pm cdv ct : Value} (l : K.lookup f = some ⟨oc, od, .func (PySem.W.fnOf x qual (defArgs st) (defBody st) (defScope st) dV kV doc pm an cdv ct), osl⟩)
    (c : PySem.W.codeIn K cdv qual = true) : FunD K x qual st f (PySem.W.fnOf x qual (defArgs st) (defBody st) (defScope st) dV kV doc pm an cdv ct) := ⟨⟨oc, od, dV, kV, doc, pm, an, cdv, ct, osl, rfl, l, c⟩⟩
section
variable {P : Program} {w : World} {K : PySem.W.Frag} {mg : Str → Option Value} {base : Heap}
/-- a def that lets no exception out -/
theorem FunD.ok {x qual : Str} {st : Stmt} {f : Addr} {fd : FuncData} {N ps : List Str} {k : Nat} {sp : Sp} (F : FunD K x qual st f fd) (S : FnScope N ps (defScope st)) (len : ∀ vs H Q E, sp vs H Q E → vs.length = ps.length)
    (hbody : ∀ (cdv : Value) (A : Around) (outer : List Env) (s : Shared) (H : Hp) (vs : List V) (Q : VK) (E : XK), Room k (A.deeper (envOfC qual (defScope st) s.heap.objs.size f cdv)) → sp vs H Q E →
      ∃ t, PSs (cxOf CX0 P w K mg base N qual (defScope st) f cdv A outer s H E).nox (defBody st) t ∧ t { nx := fun _ H' => Q .non H', rt := Q } (start N vs) H) : FnOk P w K mg base CX0 (k + 1) f fd ps sp := by
  obtain ⟨oc, od, dV, kV, doc, pm, an, cdv, ct, osl, rfl, lk, hcd⟩ := F.ex
  refine fn_of lk hcd S len fun A outer s H vs Q E hr hsp => ?_
  obtain ⟨t, h, q⟩ := hbody cdv A outer s H vs Q E hr hsp
  exact ⟨t, h.nox, q⟩
/-- a def that may raise -/
theorem FunD.okX {x qual : Str} {st : Stmt} {f : Addr} {fd : FuncData} {N ps : List Str} {k : Nat} {sp : Sp} (F : FunD K x qual st f fd) (S : FnScope N ps (defScope st)) (len : ∀ vs H Q E, sp vs H Q E → vs.length = ps.length)
    (hbody : ∀ (cdv : Value) (A : Around) (outer : List Env) (s : Shared) (H : Hp) (vs : List V) (Q : VK) (E : XK), Room k (A.deeper (envOfC qual (defScope st) s.heap.objs.size f cdv)) → sp vs H Q E →
      ∃ t, PSs (cxOf (CXe P w) P w K mg base N qual (defScope st) f cdv A outer s H E) (defBody st) t ∧ t { nx := fun _ H' => Q .non H', rt := Q } (start N vs) H) : FnOk P w K mg base (CXe P w) (k + 1) f fd ps sp := by
  obtain ⟨oc, od, dV, kV, doc, pm, an, cdv, ct, osl, rfl, lk, hcd⟩ := F.ex
  exact fn_of lk hcd S len fun A outer s H vs Q E hr hsp => hbody cdv A outer s H vs Q E hr hsp
end
/-- a def at the text's top: dvs the defaults that a call leaves to be filled in -/
structure Def (K : PySem.W.Frag) (mg : Str → Option Value) (x : Str) (st : Stmt) (ps : List Str) (dvs : List V) : Prop where
  ex : ∃ f fd ds, FunD K x x st f fd ∧ mg x = some (.ref f) ∧ PySem.W.keepIn K (.ref f) = true ∧ Binds K fd ps ds ∧ Vals dvs ds
/-- a method -/
structure Met (K : PySem.W.Frag) (C : Addr) (m qual : Str) (st : Stmt) (ps : List Str) (dvs : List V) : Prop where
  ex : ∃ f fd ds, FunD K m qual st f fd ∧ Meth K C m f ∧ Binds K fd ps ds ∧ Vals dvs ds
/-- a class that is made by its own __init__ -/
structure Ini (K : PySem.W.Frag) (mg : Str → Option Value) (C : Addr) (x qual : Str) (st : Stmt) (ps : List Str) : Prop where
  ex : ∃ f fd, FunD K "__init__" qual st f fd ∧ Mk K C f ∧ mg x = some (.ref C) ∧ Binds K fd ps []
/-- an exception class with its own __init__ -/
structure XIni (K : PySem.W.Frag) (mg : Str → Option Value) (C : Addr) (x qual : Str) (st : Stmt) (ps : List Str) : Prop where
  ex : ∃ f fd, FunD K "__init__" qual st f fd ∧ XCI K C f ∧ mg x = some (.ref C) ∧ Binds K fd ps []
/-- .. with a promise -/
structure Cal (P : Program) (w : World) (K : PySem.W.Frag) (mg : Str → Option Value) (base : Heap) (CX : CXT) (k : Nat) (x : Str) (ps : List Str) (dvs : List V) (sp : Sp) : Prop where
  ex : ∃ f fd ds, FnOk P w K mg base CX k f fd ps sp ∧ mg x = some (.ref f) ∧ PySem.W.keepIn K (.ref f) = true ∧ Binds K fd ps ds ∧ Vals dvs ds
structure CalM (P : Program) (w : World) (K : PySem.W.Frag) (mg : Str → Option Value) (base : Heap) (CX : CXT) (k : Nat) (C : Addr) (m : Str) (ps : List Str) (dvs : List V) (sp : Sp) : Prop where
  ex : ∃ f fd ds, FnOk P w K mg base CX k f fd ps sp ∧ Meth K C m f ∧ Binds K fd ps ds ∧ Vals dvs ds
structure CalI (P : Program) (w : World) (K : PySem.W.Frag) (mg : Str → Option Value) (base : Heap) (CX : CXT) (k : Nat) (C : Addr) (x : Str) (ps : List Str) (sp : Sp) : Prop where
  ex : ∃ f fd, FnOk P w K mg base CX k f fd ps sp ∧ Mk K C f ∧ mg x = some (.ref C) ∧ Binds K fd ps []
structure CalXI (P : Program) (w : World) (K : PySem.W.Frag) (mg : Str → Option Value) (base : Heap) (CX : CXT) (k : Nat) (C : Addr) (x : Str) (ps : List Str) (sp : Sp) : Prop where
  ex : ∃ f fd, FnOk P w K mg base CX k f fd ps sp ∧ XCI K C f ∧ mg x = some (.ref C) ∧ Binds K fd ps []
section
variable {P : Program} {w : World} {K : PySem.W.Frag} {mg : Str → Option Value} {base : Heap} {CX : CXT} {k : Nat} {C : Addr} {x m qual : Str} {st : Stmt} {ps : List Str} {dvs : List V} {sp : Sp}
theorem Def.cal (D : Def K mg x st ps dvs) (h : ∀ f fd, FunD K x x st f fd → FnOk P w K mg base CX k f fd ps sp) : Cal P w K mg base CX k x ps dvs sp :=
  let ⟨f, fd, ds, F, r⟩ := D.ex; ⟨f, fd, ds, h f fd F, r⟩
theorem Met.cal (D : Met K C m qual st ps dvs) (h : ∀ f fd, FunD K m qual st f fd → FnOk P w K mg base CX k f fd ps sp) : CalM P w K mg base CX k C m ps dvs sp :=
  let ⟨f, fd, ds, F, r⟩ := D.ex; ⟨f, fd, ds, h f fd F, r⟩
theorem Ini.cal (D : Ini K mg C x qual st ps) (h : ∀ f fd, FunD K "__init__" qual st f fd → FnOk P w K mg base CX k f fd ps sp) : CalI P w K mg base CX k C x ps sp :=
  let ⟨f, fd, F, r⟩ := D.ex; ⟨f, fd, h f fd F, r⟩
theorem XIni.cal (D : XIni K mg C x qual st ps) (h : ∀ f fd, FunD K "__init__" qual st f fd → FnOk P w K mg base CX k f fd ps sp) : CalXI P w K mg base CX k C x ps sp :=
  let ⟨f, fd, F, r⟩ := D.ex; ⟨f, fd, h f fd F, r⟩
end
/-- calls whose exceptions are wanted by R, by the names' values -/
def tCallR (sp : Sp) (dvs : List V) (R : RK) (t : TA) : TE := fun σ H Q => t σ H fun vs H1 => sp (vs ++ dvs) H1 Q (R σ)
def tMethR (C : Addr) (m : Str) (sp : Sp) (dvs : List V) (R : RK) (ta : TE) (t : TA) : TE := fun σ H Q => ta σ H fun x H1 => ∃ a dx fs, x = .ref a ∧ H1 a = some (.ins C dx fs) ∧ fs.lookup m = none ∧
  t σ H1 fun vs H2 => sp (x :: (vs ++ dvs)) H2 Q (R σ)
section
variable {X : Cx} {CX : CXT} {k : Nat} {C : Addr} {ps : List Str} {sp : Sp} {dvs : List V} {R : RK} {x m : Str} {p pos apos : Pos} {e o : Expr} {es : List Expr} {ta : TE} {t : TA}
/-- where no exception may be -/
theorem px_never : PX X (fun _ _ _ _ => False) := fun _ _ _ _ _ _ _ _ _ _ h => h.elim
/-- the callee runs; it may raise -/
theorem run_fnR {f : Addr} {fd : FuncData} {ds : List Value} {pins : List (Addr × Obj)} {σ : St} {H : Hp} {s : Shared} {Q : VK} {us : List Value} {vs : List V} (F : FnOk X.prog X.w X.K X.mg X.base (CXe X.prog X.w) k f fd ps sp) (hp : PX X R) (hr : Room k X.A)
    (hb : Binds X.K fd ps ds) (hd : Vals dvs ds) (I : Inv X pins σ H s) (r : Vals vs us) (h : sp (vs ++ dvs) H Q (R σ)) : wpAny (model X.prog X.w) X.A (call (.ref f) us) (EP X pins σ Q) X.xe s := by
  have r2 : Vals (vs ++ dvs) (us ++ ds) := r.append hd
  have hl : (us ++ ds).length = ps.length := by rw [← r2.length]; exact F.len _ _ _ _ h
  refine wpAny_call (codeAny_mono (F.run X.A X.stack s H ⟨us, []⟩ (us ++ ds) (vs ++ dvs) Q (R σ) hr I.env0 (hb s us I.kIn hl) r2 h) fun r s' hq => ?_)
  cases r with
  | error e => exact px_call hp pins σ H s e s' I hq
  | ok fl => cases fl <;> first | exact I.after hq | exact False.elim hq
/-- f(e, ..), f lets no exception out -/
theorem pe_cal (c : Cal X.prog X.w X.K X.mg X.base CX0 k x ps dvs sp) (hr : Room k X.A) (hg : Gl X x) (ha : PA X (e :: es) t) (hdb : (x == ("__debug__" : Str)) = false := by decide)
    (he : starEach (e :: es) X.env = (false, eval e X.env) :: starEach es X.env := by rfl) (hpl : (backTo pos (starEach es X.env)).any (·.1) = false := by rfl) : PE X (.Call (.Name x p) (e :: es) [] pos) (tCall sp dvs E0 t) := by
  obtain ⟨f, fd, ds, F, hm, hk, hb, hd⟩ := c.ex
  exact pe_call F hr hg hm hk hb hd pass0 ha hdb he hpl
theorem pe_mcal0 {pl : Sem Bool} (he : PE X o ta) (cl : Cls X.K C) (c : CalM X.prog X.w X.K X.mg X.base CX0 k C m ps dvs sp) (hr : Room k X.A)
    (ht : eval (.Call (.Attribute o m apos) [] [] pos) X.env = (do
      let ov ← eval o X.env
      standAt apos.atName
      let (f, first) ← holding [ov] (getMethod ov m pl)
      callWith pos f first (backTo pos (starEach [] X.env)) (backToKw pos (keywordEach [] X.env))) := by rfl) :
    PE X (.Call (.Attribute o m apos) [] [] pos) (tMeth C m sp dvs E0 ta tNil) := by
  obtain ⟨f, fd, ds, F, hm, hb, hd⟩ := c.ex
  exact pe_meth0 (pl := pl) he cl hm F hr hb hd pass0 ht
theorem pe_mcalX {pl : Sem Bool} (he : PE X o ta) (cl : Cls X.K C) (c : CalM X.prog X.w X.K X.mg X.base (CXe X.prog X.w) k C m ps dvs sp) (hp : PX X R) (hr : Room k X.A) (ha : PA X (e :: es) t)
    (hst : starEach (e :: es) X.env = (false, eval e X.env) :: starEach es X.env := by rfl) (hpl : (backTo pos (starEach es X.env)).any (·.1) = false := by rfl)
    (ht : eval (.Call (.Attribute o m apos) (e :: es) [] pos) X.env = (do
      let ov ← eval o X.env
      standAt apos.atName
      let (f, first) ← holding [ov] (getMethod ov m pl)
      callWith pos f first (backTo pos (starEach (e :: es) X.env)) (backToKw pos (keywordEach [] X.env))) := by rfl) :
    PE X (.Call (.Attribute o m apos) (e :: es) [] pos) (tMethR C m sp dvs R ta t) := by
  obtain ⟨f, fd, ds, F, hm, hb, hd⟩ := c.ex
  intro pins s σ H Q I h
  refine PySem.W.methodCall_KW (pl := pl) (thn (he pins s σ H _ I h) fun u s1 => L2.ex5 fun x H1 I1 rx hq_ => ?_) ht
  obtain ⟨a, dx, fs, ex, ea, l, q⟩ := hq_
  subst ex
  obtain rfl : u = Value.ref a := rx
  refine getmeth_ok I1 ea cl hm l ?_
  refine PySem.W.callWith_K (first := [.ref a]) (h₀ := X.base) I.ok.mod.kin hm.kp (thn (ha pos pins s1 σ H1 _ I1 q) fun us s2 => L2.ex5 fun vs H2 I2 r q2 => ⟨I2.kIn, ?_⟩) hst hpl
  exact run_fnR (us := .ref a :: us) (vs := .ref a :: vs) F hp hr hb hd I2 (.cons rfl r) q2
theorem pe_ical0 (c : CalI X.prog X.w X.K X.mg X.base CX0 k C x ps sp) (hr : Room (k + 1) X.A) (hg : Gl X x) (hdb : (x == ("__debug__" : Str)) = false := by decide) : PE X (.Call (.Name x p) [] [] pos) (tMake C sp [] E0 tNil) := by
  obtain ⟨f, fd, F, M, hm, hb⟩ := c.ex
  exact pe_make0 M F hr hg hm hb .nil pass0 hdb
/-- raise C(..), C with its own __init__ -/
theorem ps_raiseC {np cpos : Pos} (hp : PX X R) (c : CalXI X.prog X.w X.K X.mg X.base CX0 k C x ps sp) (hr : Room (k + 1) X.A) (hg : Gl X x) (ha : PA X (e :: es) t)
    (hdb : (x == ("__debug__" : Str)) = false := by decide) (he : starEach (e :: es) X.env = (false, eval e X.env) :: starEach es X.env := by rfl) (hpl : (backTo cpos (starEach es X.env)).any (·.1) = false := by rfl) :
    PS X (.Raise (some (.Call (.Name x np) (e :: es) [] cpos)) none pos) (sRaiseI C sp [] R t) := by
  obtain ⟨f, fd, F, c', hm, hb⟩ := c.ex
  exact ps_raiseI hp c' F hr hb .nil (fun _ _ _ _ _ _ _ _ z => z.elim) hg hm ha hdb he hpl
/-- a number, a text of the text's top -/
theorem pe_gInt {i : Int} (hg : Gl X x) (hm : ∃ t, X.mg x = some (.int i t)) (hd : (x == ("__debug__" : Str)) = false := by decide) : PE X (.Name x pos) (tC (.int i)) := let ⟨t, h⟩ := hm; pe_glob hg h ⟨t, rfl⟩ hd
theorem pe_gStr {i : Str} (hg : Gl X x) (hm : ∃ t, X.mg x = some (.str i t)) (hd : (x == ("__debug__" : Str)) = false := by decide) : PE X (.Name x pos) (tC (.str i)) := let ⟨t, h⟩ := hm; pe_glob hg h ⟨t, rfl⟩ hd
/-- a type of Python's own, as a value -/
theorem pe_gTy {n : String} (hg : Gl X x) (hm : X.mg x = none) (hv : bootBuiltins x = some (.type n)) (hn : x ≠ "__name__" := by decide) (hd : (x == ("__debug__" : Str)) = false := by decide) : PE X (.Name x pos) (tC (.ty n)) := pe_bltn hg hm hv rfl hn hd
end
end L2

/-! ### walks while an exception is handled: the chain of contexts is one of the things that stay -/
namespace L2
open PySem PySem.Spec PyProof.Rows
def HdC (A : Around) (cs : List Addr) : Prop := (A.handled = none ∧ cs = []) ∨ ∃ a r, cs = a :: r ∧ A.handled = some (.ref a)
theorem Hd.chain {A : Around} {h : Heap} (x : Hd A h) : ∃ cs, HdC A cs ∧ Chn h cs := by
  rcases x with e | ⟨a, cs, e, c⟩
  · exact ⟨[], .inl ⟨e, rfl⟩, List.nodup_nil, fun j a z => by simp at z⟩
  · exact ⟨a :: cs, .inr ⟨a, cs, rfl, e⟩, c⟩
theorem HdC.hd {A : Around} {h : Heap} {cs : List Addr} (x : HdC A cs) (c : Chn h cs) : Hd A h := by
  rcases x with ⟨e, rfl⟩ | ⟨a, r, rfl, e⟩
  · exact .inl e
  · exact .inr ⟨a, r, e, c⟩
theorem Chn.but {h h' : Heap} {cs : List Addr} {it : Addr} (c : Chn h cs) (hI : it ∉ cs) (k : ∀ b o, b ≠ it → h.get? b = some o → h'.get? b = some o) : Chn h' cs :=
  c.mono fun b o hb e => k b o (fun z => hI (z ▸ hb)) e
section
variable {prog : Program} {w : World} {A : Around} {E : Value → Shared → Prop} {s : Shared} {cs : List Addr}
theorem walks_list (hc : HdC A cs) (I ax : Addr) (hne : ax ≠ I) (hI : I ∉ cs) (items : Array Value) :
    Walks prog w A I (I :: ax :: cs) [I] items.size (fun i v => items[i]? = some v) (fun i h => h.IsListIter I ax i ∧ h.IsList ax items ∧ Chn h cs) where
  sub := fun b hb => by simp at hb; simp [hb]
  frame := fun _ _ _ st hk => ⟨st.1.at fun o e => hk I (by simp) o e, st.2.1.at fun o e => hk ax (by simp) o e, st.2.2.mono fun b o hb e => hk b (by simp [hb]) o e⟩
  item := fun i s Q E hi st hQ => by
    refine wpAny_pyNext_list_item st.1 st.2.1 (x := items[i]) (by simp [hi]) fun h' hit' hs' => ?_
    exact hQ _ h' s.toks (by simp [hi]) ⟨hit', st.2.1.extBut hs'.extBut hne, st.2.2.but hI hs'.extBut⟩ fun b o hb e => hs'.extBut b o (fun h => hb (by simp [h])) e
  done := fun s Q E st hQ => list_endH (hc.hd st.2.2) st.1 st.2.1 (by simp) fun h' he' => hQ h' s.toks fun b o hb e => he' b o (fun h => hb (by simp [h])) e
  self := fun _ _ _ _ st hQ => wpAny_pyIter_listiter st.1 hQ

theorem ascii_endH {it : Addr} {x : Str} {t : Tok} {i : Nat} {Q : Option Value → Shared → Prop} (hd : Hd A s.heap) (hit : s.heap.IsStrIter it "str_ascii_iterator" x t i) (hx : x.cps[i]? = none)
    (hQ : ∀ h', Heap.ExtBut it s.heap h' → Q none { s with heap := h' }) : wpAny (model prog w) A (pyNext (.ref it)) Q E s := by
  obtain ⟨o, ho, hc, hdat⟩ := id hit
  unfold pyNext
  refine wpAny_bind (wpAny_attempt (wpAny_callSpecial?_slot (name := Str.ofString "__next__") hit.typeIs F.slot_str_ascii_iterator_next (wpAny_call_entry F.slot_str_ascii_iterator_next hit.typeIs F.entry_str_ascii_iterator_next ?_ (F.args_str_ascii_iterator_next_1 _))))
  refine (show wpAny _ _ (field (.ref it) 0 >>= _) _ _ s from wpAny_bind (wpAny_field ho hdat (x := .str x t) rfl ?_))
  refine (show wpAny _ _ (field (.ref it) 1 >>= _) _ _ s from wpAny_bind (wpAny_field ho hdat (x := .int i 0) rfl ?_))
  simp only [Int.toNat_natCast, hx]
  refine wpAny_bind (wpAny_rule (wpAny_bind (wpAny_setField ho hdat (by simp) (wpAny_bind (wpAny_letGo ?_)))))
  refine stop_hd (A := A.in1) (hd.but ho (fun vs q => .inl (by rw [hdat] at q; cases q; simp)) (Heap.SameBut.update ..).extBut) fun h' e k' ⟨o', e', c'⟩ => ?_
  exact wpAny_bind (wpAny_isInstance (T := "StopIteration") (b := true) ⟨o', e', c'⟩ isSubtype_stop (wpAny_pure (hQ h' fun b q hb hq => k' b q ((Heap.SameBut.update ..).extBut b q hb hq))))
theorem wide_endH {it : Addr} {x : Str} {t : Tok} {i : Nat} {Q : Option Value → Shared → Prop} (hd : Hd A s.heap) (hit : s.heap.IsStrIter it "str_iterator" x t i) (hx : x.cps[i]? = none)
    (hQ : ∀ h', Heap.ExtBut it s.heap h' → Q none { s with heap := h' }) : wpAny (model prog w) A (pyNext (.ref it)) Q E s := by
  obtain ⟨o, ho, hc, hdat⟩ := id hit
  unfold pyNext
  refine wpAny_bind (wpAny_attempt (wpAny_callSpecial?_slot (name := Str.ofString "__next__") hit.typeIs F.slot_str_iterator_next (wpAny_call_entry F.slot_str_iterator_next hit.typeIs F.entry_str_iterator_next ?_ (F.args_str_iterator_next_1 _))))
  refine (show wpAny _ _ (field (.ref it) 0 >>= _) _ _ s from wpAny_bind (wpAny_field ho hdat (x := .str x t) rfl ?_))
  refine (show wpAny _ _ (field (.ref it) 1 >>= _) _ _ s from wpAny_bind (wpAny_field ho hdat (x := .int i 0) rfl ?_))
  simp only [Int.toNat_natCast, hx]
  refine wpAny_bind (wpAny_rule (wpAny_bind (wpAny_setField ho hdat (by simp) (wpAny_bind (wpAny_letGo ?_)))))
  refine stop_hd (A := A.in1) (hd.but ho (fun vs q => .inl (by rw [hdat] at q; cases q; simp)) (Heap.SameBut.update ..).extBut) fun h' e k' ⟨o', e', c'⟩ => ?_
  exact wpAny_bind (wpAny_isInstance (T := "StopIteration") (b := true) ⟨o', e', c'⟩ isSubtype_stop (wpAny_pure (hQ h' fun b q hb hq => k' b q ((Heap.SameBut.update ..).extBut b q hb hq))))
/-- an iterator over a text, at the i-th sign -/
def StrIt (h : Heap) (I : Addr) (x : Str) (t : Tok) (i : Nat) : Prop := h.IsStrIter I "str_ascii_iterator" x t i ∨ h.IsStrIter I "str_iterator" x t i
theorem StrIt.keep {h h' : Heap} {I : Addr} {x : Str} {t : Tok} {i : Nat} (y : StrIt h I x t i) (k : ∀ o, h.get? I = some o → h'.get? I = some o) : StrIt h' I x t i := by
  rcases y with ⟨o, e, r⟩ | ⟨o, e, r⟩
  · exact .inl ⟨o, k o e, r⟩
  · exact .inr ⟨o, k o e, r⟩
theorem str_itemH {it : Addr} {x : Str} {t : Tok} {i c : Nat} {Q : Option Value → Shared → Prop} (hit : StrIt s.heap it x t i) (hx : x.cps[i]? = some c)
    (hQ : ∀ h' u tk, StrIt h' it x t (i + 1) → Heap.SameBut it s.heap h' → Q (some (.str ⟨#[c]⟩ u)) { s with heap := h', toks := tk }) : wpAny (model prog w) A (pyNext (.ref it)) Q E s := by
  rcases hit with y | y
  · exact wpAny_pyNext_ascii_item y hx fun h' y' hs => hQ h' _ _ (.inl y') hs
  · exact wpAny_pyNext_wide_item y hx fun h' y' hs => hQ h' _ _ (.inr y') hs
theorem str_endH {it : Addr} {x : Str} {t : Tok} {i : Nat} {Q : Option Value → Shared → Prop} (hd : Hd A s.heap) (hit : StrIt s.heap it x t i) (hx : x.cps[i]? = none)
    (hQ : ∀ h', Heap.ExtBut it s.heap h' → Q none { s with heap := h' }) : wpAny (model prog w) A (pyNext (.ref it)) Q E s := by
  rcases hit with y | y
  · exact ascii_endH hd y hx hQ
  · exact wide_endH hd y hx hQ

/-- zip of two lists: its end -/
theorem next_endH {it l : Addr} {i : Nat} {items} {Q : Value → Shared → Prop} (hd : Hd A s.heap) (hit : s.heap.IsListIter it l i) (hl : s.heap.IsList l items) (hx : items[i]? = none)
    (hE : ∀ h' e, Heap.ExtBut it s.heap h' → (∃ o, h'.get? e = some o ∧ o.cls = .type "StopIteration") → E (.ref e) { s with heap := h' }) : wpAny (model prog w) A (Builtin.SmallTypes.nextOf (.ref it)) Q E s := by
  obtain ⟨o, ho, hc, hdat⟩ := id hit
  obtain ⟨ol, hol, _, nl, hdl⟩ := hl
  unfold Builtin.SmallTypes.nextOf
  refine wpAny_bind (wpAny_callSpecial?_slot (name := Str.ofString "__next__") hit.typeIs slot_listiter_next (wpAny_call_entry slot_listiter_next hit.typeIs entry_listiter_next ?_ (args_listiter_next _)))
  refine (show wpAny _ _ (field (.ref it) 0 >>= _) _ _ s from wpAny_bind (wpAny_field ho hdat (x := .ref l) rfl ?_))
  refine (show wpAny _ _ (if (Value.ref l == Value.none) = true then _ else _) _ _ s from ?_)
  rw [if_neg (show ¬ ((Value.ref l == Value.none) = true) from Bool.false_ne_true)]
  refine (show wpAny _ _ (field (.ref it) 1 >>= _) _ _ s from wpAny_bind (wpAny_field ho hdat (x := .int i 0) rfl ?_))
  refine (show wpAny _ _ (seqItems? (.ref l) >>= _) _ _ s from wpAny_bind (wpAny_seqItems hol hdl ?_))
  simp only [Int.toNat_natCast, hx]
  refine wpAny_bind (wpAny_rule (wpAny_bind (wpAny_setField ho hdat (by simp) ?_)))
  refine stop_hd (A := A.in1) (hd.but ho (fun vs q => .inl (by rw [hdat] at q; cases q; simp)) (Heap.SameBut.update ..).extBut) fun h' e k' x => hE h' e (fun b q hb hq => k' b q ((Heap.SameBut.update ..).extBut b q hb hq)) x
section
variable {κ : Type} [DecidableEq κ] {knd : KeyKind prog w κ}
theorem dict_endH {it d : Addr} {i ep : Nat} {kvs : List (κ × Value)} {Q : Option Value → Shared → Prop} (hd : Hd A s.heap) (hit : s.heap.IsKeyIter it d i kvs.length ep) (hm : s.heap.DictAt knd d kvs ep) (hx : kvs[i]? = none)
    (hQ : ∀ h', Heap.ExtBut it s.heap h' → Q none { s with heap := h' }) : wpAny (model prog w) A (pyNext (.ref it)) Q E s := by
  obtain ⟨o, ho, hc, hdat⟩ := id hit
  obtain ⟨od, es, hod, hcd, hdd, hk, hp, hn⟩ := id hm
  have hsz : es.size = kvs.length := by rw [← hp.length]; simp
  have hge : es.size ≤ i := by rw [hsz]; simpa using hx
  have hown : Builtin.Dict_items.ownsTuple "dict_keyiterator" = false := by decide
  unfold pyNext
  refine wpAny_bind (wpAny_attempt (wpAny_callSpecial?_slot (name := Str.ofString "__next__") hit.typeIs F.slot_dict_keyiterator_next (wpAny_call_entry F.slot_dict_keyiterator_next hit.typeIs F.entry_dict_keyiterator_next ?_ (F.args_dict_keyiterator_next_1 _))))
  refine wpAny_bind (wpAny_pure (wpAny_bind (wpAny_bind ?_)))
  first | refine wpAny_bind (wpAny_typeNameOfWhole_keyiter hit.typeIs (wpAny_pure (wpAny_bind (wpAny_fieldsOf ho hdat ?_)))) | refine wpAny_bind (wpAny_typeNameOf_keyiter hit.typeIs (wpAny_pure (wpAny_bind (wpAny_fieldsOf ho hdat ?_))))
  simp only [hown, Bool.false_eq_true, if_false]
  show wpAny _ _ (if (Value.ref d == Value.none) = true then _ else _) _ _ s
  rw [if_neg (show ¬ ((Value.ref d == Value.none) = true) from Bool.false_ne_true)]
  refine wpAny_bind (wpAny_pure (wpAny_bind (wpAny_dictEntries hod hdd ?_)))
  rw [if_neg (by rw [hsz]; simp)]
  refine wpAny_bind (wpAny_pure (wpAny_bind (wpAny_dictEpoch hod hdd ?_)))
  rw [if_neg (by simp)]
  refine wpAny_pure ?_
  simp only [show ¬ ((i : Int) < 0) from by omega, if_false, Int.toNat_natCast, Array.getElem?_eq_none hge]
  refine wpAny_bind ?_
  first | refine wpAny_bind (wpAny_typeNameOfWhole_keyiter hit.typeIs (wpAny_pure ?_)) | refine wpAny_bind (wpAny_typeNameOf_keyiter hit.typeIs (wpAny_pure ?_))
  refine (show wpAny _ _ (setField (.ref it) 0 .none >>= _) _ _ s from wpAny_bind (wpAny_setField ho hdat (by simp) ?_))
  refine stop_hd (A := A.in1) (hd.but ho (fun vs q => .inr (by rw [hdat] at q; cases q; simp)) (Heap.SameBut.update ..).extBut) fun h' e k' ⟨o', e', c'⟩ => ?_
  exact wpAny_bind (wpAny_isInstance (T := "StopIteration") (b := true) ⟨o', e', c'⟩ isSubtype_stop (wpAny_pure (hQ h' fun b q hb hq => k' b q ((Heap.SameBut.update ..).extBut b q hb hq))))
theorem walks_keys (hc : HdC A cs) (I d : Addr) (hne : d ≠ I) (hI : I ∉ cs) (kvs : List (κ × Value)) (ep : Nat) :
    Walks prog w A I (I :: d :: cs) [I] kvs.length (fun i v => ∃ k x, kvs[i]? = some (k, x) ∧ knd.is k v = true) (fun i h => h.IsKeyIter I d i kvs.length ep ∧ h.DictAt knd d kvs ep ∧ Chn h cs) where
  sub := fun b hb => by simp at hb; simp [hb]
  frame := fun _ _ _ st hk => ⟨st.1.at fun o e => hk I (by simp) o e, st.2.1.at' fun o e => hk d (by simp) o e, st.2.2.mono fun b o hb e => hk b (by simp [hb]) o e⟩
  item := fun i s Q E hi st hQ => by
    obtain ⟨⟨k, x⟩, hx⟩ : ∃ p, kvs[i]? = some p := ⟨kvs[i], by simp [hi]⟩
    refine wpAny_pyNext_dict_item st.1 st.2.1 hx fun key h' hkey hit' hs' => ?_
    exact hQ key h' s.toks ⟨k, x, hx, hkey⟩ ⟨hit', st.2.1.extBut hs'.extBut hne, st.2.2.but hI hs'.extBut⟩ fun b o hb e => hs'.extBut b o (fun h => hb (by simp [h])) e
  done := fun s Q E st hQ => dict_endH (hc.hd st.2.2) st.1 st.2.1 (by simp) fun h' he' => hQ h' s.toks fun b o hb e => he' b o (fun h => hb (by simp [h])) e
  self := fun _ _ _ _ st hQ => wpAny_pyIter_keyiter st.1 hQ
theorem items_endH {it d : Addr} {i ep : Nat} {kvs : List (κ × Value)} {ok ov : Value} {Q : Option Value → Shared → Prop} (hc : HdC A cs) (c : Chn s.heap cs) (hI : it ∉ cs) (hit : IsItemIter s.heap it d i kvs.length ep ok ov) (hm : s.heap.DictAt knd d kvs ep) (hx : kvs[i]? = none)
    (hQ : ∀ h', Heap.ExtBut it s.heap h' → Q none { s with heap := h' }) : wpAny (model prog w) A (pyNext (.ref it)) Q E s := by
  obtain ⟨od, es, hod, hcd, hdd, hk, hp, hn⟩ := id hm
  have hT : s.TypeIs (.ref it) "dict_itemiterator" := ⟨_, hit, rfl⟩
  have hsz : es.size = kvs.length := by rw [← hp.length]; simp
  have hge : es.size ≤ i := by rw [hsz]; simpa using hx
  have hown : Builtin.Dict_items.ownsTuple "dict_itemiterator" = true := by decide
  unfold pyNext
  refine wpAny_bind (wpAny_attempt (wpAny_callSpecial?_slot (name := Str.ofString "__next__") hT F.slot_dict_itemiterator_next (wpAny_call_entry F.slot_dict_itemiterator_next hT F.entry_dict_itemiterator_next ?_ (F.args_dict_itemiterator_next_1 _))))
  refine wpAny_bind (wpAny_pure (wpAny_bind (wpAny_bind ?_)))
  first | refine wpAny_bind (wpAny_typeNameOfWhole_itemiter hT (wpAny_pure (wpAny_bind (wpAny_fieldsOf hit rfl ?_)))) | refine wpAny_bind (wpAny_typeNameOf_itemiter hT (wpAny_pure (wpAny_bind (wpAny_fieldsOf hit rfl ?_))))
  simp only [hown, if_true]
  show wpAny _ _ (if (Value.ref d == Value.none) = true then _ else _) _ _ s
  rw [if_neg (show ¬ ((Value.ref d == Value.none) = true) from Bool.false_ne_true)]
  refine wpAny_bind (wpAny_pure (wpAny_bind (wpAny_dictEntries hod hdd ?_)))
  rw [if_neg (by rw [hsz]; simp)]
  refine wpAny_bind (wpAny_pure (wpAny_bind (wpAny_dictEpoch hod hdd ?_)))
  rw [if_neg (by simp)]
  refine wpAny_pure ?_
  simp only [show ¬ ((i : Int) < 0) from by omega, if_false, Int.toNat_natCast, Array.getElem?_eq_none hge]
  refine wpAny_bind ?_
  first | refine wpAny_bind (wpAny_typeNameOfWhole_itemiter hT (wpAny_pure ?_)) | refine wpAny_bind (wpAny_typeNameOf_itemiter hT (wpAny_pure ?_))
  refine (show wpAny _ _ (setField (.ref it) 2 .none >>= _) _ _ s from wpAny_bind (wpAny_setField hit rfl (by simp) ?_))
  refine stop_hd (A := A.in1) (HdC.hd (A := A.in1) hc (c.but hI (Heap.SameBut.update ..).extBut)) fun h' e k' ⟨o', e', c'⟩ => ?_
  exact wpAny_bind (wpAny_isInstance (T := "StopIteration") (b := true) ⟨o', e', c'⟩ isSubtype_stop (wpAny_pure (hQ h' fun b q hb hq => k' b q ((Heap.SameBut.update ..).extBut b q hb hq))))
/-- list(d) -/
theorem lookup_dict_len : typeLookup (.type "dict") "__len__" = pure (some (.builtin "dict.__len__")) := by rw [typeLookup_type, builtinLookup_eq_fast]; kernel_rfl
theorem extend_dict {R : Result → Shared → Prop} (hc : HdC A cs) {d S : Addr} {kvs : List (κ × Value)} {ep c₀ : Nat} {res : Value} (hd : (d == sysModules) = false) (hm : s.heap.DictAt knd d kvs ep) (c : Chn s.heap cs) (hS : s.heap.get? S = some { cls := .type "list", data := .seq #[] c₀ }) (hSd : S ≠ d) (hSc : S ∉ cs) (hn : kvs.length ≤ sizeLine)
    (hR : ∀ s' acc c', Moved (S :: [s.heap.objs.size]) (fun a b => b = a) s s' → s'.heap.get? S = some { cls := .type "list", dict := none, data := .seq acc c', slots := #[] } → ItemsOf (fun i v => ∃ k x, kvs[i]? = some (k, x) ∧ knd.is k v = true) acc kvs.length → R (.ok (.ret res)) s') :
    wpAny (model prog w) A.in1 (Builtin.List.listExtendWith (.ref S) (.ref d) res) (fun fin s' => match fin with | .done f => R (.ok f) s' | .again c' => c'.quiet = true ∧ codeAny (model prog w) A c' R s') (fun e s' => R (.error e) s') s := by
  have hT : s.TypeIs (.ref d) "dict" := hm.dictOf.typeIs
  have h1 : Builtin.List.listSameRef (.ref S) (.ref d) = false := by simp [Builtin.List.listSameRef, hSd]
  unfold Builtin.List.listExtendWith
  refine wpAny_bind (wpAny_typeOf hT ?_)
  rw [if_neg (by rw [h1]; decide)]
  refine wpAny_bind (wpAny_pyIter_dict hd hm ?_)
  have m1 := hm.push { cls := .type "dict_keyiterator", data := .fields #[.ref d, .int 0 0, .int kvs.length 0, .int ep 0] }
  have hT1 : Shared.TypeIs { s with heap := s.heap.push { cls := .type "dict_keyiterator", data := .fields #[.ref d, .int 0 0, .int kvs.length 0, .int ep 0] } } (.ref d) "dict" := m1.dictOf.typeIs
  refine wpAny_bind (wpAny_holding ?_)
  unfold Builtin.List.listLengthHint
  refine wpAny_bind (wpAny_specialOf hT1 lookup_dict_len ?_)
  generalize hid : ("dict.__len__" : String) = id0
  wp_delta
  rw [show splitId id0 = some ("dict", "__len__") from by subst hid; decide +kernel]
  subst hid
  refine wpAny_bind (wpAny_isInstance (b := true) hT1 (by rw [isSubtype_type]; kernel_rfl) ?_)
  simp only [Bool.not_true, Bool.false_eq_true, if_false]
  rw [if_pos (by decide +kernel)]
  refine wpAny_bind (wpAny_typeOf hT1 (wpAny_pure ?_))
  rw [if_pos (by decide +kernel)]
  refine wpAny_bind (wpAny_rule (wpAny_bind ?_))
  have hlt : S < s.heap.objs.size := Heap.lt_size hS
  have hSI : S ≠ s.heap.objs.size := Nat.ne_of_lt hlt
  have hdI : d ≠ s.heap.objs.size := Nat.ne_of_lt hm.lt_size
  have hIc : s.heap.objs.size ∉ cs := fun z => Nat.lt_irrefl _ (c.lt _ z)
  have hS1 := Heap.get?_push_of_some { cls := .type "dict_keyiterator", data := .fields #[.ref d, .int 0 0, .int kvs.length 0, .int ep 0] } hS
  refine (show wpAny _ A.in1 (updateSeq S (·.push .none) >>= fun _ => updateSeq S (·.pop)) _ _ _ from wpAny_bind (wpAny_updateSeq hS1 rfl ?_))
  have hS2 := Heap.get?_update_self (Obj.mapSeq (·.push Value.none)) hS1 rfl
  refine wpAny_updateSeq (hz := by seq_fits) hS2 rfl ?_
  have hS3 := Heap.get?_update_self (Obj.mapSeq (·.pop)) hS2 rfl
  generalize hG : ((s.heap.push { cls := .type "dict_keyiterator", data := .fields #[.ref d, .int 0 0, .int kvs.length 0, .int ep 0] }).update S (Obj.mapSeq (·.push Value.none))).update S (Obj.mapSeq (·.pop)) = G at hS3
  have oth : ∀ b o, b ≠ S → (s.heap.push { cls := .type "dict_keyiterator", data := .fields #[.ref d, .int 0 0, .int kvs.length 0, .int ep 0] }).get? b = some o → G.get? b = some o := fun b o hb e => by
    rw [← hG]; exact (Heap.get?_update_other _ _ (Ne.symm hb)).trans ((Heap.get?_update_other _ _ (Ne.symm hb)).trans e)
  have W := (walks_keys (prog := prog) (w := w) (knd := knd) (A := A.in1) hc s.heap.objs.size d hdI hIc kvs ep).toS
  have it0 : G.IsKeyIter s.heap.objs.size d 0 kvs.length ep := ⟨_, oth _ _ (Ne.symm hSI) (Heap.get?_push_size _ rfl), rfl, rfl⟩
  have d0 : G.DictAt knd d kvs ep := m1.at' fun o e => oth d o (Ne.symm hSd) e
  have c0 : Chn G cs := c.mono fun b o hb e => oth b o (fun z => hSc (z ▸ hb)) (Heap.get?_push_of_some _ e)
  have hSf : S ∉ s.heap.objs.size :: d :: cs := by simp [hSI, hSd, hSc]
  refine wpAny_pure ⟨plainId_quiet F.plain_extend_loop _, codeAny_extend_loopS W hn S hSf res kvs.length 0 _ _ _ rfl (Nat.zero_le _) ⟨it0, d0, c0⟩ hS3 (ItemsOf.nil _) fun s' acc' c' hm' hS' hacc => ?_⟩
  have mv0 : Moved (S :: [s.heap.objs.size]) (fun a b => b = a) s { s with heap := G } := ⟨fun b o hb e => oth b o (fun z => hb (List.mem_cons.mpr (.inl z))) (Heap.get?_push_of_some _ e), rfl, rfl, rfl, Nat.le_refl _⟩
  exact hR s' acc' c' (Moved.trans (fun _ _ _ h1 h2 => h2.trans h1) mv0 hm') hS' hacc
theorem call_list_dict {Q : Value → Shared → Prop} (hc : HdC A cs) {d : Addr} {kvs : List (κ × Value)} {ep : Nat} (hd : (d == sysModules) = false) (hm : s.heap.DictAt knd d kvs ep) (c : Chn s.heap cs) (hn : kvs.length ≤ sizeLine)
    (hQ : ∀ s' acc c', (∀ b o, s.heap.get? b = some o → s'.heap.get? b = some o) → s'.gens = s.gens → s'.drawn = s.drawn → s'.os = s.os → s'.heap.get? s.heap.objs.size = some { cls := .type "list", dict := none, data := .seq acc c', slots := #[] } →
      ItemsOf (fun i v => ∃ k x, kvs[i]? = some (k, x) ∧ knd.is k v = true) acc kvs.length → Q (.ref s.heap.objs.size) s') : wpAny (model prog w) A (call (.type "list") [.ref d]) Q E s := by
  refine callType_codes (Q₁ := fun obj s₁ => obj = .ref s.heap.objs.size ∧ s₁ = { s with heap := s.heap.push { cls := .type "list", data := .seq #[] } }) F.called_list (F.typeCall_list_1 _) F.entry_list_init (code_list_new _ ⟨rfl, rfl⟩) fun obj s₁ h₁ => ?_
  obtain ⟨rfl, rfl⟩ := h₁
  have hS : (s.heap.push { cls := .type "list", data := .seq #[] }).get? s.heap.objs.size = some { cls := .type "list", data := .seq #[] } := Heap.get?_push_size _ rfl
  have hdI : s.heap.objs.size ≠ d := Ne.symm (Nat.ne_of_lt hm.lt_size)
  have hIc : s.heap.objs.size ∉ cs := fun z => Nat.lt_irrefl _ (c.lt _ z)
  refine ⟨⟨_, hS, rfl⟩, F.args_list_init_2 _ _, ?_⟩
  refine (show wpAny _ A.in1.in1 (do let old ← Builtin.List.listItems (.ref s.heap.objs.size); Builtin.List.listUpdate (.ref s.heap.objs.size) (fun _ => #[]); letGo old.toList.reverse; Builtin.List.listExtendWith (.ref s.heap.objs.size) (.ref d) .none) _ _ _ from wpAny_bind ?_)
  unfold Builtin.List.listItems
  refine wpAny_bind (wpAny_seqItems hS rfl (wpAny_pure ?_))
  refine (show wpAny _ A.in1.in1 (updateSeq s.heap.objs.size (fun _ => #[]) >>= fun _ => letGo (#[] : Array Value).toList.reverse >>= fun _ => Builtin.List.listExtendWith (.ref s.heap.objs.size) (.ref d) .none) _ _ _ from wpAny_bind (wpAny_updateSeq hS rfl (wpAny_bind (wpAny_letGo ?_))))
  have hS2 := Heap.get?_update_self (Obj.mapSeq (fun _ => (#[] : Array Value))) hS rfl
  have oth : ∀ b o, s.heap.get? b = some o → ((s.heap.push { cls := .type "list", data := .seq #[] }).update s.heap.objs.size (Obj.mapSeq (fun _ => (#[] : Array Value)))).get? b = some o := fun b o e =>
    (Heap.get?_update_other _ _ (Ne.symm (Nat.ne_of_lt (Heap.lt_size e)))).trans (Heap.get?_push_of_some _ e)
  have sz : ((s.heap.push { cls := .type "list", data := .seq #[] }).update s.heap.objs.size (Obj.mapSeq (fun _ => (#[] : Array Value)))).objs.size = s.heap.objs.size + 1 := by rw [Heap.size_update, Heap.size_push]
  refine extend_dict (A := A.in1) hc hd (hm.at' fun o e => oth d o e) (c.mono fun b o _ e => oth b o e) hS2 hdI hIc hn fun s' acc c' mv hS' hacc => ⟨rfl, ?_⟩
  refine hQ s' acc c' (fun b o e => mv.heap b o (fun z => ?_) (oth b o e)) mv.gens mv.drawn mv.os hS' hacc
  have lt := Heap.lt_size e
  simp only [List.mem_cons, List.not_mem_nil, or_false] at z
  rcases z with z | z
  · exact absurd lt (by rw [z]; exact Nat.lt_irrefl _)
  · exact absurd lt (by rw [z, sz]; exact Nat.not_lt.mpr (Nat.le_succ _))
end
end
end L2

/-! ### walking texts, two lists at once, a dict's pairs; all, any, list(d), slices of texts -/
namespace L2
open PySem PySem.Spec PyProof.Rows
/-- the signs of a text -/
def Its (x : Str) : It := ⟨fun i _ => i < x.cps.size, fun i H v H' => H' = H ∧ ∃ c, x.cps[i]? = some c ∧ v = .str ⟨#[c]⟩, fun i _ => x.cps.size ≤ i⟩
theorem turn_str {P : Program} {w : World} {K : PySem.W.Frag} {tg : Expr} (x : Str) (t : Tok) (it : Addr) : Turn P w K tg (Its x) [it] it (fun i h => StrIt h it x t i) where
  mem := by simp
  obj := fun i h st b hb => by
    have e : b = it := by simpa using hb
    subst e
    rcases st with ⟨o, e, c, d⟩ | ⟨o, e, c, d⟩ <;> exact ⟨o, e, fun v z => by rw [d] at z; cases z⟩
  keep := fun i h h' st k => st.keep fun o e => k it (by simp) o e
  item := by
    intro X hP hw hK hc i pins s σ H E I hf st hg
    subst hP hw hK
    obtain ⟨f0, f1, f2, f3, f4, f5⟩ := hf it (by simp)
    have hg' : i < x.cps.size := hg
    have hx : x.cps[i]? = some x.cps[i] := by simp [hg']
    refine str_itemH st hx fun h' u tk st' sb => ?_
    have I1 : Inv X pins σ H { s with heap := h', toks := tk } := I.turned (fun b o hb e => (sb.2 b hb).trans e) f0 f1 f3 f4 f5
    rcases id st' with ⟨o, e, c, d⟩ | ⟨o, e, c, d⟩
    · exact ⟨_, rfl, go_of (s := { s with heap := h', toks := tk }) e c d (by decide) ⟨.str ⟨#[x.cps[i]]⟩, H, I1, ⟨u, rfl⟩, ⟨rfl, _, hx, rfl⟩, st', fun b hb => (hf b hb).1⟩⟩
    · exact ⟨_, rfl, go_of (s := { s with heap := h', toks := tk }) e c d (by decide) ⟨.str ⟨#[x.cps[i]]⟩, H, I1, ⟨u, rfl⟩, ⟨rfl, _, hx, rfl⟩, st', fun b hb => (hf b hb).1⟩⟩
  done := by
    intro X hP hw hK hc i pins s σ H E I hf st hg
    subst hP hw hK
    obtain ⟨f0, f1, f2, f3, f4, f5⟩ := hf it (by simp)
    exact str_endH I.hd st (Array.getElem?_eq_none hg) fun h' eb => ⟨rfl, I.turned (t' := s.toks) (fun b o hb e => eb b o hb e) f0 f1 f3 f4 f5⟩
  self := fun _ _ _ _ _ st h => by
    rcases st with y | y
    · exact wpAny_pyIter_striter_ascii y h
    · exact wpAny_pyIter_striter_wide y h
def iStr (tl : TE) : TI := fun σ H R => tl σ H fun x H1 => ∃ z, x = .str z ∧ R (Its z) H1
section
variable {X : Cx} {tg : Expr}
theorem pi_str {l : Expr} {tl : TE} (hl : PE X l tl) : PI X tg l (iStr tl) := by
  intro pins s σ H R I h
  refine thn (hl pins s σ H _ I h) fun v s1 => L2.ex5 fun x H1 I1 r1 hq_ => ?_
  obtain ⟨z, e, q⟩ := hq_
  subst e
  obtain ⟨t, rfl⟩ := r1
  have fin : ∀ ob : Obj, StrIt (s1.heap.push ob) s1.heap.objs.size z t 0 → PIE X pins σ tg R (.ref s1.heap.objs.size) { s1 with heap := s1.heap.push ob } := fun ob st =>
    ⟨s1.heap.objs.size, [s1.heap.objs.size], _, Its z, H1, rfl, I1.kept (t' := s1.toks) fun b o e => Heap.get?_push_of_some _ e, turn_str z t _, st, fun b hb => by
      have e : b = s1.heap.objs.size := by simpa using hb
      subst e
      exact I1.fpOk (Nat.le_refl _) (I1.hok.fresh (Nat.le_refl _)), q⟩
  cases ha : z.cps.all (· < 128)
  · exact wpAny_pyIter_wide ha (fin _ (.inr ⟨_, Heap.get?_push_size _ rfl, rfl, rfl⟩))
  · exact wpAny_pyIter_ascii ha (fin _ (.inl ⟨_, Heap.get?_push_size _ rfl, rfl, rfl⟩))
end
section
variable {g : TG} {tt : TT} {te : TE}
theorem comp_str {x : Str} {D : Addr} {τ : St} {H : Hp} {Q : VK} (Pv : Nat → St → Hp → Prop) (h0 : Pv 0 τ H)
    (hs : ∀ i c τ H, x.cps[i]? = some c → Pv i τ H → g (.str ⟨#[c]⟩) τ H fun τ2 H2 => tt τ2 H2 fun b H3 =>
      if b = true then te τ2 H3 fun y H4 => ∃ ys, H4 D = some (.lst ys) ∧ ys.length < sizeLine ∧ Pv (i + 1) τ2 (upd H4 D (.lst (ys ++ [y]))) else Pv (i + 1) τ2 H3)
    (hd : ∀ τ H, Pv x.cps.size τ H → Q (.ref D) H) : CompW (Its x) D τ H g tt te Q := by
  refine ⟨fun i m τ H => m = x.cps.size - i ∧ i ≤ x.cps.size ∧ Pv i τ H, ⟨x.cps.size, by simp, Nat.zero_le _, h0⟩, ?_⟩
  rintro i m τ H ⟨rfl, hi, p⟩
  by_cases hlt : i < x.cps.size
  · refine .inr ⟨hlt, Pv (i + 1), fun τ' H' p' => ⟨x.cps.size - (i + 1), by omega, rfl, hlt, p'⟩, fun v H' y => ?_⟩
    obtain ⟨e, c, hc, ev⟩ := y
    subst e ev
    exact hs i c τ _ hc p
  · have e : i = x.cps.size := by omega
    subst e
    exact .inl ⟨Nat.le_refl _, hd τ H p⟩
end
/-! zip of two lists -/
def Itz (K : PySem.W.Frag) (l1 l2 : Addr) : It :=
  ⟨fun i H => ∃ xs ys x y, SqL K H l1 xs ∧ SqL K H l2 ys ∧ xs[i]? = some x ∧ ys[i]? = some y,
   fun i H v H' => ∃ T x y, v = .ref T ∧ H T = none ∧ H' = upd H T (.tup [x, y]) ∧ (∀ xs, SqL K H l1 xs → xs[i]? = some x) ∧ ∀ ys, SqL K H l2 ys → ys[i]? = some y,
   fun i H => ∃ xs ys, SqL K H l1 xs ∧ SqL K H l2 ys ∧ (xs.length ≤ i ∨ ys.length ≤ i)⟩
def ZipIt (h : Heap) (z TI TO i1 i2 l1 l2 : Addr) (i : Nat) : Prop := IsZip h z TI TO .none ∧ IsPair h TI (.ref i1) (.ref i2) ∧ (∃ a b, IsPair h TO a b) ∧ h.IsListIter i1 l1 i ∧ h.IsListIter i2 l2 i
def iZip (K : PySem.W.Frag) (ta : TA) : TI := fun σ H R => ta σ H fun vs H1 => ∃ l1 l2, vs = [.ref l1, .ref l2] ∧ (∃ xs, SqL K H1 l1 xs) ∧ (∃ ys, SqL K H1 l2 ys) ∧ R (Itz K l1 l2) H1
section
variable {X : Cx}
/-! freezing a dict, and letting it go -/
theorem Inv.freeze {pins : List (Addr × Obj)} {σ : St} {H : Hp} {s : Shared} {d : Addr} {kvs : List (Key × V)} {o : Obj} (I : Inv X pins σ H s) (e : H d = some (.dK kvs)) (ho : s.heap.get? d = some o) : Inv X pins σ (upd H d (.frz o (.dK kvs))) s := by
  have ne : ∀ b u, H b = some u → u ≠ .dK kvs → b ≠ d := fun b u q n z => by rw [z, e] at q; cases q; exact n rfl
  have kp : ∀ b u, H b = some u → u ≠ .dK kvs → upd H d (.frz o (.dK kvs)) b = some u := fun b u q n => by rw [upd_ne (ne b u q n)]; exact q
  refine I.un (h' := s.heap) (t' := s.toks) ⟨fun b _ q _ _ _ => q, fun b ob q _ _ _ => ⟨ob.slots, q⟩, fun b ob q n _ => ?_, fun b ob q _ => ⟨ob, q⟩, fun b xs q => kp b _ q (by intro z; cases z), fun b ob u q => kp b _ q (by intro z; cases z), fun b ps q => ⟨#[], by rw [kp b _ q (by intro z; cases z)]; simp⟩⟩ fun b u q => ?_
  · rw [upd_ne (fun z => by rw [z, e] at n; cases n)]; exact n
  · by_cases hb : b = d
    · subst hb
      rw [upd_same] at q; cases q
      exact ⟨ho, (I.hok _ _ e)⟩
    · rw [upd_ne hb] at q
      exact (I.hok b u q).stay (fun c v _ r => r) (fun c r => kp c _ r (by intro z; cases z)) fun c xs r => kp c _ r (by intro z; cases z)
theorem Inv.thaw {pins : List (Addr × Obj)} {σ : St} {H : Hp} {s : Shared} {d : Addr} {kvs : List (Key × V)} {o : Obj} (I : Inv X pins σ H s) (hX : ∀ o u, X.H₀ d ≠ some (.frz o u)) (e : H d = some (.frz o (.dK kvs))) : Inv X pins σ (upd H d (.dK kvs)) s := by
  have ne : ∀ b u, H b = some u → (∀ o v, u ≠ .frz o v) → b ≠ d := fun b u q n z => by rw [z, e] at q; cases q; exact n _ _ rfl
  have kp : ∀ b u, H b = some u → (∀ o v, u ≠ .frz o v) → upd H d (.dK kvs) b = some u := fun b u q n => by rw [upd_ne (ne b u q n)]; exact q
  have nn : ∀ b, H b = none → upd H d (.dK kvs) b = none := fun b q => by rw [upd_ne (fun z => by rw [z, e] at q; cases q)]; exact q
  have un : Un X.fs X.ex X.H₀ (upd H d (.dK kvs)) X.s₀.heap s.heap := by
    obtain ⟨b1, b2, b3, b4, b5, b6, b7⟩ := I.base
    refine ⟨b1, b2, fun b ob q n x => nn b (b3 b ob q n x), b4, fun b xs q => kp b _ (b5 b xs q) (by intro _ _ z; cases z), fun b ob u q => ?_, fun b ps q => ?_⟩
    · rw [upd_ne (fun z => hX ob u (by rw [← z]; exact q))]; exact b6 b ob u q
    · obtain ⟨m, q'⟩ := b7 b ps q
      exact ⟨m, kp b _ q' (by intro _ _ z; cases z)⟩
  refine { I with base := un, free := nn _ I.free, freeC := fun x c q => nn _ (I.freeC x c q), pin := fun p hp => ?_, hok := fun b u q => ?_ }
  · obtain ⟨p1, p2, p3⟩ := I.pin p hp
    exact ⟨p1, nn _ p2, p3⟩
  · by_cases hb : b = d
    · subst hb
      rw [upd_same] at q; cases q
      exact (I.hok _ _ e).2
    · rw [upd_ne hb] at q
      exact (I.hok b u q).stay (fun c v _ r => r) (fun c r => kp c _ r (by intro _ _ z; cases z)) fun c xs r => kp c _ r (by intro _ _ z; cases z)
theorem Inv.notFrz {pins : List (Addr × Obj)} {σ : St} {H : Hp} {s : Shared} {d : Addr} {kvs : List (Key × V)} (I : Inv X pins σ H s) (e : H d = some (.dK kvs)) : ∀ o u, X.H₀ d ≠ some (.frz o u) := fun o u q => by
  have := I.base.frzs d o u q
  rw [e] at this; cases this
/-- an expression that freezes the dict at d meanwhile -/
def tThaw (t : TE) : TE := fun σ H Q => ∃ d kvs, H d = some (.dK kvs) ∧ t σ H fun v H1 => ∃ o, H1 d = some (.frz o (.dK kvs)) ∧ Q v (upd H1 d (.dK kvs))
theorem pe_thaw {e : Expr} {t : TE} (h : PE X e t) : PE X e (tThaw t) := by
  intro pins s σ H Q I q
  obtain ⟨d, kvs, hd, q⟩ := q
  exact thn (h pins s σ H _ I q) fun u s1 ⟨x, H1, I1, r, o, e1, q1⟩ => ⟨x, _, I1.thaw (I.notFrz hd) e1, r, q1⟩
/-! a dict's pairs -/
/-- the view d.items() -/
def ViewO (v d : Addr) : HO := .ext fun h => h.IsItemsView v d
def rItems : V → List V → Hp → VK → Prop := fun x vs H Q => ∃ d kvs, x = .ref d ∧ vs = [] ∧ H d = some (.dK kvs) ∧ ∀ v, H v = none → Q (.ref v) (upd H v (ViewO v d))
theorem mt_items : MtR X "dict.items" rItems := by
  intro pins s σ H x xs v us Q I rx r h
  obtain ⟨d, kvs, rfl, rfl, e, q⟩ := h
  obtain rfl : v = Value.ref d := rx
  cases r
  obtain ⟨z, hd, vs, rel, dd⟩ := dk_of I.hok e
  refine call_meetsIn PySem.F.slot_dict_items dd.typeIs PySem.F.entry_dict_items (PySem.F.args_dict_items_1 _) (meets_dict_items (mixKind X.prog X.w) d hd) ⟨⟨vs, dd⟩, ?_⟩
  refine ⟨.ref s.heap.objs.size, _, I.laid (t' := s.toks) (o := ViewO s.heap.objs.size d) (fun b ob q => Heap.get?_push_of_some _ q) (Nat.le_refl _) ?_, rfl, q _ (I.hok.fresh (Nat.le_refl _))⟩
  exact ⟨⟨_, Heap.get?_push_size _ rfl, rfl, rfl⟩, ⟨_, Heap.get?_push_size _ rfl⟩, fun h1 h2 ⟨o, a, r⟩ k => ⟨o, k o a, r⟩⟩
end
def Iti (d : Addr) (o : Obj) (kvs : List (Key × V)) : It :=
  ⟨fun i H => H d = some (.frz o (.dK kvs)) ∧ i < kvs.length, fun i H v H' => ∃ T k x, v = .ref T ∧ H T = none ∧ kvs[i]? = some (k, x) ∧ H' = upd H T (.tup [kV k, x]), fun i H => H d = some (.frz o (.dK kvs)) ∧ kvs.length ≤ i⟩
def ItemIt (h : Heap) (it d : Addr) (o : Obj) (n i : Nat) : Prop := ∃ es ep ok ov, o.data = .dict es ep ∧ IsItemIter h it d i n ep ok ov
theorem kV_of {P : Program} {w : World} {k : Key} {u : Value} (h : (mixKind P w).is k u = true) : RelV (kV k) u := by
  rcases keyIs_shape (show keyIs k u = true from h) with ⟨i, t, rfl, rfl⟩ | ⟨x, t, rfl, rfl⟩
  · exact ⟨t, rfl⟩
  · exact ⟨t, rfl⟩
theorem KV.get {kvs : List (Key × V)} {vs : List (Key × Value)} (r : KV kvs vs) : ∀ {i : Nat} {k : Key} {x : V}, kvs[i]? = some (k, x) → ∃ u, vs[i]? = some (k, u) ∧ RelV x u := by
  induction r with
  | nil => intro i k x e; simp at e
  | @cons p q l1 l2 h t ih =>
    intro i k x e
    cases i with
    | zero =>
      simp at e
      subst e
      exact ⟨q.2, by simp only [List.getElem?_cons_zero, Option.some.injEq]; exact Prod.ext h.1.symm rfl, h.2⟩
    | succ i => exact ih (by simpa using e)
theorem entry_itemiter_iter : entryFor table "dict_itemiterator.__iter__" = some Builtin.«dict_keyiterator.__iter__» := entryFor_alias (id' := "dict_keyiterator.__iter__") (by kernel_rfl) rfl (by decide +kernel) (by kernel_rfl)
theorem turn_items {P : Program} {w : World} {K : PySem.W.Frag} {es : List Expr} {k : Nat} {pos : Pos} {it d : Addr} {o : Obj} {kvs : List (Key × V)} : Turn P w K (.Tuple es k pos) (Iti d o kvs) [it] it (fun i h => ItemIt h it d o kvs.length i) where
  mem := by simp
  obj := fun i h st b hb => by
    have e : b = it := by simpa using hb
    subst e
    obtain ⟨_, _, _, _, _, e⟩ := st
    exact ⟨_, e, fun v q => by simp at q⟩
  keep := fun i h h' st kk => by
    obtain ⟨a, b, c, e, q, y⟩ := st
    exact ⟨a, b, c, e, q, kk it (by simp) _ y⟩
  item := by
    intro X hP hw hK hc i pins s σ H E I hf st hg
    subst hP hw hK
    obtain ⟨hd, hlt⟩ := hg
    obtain ⟨es', ep, ok, ov, hdat, hit⟩ := st
    obtain ⟨f0, f1, f2, f3, f4, f5⟩ := hf it (by simp)
    obtain ⟨ho, hdk⟩ := I.hok _ _ hd
    obtain ⟨z, hsm, vs, rel, ⟨o', es2, ep2, ho2, hx2, hd2, r2⟩⟩ := hdk
    rw [ho] at ho2; cases ho2
    rw [hdat] at hd2; cases hd2
    have dat : s.heap.DictAt (mixKind X.prog X.w) d vs ep := ⟨o, es', ho, hx2, hdat, r2⟩
    obtain ⟨⟨kk, x⟩, hx⟩ : ∃ p, kvs[i]? = some p := ⟨kvs[i], by simp [hlt]⟩
    obtain ⟨u, hu, ru⟩ := rel.get hx
    have hlen : kvs.length = vs.length := rel.length
    rw [hlen] at hit
    refine wpAny_pyNext_items_item hit dat hu fun key h' hkey a1 a2 a3 hkp => ⟨_, rfl, ?_⟩
    refine wpAny_letOwnedTupleGo_items (s := { s with heap := h' }) a1 fun h'' hit' hs' => ?_
    have hTn : H s.heap.objs.size = none := I.hok.fresh (Nat.le_refl _)
    have nT : s.heap.objs.size ≠ it := Ne.symm (Nat.ne_of_lt (Heap.lt_size hit))
    have I1 : Inv X pins σ (upd H s.heap.objs.size (.tup [kV kk, x])) { s with heap := s.heap.push { cls := .type "tuple", data := .seq #[key, u] } } :=
      I.laid (t' := s.toks) (fun b o e => Heap.get?_push_of_some _ e) (Nat.le_refl _) ⟨by show 2 ≤ sizeLine; decide, [key, u], .cons (kV_of hkey) (.cons ru .nil), ⟨_, Heap.get?_push_size _ rfl, rfl, _, rfl⟩⟩
    have f0' : upd H s.heap.objs.size (.tup [kV kk, x]) it = none := by rw [upd_ne (Ne.symm nT)]; exact f0
    have I2 : Inv X pins σ (upd H s.heap.objs.size (.tup [kV kk, x])) { s with heap := h'' } := I1.turned (t' := s.toks) (fun b ob hb e => by
      rcases Heap.get?_push_cases e with ⟨rfl, rfl⟩ | e
      · exact hs'.extBut _ _ hb a2
      · exact hs'.extBut _ _ hb (hkp b ob hb e)) f0' f1 f3 f4 f5
    refine ⟨.ref s.heap.objs.size, _, I2, rfl, ⟨_, kk, x, rfl, hTn, hx, rfl⟩, ⟨es', ep, key, u, hdat, by rw [hlen]; exact hit'⟩, fun b hb => ?_⟩
    have e : b = it := by simpa using hb
    subst e
    exact f0'
  done := by
    intro X hP hw hK hc i pins s σ H E I hf st hg
    subst hP hw hK
    obtain ⟨hd, hge⟩ := hg
    obtain ⟨es', ep, ok, ov, hdat, hit⟩ := st
    obtain ⟨f0, f1, f2, f3, f4, f5⟩ := hf it (by simp)
    obtain ⟨ho, hdk⟩ := I.hok _ _ hd
    obtain ⟨z, hsm, vs, rel, ⟨o', es2, ep2, ho2, hx2, hd2, r2⟩⟩ := hdk
    rw [ho] at ho2; cases ho2
    rw [hdat] at hd2; cases hd2
    have dat : s.heap.DictAt (mixKind X.prog X.w) d vs ep := ⟨o, es', ho, hx2, hdat, r2⟩
    have hlen : kvs.length = vs.length := rel.length
    rw [hlen] at hit
    have nc : ∃ cs, HdC X.A cs ∧ Chn s.heap cs ∧ it ∉ cs := by
      rcases I.hdAt with e | ⟨b, cs, e, c⟩
      · exact ⟨[], .inl ⟨e, rfl⟩, ⟨List.nodup_nil, fun j a q => by simp at q⟩, by simp⟩
      · exact ⟨b :: cs, .inr ⟨b, cs, rfl, e⟩, c.chn I.hok, c.not_mem f0⟩
    obtain ⟨cs, hcs, ch, ncs⟩ := nc
    exact items_endH hcs ch ncs hit dat (List.getElem?_eq_none (by rw [← hlen]; exact hge)) fun h' eb => ⟨rfl, I.turned (t' := s.toks) (fun b o hb e => eb b o hb e) f0 f1 f3 f4 f5⟩
  self := fun A i s Q E st h => by
    obtain ⟨es', ep, ok, ov, hdat, hit⟩ := st
    have hT : s.TypeIs (.ref it) "dict_itemiterator" := ⟨_, hit, rfl⟩
    refine wpAny_pyIter_slot hT PySem.F.slot_dict_itemiterator_iter (wpAny_call_entry PySem.F.slot_dict_itemiterator_iter hT entry_itemiter_iter ?_ (PySem.F.args_dict_itemiterator_iter_1 _))
    show wpAny _ _ (ret (.ref it)) _ _ s
    exact wpAny_pure ⟨_, rfl, "dict_itemiterator", _, hT, PySem.F.slot_dict_itemiterator_next.lookup, h⟩
def iView (tl : TE) : TI := fun σ H R => tl σ H fun x H1 => ∃ v d kvs, x = .ref v ∧ H1 v = some (ViewO v d) ∧ H1 d = some (.dK kvs) ∧ ∀ o, R (Iti d o kvs) (upd H1 d (.frz o (.dK kvs)))
section
variable {X : Cx}
theorem pi_view {es : List Expr} {k : Nat} {tpos : Pos} {l : Expr} {tl : TE} (hl : PE X l tl) : PI X (.Tuple es k tpos) l (iView tl) := by
  intro pins s σ H R I h
  refine thn (hl pins s σ H _ I h) fun w s1 => L2.ex5 fun x H1 I1 r1 hq_ => ?_
  obtain ⟨v, d, kvs, e, hv, hd, q⟩ := hq_
  subst e
  obtain rfl : w = Value.ref v := r1
  obtain ⟨z, hsm, vs, rel, dd⟩ := dk_of I1.hok hd
  obtain ⟨o, es', ep, ho, hx, hdat, r⟩ := id dd
  have dat : s1.heap.DictAt (mixKind X.prog X.w) d vs ep := ⟨o, es', ho, hx, hdat, r⟩
  refine wpAny_pyIter_items (I1.hok _ _ hv).1 dat ?_
  have I2 := (I1.freeze hd ho).kept (t' := s1.toks) (h' := s1.heap.push { cls := .type "dict_itemiterator", data := .fields #[.none, .bool false, .ref d, .int 0 0, .int vs.length 0, .int ep 0, .none, .none] }) fun b o e => Heap.get?_push_of_some _ e
  refine ⟨s1.heap.objs.size, [s1.heap.objs.size], _, _, _, rfl, I2, turn_items, ⟨es', ep, .none, .none, hdat, ?_⟩, fun b hb => ?_, q o⟩
  · rw [rel.length]; exact Heap.get?_push_size _ rfl
  · have e : b = s1.heap.objs.size := by simpa using hb
    subst e
    refine I1.fpOk (Nat.le_refl _) ?_
    rw [upd_ne (Ne.symm (Nat.ne_of_lt (Heap.lt_size ho)))]
    exact I1.hok.fresh (Nat.le_refl _)
end
end L2
namespace L2
open PySem PySem.Spec PyProof.Rows
section
variable {g : TG} {tt : TT} {te : TE}
/-- over a dict's pairs -/
theorem comp_items {d D : Addr} {o : Obj} {kvs : List (Key × V)} {τ : St} {H : Hp} {Q : VK} (Pv : Nat → St → Hp → Prop) (h0 : Pv 0 τ H) (hf : ∀ i τ H, i ≤ kvs.length → Pv i τ H → H d = some (.frz o (.dK kvs)))
    (hs : ∀ i k x T τ H, kvs[i]? = some (k, x) → H T = none → Pv i τ H → g (.ref T) τ (upd H T (.tup [kV k, x])) fun τ2 H2 => tt τ2 H2 fun b H3 =>
      if b = true then te τ2 H3 fun y H4 => ∃ ys, H4 D = some (.lst ys) ∧ ys.length < sizeLine ∧ Pv (i + 1) τ2 (upd H4 D (.lst (ys ++ [y]))) else Pv (i + 1) τ2 H3)
    (hd : ∀ τ H, Pv kvs.length τ H → Q (.ref D) H) : CompW (Iti d o kvs) D τ H g tt te Q := by
  refine ⟨fun i m τ H => m = kvs.length - i ∧ i ≤ kvs.length ∧ Pv i τ H, ⟨kvs.length, by simp, Nat.zero_le _, h0⟩, ?_⟩
  rintro i m τ H ⟨rfl, hi, p⟩
  have q := hf i τ H hi p
  by_cases hlt : i < kvs.length
  · refine .inr ⟨⟨q, hlt⟩, Pv (i + 1), fun τ' H' p' => ⟨kvs.length - (i + 1), by omega, rfl, hlt, p'⟩, fun v H' y => ?_⟩
    obtain ⟨T, k, x, rfl, hT, hx, rfl⟩ := y
    exact hs i k x T τ H hx hT p
  · have e : i = kvs.length := by omega
    subst e
    exact .inl ⟨⟨q, Nat.le_refl _⟩, hd τ H p⟩
end
end L2

/-! ### all, any, list(d), slices of texts, names of Python's own -/
namespace L2
open PySem PySem.Spec PyProof.Rows
theorem bt_int : bootBuiltins "int" = some (.type "int") := by decide +kernel
theorem bt_str : bootBuiltins "str" = some (.type "str") := by decide +kernel
theorem bt_bool : bootBuiltins "bool" = some (.type "bool") := by decide +kernel
theorem bt_list : bootBuiltins "list" = some (.type "list") := by decide +kernel
theorem bt_tuple : bootBuiltins "tuple" = some (.type "tuple") := by decide +kernel
theorem bt_dict : bootBuiltins "dict" = some (.type "dict") := by decide +kernel
theorem bt_isinstance : bootBuiltins "isinstance" = some (.builtin "isinstance") := by decide +kernel
theorem bt_all : bootBuiltins "all" = some (.builtin "all") := by decide +kernel
theorem bt_len : bootBuiltins "len" = some (.builtin "len") := by decide +kernel
theorem bt_max : bootBuiltins "max" = some (.builtin "max") := by decide +kernel
theorem bt_sum : bootBuiltins "sum" = some (.builtin "sum") := by decide +kernel
theorem all_range (bs : List Bool) (d : Bool) : (List.range bs.length).all (fun i => bs.getD i d) = bs.all id := by
  induction bs with
  | nil => rfl
  | cons b bs ih =>
    rw [List.length_cons, List.range_succ_eq_map, List.all_cons, List.all_map, List.all_cons, ← ih]
    rfl
theorem bools_get {bs : List Bool} {us : List Value} (r : Vals (bs.map V.bl) us) {i : Nat} {v : Value} (h : us[i]? = some v) : v = .bool (bs.getD i true) := by
  have hl : (bs.map V.bl).length = us.length := r.length
  have hi : i < bs.length := by
    have := (List.getElem?_eq_some_iff.mp h).1
    rw [List.length_map] at hl
    omega
  obtain ⟨u, hu, ru⟩ := r.get (i := i) (x := .bl bs[i]) (by simp [hi])
  rw [h] at hu; cases hu
  rw [List.getD_eq_getElem?_getD, List.getElem?_eq_getElem hi]
  exact ru
section
variable {X : Cx}
theorem call_allB : CallR X (.builtin "all") (fun xs H Q => ∃ p, ∃ bs : List Bool, xs = [.ref p] ∧ SqL X.K H p (bs.map V.bl) ∧ Q (.bl (bs.all id)) H) := by
  intro pins s σ H xs us Q I r h
  obtain ⟨p, bs, rfl, hq, q⟩ := h
  obtain ⟨u, rfl, ru⟩ := vals1 r
  obtain rfl : u = Value.ref p := ru
  obtain ⟨its, rv, pl, _⟩ := I.list hq
  obtain ⟨cs, hcs, ch⟩ := I.hd.chain
  have hlt : p < s.heap.objs.size := by obtain ⟨o, e, _⟩ := pl.isList; exact Heap.lt_size e
  have hnc : s.heap.objs.size ∉ cs := fun z => Nat.lt_irrefl _ (ch.lt _ z)
  have hlen : its.length = bs.length := by rw [← rv.length, List.length_map]
  refine call_all_walk (wpAny_pyIter_list pl.isList ⟨s.heap.objs.size, _, _, _, _, _, fun i => bs.getD i true, rfl, walks_list (A := X.A.in1) hcs s.heap.objs.size p (Nat.ne_of_lt hlt) hnc its.toArray, ⟨⟨_, Heap.get?_push_size _ rfl, rfl, rfl⟩, pl.isList.push _, ch.mono fun b o _ e => Heap.get?_push_of_some _ e⟩, ?_, fun h' tk hk => ?_⟩)
  · intro i v s' Q' E' hv hQ'
    have hv' : its[i]? = some v := by simpa using hv
    rw [bools_get rv hv']
    exact wpAny_truthy_bool hQ'
  · have e : (List.range its.toArray.size).all (fun i => bs.getD i true) = bs.all id := by rw [List.size_toArray, hlen]; exact all_range bs true
    rw [e]
    exact ⟨.bl _, H, I.kept fun b o e => hk b o (fun z => by
      have : b = s.heap.objs.size := by simpa using z
      exact absurd (Heap.lt_size e) (by rw [this]; exact Nat.lt_irrefl _)) (Heap.get?_push_of_some _ e), rfl, q⟩
/-- list(d) -/
theorem keys_vals {P : Program} {w : World} : ∀ {kvs : List (Key × V)} {vs : List (Key × Value)} {acc : List Value}, KV kvs vs → acc.length = vs.length → (∀ (i : Nat) (v : Value), acc[i]? = some v → ∃ k x, vs[i]? = some (k, x) ∧ (mixKind P w).is k v = true) → Vals (kvs.map fun kv => kV kv.1) acc := by
  intro kvs vs acc r
  induction r generalizing acc with
  | nil =>
    intro hl _
    cases acc with
    | nil => exact .nil
    | cons _ _ => simp at hl
  | @cons p q ps qs h t ih =>
    intro hl hk
    cases acc with
    | nil => simp at hl
    | cons v acc =>
      obtain ⟨k, x, e, hv⟩ := hk 0 v rfl
      simp at e
      subst e
      refine .cons ?_ (ih (by simpa using hl) fun i v' hv' => by simpa using hk (i + 1) v' (by simpa using hv'))
      show RelV (kV p.1) v
      rw [h.1]
      exact kV_of hv
theorem call_listD : CallR X (.type "list") (fun xs H Q => ∃ d kvs, xs = [.ref d] ∧ H d = some (.dK kvs) ∧ ∀ l, H l = none → Q (.ref l) (upd H l (.lst (kvs.map fun kv => kV kv.1)))) := by
  intro pins s σ H xs us Q I r h
  obtain ⟨d, kvs, rfl, hd, q⟩ := h
  obtain ⟨u, rfl, ru⟩ := vals1 r
  obtain rfl : u = Value.ref d := ru
  obtain ⟨z, hsm, vs, rel, dd⟩ := dk_of I.hok hd
  obtain ⟨ep, dat⟩ := dd.dictAt
  obtain ⟨cs, hcs, ch⟩ := I.hd.chain
  refine call_list_dict hcs hsm dat ch (by rw [← rel.length]; exact z) fun s' acc c' kp g1 g2 g3 hS ha => ?_
  have rv : Vals (kvs.map fun kv => kV kv.1) acc.toList := keys_vals rel (by simpa using ha.1) fun i v hv => ha.2 i v (by simpa using hv)
  have I' : Inv X pins σ (upd H s.heap.objs.size (.lst (kvs.map fun kv => kV kv.1))) { s with heap := s'.heap, toks := s'.toks } :=
    I.laid kp (Nat.le_refl _) ⟨by rw [List.length_map]; exact z, acc.toList, c', rv, by simpa using hS⟩
  obtain ⟨h', g', d', t', os'⟩ := s'
  dsimp only at g1 g2 g3 I'
  subst g1 g2 g3
  exact ⟨.ref s.heap.objs.size, _, I', rfl, q _ (I.hok.fresh (Nat.le_refl _))⟩
end
end L2

/-! ### rules for a block's own context: what hangs on the text stands by its name -/
namespace L2
open PySem PySem.Spec PyProof.Rows
section
variable {X : Cx} {K : PySem.W.Frag} (hK : X.K = K)
include hK
theorem ixK_list : IxR X (rIxL K) := hK ▸ ix_list
theorem ixK_tup : IxR X (rIxT K) := hK ▸ ix_tup
theorem pgK_tup {es : List Expr} {k : Nat} {pos : Pos} {t : TGs} {n : Nat} (hc : X.calm = true) (h : PGs X es t) (hn : (assignEach es X.env).length = n := by rfl) (hst : (assignEach es X.env).findIdx? (·.1) = none := by rfl) : PG X (.Tuple es k pos) (gTup K n t) := hK ▸ pg_tup hc h hn hst
def rLenSeq (K : PySem.W.Frag) : List V → Hp → VK → Prop := fun xs H Q => ∃ p ys, xs = [.ref p] ∧ (SqL K H p ys ∨ SqT K H p ys) ∧ Q (.int ys.length) H
def rIsi (K : PySem.W.Frag) : List V → Hp → VK → Prop := fun xs H Q => ∃ x c k t b, xs = [x, c] ∧ clsOf c = some k ∧ TyOf K H x t ∧ PySem.W.kitOne K t k = some b ∧ Q (.bl b) H
theorem callK_isinst : CallR X (.builtin "isinstance") (rIsi K) := by subst hK; exact call_isinst
def rListOf (K : PySem.W.Frag) : List V → Hp → VK → Prop := fun xs H Q => ∃ p ys, xs = [.ref p] ∧ (SqL K H p ys ∨ SqT K H p ys) ∧ ∀ l, H l = none → Q (.ref l) (upd H l (.lst ys))
end
end L2

/-! ### min of two, sorted of a dict of ints, index of True; all while an exception may be handled -/
namespace L2
open PySem PySem.Spec PyProof.Rows
section
variable {prog : Program} {w : World} {A : Around} {E : Value → Shared → Prop} {s : Shared} {cs : List Addr}
theorem walks_tup (hc : HdC A cs) (I ax : Addr) (hne : ax ≠ I) (hI : I ∉ cs) (items : Array Value) :
    Walks prog w A I (I :: ax :: cs) [I] items.size (fun i v => items[i]? = some v) (fun i h => h.IsTupleIter I ax i ∧ h.IsTuple ax items ∧ Chn h cs) where
  sub := fun b hb => by simp at hb; simp [hb]
  frame := fun _ _ _ st hk => ⟨st.1.at fun o e => hk I (by simp) o e, st.2.1.at fun o e => hk ax (by simp) o e, st.2.2.mono fun b o hb e => hk b (by simp [hb]) o e⟩
  item := fun i s Q E hi st hQ => by
    refine wpAny_pyNext_tuple_item st.1 st.2.1 (x := items[i]) (by simp [hi]) fun h' hit' hs' => ?_
    exact hQ _ h' s.toks (by simp [hi]) ⟨hit', st.2.1.extBut hs'.extBut hne, st.2.2.but hI hs'.extBut⟩ fun b o hb e => hs'.extBut b o (fun h => hb (by simp [h])) e
  done := fun s Q E st hQ => tup_endH (hc.hd st.2.2) st.1 st.2.1 (by simp) fun h' he' => hQ h' s.toks fun b o hb e => he' b o (fun h => hb (by simp [h])) e
  self := fun _ _ _ _ st hQ => wpAny_pyIter_tupleiter st.1 hQ
section
variable {κ : Type} [DecidableEq κ] {knd : KeyKind prog w κ}
end
end
section
variable {X : Cx}
def rIndexT (K : PySem.W.Frag) : V → List V → Hp → VK → Prop := fun x vs H Q => ∃ l, ∃ bs : List Bool, ∃ j : Nat, x = .ref l ∧ vs = [.bl true] ∧ H l = some (.lst (bs.map V.bl)) ∧ bs[j]? = some true ∧ (∀ i, i < j → bs[i]? = some false) ∧ Q (.int (j : Int)) H
end
end L2

/-! ### max of two, sum of a list of ints, is of truths; all while an exception may be handled -/
namespace L2
open PySem PySem.Spec PyProof.Rows
section
variable {prog : Program} {w : World} {A : Around} {E : Value → Shared → Prop} {s : Shared} {cs : List Addr}
theorem max2H {a b : Int} {t u : Tok} {Q : Value → Shared → Prop} (hc : HdC A cs) (ch : Chn s.heap cs)
    (h : ∀ h' tk, (∀ c o, s.heap.get? c = some o → h'.get? c = some o) → Q (if b > a then .int b u else .int a t) { s with heap := h', toks := tk }) :
    wpAny (model prog w) A (call (.builtin "max") [.int a t, .int b u]) Q E s := by
  have hT : (s.heap.push { cls := .type "tuple", data := .seq #[.int a t, .int b u] }).IsTuple s.heap.objs.size (intItems #[(a, t), (b, u)]) := ⟨_, Heap.get?_push_size _ rfl, rfl, 0, by simp [intItems]⟩
  refine call_max_two (wpAny_pyIter_tuple hT ?_)
  have hsz : (s.heap.push { cls := .type "tuple", data := .seq #[.int a t, .int b u] }).objs.size = s.heap.objs.size + 1 := Heap.size_push ..
  have ns : ∀ k, s.heap.objs.size ≤ k → k ∉ cs := fun k hk z => absurd (ch.lt _ z) (Nat.not_lt.mpr hk)
  refine ⟨_, _, [_], _, _, _, _, rfl, walks_tup (A := A.in1) hc _ s.heap.objs.size (by rw [hsz]; exact Nat.ne_of_lt (Nat.lt_succ_self _)) (ns _ (by rw [hsz]; exact Nat.le_succ _)) (intItems #[(a, t), (b, u)]),
    ⟨⟨_, Heap.get?_push_size _ rfl, rfl, rfl⟩, hT.push _, ch.mono fun b o _ e => Heap.get?_push_of_some _ (Heap.get?_push_of_some _ e)⟩, fun c hc => ?_, by simp [intItems], CmpOf.ints_gt (numAt #[(a, t), (b, u)]) (fun _ _ => intItems_at), fun v h' tk hP hk => ?_⟩
  · show c < ((s.heap.push _).push _).objs.size
    rw [Heap.size_push, hsz]
    rcases List.mem_cons.mp hc with rfl | hc
    · rw [hsz]; exact Nat.lt_succ_self _
    · rcases List.mem_cons.mp hc with rfl | hc
      · exact Nat.lt_succ_of_lt (Nat.lt_succ_self _)
      · exact Nat.lt_of_lt_of_le (ch.lt _ hc) (by omega)
  · have hold : ∀ c o, s.heap.get? c = some o → h'.get? c = some o := fun c o e => by
      refine hk c o (fun hm => ?_) (Heap.get?_push_of_some _ (Heap.get?_push_of_some _ e))
      have e1 := List.mem_singleton.mp hm
      have := Heap.lt_size e
      rw [e1, hsz] at this
      exact Nat.lt_irrefl _ (Nat.lt_of_succ_lt this)
    have := h h' tk hold
    have hv : v = if b > a then Value.int b u else Value.int a t := by
      have hP' : (intItems #[(a, t), (b, u)])[argBest (fun i j => decide (numAt #[(a, t), (b, u)] i > numAt #[(a, t), (b, u)] j)) 1]? = some v := by
        have hsz2 : (intItems #[(a, t), (b, u)]).size - 1 = 1 := by simp [intItems]
        rw [← hsz2]; exact hP
      by_cases hba : b > a
      · have e : argBest (fun i j => decide (numAt #[(a, t), (b, u)] i > numAt #[(a, t), (b, u)] j)) 1 = 1 := by simp [argBest, numAt, hba]
        rw [e] at hP'
        simpa [intItems, hba] using hP'.symm
      · have e : argBest (fun i j => decide (numAt #[(a, t), (b, u)] i > numAt #[(a, t), (b, u)] j)) 1 = 0 := by simp [argBest, numAt, hba]
        rw [e] at hP'
        simpa [intItems, hba] using hP'.symm
    rw [hv]; exact this
end
section
variable {X : Cx}
theorem call_max2H : CallR X (.builtin "max") (fun xs H Q => ∃ i j, xs = [.int i, .int j] ∧ Q (.int (if j > i then j else i)) H) := by
  intro pins s σ H xs us Q I r h
  obtain ⟨i, j, rfl, q⟩ := h
  obtain ⟨u, w', rfl, ⟨t, rfl⟩, ⟨t', rfl⟩⟩ := vals2 r
  obtain ⟨cs, hcs, ch⟩ := I.hd.chain
  refine max2H hcs ch fun h' tk k => ⟨_, H, I.kept k, ?_, q⟩
  by_cases hj : j > i
  · rw [if_pos hj, if_pos hj]; exact ⟨_, rfl⟩
  · rw [if_neg hj, if_neg hj]; exact ⟨_, rfl⟩
theorem ints_get {ns : List Int} {us : List Value} (r : Vals (ns.map V.int) us) {i : Nat} {v : Value} (h : us[i]? = some v) : ∃ t, v = .int (ns.getD i 0) t := by
  induction ns generalizing us i with
  | nil =>
    cases r
    simp at h
  | cons n ns ih =>
    cases r with
    | cons rv rr =>
      cases i with
      | zero =>
        obtain ⟨t, rfl⟩ := rv
        simp at h
        exact ⟨t, h.symm⟩
      | succ i => exact ih rr (by simpa using h)
theorem preSum_nil (f : Nat → Int) (ns : List Int) (h : ∀ i, f i = ns.getD i 0) : preSum f ns.length = ns.sum := by
  have e : f = fun i => ns.getD i 0 := funext h
  rw [e, preSum_getD, List.take_length]
theorem call_sum : CallR X (.builtin "sum") (fun xs H Q => ∃ p, ∃ ns : List Int, xs = [.ref p] ∧ SqL X.K H p (ns.map V.int) ∧ Q (.int ns.sum) H) := by
  intro pins s σ H xs us Q I r h
  obtain ⟨p, ns, rfl, hq, q⟩ := h
  obtain ⟨u, rfl, ru⟩ := vals1 r
  obtain rfl : u = Value.ref p := ru
  obtain ⟨its, rv, pl, _⟩ := I.list hq
  obtain ⟨cs, hcs, ch⟩ := I.hd.chain
  have hlt : p < s.heap.objs.size := by obtain ⟨o, e, _⟩ := pl.isList; exact Heap.lt_size e
  have hnc : s.heap.objs.size ∉ cs := fun z => Nat.lt_irrefl _ (ch.lt _ z)
  have hlen : its.length = ns.length := by rw [← rv.length, List.length_map]
  refine call_sum_walkG (wpAny_pyIter_list pl.isList ⟨s.heap.objs.size, _, _, _, _, _, fun i => ns.getD i 0, rfl, walks_list (A := X.A.in1) hcs s.heap.objs.size p (Nat.ne_of_lt hlt) hnc its.toArray, ⟨⟨_, Heap.get?_push_size _ rfl, rfl, rfl⟩, pl.isList.push _, ch.mono fun b o _ e => Heap.get?_push_of_some _ e⟩, ?_, ?_, fun h' tk t' hk => ?_⟩)
  · intro b hb
    show b < (s.heap.push _).objs.size
    rw [Heap.size_push]
    rcases List.mem_cons.mp hb with rfl | hb
    · exact Nat.lt_succ_self _
    · rcases List.mem_cons.mp hb with rfl | hb
      · exact Nat.lt_succ_of_lt hlt
      · exact Nat.lt_succ_of_lt (ch.lt _ hb)
  · intro i v hv
    exact ints_get rv (by simpa using hv)
  · have e : preSum (fun i => ns.getD i 0) its.toArray.size = ns.sum := by rw [List.size_toArray, hlen]; exact preSum_nil _ _ fun _ => rfl
    rw [e]
    exact ⟨.int _, H, I.kept fun b o e => hk b o (fun z => by
      have : b = s.heap.objs.size := by simpa using z
      exact absurd (Heap.lt_size e) (by rw [this]; exact Nat.lt_irrefl _)) (Heap.get?_push_of_some _ e), ⟨_, rfl⟩, q⟩
end
end L2

/-! ### lists, tuples and data on the heap, for every law -/
namespace L2
open PySem
/-! lists of a length -/
theorem len1 {P : List Value → Prop} (h : ∀ a0, P [a0]) : ∀ us : List Value, us.length = 1 → P us
  | [a0], _ => h a0
theorem len2 {P : List Value → Prop} (h : ∀ a0 a1, P [a0, a1]) : ∀ us : List Value, us.length = 2 → P us
  | [a0, a1], _ => h a0 a1
theorem len3 {P : List Value → Prop} (h : ∀ a0 a1 a2, P [a0, a1, a2]) : ∀ us : List Value, us.length = 3 → P us
  | [a0, a1, a2], _ => h a0 a1 a2
theorem len4 {P : List Value → Prop} (h : ∀ a0 a1 a2 a3, P [a0, a1, a2, a3]) : ∀ us : List Value, us.length = 4 → P us
  | [a0, a1, a2, a3], _ => h a0 a1 a2 a3
theorem len5 {P : List Value → Prop} (h : ∀ a0 a1 a2 a3 a4, P [a0, a1, a2, a3, a4]) : ∀ us : List Value, us.length = 5 → P us
  | [a0, a1, a2, a3, a4], _ => h a0 a1 a2 a3 a4
theorem iteOr {A B : Prop} {b : Bool} (hb : b = false) (h : B) : if b = true then A else B := by
  subst hb
  exact iteF h
theorem iteYes {A B : Prop} {b : Bool} (hb : b = true) (h : A) : if b = true then A else B := by
  subst hb
  exact iteT h
theorem iteB {A B : Prop} {b : Bool} (h1 : b = true → A) (h2 : b = false → B) : if b = true then A else B := by
  cases b with
  | true => exact iteT (h1 rfl)
  | false => exact iteF (h2 rfl)
/-- tuples are kept -/
def isTup : HO → Bool
  | .tup _ => true
  | .frz _ (.tup _) => true
  | _ => false
def Tk (H H' : Hp) : Prop := ∀ b o, H b = some o → isTup o = true → H' b = some o
theorem Tk.of {H H' : Hp} (e : Same H H') : Tk H H' := fun b o h _ => e b o h
theorem Tk.trans {H H1 H2 : Hp} (a : Tk H H1) (b : Tk H1 H2) : Tk H H2 := fun c o h z => b c o (a c o h z) z
theorem Tk.upd {H : Hp} {c : Addr} {u o : HO} (h : H c = some u) (n : isTup u = false) : Tk H (L2.upd H c o) := fun b w e z => by
  have : b ≠ c := fun q => by subst q; rw [h] at e; cases e; rw [n] at z; cases z
  rw [upd_ne this]
  exact e
theorem Tk.sqT {K : PySem.W.Frag} {H H' : Hp} {a : Addr} {xs : List V} (e : Tk H H') (h : SqT K H a xs) : SqT K H' a xs := by
  rcases h with (h | ⟨o, h⟩) | h
  · exact .inl (.inl (e _ _ h rfl))
  · exact .inl (.inr ⟨o, e _ _ h rfl⟩)
  · exact .inr h
mutual
def noLst : Dt → Bool
  | .lst _ => false
  | .tup ds => noLsts ds
  | _ => true
def noLsts : List Dt → Bool
  | [] => true
  | d :: ds => noLst d && noLsts ds
end
mutual
theorem Tk.dt {K : PySem.W.Frag} {H H' : Hp} (e : Tk H H') : ∀ {d : Dt} {x : V}, noLst d = true → DtV K H d x → DtV K H' d x
  | .non, _, _, h => h
  | .bl _, _, _, h => h
  | .int _, _, _, h => h
  | .str _, _, _, h => h
  | .lst ds, _, z, h => by cases z
  | .tup ds, _, z, h => by
    obtain ⟨a, xs, e1, h1, h2⟩ := h
    exact ⟨a, xs, e1, e.sqT h1, e.dts z h2⟩
theorem Tk.dts {K : PySem.W.Frag} {H H' : Hp} (e : Tk H H') : ∀ {ds : List Dt} {xs : List V}, noLsts ds = true → DtVs K H ds xs → DtVs K H' ds xs
  | [], _, _, h => h
  | d :: ds, _, z, h => by
    obtain ⟨y, ys, e1, h1, h2⟩ := h
    have z' := (Bool.and_eq_true _ _).mp z
    exact ⟨y, ys, e1, e.dt z'.1 h1, e.dts z'.2 h2⟩
end
theorem noLsts_map {α : Type} {f : α → Dt} (h : ∀ x, noLst (f x) = true) : ∀ l : List α, noLsts (l.map f) = true
  | [] => rfl
  | x :: l => by
    show (noLst (f x) && noLsts (l.map f)) = true
    rw [h x, noLsts_map h l]
    rfl
theorem deeps_map {α : Type} {f : α → Dt} {n : Nat} (h : ∀ x, DeepLe n (f x)) (l : List α) : DeepsLe n (l.map f) := DeepsLe.of fun d hd => by
  obtain ⟨x, _, rfl⟩ := List.mem_map.mp hd
  exact h x
theorem dts_get {K : PySem.W.Frag} {H : Hp} {α : Type} {f : α → Dt} {l : List α} {xs : List V} {i : Nat} {x : V} (h : DtVs K H (l.map f) xs) (e : xs[i]? = some x) : ∃ q, l[i]? = some q ∧ DtV K H (f q) x := by
  have hi : i < l.length := by
    have h1 := h.length
    rw [List.length_map] at h1
    have := (List.getElem?_eq_some_iff.mp e).1
    omega
  obtain ⟨q, hq⟩ := get_of hi
  obtain ⟨y, hy, hd⟩ := h.get (j := i) (d := f q) (by rw [List.getElem?_map, hq]; rfl)
  rw [e] at hy
  cases hy
  exact ⟨q, hq, hd⟩
theorem take_snoc {α : Type} {l : List α} {i : Nat} {q : α} (h : l[i]? = some q) : l.take (i + 1) = l.take i ++ [q] := by
  rw [List.take_add_one, h]
  rfl
/-- sames, mosts, arrows: the asker's own -/
def Tps (H : Hp) (xs : List V) : Prop := ∀ x ∈ xs, ∃ q zs, x = V.ref q ∧ H q = some (.tup zs)
theorem Tps.tk {H H' : Hp} {xs : List V} (h : Tps H xs) (e : Tk H H') : Tps H' xs := fun x hx => by
  obtain ⟨q, zs, rfl, hq⟩ := h x hx
  exact ⟨q, zs, rfl, e _ _ hq rfl⟩
theorem Tps.snoc {H : Hp} {xs : List V} {z : Addr} {zs : List V} (h : Tps H xs) (hz : H z = some (.tup zs)) : Tps H (xs ++ [.ref z]) := fun x hx => by
  rcases List.mem_append.mp hx with q | q
  · exact h x q
  · exact ⟨z, zs, List.mem_singleton.mp q, hz⟩
theorem Tps.nil {H : Hp} : Tps H [] := fun x hx => by simp at hx
/-- an int out of a list of ints -/
def pz (ps : List Int) (k : Int) : Int := ps.getD k.toNat 0
theorem at_pz {ps : List Int} {k : Int} (h0 : 0 ≤ k) (h1 : k < ps.length) : atI (ps.map V.int) k = some (.int (pz ps k)) := by
  unfold atI ixN pz
  rw [if_pos h0, if_pos (by rw [List.length_map]; exact h1)]
  show (ps.map V.int)[k.toNat]? = _
  rw [List.getElem?_map, List.getD_eq_getElem?_getD, List.getElem?_eq_getElem (show k.toNat < ps.length by omega)]
  rfl
theorem at_nat {α : Type} {xs : List α} {k : Int} (h0 : 0 ≤ k) : atI xs k = xs[k.toNat]? := by
  unfold atI ixN
  rw [if_pos h0]
  by_cases h : k < xs.length
  · rw [if_pos h]; rfl
  · rw [if_neg h]
    show none = _
    rw [List.getElem?_eq_none (by omega)]
end L2

/-! ### enumerate of a list; for over zip and enumerate; min and max of a list of ints -/
namespace L2
open PySem PySem.Spec PyProof.Rows
def Ite (K : PySem.W.Frag) (l : Addr) : It :=
  ⟨fun i H => ∃ xs x, SqL K H l xs ∧ xs[i]? = some x,
   fun i H v H' => ∃ T x, v = .ref T ∧ H T = none ∧ H' = upd H T (.tup [.int i, x]) ∧ ∀ xs, SqL K H l xs → xs[i]? = some x,
   fun i H => ∃ xs, SqL K H l xs ∧ xs.length ≤ i⟩
section
variable {prog : Program} {w : World} {A : Around} {E : Value → Shared → Prop} {s : Shared}
theorem enum_endH {e it l : Addr} {i : Nat} {items : Array Value} {old : Value} {Q : Option Value → Shared → Prop} (hd : Hd A s.heap)
    (he : IsEnum s.heap e it i old) (hit : s.heap.IsListIter it l i) (hl : s.heap.IsList l items) (hx : items[i]? = none)
    (hQ : ∀ h', Heap.ExtBut it s.heap h' → Q none { s with heap := h' }) : wpAny (model prog w) A (pyNext (.ref e)) Q E s := by
  have ht : s.TypeIs (.ref e) "enumerate" := ⟨_, he, rfl⟩
  unfold pyNext
  refine wpAny_bind (wpAny_attempt (wpAny_callSpecial?_slot (name := Str.ofString "__next__") ht F.slot_enumerate_next (wpAny_call_entry F.slot_enumerate_next ht F.entry_enumerate_next ?_ (F.args_enumerate_next_1 _))))
  refine (show wpAny _ _ (field (.ref e) 2 >>= _) _ _ _ from wpAny_bind (wpAny_field he rfl (x := .ref it) rfl ?_))
  refine wpAny_bind (next_endH (A := A.in1) hd hit hl hx fun h' x he' hx' => ?_)
  obtain ⟨o, ho, hc⟩ := hx'
  exact wpAny_bind (wpAny_isInstance (T := "StopIteration") (b := true) ⟨o, ho, hc⟩ isSubtype_stop (wpAny_pure (hQ _ he')))
end
def EnumIt (h : Heap) (e it l : Addr) (i : Nat) : Prop := ∃ old, IsEnum h e it (i : Int) old ∧ h.IsListIter it l i
theorem turn_enum {P : Program} {w : World} {K : PySem.W.Frag} {es : List Expr} {k : Nat} {pos : Pos} {e it l : Addr} (hne : e ≠ it) :
    Turn P w K (.Tuple es k pos) (Ite K l) [e, it] e (fun i h => EnumIt h e it l i) where
  mem := by simp
  obj := fun i h st b hb => by
    obtain ⟨old, he, ⟨o1, e1, c1, d1⟩⟩ := st
    simp only [List.mem_cons, List.not_mem_nil, or_false] at hb
    rcases hb with rfl | rfl
    · exact ⟨_, he, fun v q => by simp at q⟩
    · exact ⟨_, e1, fun v q => by rw [d1] at q; cases q⟩
  keep := fun i h h' st k => by
    obtain ⟨old, he, h1⟩ := st
    exact ⟨old, k e (by simp) _ he, h1.at fun o q => k it (by simp) o q⟩
  item := by
    intro X hP hw hK hc i pins s σ H E I hf st hg
    subst hP hw hK
    obtain ⟨xs, x, q1, hx⟩ := hg
    obtain ⟨old, he, h1⟩ := st
    obtain ⟨its, rv, pl, _⟩ := I.list q1
    obtain ⟨u, hu, ru⟩ := rv.get hx
    have nf : ∀ b ∈ [e, it], b ∉ frs X.stack := fun b hb q => (List.mem_cons.mp (I.stkSub b q)).elim (hf b hb).2.1 (hf b hb).2.2.1
    refine wpAny_pyNext_enum_item he h1 pl.isList (x := u) (by simpa using hu) hne fun h' a1 a2 a3 a4 hk => ⟨_, rfl, ?_⟩
    refine wpAny_letOwnedTupleGo_enum (s := { s with heap := h', toks := s.toks + 1 }) a1 fun h'' hz' hs' => ?_
    replace hs' : Heap.SameBut e h' h'' := hs'
    have hTn : H s.heap.objs.size = none := I.hok.fresh (Nat.le_refl _)
    have lte := Heap.lt_size he
    have old' : ∀ b o, b ≠ e → b ≠ it → s.heap.get? b = some o → h''.get? b = some o := fun b o n1 n2 q => hs'.extBut b o n1 (hk b o n1 n2 q)
    have I1 : Inv X pins σ (upd H s.heap.objs.size (.tup [.int i, x])) { s with heap := s.heap.push { cls := .type "tuple", data := .seq #[.int i s.toks, u] }, toks := s.toks + 1 } :=
      I.laid (t' := s.toks + 1) (fun b o q => Heap.get?_push_of_some _ q) (Nat.le_refl _) ⟨by show 2 ≤ sizeLine; decide, [.int i s.toks, u], .cons ⟨_, rfl⟩ (.cons ru .nil), ⟨_, Heap.get?_push_size _ rfl, rfl, _, rfl⟩⟩
    have fp1 : ∀ b ∈ [e, it], FpOk X pins (upd H s.heap.objs.size (.tup [.int i, x])) b := fun b hb => by
      obtain ⟨f0, r⟩ := hf b hb
      refine ⟨?_, r⟩
      have lt : b < s.heap.objs.size := by
        simp only [List.mem_cons, List.not_mem_nil, or_false] at hb
        rcases hb with rfl | rfl
        · exact lte
        · obtain ⟨o, q, _⟩ := h1; exact Heap.lt_size q
      rw [upd_ne (Nat.ne_of_lt lt)]; exact f0
    have I2 : Inv X pins σ (upd H s.heap.objs.size (.tup [.int i, x])) { s with heap := h'', toks := s.toks + 1 } := by
      have back : ∀ b o, (s.heap.push { cls := .type "tuple", data := .seq #[.int i s.toks, u] }).get? b = some o → b ≠ e → b ≠ it → h''.get? b = some o := fun b o q n1 n2 => by
        rcases Heap.get?_push_cases q with ⟨rfl, rfl⟩ | q
        · exact hs'.extBut _ _ n1 a3
        · exact old' b o n1 n2 q
      refine I1.slots (ch := [e, it]) (tk := s.toks + 1) fp1 (fun b o _ hc q => ?_) (fun b o hb q => ⟨o.slots, ?_⟩) (fun b hb o q => ?_)
      · simp only [List.mem_cons, List.not_mem_nil, or_false, not_or] at hc
        exact back b o q hc.1 hc.2
      · exact back b o q (fun z => nf e (by simp) (z ▸ hb)) (fun z => nf it (by simp) (z ▸ hb))
      · simp only [List.mem_cons, List.not_mem_nil, or_false] at hb
        rcases hb with rfl | rfl
        · exact ⟨_, hz'⟩
        · obtain ⟨o, q, _⟩ := a2; exact ⟨_, hs'.extBut _ _ hne.symm q⟩
    refine ⟨.ref s.heap.objs.size, _, I2, rfl, ⟨_, x, rfl, hTn, rfl, fun xs' q => by rw [I.list_inj q q1]; exact hx⟩, ?_, fun b hb => (fp1 b hb).1⟩
    exact ⟨u, hz', a2.extBut hs'.extBut hne.symm⟩
  done := by
    intro X hP hw hK hc i pins s σ H E I hf st hg
    subst hP hw hK
    obtain ⟨xs, q1, hlen⟩ := hg
    obtain ⟨old, he, h1⟩ := st
    obtain ⟨its, rv, pl, _⟩ := I.list q1
    have e1 := rv.length
    have nf : ∀ b ∈ [e, it], b ∉ frs X.stack := fun b hb q => (List.mem_cons.mp (I.stkSub b q)).elim (hf b hb).2.1 (hf b hb).2.2.1
    refine enum_endH I.hd he h1 pl.isList (by simp; omega) fun h' hk => ⟨rfl, ?_⟩
    refine I.slot0 (ch := [e, it]) (tk := s.toks) hf (fun b o _ hc q => ?_) (fun b o hb q => ⟨o.slots, ?_⟩)
    · simp only [List.mem_cons, List.not_mem_nil, or_false, not_or] at hc
      exact hk b o hc.2 q
    · exact hk b o (fun z => nf it (by simp) (z ▸ hb)) q
  self := fun _ _ s _ _ st h => by
    obtain ⟨old, he, _⟩ := st
    exact wpAny_pyIter_enum he h
def iEnum (K : PySem.W.Frag) (ta : TA) : TI := fun σ H R => ta σ H fun vs H1 => ∃ l, vs = [.ref l] ∧ (∃ xs, SqL K H1 l xs) ∧ R (Ite K l) H1
section
variable {X : Cx}
theorem pi_enumerate {es : List Expr} {k : Nat} {tpos p pos : Pos} {a : Expr} {ta : TA} (hg : Gl X "enumerate") (hm : X.mg "enumerate" = none) (ha : PA X [a] ta) (hs : starEach [a] X.env = [(false, eval a X.env)] := by rfl) :
    PI X (.Tuple es k tpos) (.Call (.Name "enumerate" p) [a] [] pos) (iEnum X.K ta) := by
  intro pins s σ H R I h
  refine Call_ (ld_blt I hg hm boot_enumerate (PyProof.Rows.callWith_type1 (thn (ha pos pins s σ H _ I h) fun us s1 => L2.ex5 fun vs H1 I1 r1 hq_ => ?_) hs rfl))
  obtain ⟨l, e, ⟨xs, q1⟩, q⟩ := hq_
  subst e
  obtain ⟨u, rfl, ru⟩ := vals1 r1
  obtain rfl : u = Value.ref l := ru
  obtain ⟨its, rv, pl, _⟩ := I1.list q1
  refine call_enumerate_list pl.isList fun h' b1 b2 b3 hk => ?_
  refine wpAny_pyIter_enum (s := { s1 with heap := h' }) b1 ?_
  refine ⟨s1.heap.objs.size + 1, [s1.heap.objs.size + 1, s1.heap.objs.size], _, _, H1, rfl, I1.kept (t' := s1.toks) hk, turn_enum (Nat.ne_of_gt (Nat.lt_succ_self _)), ⟨_, b1, b2⟩, fun b hb => ?_, q⟩
  have ge : s1.heap.objs.size ≤ b := by
    simp only [List.mem_cons, List.not_mem_nil, or_false] at hb
    rcases hb with rfl | rfl
    · exact Nat.le_add_right _ _
    · exact Nat.le_refl _
  exact I1.fpOk ge (I1.hok.fresh ge)
theorem comp_enum {K : PySem.W.Frag} {l D : Addr} {xs : List V} {g : TG} {tt : TT} {te : TE} {τ : St} {H : Hp} {Q : VK} (Pv : Nat → St → Hp → Prop) (h0 : Pv 0 τ H) (hl : ∀ i τ H, i ≤ xs.length → Pv i τ H → SqL K H l xs)
    (hs : ∀ i x T τ H, xs[i]? = some x → H T = none → Pv i τ H → g (.ref T) τ (upd H T (.tup [.int i, x])) fun τ2 H2 => tt τ2 H2 fun b H3 =>
      if b = true then te τ2 H3 fun y H4 => ∃ ys, H4 D = some (.lst ys) ∧ ys.length < sizeLine ∧ Pv (i + 1) τ2 (upd H4 D (.lst (ys ++ [y]))) else Pv (i + 1) τ2 H3)
    (hd : ∀ τ H, Pv xs.length τ H → Q (.ref D) H) : CompW (Ite K l) D τ H g tt te Q := by
  refine ⟨fun i m τ H => m = xs.length - i ∧ i ≤ xs.length ∧ Pv i τ H, ⟨xs.length, by simp, Nat.zero_le _, h0⟩, ?_⟩
  rintro i m τ H ⟨rfl, hi, p⟩
  have q1 := hl i τ H hi p
  by_cases hlt : i < xs.length
  · refine .inr ⟨⟨xs, xs[i], q1, by simp [hlt]⟩, Pv (i + 1), fun τ' H' p' => ⟨xs.length - (i + 1), by omega, rfl, hlt, p'⟩, fun v H' y => ?_⟩
    obtain ⟨T, x, rfl, hT, rfl, hx⟩ := y
    exact hs i x T τ H (hx xs q1) hT p
  · have e : i = xs.length := by omega
    subst e
    exact .inl ⟨⟨xs, q1, Nat.le_refl _⟩, hd τ H p⟩
theorem for_enum {K : PySem.W.Frag} {l : Addr} {xs : List V} {g : TG} {tb : TS} {D : Ends} {σ : St} {H : Hp} (Pv : Nat → St → Hp → Prop) (h0 : Pv 0 σ H) (hl : ∀ i σ H, i ≤ xs.length → Pv i σ H → SqL K H l xs)
    (hs : ∀ i x T σ H, xs[i]? = some x → H T = none → Pv i σ H → g (.ref T) σ (upd H T (.tup [.int i, x])) fun σ2 H2 => tb { D with nx := Pv (i + 1), ct := Pv (i + 1), bk := D.nx } σ2 H2) (hd : ∀ σ H, Pv xs.length σ H → D.nx σ H) :
    ∃ W : Nat → Nat → St → Hp → Prop, (∃ m, W 0 m σ H) ∧ ∀ i m σ H, W i m σ H →
      ((Ite K l).stop i H ∧ D.nx σ H) ∨ ((Ite K l).go i H ∧ ∃ N : St → Hp → Prop, (∀ σ' H', N σ' H' → ∃ m', m' < m ∧ W (i + 1) m' σ' H') ∧ ∀ x H', (Ite K l).yld i H x H' → g x σ H' fun σ2 H2 => tb { D with nx := N, ct := N, bk := D.nx } σ2 H2) := by
  refine ⟨fun i m σ H => m = xs.length - i ∧ i ≤ xs.length ∧ Pv i σ H, ⟨xs.length, by simp, Nat.zero_le _, h0⟩, ?_⟩
  rintro i m σ H ⟨rfl, hi, p⟩
  have q := hl i σ H hi p
  by_cases hlt : i < xs.length
  · refine .inr ⟨⟨xs, xs[i], q, by simp [hlt]⟩, Pv (i + 1), fun σ' H' p' => ⟨xs.length - (i + 1), by omega, rfl, hlt, p'⟩, fun v H' y => ?_⟩
    obtain ⟨T, x, rfl, hT, rfl, hx⟩ := y
    exact hs i x T σ H (hx xs q) hT p
  · have e : i = xs.length := by omega
    subst e
    exact .inl ⟨⟨xs, q, Nat.le_refl _⟩, hd σ H p⟩
end
end L2

/-! ### min and max of a list of ints, with a default too -/
namespace L2
open PySem PySem.Spec PyProof.Rows
section
variable {prog : Program} {w : World} {A : Around} {R : Result → Shared → Prop} {I : Addr} {fp wr : List Addr} {n : Nat} {P : Nat → Value → Prop} {St : Nat → Heap → Prop}
end
section
variable {X : Cx}
end

section
variable {prog : Program} {w : World} {A : Around} {R : Result → Shared → Prop} {I : Addr} {fp wr : List Addr} {n : Nat} {P : Nat → Value → Prop} {St : Nat → Heap → Prop}
end
section
variable {X : Cx}
end
section
variable {X : Cx}
def rGetL (K : PySem.W.Frag) : V → V → Hp → VK → Prop := fun o i H Q => ∃ p xs k v, o = .ref p ∧ i = .int k ∧ SqL K H p xs ∧ 0 ≤ k ∧ xs[k.toNat]? = some v ∧ Q v H
end
end L2

/-! ### in, not in: a list of data (tuples) -/
namespace L2
open PySem PySem.Spec PyProof.Rows
def rInD (K : PySem.W.Frag) (neg : Bool) : R2 := fun x y H Q => ∃ p ds xs d, y = .ref p ∧ SqL K H p xs ∧ DtVs K H ds xs ∧ DtV K H d x ∧ DeepsLe 50 ds ∧ Q (.bl (if neg then !(ds.any fun e => eqD e d) else ds.any fun e => eqD e d)) H
section
variable {X : Cx} {pins : List (Addr × Obj)} {σ : St} {H : Hp} {s : Shared}
open Classical in
/-- a function of the values that says which are equal to a datum -/
theorem Inv.eqFn (I : Inv X pins σ H s) {ds : List Dt} {xs : List V} {its : List Value} {d : Dt} {x : V} {v : Value} {A : Around} (h : DtVs X.K H ds xs) (rv : Vals xs its) (hx : DtV X.K H d x) (rx : RelV x v) (hd : DeepsLe 50 ds) (hu : A.units + 50 < cLine) :
    ∃ f : Value → Bool, (∀ u ∈ its, SeqAt.EqAt A s u v (f u)) ∧ its.any f = ds.any fun e => eqD e d := by
  let f : Value → Bool := fun u => decide (∃ (j : Nat) (e : Dt), its[j]? = some u ∧ ds[j]? = some e ∧ eqD e d = true)
  have hl : ds.length = its.length := h.length.trans rv.length
  have one : ∀ (j : Nat) (u : Value) (e : Dt), its[j]? = some u → ds[j]? = some e → f u = eqD e d := fun j u e h1 h2 => by
    show decide _ = _
    rw [Bool.eq_iff_iff, decide_eq_true_iff]
    constructor
    · rintro ⟨j', e', h1', h2', h3⟩
      obtain ⟨y, hy, dy⟩ := h.get h2
      obtain ⟨y', hy', dy'⟩ := h.get h2'
      obtain ⟨u1, hu1, r1⟩ := rv.get hy
      obtain ⟨u2, hu2, r2⟩ := rv.get hy'
      rw [h1] at hu1
      rw [h1'] at hu2
      cases hu1
      cases hu2
      rw [r1.inj r2] at dy
      rw [I.dtUniq dy dy']
      exact h3
    · intro h3
      exact ⟨j, e, h1, h2, h3⟩
  refine ⟨f, fun u hu' => ?_, ?_⟩
  · obtain ⟨j, hj, e⟩ := List.getElem_of_mem hu'
    have h1 : its[j]? = some u := by rw [List.getElem?_eq_getElem hj, e]
    obtain ⟨e', he'⟩ := get_of (l := ds) (j := j) (by omega)
    obtain ⟨y, hy, dy⟩ := h.get he'
    obtain ⟨u1, hu1, r1⟩ := rv.get hy
    rw [h1] at hu1
    cases hu1
    rw [one j u e' h1 he']
    exact I.eqAt dy hx r1 rx (hd.get he') hu
  · rw [Bool.eq_iff_iff, List.any_eq_true, List.any_eq_true]
    constructor
    · rintro ⟨u, hu', hf⟩
      obtain ⟨j, e, h1, h2, h3⟩ := of_decide_eq_true hf
      exact ⟨e, List.mem_of_getElem? h2, h3⟩
    · rintro ⟨e, he, h3⟩
      obtain ⟨j, hj, e2⟩ := List.getElem_of_mem he
      have h2 : ds[j]? = some e := by rw [List.getElem?_eq_getElem hj, e2]
      obtain ⟨u, hu'⟩ := get_of (l := its) (j := j) (by omega)
      exact ⟨u, List.mem_of_getElem? hu', by rw [one j u e hu' h2]; exact h3⟩
theorem op_notInD (hu : X.A.units + 64 < cLine) : OpR X (compareOp .NotIn) (rInD X.K true) := by
  intro pins s σ H x y v u Q I rx ry h
  obtain ⟨p, ds, xs, d, rfl, hq, hd, hx, dl, q⟩ := h
  cases ry
  obtain ⟨its, r, pl, hz⟩ := I.list hq
  obtain ⟨f, h1, h2⟩ := I.eqFn (A := X.A.in1) hd r hx rx dl (by show X.A.units + 1 + 50 < cLine; omega)
  refine SeqAt.notIn_listAt f pl.isList (fun w hw => h1 w (by simpa using hw)) ⟨.bl _, H, I, rfl, ?_⟩
  rw [show its.toArray.any f = its.any f by simp, h2]
  exact q
theorem opK_notInD {K : PySem.W.Frag} (hK : X.K = K) (hu : X.A.units + 64 < cLine) : OpR X (compareOp .NotIn) (rInD K true) := hK ▸ op_notInD hu
end
end L2

/-! ### set of a list of ints, its len; all while an exception may be handled -/
namespace L2
open PySem PySem.Spec PyProof.Rows
section
variable {prog : Program} {w : World} {A : Around} {E : Value → Shared → Prop} {s : Shared} {cs : List Addr}
end
section
variable {X : Cx}
end
end L2

/-! ### list(reversed(l)); all while an exception may be handled -/
namespace L2
open PySem PySem.Spec PyProof.Rows
section
variable {prog : Program} {w : World} {A : Around} {E : Value → Shared → Prop} {s : Shared} {cs : List Addr}
end
section
variable {X : Cx}
end
end L2

/-! ### sorted of a list of strings -/
namespace L2
open PySem PySem.Spec PyProof.Rows
section
variable {X : Cx}
end
end L2

/-! ### list.insert, list.index of texts, zip of two lists of unlike lengths -/
namespace L2
open PySem PySem.Spec PyProof.Rows
section
variable {X : Cx}
def rInsert : V → List V → Hp → VK → Prop := fun x vs H Q => ∃ l xs i y, x = .ref l ∧ vs = [.int i, y] ∧ H l = some (.lst xs) ∧ 0 ≤ i ∧ i ≤ xs.length ∧ xs.length < sizeLine ∧ Q .non (upd H l (.lst (xs.take i.toNat ++ y :: xs.drop i.toNat)))
def rIndexS : V → List V → Hp → VK → Prop := fun x vs H Q => ∃ l, ∃ ss : List Str, ∃ y, ∃ j : Nat, x = .ref l ∧ vs = [.str y] ∧ H l = some (.lst (ss.map V.str)) ∧ ss[j]? = some y ∧ (∀ i, i < j → ss[i]? ≠ some y) ∧ Q (.int (j : Int)) H
end
end L2

/-! ### a dict's keys in turn; a copy of a dict -/
namespace L2
open PySem PySem.Spec PyProof.Rows
def Itk (d : Addr) (o : Obj) (kvs : List (Key × V)) : It :=
  ⟨fun i H => H d = some (.frz o (.dK kvs)) ∧ i < kvs.length, fun i H v H' => H' = H ∧ ∃ k x, v = kV k ∧ kvs[i]? = some (k, x), fun i H => H d = some (.frz o (.dK kvs)) ∧ kvs.length ≤ i⟩
def KeyIt (h : Heap) (it d : Addr) (o : Obj) (n i : Nat) : Prop := ∃ es ep, o.data = .dict es ep ∧ h.IsKeyIter it d i n ep
def iKeys (tl : TE) : TI := fun σ H R => tl σ H fun x H1 => ∃ d kvs, x = .ref d ∧ H1 d = some (.dK kvs) ∧ ∀ o, R (Itk d o kvs) (upd H1 d (.frz o (.dK kvs)))
section
variable {X : Cx}
/-- a statement that freezes the dict at d meanwhile; where it leaves the def the dict stays so -/
def sThaw (t : TS) : TS := fun D σ H => ∃ d kvs, H d = some (.dK kvs) ∧ t { D with nx := fun σ1 H1 => ∃ o, H1 d = some (.frz o (.dK kvs)) ∧ D.nx σ1 (upd H1 d (.dK kvs)), ct := fun _ _ => False, bk := fun _ _ => False, rt := fun v H1 => ∃ o, H1 d = some (.frz o (.dK kvs)) ∧ D.rt v (upd H1 d (.dK kvs)) } σ H
theorem call_dictD : CallR X (.type "dict") (fun xs H Q => ∃ d kvs, xs = [.ref d] ∧ H d = some (.dK kvs) ∧ ∀ l, H l = none → Q (.ref l) (upd H l (.dK kvs))) := by
  intro pins s σ H xs us Q I r h
  obtain ⟨d, kvs, rfl, e, q⟩ := h
  obtain ⟨u, rfl, ru⟩ := vals1 r
  obtain rfl : u = Value.ref d := ru
  obtain ⟨z, hsm, vs, rel, dd⟩ := dk_of I.hok e
  refine kt_call_dict hsm dd (by rw [← rel.length]; exact z) fun h' hd' hs' => ?_
  have ne : (s.heap.objs.size == sysModules) = false := (dk_empty (P := X.prog) (w := X.w) (H := H) s.heap I.big).2.1
  refine ⟨.ref s.heap.objs.size, _, I.laid (a := s.heap.objs.size) (o := .dK kvs) (t' := s.toks) (fun b o q => hs'.extBut b o (Nat.ne_of_lt (Heap.lt_size q)) (Heap.get?_push_of_some _ q)) (Nat.le_refl _) ⟨z, ne, vs, rel, hd'⟩, rfl, q _ (I.hok.fresh (Nat.le_refl _))⟩
end
end L2

/-! ### dict.setdefault -/
namespace L2
open PySem PySem.Spec PyProof.Rows
section
variable {X : Cx}
def rSetD : V → List V → Hp → VK → Prop := fun x vs H Q => ∃ d kvs k v, x = .ref d ∧ vs = [kV k, v] ∧ H d = some (.dK kvs) ∧ kvs.length < sizeLine ∧ (∀ u, valV kvs k = some u → Q u H) ∧ (valV kvs k = none → Q v (upd H d (.dK (putK kvs k v))))
end
end L2

/-! ### lists of texts -/
namespace L2
open PySem PySem.Spec PyProof.Rows
def strsOf : List Expr → Option (List Str)
  | [] => some []
  | .Constant (.str x) _ _ :: es => (strsOf es).map (x :: ·)
  | _ => none
section
variable {X : Cx}
theorem pa_strs : ∀ {es : List Expr} {xs : List Str}, strsOf es = some xs → PA X es (fun _ H Q => Q (xs.map V.str) H)
  | [], _, h => by
    cases h
    exact pa_nil
  | e :: es, xs, h => by
    cases e with
    | Constant c j p =>
      cases c with
      | str x =>
        cases q : strsOf es with
        | none =>
          unfold strsOf at h
          rw [q] at h
          cases h
        | some ys =>
          unfold strsOf at h
          rw [q] at h
          cases h
          exact pa_cons pe_str (pa_strs q) rfl
      | _ => cases h
    | _ => cases h
end
end L2
namespace L2
open PySem PySem.Spec PyProof.Rows
end L2

/-! ### isinstance of exceptions within a handler -/
namespace L2
open PySem PySem.Spec PyProof.Rows
section
variable {X : Cx} {K : PySem.W.Frag} (hK : X.K = K)
include hK
def rIsX (K : PySem.W.Frag) : List V → Hp → VK → Prop := fun xs H Q => ∃ a C dd vc c b, xs = [.ref a, vc] ∧ IsX H a C dd ∧ XDs H dd ∧ XIs K C ∧ (∀ u, RelV vc u → u = c) ∧ PySem.W.kitOne K (.ref C) c = some b ∧ Q (.bl b) H
def rIsXT (K : PySem.W.Frag) : List V → Hp → VK → Prop := fun xs H Q => ∃ a C dd p vcs cs b, xs = [.ref a, .ref p] ∧ IsX H a C dd ∧ XDs H dd ∧ XIs K C ∧ H p = some (.tup vcs) ∧ (∀ us, Vals vcs us → us = cs) ∧ PySem.W.kitAny K (.ref C) cs = some b ∧ Q (.bl b) H
end
end L2

/-! ### dict of a list of pairs -/
namespace L2
open PySem PySem.Spec PyProof.Rows
section
variable {prog : Program} {w : World} {A : Around} {E : Value → Shared → Prop} {s : Shared} {cs : List Addr}
theorem lk_list_keys : typeLookup (.type "list") "keys" = pure none := am_miss_of_fast (by kernel_rfl)
/-- an AttributeError, made and raised -/
theorem attr_hd {α : Type} {o : Value} {name msg : Str} {Q : α → Shared → Prop} (hd : Hd A s.heap)
    (h : ∀ h' tk e, (∀ b ob, s.heap.get? b = some ob → h'.get? b = some ob) → (∃ o', h'.get? e = some o' ∧ o'.cls = .type "AttributeError") → E (.ref e) { s with heap := h', toks := tk }) (hm : msg.length ≤ sizeLine := by size_fits) :
    wpAny (model prog w) A (raiseAttrError o name msg : Sem α) Q E s := by
  unfold raiseAttrError
  refine wpAny_bind (wpAny_mkStr (wpAny_bind ?_) hm)
  unfold newExc newTuple
  refine wpAny_bind (wpAny_newObj_type ?_ (by size_fits))
  refine wpAny_bind (m := firstArgMember _ _) (wpAny_of_eq (a := Value.none) (by simp only [firstArgMember, attrError_no_first]; rfl) ?_)
  rw [ownMembersOf_AttributeError]
  refine wpAny_newObj_type ?_ (by size_fits)
  obtain ⟨hp, g, d, tk, os⟩ := s
  have f1 := sub_AttributeError
  repeat (any_goals (first | assumption | wp_step))
  dsimp only
  have lt1 : ∀ b ob, hp.get? b = some ob → b < hp.objs.size + 1 := fun b ob q => Nat.lt_succ_of_lt (Heap.lt_size q)
  refine raise_hd ?_ (Heap.get?_update_self _ (Heap.get?_push_size _ rfl) rfl) rfl (by simp) fun h' o' vs' k' e' c' _ _ _ _ _ =>
    h h' _ _ (fun b ob q => k' b ob ?_ ((Heap.get?_update_other _ _ ?_).trans (Heap.get?_push_of_some _ (Heap.get?_push_of_some _ q)))) ⟨o', e', c'⟩
  · rcases hd with hn | ⟨a, cs, ha, c⟩
    · exact .inl hn
    · have lt : ∀ b ∈ a :: cs, b < hp.objs.size := c.lt
      refine .inr ⟨a, cs, ha, c.mono fun b ob hb q => (Heap.get?_update_other _ _ ?_).trans (Heap.get?_push_of_some _ (Heap.get?_push_of_some _ q)), fun z => ?_⟩
      · simp only [Heap.size_push]
        exact Nat.ne_of_gt (lt1 b ob q)
      · have := lt _ z
        simp only [Heap.size_push] at this
        exact absurd (Nat.lt_of_lt_of_le this (Nat.le_succ _)) (Nat.lt_irrefl _)
  · simp only [Heap.size_push]
    exact Nat.ne_of_lt (lt1 b ob q)
  · simp only [Heap.size_push]
    exact Nat.ne_of_gt (lt1 b ob q)
theorem keys_miss {l : Addr} {ol : Obj} {tk : Tok} {Q : Fin → Shared → Prop} (hd : Hd A s.heap) (ho : s.heap.get? l = some ol) (hc : ol.cls = .type "list") (hdi : ol.dict = none) {its : Array Value} {nn : Nat} (hda : ol.data = .seq its nn)
    (h : ∀ h' tk e, (∀ b ob, s.heap.get? b = some ob → h'.get? b = some ob) → (∃ o', h'.get? e = some o' ∧ o'.cls = .type "AttributeError") → E (.ref e) { s with heap := h', toks := tk }) :
    wpAny (model prog w) A (Builtin.«object.__getattribute__» ⟨[.ref l, .str "keys" tk], []⟩) Q E s := by
  have hT : s.TypeIs (.ref l) "list" := ⟨_, ho, hc⟩
  have f4 := lk_list_keys
  unfold Builtin.«object.__getattribute__»
  obtain ⟨hp, g, d, tk', os⟩ := s
  obtain ⟨oc, od, oda, osl⟩ := ol
  dsimp only at hc hdi hda
  subst hc hdi hda
  repeat (any_goals (first | assumption | wp_step))
  exact attr_hd hd h (attrMsg_fits (by decide +kernel) (by size_fits))
theorem no_keys {l : Addr} {ol : Obj} {Q : Option Value → Shared → Prop} (hd : Hd A s.heap) (ho : s.heap.get? l = some ol) (hc : ol.cls = .type "list") (hdi : ol.dict = none) {its : Array Value} {nn : Nat} (hda : ol.data = .seq its nn)
    (h : ∀ h' tk, (∀ b ob, s.heap.get? b = some ob → h'.get? b = some ob) → Q none { s with heap := h', toks := tk }) :
    wpAny (model prog w) A (getAttr? (.ref l) "keys") Q E s := by
  unfold getAttr? getAttrBy?
  obtain ⟨hp, g, d, tk', os⟩ := s
  have hT : (⟨hp, g, d, tk' + 1, os⟩ : Shared).TypeIs (.ref l) "list" := ⟨_, ho, hc⟩
  have f1 := sub_AttributeError
  have f2 := F.slot_list_getattribute.lookup
  have f3 := F.slot_list_getattribute.bind (.ref l)
  have f5 : typeLookup (.type "list") "__getattr__" = pure none := am_miss_of_fast (by kernel_rfl)
  unfold getAttrBy
  repeat (any_goals (first | assumption | wp_step))
  refine codeAny_call_builtin F.slot_list_getattribute.plain F.entry_list_ga (F.slot_list_getattribute.check _ _ _ _ _ _ _ _ hT (F.args_list_getattribute_2 _ _) (keys_miss (s := ⟨hp, g, d, tk' + 1, os⟩) hd ho hc hdi hda fun h' tk2 e k' ⟨o', e1, e2⟩ => ?_))
  dsimp only
  show wpAny _ _ (getattributeRaised _ _ _ _ _ _ _) _ _ _
  unfold getattributeRaised
  have hE : (⟨h', g, d, tk2, os⟩ : Shared).TypeIs (.ref e) "AttributeError" := ⟨_, e1, e2⟩
  repeat (any_goals (first | assumption | wp_step))
  exact h h' tk2 k'
end
end L2

/-! ### dict of a list of pairs: the loop -/
namespace L2
open PySem PySem.Spec PyProof.Rows
theorem entry_dict_loop : entryFor table "dict.update.loop" = some Builtin.«dict.update.loop» := entryFor_of_tree (by kernel_rfl)
theorem plain_dict_loop : plainId "dict.update.loop" = true := by decide +kernel
section
variable {prog : Program} {w : World} {A : Around} {R : Result → Shared → Prop} {κ : Type} [DecidableEq κ] {knd : KeyKind prog w κ} {I d : Addr} {fp wr : List Addr} {G : Array GenState → Array GenState → Prop} {n : Nat} {P : Nat → Value → Prop} {St : Nat → Shared → Prop}
theorem dict_loop (W : WalksS prog w A.in1 I fp wr G n P St) (hdf : d ∉ fp) (hn : n ≤ 1000) (s0 : Shared) (ks : Nat → κ) (vs : Nat → Value) (kvs : Nat → List (κ × Value)) (res : Value)
    (hval : ∀ i v, P i v → ∃ t key, v = .ref t ∧ s0.heap.IsTuple t #[key, vs i] ∧ t ∉ d :: wr ∧ knd.is (ks i) key = true)
    (hs : ∀ i, kvs (i + 1) = stored (kvs i) (ks i) (vs i)) (hl : ∀ i, (kvs i).length ≤ i) :
    ∀ (k i : Nat) (s : Shared), n - i = k → i ≤ n → St i s → Moved (d :: wr) G s0 s → s.heap.DictOf knd d (kvs i) →
      (∀ s', Moved (d :: wr) G s0 s' → s'.heap.DictOf knd d (kvs n) → R (.ok (.ret res)) s') →
      codeAny (model prog w) A (.builtin "dict.update.loop" ⟨[.ref d, .ref I, .int i 0, res], []⟩) R s := by
  have hdw : d ∉ wr := fun h => hdf (W.sub _ h)
  have hsub : ∀ b ∈ wr, b ∈ d :: wr := fun b hb => List.mem_cons_of_mem _ hb
  intro k
  induction k with
  | zero =>
    intro i s hk hi hst m0 hD hR
    have hin : i = n := by omega
    subst hin
    refine codeAny_builtin entry_dict_loop ?_
    rw [Around.under_plainId plain_dict_loop _]
    show wpAny _ A.in1 (pyNext (.ref I) >>= _) _ _ s
    refine wpAny_bind (W.done s _ _ hst fun s' hm => ?_)
    show wpAny _ A.in1 (pure () >>= fun _ => ret res) _ _ s'
    exact wpAny_bind (wpAny_pure (wpAny_pure (hR s' (Moved.trans W.gtrans m0 (hm.mono hsub)) (by
      obtain ⟨o, es, ep, ho, rest⟩ := hD
      exact ⟨o, es, ep, hm.heap d _ hdw ho, rest⟩))))
  | succ k ih =>
    intro i s hk hi hst m0 hD hR
    have hlt : i < n := by omega
    refine codeAny_builtin entry_dict_loop ?_
    rw [Around.under_plainId plain_dict_loop _]
    show wpAny _ A.in1 (pyNext (.ref I) >>= _) _ _ s
    refine wpAny_bind (W.item i s _ _ hlt hst fun v s' hP hst' hm => ?_)
    obtain ⟨t, key, rfl, ⟨ot, hot, hct, nt, hdt⟩, htn, hkey⟩ := hval i v hP
    have m1 : Moved (d :: wr) G s0 s' := Moved.trans W.gtrans m0 (hm.mono hsub)
    have hD' : s'.heap.DictOf knd d (kvs i) := by
      obtain ⟨o, es, ep, ho, rest⟩ := hD
      exact ⟨o, es, ep, hm.heap d _ hdw ho, rest⟩
    have hot' := m1.heap t _ htn hot
    have hT : s'.TypeIs (.ref t) "tuple" := ⟨_, hot', hct⟩
    dsimp only
    refine wpAny_bind (wpAny_holding (wpAny_bind (wpAny_tryCatch ?_)))
    unfold Builtin.Dict.pairItems
    refine wpAny_bind (wpAny_typeOf hT ?_)
    rw [if_pos (by decide)]
    refine wpAny_bind (wpAny_seqItems hot' hdt (wpAny_pure ?_))
    show wpAny _ _ (holding [key, vs i] (dictSet d key (vs i))) _ _ s'
    refine wpAny_holding (wpAny_dictSet_pairs (knd := knd) hkey hD' (fun h' hd' hsb => ?_) (by rw [sizeLine_eq]; have := hl i; omega))
    have e1 : kvs (i + 1) = stored (kvs i) (ks i) (vs i) := hs i
    rw [← e1] at hd'
    refine wpAny_pure ⟨plainId_quiet plain_dict_loop _, ih (i + 1) _ (by omega) hlt (W.frame _ s' _ _ hst' (Nat.le_succ _) fun b hb o e => ?_) ?_ hd' hR⟩
    · rw [hsb.2 b (fun h : b = d => hdf (by rw [← h]; exact hb))]; exact e
    · refine m1.then_heap (Nat.le_succ _) fun b o hb e => ?_
      rw [hsb.2 b (fun h : b = d => hb (by rw [h]; exact List.mem_cons_self))]; exact e
end
section
variable {prog : Program} {w : World} {A : Around} {E : Value → Shared → Prop} {s : Shared} {cs : List Addr} {κ : Type} [DecidableEq κ] {knd : KeyKind prog w κ}
set_option maxHeartbeats 3200000 in
theorem dict_pairs {l : Addr} {ol : Obj} {its : Array Value} {nn : Nat} {Q : Value → Shared → Prop} (hc : HdC A cs) (ch : Chn s.heap cs) (ho : s.heap.get? l = some ol) (hcl : ol.cls = .type "list") (hdi : ol.dict = none) (hda : ol.data = .seq its nn) (hz : its.size ≤ 1000)
    (ks : Nat → κ) (vs : Nat → Value) (kvs : Nat → List (κ × Value)) (h0 : kvs 0 = []) (hs : ∀ i, kvs (i + 1) = stored (kvs i) (ks i) (vs i)) (hl : ∀ i, (kvs i).length ≤ i)
    (hval : ∀ i v, its[i]? = some v → ∃ t key, v = .ref t ∧ s.heap.IsTuple t #[key, vs i] ∧ knd.is (ks i) key = true)
    (h : ∀ h' tk, h'.DictOf knd s.heap.objs.size (kvs its.size) → (∀ b o, s.heap.get? b = some o → h'.get? b = some o) → Q (.ref s.heap.objs.size) { s with heap := h', toks := tk }) :
    wpAny (model prog w) A (call (.type "dict") [.ref l]) Q E s := by
  refine callType_codes (Q₁ := fun obj s₁ => obj = .ref s.heap.objs.size ∧ s₁ = { s with heap := s.heap.push { cls := .type "dict", data := .dict #[] } }) F.kt_called_dict (F.kt_typeCall_dict_1 _) F.entry_dict_init (kt_code_dict_new _ ⟨rfl, rfl⟩) ?_
  rintro obj s₁ ⟨rfl, rfl⟩
  have hnew : (s.heap.push { cls := .type "dict", data := .dict #[] }).DictOf knd s.heap.objs.size [] := Heap.DictOf.new s.heap
  have ho' : (s.heap.push { cls := .type "dict", data := .dict #[] }).get? l = some ol := Heap.get?_push_of_some _ ho
  have ch' : Chn (s.heap.push { cls := .type "dict", data := .dict #[] }) cs := ch.mono fun b o _ e => Heap.get?_push_of_some _ e
  have lt : ∀ b ∈ cs, b < s.heap.objs.size := ch.lt
  have hsz : (s.heap.push { cls := .type "dict", data := .dict #[] }).objs.size = s.heap.objs.size + 1 := Heap.size_push ..
  have keep : ∀ b o, s.heap.get? b = some o → (s.heap.push { cls := .type "dict", data := .dict #[] }).get? b = some o := fun b o e => Heap.get?_push_of_some _ e
  generalize s.heap.push { cls := .type "dict", data := .dict #[] } = hp at hnew ho' ch' hsz keep ⊢
  refine ⟨hnew.typeIs, F.args_dict_init_2 _ _, ?_⟩
  unfold Builtin.«dict.__init__»
  refine wpAny_bind ?_
  unfold Builtin.Dict.selfAndRest
  refine wpAny_bind (wpAny_notOrdered_dict hnew.typeIs ?_)
  show wpAny _ _ (pure (s.heap.objs.size, [Value.ref l])) _ _ _
  refine wpAny_pure ?_
  show wpAny _ _ (Builtin.Dict.updateFrom "dict.__init__" s.heap.objs.size (.ref l) [] .none) _ _ _
  unfold Builtin.Dict.updateFrom
  have hT : Shared.TypeIs { s with heap := hp } (.ref l) "list" := ⟨_, ho', hcl⟩
  refine wpAny_bind (wpAny_typeOf hT ?_)
  rw [if_pos (by decide)]
  refine wpAny_bind ?_
  refine no_keys (s := { s with heap := hp }) (HdC.hd (A := A.in1.in1) hc ch') ho' hcl hdi hda fun h2 tk2 k2 => ?_
  have ho2 := k2 _ _ ho'
  have hl2 : h2.IsList l its := ⟨_, ho2, hcl, nn, hda⟩
  have ch2 : Chn h2 cs := ch'.mono fun b o _ e => k2 b o e
  rw [if_pos (show (none : Option Value).isNone = true from rfl)]
  refine wpAny_bind (wpAny_rule ?_)
  refine wpAny_bind (wpAny_pyIter_list hl2 ?_)
  have sz2 : s.heap.objs.size < h2.objs.size := by
    obtain ⟨o, es, ep, hg, _⟩ := hnew
    exact Heap.lt_size (k2 _ _ hg)
  have ll : l < s.heap.objs.size := Heap.lt_size ho
  have W := (walks_list (prog := prog) (w := w) (A := A.in1.in1) hc h2.objs.size l (Nat.ne_of_lt (Nat.lt_trans ll sz2)) (fun z => absurd (Nat.lt_trans (lt _ z) sz2) (Nat.lt_irrefl _)) its).toS
  refine wpAny_pure ⟨plainId_quiet plain_dict_loop _, dict_loop (knd := knd) (A := A.in1) W (fun z => ?_) hz _ ks vs kvs .none (fun i v hv => ?_) hs hl (its.size - 0) 0 _ rfl (Nat.zero_le _) ⟨⟨_, Heap.get?_push_size _ rfl, rfl, rfl⟩, hl2.push _, ch2.mono fun b o _ e => Heap.get?_push_of_some _ e⟩ ⟨fun _ _ _ e => e, W.grefl _, rfl, rfl, Nat.le_refl _⟩ ?_ fun s' hm hD => ?_⟩
  · rcases List.mem_cons.mp z with z | z
    · exact absurd z (Nat.ne_of_lt sz2)
    · rcases List.mem_cons.mp z with z | z
      · exact absurd z (Nat.ne_of_gt ll)
      · exact Nat.lt_irrefl _ (lt _ z)
  · obtain ⟨t, key, e1, ⟨ot, hot, r⟩, hk⟩ := hval i v hv
    have tl := Heap.lt_size hot
    refine ⟨t, key, e1, ⟨ot, Heap.get?_push_of_some _ (k2 _ _ (keep _ _ hot)), r⟩, fun z => ?_, hk⟩
    rcases List.mem_cons.mp z with z | z
    · exact absurd z (Nat.ne_of_lt tl)
    · exact absurd (List.mem_singleton.mp z) (Nat.ne_of_lt (Nat.lt_trans tl sz2))
  · rw [h0]
    obtain ⟨o, es, ep, hg, rest⟩ := hnew
    exact ⟨o, es, ep, Heap.get?_push_of_some _ (k2 _ _ hg), rest⟩
  · obtain ⟨h', g', d', tk', os'⟩ := s'
    have eg : g' = s.gens := hm.gens
    have ed : d' = s.drawn := hm.drawn
    have eo : os' = s.os := hm.os
    subst eg; subst ed; subst eo
    refine ⟨rfl, h h' tk' hD fun b o e => hm.heap b o (fun z => ?_) (Heap.get?_push_of_some _ (k2 _ _ (keep _ _ e)))⟩
    have bl := Heap.lt_size e
    rcases List.mem_cons.mp z with z | z
    · exact absurd z (Nat.ne_of_lt bl)
    · exact absurd (List.mem_singleton.mp z) (Nat.ne_of_lt (Nat.lt_trans bl sz2))
end
end L2

/-! ### dict of a list of pairs: the rule -/
namespace L2
open PySem PySem.Spec PyProof.Rows
/-- at ys stand pairs: a key and a value each -/
def PairsAt (K : PySem.W.Frag) (H : Hp) : List (Key × V) → List V → Prop
  | [], ys => ys = []
  | kv :: r, ys => ∃ t ys', ys = .ref t :: ys' ∧ SqT K H t [kV kv.1, kv.2] ∧ PairsAt K H r ys'
def put1 (m : List (Key × V)) (kv : Key × V) : List (Key × V) := putK m kv.1 kv.2
def mkD (kvs : List (Key × V)) : List (Key × V) := kvs.foldl put1 []
def stN (us : List (Key × Value)) : Nat → List (Key × Value)
  | 0 => []
  | i + 1 => stored (stN us i) (us.getD i (Sum.inl 0, .none)).1 (us.getD i (Sum.inl 0, .none)).2
theorem stN_len (us : List (Key × Value)) : ∀ i, (stN us i).length ≤ i
  | 0 => Nat.le_refl _
  | i + 1 => Nat.le_trans (stored_length_le _ _ _) (Nat.succ_le_succ (stN_len us i))
theorem mkD_len : ∀ (kvs m : List (Key × V)), (kvs.foldl put1 m).length ≤ m.length + kvs.length
  | [], _ => Nat.le_refl _
  | kv :: r, m => by
    have h1 := mkD_len r (put1 m kv)
    have h2 := length_putK m kv.1 kv.2
    show (r.foldl put1 (put1 m kv)).length ≤ _
    unfold put1 at h1 ⊢
    rw [List.length_cons]
    omega
section
variable {X : Cx} {pins : List (Addr × Obj)} {σ : St} {H : Hp} {s : Shared}
theorem pairs_us (I : Inv X pins σ H s) : ∀ {kvs : List (Key × V)} {ys : List V} {its : List Value}, PairsAt X.K H kvs ys → Vals ys its → ∃ us : List (Key × Value), us.length = its.length ∧ kvs.length = us.length ∧
    (∀ i v, its[i]? = some v → ∃ t key, v = .ref t ∧ s.heap.IsTuple t #[key, (us.getD i (Sum.inl 0, .none)).2] ∧ (mixKind X.prog X.w).is (us.getD i (Sum.inl 0, .none)).1 key = true) ∧
    ∀ i kv, kvs[i]? = some kv → kv.1 = (us.getD i (Sum.inl 0, .none)).1 ∧ RelV kv.2 (us.getD i (Sum.inl 0, .none)).2
  | [], _, _, h, r => by
    obtain rfl : _ = [] := h
    cases r
    exact ⟨[], rfl, rfl, (fun i v hv => by simp at hv), fun i kv hk => by simp at hk⟩
  | kv :: kvs, _, _, h, r => by
    obtain ⟨t, ys', rfl, ht, h'⟩ := h
    cases r with
    | cons r1 r2 =>
      obtain rfl := (show _ = Value.ref t from r1)
      obtain ⟨us, e1, e2, e3, e4⟩ := pairs_us I h' r2
      obtain ⟨ti, rv, hT, _⟩ := I.tuple ht
      obtain ⟨key, u, rfl, q1, q2⟩ := vals2 rv
      refine ⟨(kv.1, u) :: us, by rw [List.length_cons, List.length_cons, e1], by rw [List.length_cons, List.length_cons, e2], fun i v hv => ?_, fun i kv' hk => ?_⟩
      · cases i with
        | zero =>
          obtain rfl : Value.ref t = v := Option.some.inj hv
          exact ⟨t, key, rfl, hT, kV_is q1⟩
        | succ i => exact e3 i v hv
      · cases i with
        | zero =>
          obtain rfl : kv = kv' := Option.some.inj hk
          exact ⟨rfl, q2⟩
        | succ i => exact e4 i kv' hk
theorem kv_stN {kvs : List (Key × V)} {us : List (Key × Value)} (h : ∀ i kv, kvs[i]? = some kv → kv.1 = (us.getD i (Sum.inl 0, .none)).1 ∧ RelV kv.2 (us.getD i (Sum.inl 0, .none)).2) : ∀ i, i ≤ kvs.length → KV ((kvs.take i).foldl put1 []) (stN us i)
  | 0, _ => by rw [List.take_zero]; exact .nil
  | i + 1, hi => by
    obtain ⟨kv, hk⟩ : ∃ kv, kvs[i]? = some kv := ⟨_, List.getElem?_eq_getElem (by omega)⟩
    obtain ⟨e1, e2⟩ := h i kv hk
    have ih := kv_stN h i (by omega)
    rw [List.take_add_one, hk, List.foldl_append]
    show KV (put1 ((kvs.take i).foldl put1 []) kv) (stored (stN us i) _ _)
    rw [← e1]
    exact ih.put _ e2
end
section
variable {X : Cx}
theorem call_dictP : CallR X (.type "dict") (fun xs H Q => ∃ p ys kvs, xs = [.ref p] ∧ SqL X.K H p ys ∧ PairsAt X.K H kvs ys ∧ kvs.length ≤ 1000 ∧ ∀ d, H d = none → Q (.ref d) (upd H d (.dK (mkD kvs)))) := by
  intro pins s σ H xs us Q I r h
  obtain ⟨p, ys, kvs, rfl, hq, hP, hlen, q⟩ := h
  obtain ⟨u, rfl, ru⟩ := vals1 r
  obtain rfl : u = Value.ref p := ru
  obtain ⟨its, rv, ⟨ol, nn, e1, e2, e3, e4⟩, _⟩ := I.list hq
  obtain ⟨us, l1, l2, p1, p2⟩ := pairs_us I hP rv
  obtain ⟨cs, hcs, ch⟩ := I.hd.chain
  have hz : its.toArray.size = kvs.length := by simp [l2, l1]
  refine dict_pairs (knd := mixKind X.prog X.w) hcs ch e1 e2 e3 e4 (by rw [hz]; exact hlen) (fun i => (us.getD i (Sum.inl 0, .none)).1) (fun i => (us.getD i (Sum.inl 0, .none)).2) (stN us) rfl (fun _ => rfl) (stN_len us) (fun i v hv => p1 i v (by simpa using hv)) fun h' tk hD hk => ?_
  have ne : (s.heap.objs.size == sysModules) = false := (dk_empty (P := X.prog) (w := X.w) (H := H) s.heap I.big).2.1
  have rel := kv_stN p2 kvs.length (Nat.le_refl _)
  rw [List.take_length] at rel
  rw [hz] at hD
  have z : (mkD kvs).length ≤ sizeLine := by
    have := mkD_len kvs []
    have z0 : ([] : List (Key × V)).length = 0 := rfl
    rw [sizeLine_eq]
    unfold mkD
    omega
  refine ⟨.ref s.heap.objs.size, _, I.laid (a := s.heap.objs.size) (o := .dK (mkD kvs)) (t' := tk) (fun b o e => hk b o e) (Nat.le_refl _) ⟨z, ne, _, rel, hD⟩, rfl, q _ (I.hok.fresh (Nat.le_refl _))⟩
end
end L2

/-! ### three lists of texts in a list -/
namespace L2
open PySem PySem.Spec PyProof.Rows
theorem ps_lists3 {X : Cx} {x : Str} {i : Nat} {e1 e2 e3 : List Expr} {x1 x2 x3 : List Str} {p0 p1 p2 p3 pos pos' : Pos} (h1 : strsOf e1 = some x1) (h2 : strsOf e2 = some x2) (h3 : strsOf e3 = some x3) (hN : X.N.Nodup) (hi : X.N[i]? = some x) (hx : Loc X.env.scope x)
    (hs : swapsWith (.List [.List e1 p1, .List e2 p2, .List e3 p3] p0) (some (.Name x pos')) pos.line X.env = pure false) (hf : X.fn x = true ∨ X.env.scope.names.lookup x = some .local) :
    PS X (.Assign [.Name x pos'] (.List [.List e1 p1, .List e2 p2, .List e3 p3] p0) pos) (tAsg (tLst (tCons (tLst fun _ H Q => Q (x1.map V.str) H) (tCons (tLst fun _ H Q => Q (x2.map V.str) H) (tCons (tLst fun _ H Q => Q (x3.map V.str) H) tNil)))) (gName i)) = True :=
  eq_true (ps_set hN hi hx (pe_lst (pa_cons (pe_lst (pa_strs h1)) (pa_cons (pe_lst (pa_strs h2)) (pa_cons (pe_lst (pa_strs h3)) pa_nil)))) hs hf)
end L2

/-! ### tuples of data and dicts that are alike -/
namespace L2
open PySem PySem.Spec PyProof.Rows PySem.SeqAt
open AutoSeq1 (wpAny_loadPart')
section
variable {prog : Program} {w : World} {A : Around} {s : Shared}
/-- within this program -/
def EqP (prog : Program) (w : World) (A : Around) (s : Shared) (u v : Value) : Prop :=
  ∀ (E : Value → Shared → Prop) (Q : Bool → Shared → Prop), Q true s → wpAny (model prog w) A (eqBool u v) Q E s
end
section
variable {X : Cx} {pins : List (Addr × Obj)} {σ : St} {H : Hp} {s : Shared} {A : Around}
/-- all values are data -/
def FlatK (K : PySem.W.Frag) (H : Hp) (kvs : List (Key × V)) : Prop := ∀ p ∈ kvs, ∃ d, DtV K H d p.2 ∧ DeepLe 20 d
/-- two values that are alike: data, or dicts with the same keys and values -/
def Alike (K : PySem.W.Frag) (H : Hp) (x y : V) : Prop := (∃ d, DtV K H d x ∧ DtV K H d y ∧ DeepLe 30 d) ∨ ∃ a b kvs, x = .ref a ∧ y = .ref b ∧ H a = some (.dK kvs) ∧ H b = some (.dK kvs) ∧ FlatK K H kvs
def Alikes (K : PySem.W.Frag) (H : Hp) : List V → List V → Prop
  | [], [] => True
  | x :: xs, y :: ys => Alike K H x y ∧ Alikes K H xs ys
  | _, _ => False
/-- x == y of two tuples of which each two items are alike -/
def rEqT (K : PySem.W.Frag) : R2 := fun x y H Q => ∃ a b xs ys, x = .ref a ∧ y = .ref b ∧ SqT K H a xs ∧ SqT K H b ys ∧ Alikes K H xs ys ∧ Q (.bl true) H
/-- x == y, x != y of two dicts with the same keys and values -/
def rEqK (K : PySem.W.Frag) : R2 := fun x y H Q => ∃ a b kvs, x = .ref a ∧ y = .ref b ∧ H a = some (.dK kvs) ∧ H b = some (.dK kvs) ∧ FlatK K H kvs ∧ Q (.bl true) H
end
end L2

namespace K41
open PySem L2
def top (i : Nat) : Stmt := PySem.Challenge.pw_layerdraw_k41_what_a_net_wishes.main.body.getD i (.Pass ⟨0, 0, 0, 0⟩)
abbrev s_NoPoint___init__ : Stmt := inClass (top 8) 0
theorem sc_NoPoint___init__ : FnScope ["self", "name"] ["self", "name"] (defScope s_NoPoint___init__) := ⟨rfl, rfl, rfl, by decide +kernel, rfl, by decide +kernel, by decide +kernel⟩
abbrev s_NoSuch___init__ : Stmt := inClass (top 9) 0
theorem sc_NoSuch___init__ : FnScope ["self", "number"] ["self", "number"] (defScope s_NoSuch___init__) := ⟨rfl, rfl, rfl, by decide +kernel, rfl, by decide +kernel, by decide +kernel⟩
abbrev s_fits : Stmt := top 11
theorem sc_fits : FnScope ["count", "wishes", "places"] ["count", "wishes", "places"] (defScope s_fits) := ⟨rfl, rfl, rfl, by decide +kernel, rfl, by decide +kernel, by decide +kernel⟩
abbrev s_worth : Stmt := top 12
theorem sc_worth : FnScope ["wishes", "places"] ["wishes", "places"] (defScope s_worth) := ⟨rfl, rfl, rfl, by decide +kernel, rfl, by decide +kernel, by decide +kernel⟩
abbrev s_is_name : Stmt := top 24
theorem sc_is_name : FnScope ["name"] ["name"] (defScope s_is_name) := ⟨rfl, rfl, rfl, by decide +kernel, rfl, by decide +kernel, by decide +kernel⟩
abbrev s_is_whole : Stmt := top 25
theorem sc_is_whole : FnScope ["number"] ["number"] (defScope s_is_whole) := ⟨rfl, rfl, rfl, by decide +kernel, rfl, by decide +kernel, by decide +kernel⟩
abbrev s_in_range : Stmt := top 26
theorem sc_in_range : FnScope ["number", "least", "greatest"] ["number", "least", "greatest"] (defScope s_in_range) := ⟨rfl, rfl, rfl, by decide +kernel, rfl, by decide +kernel, by decide +kernel⟩
abbrev s_Net___init__ : Stmt := inClass (top 27) 0
theorem sc_Net___init__ : FnScope ["self"] ["self"] (defScope s_Net___init__) := ⟨rfl, rfl, rfl, by decide +kernel, rfl, by decide +kernel, by decide +kernel⟩
abbrev s_Net_put_point : Stmt := inClass (top 27) 1
theorem sc_Net_put_point : FnScope ["self", "name", "half"] ["self", "name", "half"] (defScope s_Net_put_point) := ⟨rfl, rfl, rfl, by decide +kernel, rfl, by decide +kernel, by decide +kernel⟩
abbrev s_Net_put_arrow : Stmt := inClass (top 27) 2
theorem sc_Net_put_arrow : FnScope ["self", "one", "other", "span", "weight", "number"] ["self", "one", "other", "span", "weight"] (defScope s_Net_put_arrow) := ⟨rfl, rfl, rfl, by decide +kernel, rfl, by decide +kernel, by decide +kernel⟩
abbrev s_Net_put_same : Stmt := inClass (top 27) 3
theorem sc_Net_put_same : FnScope ["self", "one", "other"] ["self", "one", "other"] (defScope s_Net_put_same) := ⟨rfl, rfl, rfl, by decide +kernel, rfl, by decide +kernel, by decide +kernel⟩
abbrev s_Net_put_most : Stmt := inClass (top 27) 4
theorem sc_Net_put_most : FnScope ["self", "one", "other", "number"] ["self", "one", "other", "number"] (defScope s_Net_put_most) := ⟨rfl, rfl, rfl, by decide +kernel, rfl, by decide +kernel, by decide +kernel⟩
abbrev s_Net_take_arrow : Stmt := inClass (top 27) 5
theorem sc_Net_take_arrow : FnScope ["self", "number"] ["self", "number"] (defScope s_Net_take_arrow) := ⟨rfl, rfl, rfl, by decide +kernel, rfl, by decide +kernel, by decide +kernel⟩
abbrev s_Net_points : Stmt := inClass (top 27) 6
theorem sc_Net_points : FnScope ["self"] ["self"] (defScope s_Net_points) := ⟨rfl, rfl, rfl, by decide +kernel, rfl, by decide +kernel, by decide +kernel⟩
abbrev s_Net_arrows : Stmt := inClass (top 27) 8
theorem sc_Net_arrows : FnScope ["self"] ["self"] (defScope s_Net_arrows) := ⟨rfl, rfl, rfl, by decide +kernel, rfl, by decide +kernel, by decide +kernel⟩
abbrev s_Net_sames : Stmt := inClass (top 27) 9
theorem sc_Net_sames : FnScope ["self"] ["self"] (defScope s_Net_sames) := ⟨rfl, rfl, rfl, by decide +kernel, rfl, by decide +kernel, by decide +kernel⟩
abbrev s_Net_mosts : Stmt := inClass (top 27) 10
theorem sc_Net_mosts : FnScope ["self"] ["self"] (defScope s_Net_mosts) := ⟨rfl, rfl, rfl, by decide +kernel, rfl, by decide +kernel, by decide +kernel⟩
abbrev s_Net_need_point : Stmt := inClass (top 27) 11
theorem sc_Net_need_point : FnScope ["self", "name"] ["self", "name"] (defScope s_Net_need_point) := ⟨rfl, rfl, rfl, by decide +kernel, rfl, by decide +kernel, by decide +kernel⟩
abbrev s_Net_need_two_points : Stmt := inClass (top 27) 12
theorem sc_Net_need_two_points : FnScope ["self", "one", "other"] ["self", "one", "other"] (defScope s_Net_need_two_points) := ⟨rfl, rfl, rfl, by decide +kernel, rfl, by decide +kernel, by decide +kernel⟩
abbrev s_way : Stmt := top 29
theorem sc_way : FnScope ["arrows", "start", "end", "ways", "waiting", "point", "number", "one", "other", "span", "weight"] ["arrows", "start", "end"] (defScope s_way) := ⟨rfl, rfl, rfl, by decide +kernel, rfl, by decide +kernel, by decide +kernel⟩
abbrev s_kept_arrows : Stmt := top 30
theorem sc_kept_arrows : FnScope ["net", "kept", "arrow"] ["net"] (defScope s_kept_arrows) := ⟨rfl, rfl, rfl, by decide +kernel, rfl, by decide +kernel, by decide +kernel⟩
abbrev s_turned : Stmt := top 31
theorem sc_turned : FnScope ["net", "kept"] ["net"] (defScope s_turned) := ⟨rfl, rfl, rfl, by decide +kernel, rfl, by decide +kernel, by decide +kernel⟩
abbrev s_wishes_of : Stmt := top 33
theorem sc_wishes_of : FnScope ["net", "numbers", "turned_about", "wishes", "number", "one", "other", "span", "weight"] ["net"] (defScope s_wishes_of) := ⟨rfl, rfl, rfl, by decide +kernel, rfl, by decide +kernel, by decide +kernel⟩
abbrev s_places_by : Stmt := top 34
theorem sc_places_by : FnScope ["net", "levels"] ["net", "levels"] (defScope s_places_by) := ⟨rfl, rfl, rfl, by decide +kernel, rfl, by decide +kernel, by decide +kernel⟩
abbrev s_keeps_net : Stmt := top 35
theorem sc_keeps_net : FnScope ["net", "levels"] ["net", "levels"] (defScope s_keeps_net) := ⟨rfl, rfl, rfl, by decide +kernel, rfl, by decide +kernel, by decide +kernel⟩
abbrev s_length : Stmt := top 36
theorem sc_length : FnScope ["net", "levels"] ["net", "levels"] (defScope s_length) := ⟨rfl, rfl, rfl, by decide +kernel, rfl, by decide +kernel, by decide +kernel⟩
abbrev s__law_cell_at : Stmt := top 38
theorem sc__law_cell_at : FnScope ["_law_script", "_law_k"] ["_law_script", "_law_k"] (defScope s__law_cell_at) := ⟨rfl, rfl, rfl, by decide +kernel, rfl, by decide +kernel, by decide +kernel⟩
abbrev s__law_stream : Stmt := top 39
theorem sc__law_stream : FnScope ["_law_cell", "_law_many", "_law_found", "_law_number", "_law_k"] ["_law_cell", "_law_many"] (defScope s__law_stream) := ⟨rfl, rfl, rfl, by decide +kernel, rfl, by decide +kernel, by decide +kernel⟩
abbrev s__law_names : Stmt := top 40
theorem sc__law_names : FnScope ["_law_cell", "_law_some"] ["_law_cell"] (defScope s__law_names) := ⟨rfl, rfl, rfl, by decide +kernel, rfl, by decide +kernel, by decide +kernel⟩
abbrev s__law_deed : Stmt := top 41
theorem sc__law_deed : FnScope ["_law_net", "_law_world", "_law_names_here", "_law_xs", "_law_one", "_law_other", "_law_deed_here", "_law_span", "_law_weight", "_law_number", "_law_most", "_law_gone"] ["_law_net", "_law_world", "_law_names_here", "_law_xs"] (defScope s__law_deed) := ⟨rfl, rfl, rfl, by decide +kernel, rfl, by decide +kernel, by decide +kernel⟩
abbrev s__law_due : Stmt := top 42
theorem sc__law_due : FnScope ["_law_world", "_law_about", "_law_due_here", "_law_number", "_law_one", "_law_other", "_law_span", "_law_weight", "_law_most"] ["_law_world", "_law_about"] (defScope s__law_due) := ⟨rfl, rfl, rfl, by decide +kernel, rfl, by decide +kernel, by decide +kernel⟩
abbrev s__law_kinds : Stmt := top 43
theorem sc__law_kinds : FnScope ["_law_told", "_law_wish"] ["_law_told"] (defScope s__law_kinds) := ⟨rfl, rfl, rfl, by decide +kernel, rfl, by decide +kernel, by decide +kernel⟩
abbrev s__law_levels : Stmt := top 44
theorem sc__law_levels : FnScope ["_law_names_here", "_law_wishes", "_law_xs", "_law_levels_here", "_law_turn", "_law_one", "_law_other", "_law_least", "_law_weight"] ["_law_names_here", "_law_wishes", "_law_xs"] (defScope s__law_levels) := ⟨rfl, rfl, rfl, by decide +kernel, rfl, by decide +kernel, by decide +kernel⟩
abbrev s_law : Stmt := top 45
theorem sc_law : FnScope ["_law_script", "_law_cell", "_law_names_here", "_law_net", "_law_name", "_law_world", "_law_due_here", "_law_told", "_law_levels_here", "_law_by_name", "_law_k", "_law_kept", "_law_worth_due"] ["_law_script"] (defScope s_law) := ⟨rfl, rfl, rfl, by decide +kernel, rfl, by decide +kernel, by decide +kernel⟩
structure Adr where
  DrawError : Addr
  NoName : Addr
  Taken : Addr
  Alone : Addr
  NoNumber : Addr
  TooMany : Addr
  NoPoint : Addr
  NoSuch : Addr
  Net : Addr
structure Tx (K : PySem.W.Frag) (mg : Str → Option Value) (a : Adr) : Prop where
  g_DrawError : mg "DrawError" = some (.ref a.DrawError)
  xb_DrawError : PySem.W.mroIn K a.DrawError (.type "BaseException") = some true
  xt_DrawError : PySem.W.typeIn K (.ref a.DrawError) = some (.type "type")
  g_NoName : mg "NoName" = some (.ref a.NoName)
  xb_NoName : PySem.W.mroIn K a.NoName (.type "BaseException") = some true
  xt_NoName : PySem.W.typeIn K (.ref a.NoName) = some (.type "type")
  x_NoName : XC0 K a.NoName
  g_Taken : mg "Taken" = some (.ref a.Taken)
  xb_Taken : PySem.W.mroIn K a.Taken (.type "BaseException") = some true
  xt_Taken : PySem.W.typeIn K (.ref a.Taken) = some (.type "type")
  x_Taken : XC0 K a.Taken
  g_Alone : mg "Alone" = some (.ref a.Alone)
  xb_Alone : PySem.W.mroIn K a.Alone (.type "BaseException") = some true
  xt_Alone : PySem.W.typeIn K (.ref a.Alone) = some (.type "type")
  x_Alone : XC0 K a.Alone
  g_NoNumber : mg "NoNumber" = some (.ref a.NoNumber)
  xb_NoNumber : PySem.W.mroIn K a.NoNumber (.type "BaseException") = some true
  xt_NoNumber : PySem.W.typeIn K (.ref a.NoNumber) = some (.type "type")
  x_NoNumber : XC0 K a.NoNumber
  g_TooMany : mg "TooMany" = some (.ref a.TooMany)
  xb_TooMany : PySem.W.mroIn K a.TooMany (.type "BaseException") = some true
  xt_TooMany : PySem.W.typeIn K (.ref a.TooMany) = some (.type "type")
  x_TooMany : XC0 K a.TooMany
  g_NoPoint : mg "NoPoint" = some (.ref a.NoPoint)
  xb_NoPoint : PySem.W.mroIn K a.NoPoint (.type "BaseException") = some true
  xt_NoPoint : PySem.W.typeIn K (.ref a.NoPoint) = some (.type "type")
  g_NoSuch : mg "NoSuch" = some (.ref a.NoSuch)
  xb_NoSuch : PySem.W.mroIn K a.NoSuch (.type "BaseException") = some true
  xt_NoSuch : PySem.W.typeIn K (.ref a.NoSuch) = some (.type "type")
  g_Net : mg "Net" = some (.ref a.Net)
  c_Net : Cls K a.Net
  na_Net_arrows_by_number : NoAttr K a.Net "arrows_by_number"
  na_Net_halves : NoAttr K a.Net "halves"
  na_Net_most_bounds : NoAttr K a.Net "most_bounds"
  na_Net_next_number : NoAttr K a.Net "next_number"
  na_Net_same_pairs : NoAttr K a.Net "same_pairs"
  xi_NoPoint : XIni K mg a.NoPoint "NoPoint" "NoPoint.__init__" s_NoPoint___init__ ["self", "name"]
  xs_NoPoint_name : XSet K a.NoPoint "name"
  xg_NoPoint_name : XGet K a.NoPoint "name"
  xi_NoSuch : XIni K mg a.NoSuch "NoSuch" "NoSuch.__init__" s_NoSuch___init__ ["self", "number"]
  xs_NoSuch_number : XSet K a.NoSuch "number"
  xg_NoSuch_number : XGet K a.NoSuch "number"
  d_fits : Def K mg "fits" s_fits ["count", "wishes", "places"] []
  d_worth : Def K mg "worth" s_worth ["wishes", "places"] []
  d_is_name : Def K mg "is_name" s_is_name ["name"] []
  d_is_whole : Def K mg "is_whole" s_is_whole ["number"] []
  d_in_range : Def K mg "in_range" s_in_range ["number", "least", "greatest"] []
  i_Net : Ini K mg a.Net "Net" "Net.__init__" s_Net___init__ ["self"]
  m_Net_put_point : Met K a.Net "put_point" "Net.put_point" s_Net_put_point ["self", "name", "half"] []
  m_Net_put_point1 : Met K a.Net "put_point" "Net.put_point" s_Net_put_point ["self", "name", "half"] [.int 0]
  m_Net_put_arrow : Met K a.Net "put_arrow" "Net.put_arrow" s_Net_put_arrow ["self", "one", "other", "span", "weight"] []
  m_Net_put_arrow3 : Met K a.Net "put_arrow" "Net.put_arrow" s_Net_put_arrow ["self", "one", "other", "span", "weight"] [.int 1]
  m_Net_put_arrow2 : Met K a.Net "put_arrow" "Net.put_arrow" s_Net_put_arrow ["self", "one", "other", "span", "weight"] [.int 1, .int 1]
  m_Net_put_same : Met K a.Net "put_same" "Net.put_same" s_Net_put_same ["self", "one", "other"] []
  m_Net_put_most : Met K a.Net "put_most" "Net.put_most" s_Net_put_most ["self", "one", "other", "number"] []
  m_Net_take_arrow : Met K a.Net "take_arrow" "Net.take_arrow" s_Net_take_arrow ["self", "number"] []
  m_Net_points : Met K a.Net "points" "Net.points" s_Net_points ["self"] []
  m_Net_arrows : Met K a.Net "arrows" "Net.arrows" s_Net_arrows ["self"] []
  m_Net_sames : Met K a.Net "sames" "Net.sames" s_Net_sames ["self"] []
  m_Net_mosts : Met K a.Net "mosts" "Net.mosts" s_Net_mosts ["self"] []
  m_Net_need_point : Met K a.Net "need_point" "Net.need_point" s_Net_need_point ["self", "name"] []
  m_Net_need_two_points : Met K a.Net "need_two_points" "Net.need_two_points" s_Net_need_two_points ["self", "one", "other"] []
  d_way : Def K mg "way" s_way ["arrows", "start", "end"] []
  d_kept_arrows : Def K mg "kept_arrows" s_kept_arrows ["net"] []
  d_turned : Def K mg "turned" s_turned ["net"] []
  d_wishes_of : Def K mg "wishes_of" s_wishes_of ["net"] []
  d_places_by : Def K mg "places_by" s_places_by ["net", "levels"] []
  d_keeps_net : Def K mg "keeps_net" s_keeps_net ["net", "levels"] []
  d_length : Def K mg "length" s_length ["net", "levels"] []
  d__law_cell_at : Def K mg "_law_cell_at" s__law_cell_at ["_law_script", "_law_k"] []
  d__law_stream : Def K mg "_law_stream" s__law_stream ["_law_cell", "_law_many"] []
  d__law_names : Def K mg "_law_names" s__law_names ["_law_cell"] []
  d__law_deed : Def K mg "_law_deed" s__law_deed ["_law_net", "_law_world", "_law_names_here", "_law_xs"] []
  d__law_due : Def K mg "_law_due" s__law_due ["_law_world", "_law_about"] []
  d__law_kinds : Def K mg "_law_kinds" s__law_kinds ["_law_told"] []
  d__law_levels : Def K mg "_law_levels" s__law_levels ["_law_names_here", "_law_wishes", "_law_xs"] []
  d_law : Def K mg "law" s_law ["_law_script"] []
  k_GREATEST_MOST : ∃ t, mg "GREATEST_MOST" = some (.int 99 t)
  k_GREATEST_WEIGHT : ∃ t, mg "GREATEST_WEIGHT" = some (.int 1000000 t)
  k_LONGEST_NAME : ∃ t, mg "LONGEST_NAME" = some (.int 8 t)
  k_LONGEST_SPAN : ∃ t, mg "LONGEST_SPAN" = some (.int 20 t)
  k_MOST_ARROWS : ∃ t, mg "MOST_ARROWS" = some (.int 40 t)
  k_MOST_MOSTS : ∃ t, mg "MOST_MOSTS" = some (.int 20 t)
  k_MOST_POINTS : ∃ t, mg "MOST_POINTS" = some (.int 20 t)
  k_MOST_SAMES : ∃ t, mg "MOST_SAMES" = some (.int 20 t)
  k_SMALL_LETTERS : ∃ t, mg "SMALL_LETTERS" = some (.str "abcdefghijklmnopqrstuvwxyz" t)
  k_WIDEST_HALF : ∃ t, mg "WIDEST_HALF" = some (.int 50 t)
  kb_str_str : PySem.W.kitOne K (.type "str") (.type "str") = some true
  kb_int_int : PySem.W.kitOne K (.type "int") (.type "int") = some true
  kb_int_bool : PySem.W.kitOne K (.type "int") (.type "bool") = some false
  kb_list_list : PySem.W.kitOne K (.type "list") (.type "list") = some true
  kb_tuple_tuple : PySem.W.kitOne K (.type "tuple") (.type "tuple") = some true
  n_all : mg "all" = none
  n_bool : mg "bool" = none
  n_dict : mg "dict" = none
  n_enumerate : mg "enumerate" = none
  n_int : mg "int" = none
  n_isinstance : mg "isinstance" = none
  n_len : mg "len" = none
  n_list : mg "list" = none
  n_max : mg "max" = none
  n_range : mg "range" = none
  n_str : mg "str" = none
  n_sum : mg "sum" = none
  n_tuple : mg "tuple" = none

end K41
namespace K41
open PySem L2
/-! what a net holds -/
abbrev Kvs := List (Key × V)
def abc : Str := "abcdefghijklmnopqrstuvwxyz"
/-- a small letter -/
def small (c : Nat) : Bool := !(Builtin.Str.occurrences abc ⟨#[c]⟩ 0 abc.length 1).isEmpty
def isName (n : Str) : Bool := decide (1 ≤ n.length) && decide (n.length ≤ 8) && n.cps.toList.all small
def has (kvs : Kvs) (n : Str) : Bool := (valV kvs (Sum.inr n)).isSome
/-- the net's fields -/
def netF (dh da : Addr) (nn : Int) (ls lm : Addr) : List (Str × V) := [("halves", .ref dh), ("arrows_by_number", .ref da), ("next_number", .int nn), ("same_pairs", .ref ls), ("most_bounds", .ref lm)]
theorem netF_put_nn {dh da ls lm : Addr} {n m : Int} : putF "next_number" (.int m) (netF dh da n ls lm) = netF dh da m ls lm := by
  have h1 : ¬ (("halves" : Str) = "next_number") := by decide +kernel
  have h2 : ¬ (("arrows_by_number" : Str) = "next_number") := by decide +kernel
  simp only [netF, putF, h1, h2, if_false, if_true]
/-- an arrow -/
structure Ar where
  num : Int
  one : Str
  other : Str
  span : Int
  weight : Int
def arV (q : Ar) : List V := [.str q.one, .str q.other, .int q.span, .int q.weight]
def arD (q : Ar) : Dt := .tup [.int q.num, .str q.one, .str q.other, .int q.span, .int q.weight]
def sameD (q : Str × Str) : Dt := .tup [.str q.1, .str q.2]
def mostD (q : Str × Str × Int) : Dt := .tup [.str q.1, .str q.2.1, .int q.2.2]
/-- the dict of the arrows -/
def ArrV (K : PySem.W.Frag) (H : Hp) : List Ar → Kvs → Prop
  | [], kvs => kvs = []
  | q :: qs, kvs => ∃ t r, kvs = (Sum.inl q.num, .ref t) :: r ∧ SqT K H t (arV q) ∧ ArrV K H qs r
/-- where a net keeps what it holds; what it holds -/
structure Rec where
  dh : Addr
  da : Addr
  ls : Addr
  lm : Addr
structure NetV where
  kvs : Kvs
  arr : List Ar
  nn : Int
  ss : List (Str × Str)
  mm : List (Str × Str × Int)
structure NetAt (K : PySem.W.Frag) (C : Addr) (H : Hp) (p : Addr) (r : Rec) (v : NetV) : Prop where
  ex : ∃ dx, H p = some (.ins C dx (netF r.dh r.da v.nn r.ls r.lm))
  hh : H r.dh = some (.dK v.kvs)
  ha : ∃ avs, H r.da = some (.dK avs) ∧ ArrV K H v.arr avs
  hs : ∃ xs, H r.ls = some (.lst xs) ∧ DtVs K H (v.ss.map sameD) xs
  hm : ∃ xs, H r.lm = some (.lst xs) ∧ DtVs K H (v.mm.map mostD) xs
  n1 : r.da ≠ r.dh
  n2 : r.ls ≠ r.lm
theorem deep_ar {n : Nat} (q : Ar) : DeepLe (n + 1) (arD q) := by cases n <;> exact ⟨trivial, trivial, trivial, trivial, trivial, trivial⟩
theorem _root_.L2.Tk.arr {K : PySem.W.Frag} {H H' : Hp} (e : Tk H H') : ∀ {qs : List Ar} {kvs : Kvs}, ArrV K H qs kvs → ArrV K H' qs kvs
  | [], _, h => h
  | q :: qs, _, h => by
    obtain ⟨t, r, e1, h1, h2⟩ := h
    exact ⟨t, r, e1, e.sqT h1, e.arr h2⟩
theorem ArrV.length {K : PySem.W.Frag} {H : Hp} : ∀ {qs : List Ar} {kvs : Kvs}, ArrV K H qs kvs → qs.length = kvs.length
  | [], _, h => by rw [show _ = [] from h]; rfl
  | q :: qs, _, h => by
    obtain ⟨t, r, rfl, h1, h2⟩ := h
    show qs.length + 1 = r.length + 1
    rw [h2.length]
theorem ArrV.get {K : PySem.W.Frag} {H : Hp} : ∀ {qs : List Ar} {kvs : Kvs} {i : Nat} {k : Key} {x : V}, ArrV K H qs kvs → kvs[i]? = some (k, x) → ∃ q t, qs[i]? = some q ∧ k = Sum.inl q.num ∧ x = .ref t ∧ SqT K H t (arV q)
  | [], _, i, k, x, h, e => by rw [show _ = [] from h] at e; simp at e
  | q :: qs, _, i, k, x, h, e => by
    obtain ⟨t, r, rfl, h1, h2⟩ := h
    cases i with
    | zero => simp at e; exact ⟨q, t, rfl, e.1.symm, e.2.symm, h1⟩
    | succ i => exact h2.get (by simpa using e)
theorem ArrV.snoc {K : PySem.W.Frag} {H : Hp} {q : Ar} {t : Addr} (ht : SqT K H t (arV q)) : ∀ {qs : List Ar} {kvs : Kvs}, ArrV K H qs kvs → ArrV K H (qs ++ [q]) (kvs ++ [(Sum.inl q.num, .ref t)])
  | [], _, h => by rw [show _ = [] from h]; exact ⟨t, [], rfl, ht, rfl⟩
  | q' :: qs, _, h => by
    obtain ⟨t', r, rfl, h1, h2⟩ := h
    exact ⟨t', _, rfl, h1, h2.snoc ht⟩
theorem NetAt.same {K : PySem.W.Frag} {C : Addr} {H H' : Hp} {p : Addr} {r : Rec} {v : NetV} (n : NetAt K C H p r v) (e : Same H H') : NetAt K C H' p r v := by
  obtain ⟨⟨dx, h1⟩, h2, ⟨avs, h3, h4⟩, ⟨xs, h5, h6⟩, ⟨ys, h7, h8⟩, n1, n2⟩ := n
  exact ⟨⟨dx, e _ _ h1⟩, e _ _ h2, ⟨avs, e _ _ h3, (Tk.of e).arr h4⟩, ⟨xs, e _ _ h5, e.dts h6⟩, ⟨ys, e _ _ h7, e.dts h8⟩, n1, n2⟩
/-- all else is kept -/
def Kp (p : Addr) (r : Rec) (H H' : Hp) : Prop := ∀ b o, H b = some o → b ≠ p → b ≠ r.dh → b ≠ r.da → b ≠ r.ls → b ≠ r.lm → H' b = some o
theorem Kp.tk {K : PySem.W.Frag} {C : Addr} {p : Addr} {r : Rec} {v : NetV} {H H' : Hp} (e : Kp p r H H') (n : NetAt K C H p r v) : Tk H H' := fun b o h z => by
  obtain ⟨⟨dx, h1⟩, h2, ⟨avs, h3, h4⟩, ⟨xs, h5, h6⟩, ⟨ys, h7, h8⟩, n1, n2⟩ := n
  refine e b o h (fun q => ?_) (fun q => ?_) (fun q => ?_) (fun q => ?_) (fun q => ?_) <;> subst q
  · rw [h1] at h; cases h; cases z
  · rw [h2] at h; cases h; cases z
  · rw [h3] at h; cases h; cases z
  · rw [h5] at h; cases h; cases z
  · rw [h7] at h; cases h; cases z
theorem Kp.lst {K : PySem.W.Frag} {C : Addr} {p : Addr} {r : Rec} {v : NetV} {H H' : Hp} {b : Addr} {zs : List V} (e : Kp p r H H') (n : NetAt K C H p r v) (h : H b = some (.lst zs)) (n1 : b ≠ r.ls) (n2 : b ≠ r.lm) : H' b = some (.lst zs) := by
  obtain ⟨⟨dx, h1⟩, h2, ⟨avs, h3, h4⟩, _⟩ := n
  exact e b _ h (ne_of h h1 (by intro z; cases z)) (ne_of h h2 (by intro z; cases z)) (ne_of h h3 (by intro z; cases z)) n1 n2
theorem lk0 {a : Str} {v : V} {r : List (Str × V)} : (((a, v) :: r) : List (Str × V)).lookup a = some v := by
  rw [List.lookup_cons, beq_self_eq_true]
theorem lk1 {a b : Str} {v : V} {r : List (Str × V)} (h : (a == b) = false) : (((b, v) :: r) : List (Str × V)).lookup a = r.lookup a := by
  rw [List.lookup_cons, h]
theorem lk_halves {dh da ls lm : Addr} {n : Int} : (netF dh da n ls lm).lookup ("halves" : Str) = some (.ref dh) := lk0
theorem lk_arrows {dh da ls lm : Addr} {n : Int} : (netF dh da n ls lm).lookup ("arrows_by_number" : Str) = some (.ref da) := (lk1 (by decide +kernel)).trans lk0
theorem lk_nn {dh da ls lm : Addr} {n : Int} : (netF dh da n ls lm).lookup ("next_number" : Str) = some (.int n) := (lk1 (by decide +kernel)).trans ((lk1 (by decide +kernel)).trans lk0)
theorem lk_sames {dh da ls lm : Addr} {n : Int} : (netF dh da n ls lm).lookup ("same_pairs" : Str) = some (.ref ls) := (lk1 (by decide +kernel)).trans ((lk1 (by decide +kernel)).trans ((lk1 (by decide +kernel)).trans lk0))
theorem lk_mosts {dh da ls lm : Addr} {n : Int} : (netF dh da n ls lm).lookup ("most_bounds" : Str) = some (.ref lm) := (lk1 (by decide +kernel)).trans ((lk1 (by decide +kernel)).trans ((lk1 (by decide +kernel)).trans ((lk1 (by decide +kernel)).trans lk0)))
section
variable {P : Program} {w : World} {K : PySem.W.Frag} {mg : Str → Option Value} {base : Heap} {a : Adr}
def spIsName : Sp := fun vs H Q _ => ∃ n : Str, vs = [.str n] ∧ n.length ≤ 1000 ∧ ∀ H', Same H H' → Q (.bl (isName n)) H'
theorem ok_is_name (T : Tx K mg a) : Cal P w K mg base CX0 1 "is_name" ["name"] [] spIsName := T.d_is_name.cal fun f fd F => by
  refine F.ok sc_is_name (fun vs H Q E h => ?_) (fun cdv A outer s H vs Q E hr h => ?_)
  · obtain ⟨n, rfl, _⟩ := h
    rfl
  · obtain ⟨n, rfl, hn, k⟩ := h
    have hz : n.length ≤ sizeLine := Nat.le_trans hn (by rw [sizeLine_eq]; decide)
    refine ⟨_, (pss_cons (ps_if (PW.pt (pw_or (pt_not (pt_val (pe_callB call_isinst rfl T.n_isinstance bt_isinstance (pa_cons (pv 0) (pa_cons (pe_gTy rfl T.n_str bt_str) pa_nil))))) (pw_or (pt_cmpR op_lt (pe_callB call_len_str rfl T.n_len bt_len (pa_cons (pv 0) pa_nil)) pe_int (nomark _)) (pw_or1 (pt_cmpR op_gt (pe_callB call_len_str rfl T.n_len bt_len (pa_cons (pv 0) pa_nil)) (pe_gInt rfl T.k_LONGEST_NAME) (nomark _)))))) (pss_one (ps_ret pe_bl)) pss_nil)
      (pss_one (ps_ret (pe_callB call_allB rfl T.n_all bt_all (pa_cons (pe_comp (N := ["sign"]) (cap := [none]) rfl (cap_ok (osc := defScope s_is_name) (XN := ["name"]) rfl rfl (by decide +kernel)) (pi_str (pv 0)) (fun cl C s H fp pins => (pg_name (i := 0) (show (["sign"] : List Str).Nodup by decide +kernel) rfl (by first | exact Or.inl rfl | exact Or.inr rfl))) (fun cl C s H fp pins => pif_nil) (fun cl C s H fp pins => (pe_cmpR op_in_str (pv 0) (pe_gStr rfl T.k_SMALL_LETTERS) (by with_unfolding_all rfl)))) pa_nil))))), ?_⟩
    refine ⟨_, rfl, _, _, _, _, _, rfl, rfl, .str _, T.kb_str_str, true, rfl, ?_⟩
    refine iteOr rfl ?_
    refine ⟨_, rfl, _, rfl, hz, _, _, rfl, rfl, _, rfl, ?_⟩
    refine iteB (fun c1 => ?_) (fun c1 => ?_)
    · have e : isName n = false := by
        have : (n.length : Int) < 1 := of_decide_eq_true c1
        simp only [isName, Bool.and_eq_false_iff, decide_eq_false_iff_not]
        exact .inl (.inl (by omega))
      refine iteT ?_
      show Q (.bl false) _
      rw [← e]
      exact k H (Same.refl H)
    · refine ⟨_, rfl, _, rfl, hz, _, _, rfl, rfl, _, rfl, ?_⟩
      have h1 : 1 ≤ n.length := by
        have : ¬ (n.length : Int) < 1 := of_decide_eq_false c1
        omega
      refine iteB (fun c2 => ?_) (fun c2 => ?_)
      · have e : isName n = false := by
          have : (8 : Int) < n.length := of_decide_eq_true c2
          simp only [isName, Bool.and_eq_false_iff, decide_eq_false_iff_not]
          exact .inl (.inr (by omega))
        show Q (.bl false) _
        rw [← e]
        exact k H (Same.refl H)
      · have h2 : n.length ≤ 8 := by
          have : ¬ (8 : Int) < n.length := of_decide_eq_false c2
          omega
        refine ⟨_, rfl, n, rfl, fun D hD => ?_⟩
        refine comp_str (x := n) (fun i τ H' => ∃ v, τ = [v] ∧ Same H H' ∧ H' D = some (.lst (((n.cps.toList.take i).map small).map V.bl))) ⟨none, rfl, Same.new hD, upd_same⟩ ?_ ?_
        · rintro i c τ H' hc ⟨v, rfl, sm, hl⟩
          dsimp only [gName, tYes]
          rw [if_pos rfl]
          refine ⟨_, rfl, _, _, rfl, rfl, _, hl, ?_, _, rfl, ?_, ?_⟩
          · rw [List.length_map, List.length_map, List.length_take, sizeLine_eq]
            have : n.cps.toList.length = n.length := by rw [Array.length_toList]; rfl
            omega
          · intro b o e
            rw [upd_ne (ne_of_none e hD)]
            exact sm b o e
          · have hc' : n.cps.toList[i]? = some c := by rw [Array.getElem?_toList]; exact hc
            have ht : n.cps.toList.take (i + 1) = n.cps.toList.take i ++ [c] := by
              rw [List.take_add_one, hc']
              rfl
            rw [upd_same, ht, List.map_append, List.map_append]
            rfl
        · rintro τ H' ⟨v, rfl, sm, hl⟩
          refine ⟨D, (n.cps.toList.take n.cps.size).map small, rfl, SqL.of hl, ?_⟩
          have e : (List.map small (n.cps.toList.take n.cps.size)).all id = isName n := by
            rw [List.take_of_length_le (by rw [Array.length_toList]; exact Nat.le_refl _), List.all_map]
            simp only [isName, decide_eq_true h1, decide_eq_true h2, Bool.true_and]
            rfl
          rw [e]
          exact k H' sm
def spWhole : Sp := fun vs H Q _ => ∃ i, vs = [.int i] ∧ Q (.bl true) H
theorem ok_is_whole (T : Tx K mg a) : Cal P w K mg base CX0 1 "is_whole" ["number"] [] spWhole := T.d_is_whole.cal fun f fd F => by
  refine F.ok sc_is_whole (fun vs H Q E h => ?_) (fun cdv A outer s H vs Q E hr h => ?_)
  · obtain ⟨n, rfl, _⟩ := h
    rfl
  · obtain ⟨i, rfl, q⟩ := h
    refine ⟨_, (pss_one (ps_ret (pe_and (pe_callB call_isinst rfl T.n_isinstance bt_isinstance (pa_cons (pv 0) (pa_cons (pe_gTy rfl T.n_int bt_int) pa_nil))) (pe_one (pe_not (pe_callB call_isinst rfl T.n_isinstance bt_isinstance (pa_cons (pv 0) (pa_cons (pe_gTy rfl T.n_bool bt_bool) pa_nil)))))))), ?_⟩
    refine ⟨_, rfl, _, _, _, _, _, rfl, rfl, .int _, T.kb_int_int, true, rfl, ?_⟩
    refine iteT ?_
    exact ⟨_, rfl, _, _, _, _, _, rfl, rfl, .int _, T.kb_int_bool, false, rfl, q⟩
def spRange : Sp := fun vs H Q _ => ∃ i l g, vs = [.int i, .int l, .int g] ∧ Q (.bl (decide (l ≤ i) && decide (i ≤ g))) H
theorem ok_in_range (T : Tx K mg a) : Cal P w K mg base CX0 2 "in_range" ["number", "least", "greatest"] [] spRange := T.d_in_range.cal fun f fd F => by
  have c_is_whole := ok_is_whole (P := P) (w := w) (base := base) T
  refine F.ok sc_in_range (fun vs H Q E h => ?_) (fun cdv A outer s H vs Q E hr h => ?_)
  · obtain ⟨n, _, _, rfl, _⟩ := h
    rfl
  · obtain ⟨i, l, g, rfl, q⟩ := h
    refine ⟨_, (pss_one (ps_ret (pe_and (pe_cal c_is_whole (hr.mono (by decide)) rfl (pa_cons (pv 0) pa_nil)) (pe_and (pe_cmpR op_ge (pv 0) (pv 1) (nomark _)) (pe_one (pe_cmpR op_le (pv 0) (pv 2) (nomark _))))))), ?_⟩
    refine ⟨_, rfl, _, rfl, true, rfl, ?_⟩
    refine iteT ?_
    refine ⟨_, rfl, _, rfl, _, _, rfl, rfl, _, rfl, ?_⟩
    refine iteB (fun c => ?_) (fun c => ?_)
    · refine ⟨_, rfl, _, rfl, _, _, rfl, rfl, ?_⟩
      rw [c] at q
      exact q
    · rw [c] at q
      exact q
/-! the net -/
inductive Due where
  | name | taken | number | many | done
def dueOf (kvs : Kvs) (n : Str) (h : Int) : Due :=
  if isName n = false then .name else if has kvs n = true then .taken else if h < 0 ∨ 50 < h then .number else if 20 ≤ kvs.length then .many else .done
theorem upd_none {H : Hp} {x y : Addr} {o : HO} : upd H x o y = none ↔ y ≠ x ∧ H y = none := by
  unfold upd
  by_cases h : y = x <;> simp [h]
theorem upd_at {H : Hp} {x y : Addr} {o : HO} : upd H x o y = if y = x then some o else H y := rfl
theorem netF_put {dh da ls lm : Addr} : putF "most_bounds" (.ref lm) (putF "same_pairs" (.ref ls) (putF "next_number" (.int 0) (putF "arrows_by_number" (.ref da) (putF "halves" (.ref dh) [])))) = netF dh da 0 ls lm := by
  have h1 : ¬ (("halves" : Str) = "arrows_by_number") := by decide +kernel
  have h2 : ¬ (("halves" : Str) = "next_number") := by decide +kernel
  have h3 : ¬ (("halves" : Str) = "same_pairs") := by decide +kernel
  have h4 : ¬ (("halves" : Str) = "most_bounds") := by decide +kernel
  have h5 : ¬ (("arrows_by_number" : Str) = "next_number") := by decide +kernel
  have h6 : ¬ (("arrows_by_number" : Str) = "same_pairs") := by decide +kernel
  have h7 : ¬ (("arrows_by_number" : Str) = "most_bounds") := by decide +kernel
  have h8 : ¬ (("next_number" : Str) = "same_pairs") := by decide +kernel
  have h9 : ¬ (("next_number" : Str) = "most_bounds") := by decide +kernel
  have h0 : ¬ (("same_pairs" : Str) = "most_bounds") := by decide +kernel
  simp only [putF, h1, h2, h3, h4, h5, h6, h7, h8, h9, h0, if_false]
  rfl
def emp : NetV := ⟨[], [], 0, [], []⟩
def spNetInit (K : PySem.W.Frag) (C : Addr) : Sp := fun vs H Q _ => ∃ p dx, vs = [.ref p] ∧ H p = some (.ins C dx []) ∧ ∀ r H', (∀ b o, H b = some o → b ≠ p → H' b = some o) → (∀ b o, H b = some o → b ≠ r.dh ∧ b ≠ r.da ∧ b ≠ r.ls ∧ b ≠ r.lm) → NetAt K C H' p r emp → Q .non H'
theorem ok_init (T : Tx K mg a) : CalI P w K mg base CX0 1 a.Net "Net" ["self"] (spNetInit K a.Net) := T.i_Net.cal fun f fd F => by
  refine F.ok sc_Net___init__ (fun vs H Q E h => ?_) (fun cdv A outer s H vs Q E hr h => ?_)
  · obtain ⟨p, dx, rfl, _⟩ := h
    rfl
  · obtain ⟨p, dx, rfl, hp, k⟩ := h
    refine ⟨_, (pss_cons (ps_fld (pv 0) pe_dnewK rfl)
      (pss_cons (ps_fld (pv 0) pe_dnewK rfl)
      (pss_cons (ps_fld (pv 0) pe_int rfl)
      (pss_cons (ps_fld (pv 0) (pe_lst pa_nil) rfl)
      (pss_one (ps_fld (pv 0) (pe_lst pa_nil) rfl)))))), ?_⟩
    refine fun d1 n1 => ⟨_, rfl, p, a.Net, dx, [], rfl, by rw [upd_ne (ne_of_none hp n1)]; exact hp, T.c_Net, T.na_Net_halves, by decide, ?_⟩
    refine fun d2 n2 => ⟨_, rfl, p, a.Net, dx, _, rfl, by rw [upd_ne (ne_of_none upd_same n2)]; exact upd_same, T.c_Net, T.na_Net_arrows_by_number, by show 1 < 1000; decide, ?_⟩
    refine ⟨_, rfl, p, a.Net, dx, _, rfl, upd_same, T.c_Net, T.na_Net_next_number, by show 2 < 1000; decide, ?_⟩
    refine ⟨by show 0 ≤ sizeLine; decide, fun l1 n3 => ⟨_, rfl, p, a.Net, dx, _, rfl, by rw [upd_ne (ne_of_none upd_same n3)]; exact upd_same, T.c_Net, T.na_Net_same_pairs, by show 3 < 1000; decide, ?_⟩⟩
    refine ⟨by show 0 ≤ sizeLine; decide, fun l2 n4 => ⟨_, rfl, p, a.Net, dx, _, rfl, by rw [upd_ne (ne_of_none upd_same n4)]; exact upd_same, T.c_Net, T.na_Net_most_bounds, by show 4 < 1000; decide, ?_⟩⟩
    have p1 : p ≠ d1 := ne_of_none hp n1
    simp only [upd_none] at n2 n3 n4
    show Q .non _
    rw [netF_put]
    have ne : ∀ b o, H b = some o → ∀ c, H c = none → b ≠ c := fun b o e c h z => by rw [z, h] at e; cases e
    refine k ⟨d1, d2, l1, l2⟩ _ (fun b o e hb => ?_) (fun b o e => ⟨ne b o e _ n1, ne b o e _ n2.2.2, ne b o e _ n3.2.2.2.2.2, ne b o e _ n4.2.2.2.2.2.2.2⟩) ⟨⟨dx, upd_same⟩, ?_, ⟨[], ?_, rfl⟩, ⟨[], ?_, rfl⟩, ⟨[], ?_, rfl⟩, n2.2.1, Ne.symm n4.2.1⟩
    · simp [upd_at, hb, ne b o e _ n1, ne b o e _ n2.2.2, ne b o e _ n3.2.2.2.2.2, ne b o e _ n4.2.2.2.2.2.2.2, e]
    · show _ = some (HO.dK [])
      simp [upd_at, Ne.symm p1, Ne.symm n2.2.1, Ne.symm n3.2.2.2.2.1, Ne.symm n4.2.2.2.2.2.2.1]
    · simp [upd_at, n2, Ne.symm n3.2.2.1, Ne.symm n4.2.2.2.2.1]
    · simp [upd_at, n3, Ne.symm n4.2.1]
    · simp [upd_at, n4]
/-- NoPoint(name) -/
def spXInit (C : Addr) (f : Str) : Sp := fun vs H Q _ => ∃ x t y, vs = [.ref x, y] ∧ H x = some (XObj C t x none) ∧ ∀ dx, H dx = none → Q .non (upd (upd H dx (.xd [(f, y)])) x (XObj C t x (some dx)))
theorem ok_NoPoint (T : Tx K mg a) : CalXI P w K mg base CX0 1 a.NoPoint "NoPoint" ["self", "name"] (spXInit a.NoPoint "name") := T.xi_NoPoint.cal fun f fd F => by
  refine F.ok sc_NoPoint___init__ (fun vs H Q E h => ?_) (fun cdv A outer s H vs Q E hr h => ?_)
  · obtain ⟨x, t, y, rfl, _⟩ := h
    rfl
  · obtain ⟨x, t, y, rfl, hx, k⟩ := h
    refine ⟨_, (pss_one (ps_fldX (pv 0) (pv 1) rfl)), ?_⟩
    exact ⟨_, rfl, _, rfl, x, a.NoPoint, t, rfl, hx, T.xs_NoPoint_name, fun dx nd => k dx nd⟩
def keysV (kvs : Kvs) : List V := kvs.map fun kv => kV kv.1
def spPoints (K : PySem.W.Frag) (C : Addr) : Sp := fun vs H Q _ => ∃ p r v, vs = [.ref p] ∧ NetAt K C H p r v ∧ ∀ l, H l = none → Q (.ref l) (upd H l (.lst (keysV v.kvs)))
theorem ok_points (T : Tx K mg a) : CalM P w K mg base CX0 1 a.Net "points" ["self"] [] (spPoints K a.Net) := T.m_Net_points.cal fun f fd F => by
  refine F.ok sc_Net_points (fun vs H Q E h => ?_) (fun cdv A outer s H vs Q E hr h => ?_)
  · obtain ⟨p, r, v, rfl, _⟩ := h
    rfl
  · obtain ⟨p, r, v, rfl, N, k⟩ := h
    obtain ⟨dx, hp⟩ := N.ex
    refine ⟨_, (pss_one (ps_ret (pe_callTy call_listD rfl T.n_list bt_list (pa_cons (pe_fld (pv 0) rfl) pa_nil)))), ?_⟩
    exact ⟨_, rfl, p, a.Net, dx, _, _, rfl, hp, T.c_Net, T.na_Net_halves, lk_halves, r.dh, v.kvs, rfl, N.hh, fun l hl => k l hl⟩
/-- the refusals -/
inductive Er where
  | name | taken | point (n : Str) | alone | number | many | such (i : Int)
def Raised (a : Adr) (E : XK) : Er → Hp → Prop
  | .name, H => E (.ref a.NoName) none H
  | .taken, H => E (.ref a.Taken) none H
  | .point n, H => ∀ dx, H dx = some (.xd [("name", .str n)]) → E (.ref a.NoPoint) (some dx) H
  | .alone, H => E (.ref a.Alone) none H
  | .number, H => E (.ref a.NoNumber) none H
  | .many, H => E (.ref a.TooMany) none H
  | .such i, H => ∀ dx, H dx = some (.xd [("number", .int i)]) → E (.ref a.NoSuch) (some dx) H
/-- put_point -/
def pointErr (kvs : Kvs) (n : Str) (h : Int) : Option Er :=
  if isName n = false then some .name else if has kvs n = true then some .taken else if h < 0 ∨ 50 < h then some .number else if 20 ≤ kvs.length then some .many else none
def spPut (K : PySem.W.Frag) (a : Adr) : Sp := fun vs H Q E => ∃ p r v n h, vs = [.ref p, .str n, .int h] ∧ n.length ≤ 1000 ∧ NetAt K a.Net H p r v ∧ v.kvs.length ≤ 1000 ∧
  (∀ er, pointErr v.kvs n h = some er → ∀ H', Same H H' → Raised a E er H') ∧ (pointErr v.kvs n h = none → ∀ H', Kp p r H H' → NetAt K a.Net H' p r { v with kvs := v.kvs ++ [(Sum.inr n, .int h)] } → Q .non H')
theorem ok_put_body (T : Tx K mg a) (f : Addr) (fd : FuncData) (F : FunD K "put_point" "Net.put_point" s_Net_put_point f fd) : FnOk P w K mg base (CXe P w) 3 f fd ["self", "name", "half"] (spPut K a) := by
  have c_is_name := ok_is_name (P := P) (w := w) (base := base) T
  have c_in_range := ok_in_range (P := P) (w := w) (base := base) T
  refine F.okX sc_Net_put_point (fun vs H Q E h => ?_) (fun cdv A outer s H vs Q E hr h => ?_)
  · obtain ⟨p, r, v, n, h, rfl, _⟩ := h
    rfl
  · obtain ⟨p, r, v, n, h, rfl, hn, N, hk, k1, k2⟩ := h
    refine ⟨_, (pss_cons (ps_if (pt_not (pt_val (pe_cal c_is_name (hr.mono (by decide)) rfl (pa_cons (pv 1) pa_nil)))) (pss_one (ps_raise0 px_body T.x_NoName rfl T.g_NoName)) pss_nil)
      (pss_cons (ps_if (pt_cmp (pc_din (hu_of hr) (pv 1) (pe_fld (pv 0) rfl))) (pss_one (ps_raise0 px_body T.x_Taken rfl T.g_Taken)) pss_nil)
      (pss_cons (ps_if (pt_not (pt_val (pe_cal c_in_range (hr.mono (by decide)) rfl (pa_cons (pv 2) (pa_cons pe_int (pa_cons (pe_gInt rfl T.k_WIDEST_HALF) pa_nil)))))) (pss_one (ps_raise0 px_body T.x_NoNumber rfl T.g_NoNumber)) pss_nil)
      (pss_cons (ps_if (pt_cmpR op_ge (pe_callB call_lenD rfl T.n_len bt_len (pa_cons (pe_fld (pv 0) rfl) pa_nil)) (pe_gInt rfl T.k_MOST_POINTS) (nomark _)) (pss_one (ps_raise0 px_body T.x_TooMany rfl T.g_TooMany)) pss_nil)
      (pss_one (ps_dput (hu_of hr) (pe_fld (pv 0) rfl) (pv 1) (pv 2) rfl)))))), ?_⟩
    refine ⟨_, rfl, n, rfl, hn, fun H1 s1 => ⟨_, rfl, ?_⟩⟩
    have N1 := N.same s1
    obtain ⟨dx, hp⟩ := N1.ex
    refine iteB (fun c => ?_) (fun c => ?_)
    · have c' : isName n = false := by simpa using c
      exact ⟨by show 0 ≤ sizeLine; decide, k1 .name (by simp only [pointErr, if_pos c']) H1 s1⟩
    have c1 : ¬ isName n = false := by
      have : isName n = true := by simpa using c
      rw [this]; decide
    refine ⟨_, rfl, _, rfl, p, a.Net, dx, _, _, rfl, hp, T.c_Net, T.na_Net_halves, lk_halves, r.dh, _, rfl, DGet.k (k := Sum.inr n) N1.hh, _, rfl, ?_⟩
    refine iteB (fun c => ?_) (fun c => ?_)
    · have c' : has v.kvs n = true := c
      exact ⟨by show 0 ≤ sizeLine; decide, k1 .taken (by simp only [pointErr, if_neg c1, if_pos c']) H1 s1⟩
    have c2 : ¬ has v.kvs n = true := by rw [show has v.kvs n = false from c]; decide
    refine ⟨_, rfl, h, 0, 50, rfl, _, rfl, ?_⟩
    refine iteB (fun c => ?_) (fun c => ?_)
    · have c' : h < 0 ∨ 50 < h := by
        simp only [Bool.not_eq_true', Bool.and_eq_false_iff, decide_eq_false_iff_not] at c
        omega
      exact ⟨by show 0 ≤ sizeLine; decide, k1 .number (by simp only [pointErr, if_neg c1, if_neg c2, if_pos c']) H1 s1⟩
    have c3 : ¬ (h < 0 ∨ 50 < h) := by
      simp only [Bool.not_eq_false', Bool.and_eq_true, decide_eq_true_eq] at c
      omega
    refine ⟨_, rfl, p, a.Net, dx, _, _, rfl, hp, T.c_Net, T.na_Net_halves, lk_halves, r.dh, v.kvs, rfl, N1.hh, _, _, rfl, rfl, _, rfl, ?_⟩
    refine iteB (fun c => ?_) (fun c => ?_)
    · have c' : 20 ≤ v.kvs.length := by
        have : (20 : Int) ≤ v.kvs.length := of_decide_eq_true c
        omega
      exact ⟨by show 0 ≤ sizeLine; decide, k1 .many (by simp only [pointErr, if_neg c1, if_neg c2, if_neg c3, if_pos c']) H1 s1⟩
    have c4 : ¬ 20 ≤ v.kvs.length := by
      have : ¬ (20 : Int) ≤ v.kvs.length := of_decide_eq_false c
      omega
    refine ⟨_, rfl, _, rfl, p, a.Net, dx, _, _, rfl, hp, T.c_Net, T.na_Net_halves, lk_halves, _, rfl, r.dh, _, rfl, DPut.k (k := Sum.inr n) N1.hh (by rw [sizeLine_eq]; omega), ?_⟩
    show Q .non _
    have e : valV v.kvs (Sum.inr n) = none := by
      have : (valV v.kvs (Sum.inr n)).isSome = false := c2 |> fun z => by simpa [has] using z
      simpa using this
    rw [putK_new (.int h) e]
    refine k2 (by simp only [pointErr, if_neg c1, if_neg c2, if_neg c3, if_neg c4]) _ (fun b o q _ z2 _ _ _ => by rw [upd_ne z2]; exact s1 _ _ q) ?_
    obtain ⟨_, h2, ⟨avs, h3, h4⟩, ⟨xs, h5, h6⟩, ⟨ys, h7, h8⟩, n1, n2⟩ := N1
    have tk : Tk H1 (upd H1 r.dh (.dK (v.kvs ++ [(Sum.inr n, .int h)]))) := Tk.upd h2 rfl
    exact ⟨⟨dx, by rw [upd_ne (ne_of hp h2 (by intro z; cases z))]; exact hp⟩, upd_same, ⟨avs, by rw [upd_ne n1]; exact h3, tk.arr h4⟩, ⟨xs, by rw [upd_ne (ne_of h5 h2 (by intro z; cases z))]; exact h5, tk.dts (noLsts_map (fun _ => rfl) _) h6⟩,
      ⟨ys, by rw [upd_ne (ne_of h7 h2 (by intro z; cases z))]; exact h7, tk.dts (noLsts_map (fun _ => rfl) _) h8⟩, n1, n2⟩
/-- need_point, need_two_points -/
def spNeed (K : PySem.W.Frag) (a : Adr) : Sp := fun vs H Q E => ∃ p r v n, vs = [.ref p, .str n] ∧ NetAt K a.Net H p r v ∧ (has v.kvs n = true → ∀ H', Same H H' → Q .non H') ∧
  (has v.kvs n = false → ∀ H', Same H H' → Raised a E (.point n) H')
theorem inV_keys (n : Str) : ∀ kvs : Kvs, inV (.str n) (keysV kvs) = has kvs n
  | [] => rfl
  | (k, v) :: r => by
    have ih := inV_keys n r
    show (eqV (kV k) (.str n) || inV (.str n) (keysV r)) = has ((k, v) :: r) n
    rw [ih]
    cases k with
    | inl i =>
      have : ¬ (Sum.inl i : Key) = Sum.inr n := by intro z; cases z
      unfold has
      rw [valV_neg (p := (Sum.inl i, v)) this]
      rfl
    | inr m =>
      by_cases h : m = n
      · subst h
        unfold has
        rw [valV_pos (p := (Sum.inr m, v)) rfl]
        simp [kV, eqV]
      · have : ¬ (Sum.inr m : Key) = Sum.inr n := by intro z; cases z; exact h rfl
        unfold has
        rw [valV_neg (p := (Sum.inr m, v)) this]
        simp [kV, eqV, h]
theorem flat_keys : ∀ kvs : Kvs, (keysV kvs).all flatV = true
  | [] => rfl
  | (k, v) :: r => by
    show (flatV (kV k) && (keysV r).all flatV) = true
    rw [flat_keys r]
    cases k <;> rfl
theorem ok_need (T : Tx K mg a) : CalM P w K mg base (CXe P w) 3 a.Net "need_point" ["self", "name"] [] (spNeed K a) := T.m_Net_need_point.cal fun f fd F => by
  have m_Net_points := ok_points (P := P) (w := w) (base := base) T
  have x_NoPoint := ok_NoPoint (P := P) (w := w) (base := base) T
  refine F.okX sc_Net_need_point (fun vs H Q E h => ?_) (fun cdv A outer s H vs Q E hr h => ?_)
  · obtain ⟨p, r, v, n, rfl, _⟩ := h
    rfl
  · obtain ⟨p, r, v, n, rfl, N, k1, k2⟩ := h
    obtain ⟨dx, hp⟩ := N.ex
    refine ⟨_, (pss_one (ps_if (pt_cmpR op_notIn_seq (pv 1) (pe_mcal0 (pv 0) T.c_Net m_Net_points (hr.mono (by decide))) (by with_unfolding_all rfl)) (pss_one (ps_raiseC px_body x_NoPoint (hr.mono (by decide)) rfl (pa_cons (pv 1) pa_nil))) pss_nil)), ?_⟩
    refine ⟨_, rfl, _, rfl, p, dx, _, rfl, hp, by rfl, p, r, v, rfl, N, fun l hl => ⟨l, _, rfl, .inl (SqL.of upd_same), rfl, flat_keys v.kvs, _, rfl, ?_⟩⟩
    rw [inV_keys]
    refine iteB (fun c => ?_) (fun c => ?_)
    · have c' : has v.kvs n = false := by simpa using c
      refine ⟨_, rfl, by show 1 ≤ sizeLine; decide, fun x t hx => ⟨x, t, _, rfl, upd_same, fun d nd => ⟨rfl, some d, upd_same, ?_⟩⟩⟩
      have xd : d ≠ x := fun z => by rw [z, upd_same] at nd; cases nd
      have e : del (upd (upd (upd (upd H l (.lst (keysV v.kvs))) x (XObj a.NoPoint t x none)) d (.xd [("name", .str n)])) x (XObj a.NoPoint t x (some d))) x = upd (upd H l (.lst (keysV v.kvs))) d (.xd [("name", .str n)]) := by
        funext b
        unfold del
        by_cases h1 : b = x
        · subst h1
          rw [if_pos rfl, upd_ne (Ne.symm xd), hx]
        · rw [if_neg h1, upd_ne h1]
          by_cases h2 : b = d
          · subst h2; rw [upd_same, upd_same]
          · rw [upd_ne h2, upd_ne h1, upd_ne h2]
      show E _ _ _
      rw [e]
      have nd' : upd H l (.lst (keysV v.kvs)) d = none := by rw [upd_ne xd] at nd; exact nd
      exact k2 c' _ ((Same.new hl).trans (Same.new nd')) d upd_same
    · have c' : has v.kvs n = true := by simpa using c
      exact k1 c' _ (Same.new hl)
end
end K41
namespace K41
open PySem L2
section
variable {P : Program} {w : World} {K : PySem.W.Frag} {mg : Str → Option Value} {base : Heap} {a : Adr}
theorem dt_same {H : Hp} {q : Addr} {o t : Str} (h : SqT K H q [.str o, .str t]) : DtV K H (sameD (o, t)) (.ref q) := ⟨q, _, rfl, h, _, _, rfl, rfl, _, _, rfl, rfl, rfl⟩
theorem dt_most {H : Hp} {q : Addr} {o t : Str} {n : Int} (h : SqT K H q [.str o, .str t, .int n]) : DtV K H (mostD (o, t, n)) (.ref q) := ⟨q, _, rfl, h, _, _, rfl, rfl, _, _, rfl, rfl, _, _, rfl, rfl, rfl⟩
theorem dt_ar {H : Hp} {q : Addr} {x : Ar} (h : SqT K H q (.int x.num :: arV x)) : DtV K H (arD x) (.ref q) := ⟨q, _, rfl, h, _, _, rfl, rfl, _, _, rfl, rfl, _, _, rfl, rfl, _, _, rfl, rfl, _, _, rfl, rfl, rfl⟩
theorem un_same {H : Hp} {x : V} {o t : Str} (h : DtV K H (sameD (o, t)) x) : ∃ q, x = .ref q ∧ SqT K H q [.str o, .str t] := by
  obtain ⟨q, xs, rfl, h1, y1, ys1, rfl, rfl, y2, ys2, rfl, rfl, h2⟩ := h
  rw [show ys2 = [] from h2] at h1
  exact ⟨q, rfl, h1⟩
theorem un_most {H : Hp} {x : V} {o t : Str} {n : Int} (h : DtV K H (mostD (o, t, n)) x) : ∃ q, x = .ref q ∧ SqT K H q [.str o, .str t, .int n] := by
  obtain ⟨q, xs, rfl, h1, y1, ys1, rfl, rfl, y2, ys2, rfl, rfl, y3, ys3, rfl, rfl, h2⟩ := h
  rw [show ys3 = [] from h2] at h1
  exact ⟨q, rfl, h1⟩
def two (kvs : Kvs) (o t : Str) : Option Er :=
  if has kvs o = false then some (.point o) else if has kvs t = false then some (.point t) else if o = t then some .alone else none
def spTwo (K : PySem.W.Frag) (a : Adr) : Sp := fun vs H Q E => ∃ p r v o t, vs = [.ref p, .str o, .str t] ∧ NetAt K a.Net H p r v ∧ (two v.kvs o t = none → ∀ H', Same H H' → Q .non H') ∧
  (∀ er, two v.kvs o t = some er → ∀ H', Same H H' → Raised a E er H')
theorem ok_two (T : Tx K mg a) : CalM P w K mg base (CXe P w) 4 a.Net "need_two_points" ["self", "one", "other"] [] (spTwo K a) := T.m_Net_need_two_points.cal fun f fd F => by
  have m_Net_need_point := ok_need (P := P) (w := w) (base := base) T
  refine F.okX sc_Net_need_two_points (fun vs H Q E h => ?_) (fun cdv A outer s H vs Q E hr h => ?_)
  · obtain ⟨p, r, v, o, t, rfl, _⟩ := h
    rfl
  · obtain ⟨p, r, v, o, t, rfl, N, k1, k2⟩ := h
    obtain ⟨dx, hp⟩ := N.ex
    refine ⟨_, (pss_cons (ps_expr (pe_mcalX (pv 0) T.c_Net m_Net_need_point px_body (hr.mono (by decide)) (pa_cons (pv 1) pa_nil)))
      (pss_cons (ps_expr (pe_mcalX (pv 0) T.c_Net m_Net_need_point px_body (hr.mono (by decide)) (pa_cons (pv 2) pa_nil)))
      (pss_one (ps_if (pt_cmpR op_eq (pv 1) (pv 2) (nomark _)) (pss_one (ps_raise0 px_body T.x_Alone rfl T.g_Alone)) pss_nil)))), ?_⟩
    refine ⟨_, rfl, p, dx, _, rfl, hp, by rfl, _, rfl, p, r, v, o, rfl, N, fun c1 H1 s1 => ?_, fun c => k2 _ (by simp only [two, if_pos c])⟩
    have c1' : ¬ has v.kvs o = false := by rw [c1]; decide
    refine ⟨_, rfl, p, dx, _, rfl, s1 _ _ hp, by rfl, _, rfl, p, r, v, t, rfl, N.same s1, fun c2 H2 s2 => ?_, fun c H2 s2 => k2 _ (by simp only [two, if_neg c1', if_pos c]) H2 (s1.trans s2)⟩
    have c2' : ¬ has v.kvs t = false := by rw [c2]; decide
    refine ⟨_, rfl, _, rfl, rfl, _, rfl, ?_⟩
    refine iteB (fun c => ?_) (fun c => ?_)
    · have c3 : o = t := by simpa using c
      exact ⟨by show 0 ≤ sizeLine; decide, k2 .alone (by simp only [two, if_neg c1', if_neg c2', if_pos c3]) H2 (s1.trans s2)⟩
    · have c3 : ¬ o = t := by simpa using c
      exact k1 (by simp only [two, if_neg c1', if_neg c2', if_neg c3]) H2 (s1.trans s2)
/-- what is due behind the points -/
def bad : Option Int → Bool
  | none => false
  | some n => decide (n < 0) || decide (99 < n)
def lim (kvs : Kvs) (m : Nat) (o t : Str) (nh : Option Int) : Option Er :=
  match two kvs o t with
  | some er => some er
  | none => if bad nh = true then some .number else if 20 ≤ m then some .many else none
theorem lim_two {kvs : Kvs} {m : Nat} {o t : Str} {nh : Option Int} {er : Er} (h : two kvs o t = some er) : lim kvs m o t nh = some er := by unfold lim; rw [h]
theorem lim_none {kvs : Kvs} {m : Nat} {o t : Str} {nh : Option Int} (h : two kvs o t = none) : lim kvs m o t nh = if bad nh = true then some .number else if 20 ≤ m then some .many else none := by unfold lim; rw [h]
def spSame (K : PySem.W.Frag) (a : Adr) : Sp := fun vs H Q E => ∃ p r v o t, vs = [.ref p, .str o, .str t] ∧ NetAt K a.Net H p r v ∧ v.ss.length ≤ 1000 ∧
  (lim v.kvs v.ss.length o t none = none → ∀ H', Kp p r H H' → NetAt K a.Net H' p r { v with ss := v.ss ++ [(o, t)] } → Q .non H') ∧
  (∀ er, lim v.kvs v.ss.length o t none = some er → ∀ H', Same H H' → Raised a E er H')
theorem ok_same (T : Tx K mg a) : CalM P w K mg base (CXe P w) 5 a.Net "put_same" ["self", "one", "other"] [] (spSame K a) := T.m_Net_put_same.cal fun f fd F => by
  have m_Net_need_two_points := ok_two (P := P) (w := w) (base := base) T
  refine F.okX sc_Net_put_same (fun vs H Q E h => ?_) (fun cdv A outer s H vs Q E hr h => ?_)
  · obtain ⟨p, r, v, o, t, rfl, _⟩ := h
    rfl
  · obtain ⟨p, r, v, o, t, rfl, N, hk, k1, k2⟩ := h
    obtain ⟨dx, hp⟩ := N.ex
    refine ⟨_, (pss_cons (ps_expr (pe_mcalX (pv 0) T.c_Net m_Net_need_two_points px_body (hr.mono (by decide)) (pa_cons (pv 1) (pa_cons (pv 2) pa_nil))))
      (pss_cons (ps_if (pt_cmpR op_ge (pe_callB call_len_seq rfl T.n_len bt_len (pa_cons (pe_fld (pv 0) rfl) pa_nil)) (pe_gInt rfl T.k_MOST_SAMES) (nomark _)) (pss_one (ps_raise0 px_body T.x_TooMany rfl T.g_TooMany)) pss_nil)
      (pss_one (ps_expr (pe_bm PySem.F.plainAttrs_list PySem.F.slot_list_append PySem.F.type_list_append mt_append (pe_fld (pv 0) rfl) (pa_cons (pe_tup (pa_cons (pv 1) (pa_cons (pv 2) pa_nil))) pa_nil)))))), ?_⟩
    refine ⟨_, rfl, p, dx, _, rfl, hp, by rfl, _, rfl, _, rfl, p, r, v, o, t, rfl, N, fun c1 H1 s1 => ?_, fun er c => k2 er (lim_two c)⟩
    rw [lim_none c1] at k1 k2
    have N1 := N.same s1
    obtain ⟨xs, h5, h6⟩ := N1.hs
    have hp1 := s1 _ _ hp
    have hl : xs.length = v.ss.length := by rw [← h6.length, List.length_map]
    refine ⟨_, rfl, p, a.Net, dx, _, _, rfl, hp1, T.c_Net, T.na_Net_same_pairs, lk_sames, r.ls, xs, rfl, .inl (SqL.of h5), _, _, rfl, rfl, _, rfl, ?_⟩
    refine iteB (fun c => ?_) (fun c => ?_)
    · have c' : 20 ≤ v.ss.length := by
        have : (20 : Int) ≤ xs.length := of_decide_eq_true c
        omega
      exact ⟨by show 0 ≤ sizeLine; decide, k2 .many (by rw [if_neg (show ¬ bad none = true by decide), if_pos c']) H1 s1⟩
    have c' : ¬ 20 ≤ v.ss.length := by
      have : ¬ (20 : Int) ≤ xs.length := of_decide_eq_false c
      omega
    refine ⟨_, rfl, p, a.Net, dx, _, _, rfl, hp1, T.c_Net, T.na_Net_same_pairs, lk_sames, .inl ⟨rfl, _, SqL.of h5⟩, _, rfl, _, rfl, (by show 2 ≤ sizeLine; decide), fun q nq => ?_⟩
    have s2 : Same H1 (upd H1 q (.tup [.str o, .str t])) := Same.new nq
    have hq : SqT K (upd H1 q (.tup [.str o, .str t])) q [.str o, .str t] := SqT.of upd_same
    generalize upd H1 q (.tup [.str o, .str t]) = H2 at s2 hq ⊢
    refine ⟨r.ls, xs, _, rfl, rfl, s2 _ _ h5, by rw [sizeLine_eq]; omega, ?_⟩
    refine k1 (by rw [if_neg (show ¬ bad none = true by decide), if_neg c']) _ (fun b u e _ _ _ z4 _ => by rw [upd_ne z4]; exact s2 _ _ (s1 _ _ e)) ?_
    obtain ⟨⟨dx2, hp2⟩, h2, ⟨avs, h3, h4⟩, ⟨xs2, h52, h62⟩, ⟨ys, h7, h8⟩, n1, n2⟩ := N1.same s2
    have tk : Tk H2 (upd H2 r.ls (.lst (xs ++ [.ref q]))) := Tk.upd h52 rfl
    exact ⟨⟨dx2, by rw [upd_ne (ne_of hp2 h52 (by intro z; cases z))]; exact hp2⟩, by rw [upd_ne (ne_of h2 h52 (by intro z; cases z))]; exact h2, ⟨avs, by rw [upd_ne (ne_of h3 h52 (by intro z; cases z))]; exact h3, tk.arr h4⟩,
      ⟨_, upd_same, by rw [List.map_append]; exact DtVs.snoc (dt_same (tk.sqT hq)) (tk.dts (noLsts_map (fun _ => rfl) _) (s2.dts h6))⟩, ⟨ys, by rw [upd_ne (Ne.symm n2)]; exact h7, tk.dts (noLsts_map (fun _ => rfl) _) h8⟩, n1, n2⟩
def spMost (K : PySem.W.Frag) (a : Adr) : Sp := fun vs H Q E => ∃ p r v o t n, vs = [.ref p, .str o, .str t, .int n] ∧ NetAt K a.Net H p r v ∧ v.mm.length ≤ 1000 ∧
  (lim v.kvs v.mm.length o t (some n) = none → ∀ H', Kp p r H H' → NetAt K a.Net H' p r { v with mm := v.mm ++ [(o, t, n)] } → Q .non H') ∧
  (∀ er, lim v.kvs v.mm.length o t (some n) = some er → ∀ H', Same H H' → Raised a E er H')
theorem ok_most (T : Tx K mg a) : CalM P w K mg base (CXe P w) 5 a.Net "put_most" ["self", "one", "other", "number"] [] (spMost K a) := T.m_Net_put_most.cal fun f fd F => by
  have m_Net_need_two_points := ok_two (P := P) (w := w) (base := base) T
  have c_in_range := ok_in_range (P := P) (w := w) (base := base) T
  refine F.okX sc_Net_put_most (fun vs H Q E h => ?_) (fun cdv A outer s H vs Q E hr h => ?_)
  · obtain ⟨p, r, v, o, t, n, rfl, _⟩ := h
    rfl
  · obtain ⟨p, r, v, o, t, n, rfl, N, hk, k1, k2⟩ := h
    obtain ⟨dx, hp⟩ := N.ex
    refine ⟨_, (pss_cons (ps_expr (pe_mcalX (pv 0) T.c_Net m_Net_need_two_points px_body (hr.mono (by decide)) (pa_cons (pv 1) (pa_cons (pv 2) pa_nil))))
      (pss_cons (ps_if (pt_not (pt_val (pe_cal c_in_range (hr.mono (by decide)) rfl (pa_cons (pv 3) (pa_cons pe_int (pa_cons (pe_gInt rfl T.k_GREATEST_MOST) pa_nil)))))) (pss_one (ps_raise0 px_body T.x_NoNumber rfl T.g_NoNumber)) pss_nil)
      (pss_cons (ps_if (pt_cmpR op_ge (pe_callB call_len_seq rfl T.n_len bt_len (pa_cons (pe_fld (pv 0) rfl) pa_nil)) (pe_gInt rfl T.k_MOST_MOSTS) (nomark _)) (pss_one (ps_raise0 px_body T.x_TooMany rfl T.g_TooMany)) pss_nil)
      (pss_one (ps_expr (pe_bm PySem.F.plainAttrs_list PySem.F.slot_list_append PySem.F.type_list_append mt_append (pe_fld (pv 0) rfl) (pa_cons (pe_tup (pa_cons (pv 1) (pa_cons (pv 2) (pa_cons (pv 3) pa_nil)))) pa_nil))))))), ?_⟩
    refine ⟨_, rfl, p, dx, _, rfl, hp, by rfl, _, rfl, _, rfl, p, r, v, o, t, rfl, N, fun c1 H1 s1 => ?_, fun er c => k2 er (lim_two c)⟩
    rw [lim_none c1] at k1 k2
    have N1 := N.same s1
    obtain ⟨xs, h5, h6⟩ := N1.hm
    have hp1 := s1 _ _ hp
    have hl : xs.length = v.mm.length := by rw [← h6.length, List.length_map]
    refine ⟨_, rfl, n, 0, 99, rfl, _, rfl, ?_⟩
    refine iteB (fun c => ?_) (fun c => ?_)
    · have c' : bad (some n) = true := by
        simp only [Bool.not_eq_true', Bool.and_eq_false_iff, decide_eq_false_iff_not] at c
        simp only [bad, Bool.or_eq_true, decide_eq_true_eq]
        omega
      exact ⟨by show 0 ≤ sizeLine; decide, k2 .number (by rw [if_pos c']) H1 s1⟩
    have c3 : ¬ bad (some n) = true := by
      simp only [Bool.not_eq_false', Bool.and_eq_true, decide_eq_true_eq] at c
      simp only [bad, Bool.or_eq_true, decide_eq_true_eq]
      omega
    rw [if_neg c3] at k1 k2
    refine ⟨_, rfl, p, a.Net, dx, _, _, rfl, hp1, T.c_Net, T.na_Net_most_bounds, lk_mosts, r.lm, xs, rfl, .inl (SqL.of h5), _, _, rfl, rfl, _, rfl, ?_⟩
    refine iteB (fun c => ?_) (fun c => ?_)
    · have c' : 20 ≤ v.mm.length := by
        have : (20 : Int) ≤ xs.length := of_decide_eq_true c
        omega
      exact ⟨by show 0 ≤ sizeLine; decide, k2 .many (by rw [if_pos c']) H1 s1⟩
    have c' : ¬ 20 ≤ v.mm.length := by
      have : ¬ (20 : Int) ≤ xs.length := of_decide_eq_false c
      omega
    refine ⟨_, rfl, p, a.Net, dx, _, _, rfl, hp1, T.c_Net, T.na_Net_most_bounds, lk_mosts, .inl ⟨rfl, _, SqL.of h5⟩, _, rfl, _, rfl, _, rfl, (by show 3 ≤ sizeLine; decide), fun q nq => ?_⟩
    have s2 : Same H1 (upd H1 q (.tup [.str o, .str t, .int n])) := Same.new nq
    have hq : SqT K (upd H1 q (.tup [.str o, .str t, .int n])) q [.str o, .str t, .int n] := SqT.of upd_same
    generalize upd H1 q (.tup [.str o, .str t, .int n]) = H2 at s2 hq ⊢
    refine ⟨r.lm, xs, _, rfl, rfl, s2 _ _ h5, by rw [sizeLine_eq]; omega, ?_⟩
    refine k1 (by rw [if_neg c']) _ (fun b u e _ _ _ _ z5 => by rw [upd_ne z5]; exact s2 _ _ (s1 _ _ e)) ?_
    obtain ⟨⟨dx2, hp2⟩, h2, ⟨avs, h3, h4⟩, ⟨ys, h7, h8⟩, ⟨xs2, h52, h62⟩, n1, n2⟩ := N1.same s2
    have tk : Tk H2 (upd H2 r.lm (.lst (xs ++ [.ref q]))) := Tk.upd h52 rfl
    exact ⟨⟨dx2, by rw [upd_ne (ne_of hp2 h52 (by intro z; cases z))]; exact hp2⟩, by rw [upd_ne (ne_of h2 h52 (by intro z; cases z))]; exact h2, ⟨avs, by rw [upd_ne (ne_of h3 h52 (by intro z; cases z))]; exact h3, tk.arr h4⟩,
      ⟨ys, by rw [upd_ne n2]; exact h7, tk.dts (noLsts_map (fun _ => rfl) _) h8⟩, ⟨_, upd_same, by rw [List.map_append]; exact DtVs.snoc (dt_most (tk.sqT hq)) (tk.dts (noLsts_map (fun _ => rfl) _) (s2.dts h6))⟩, n1, n2⟩
/-- put_arrow -/
def arrErr (v : NetV) (o t : Str) (sp wt : Int) : Option Er :=
  match two v.kvs o t with
  | some er => some er
  | none => if (sp < 1 ∨ 20 < sp) ∨ (wt < 1 ∨ 1000000 < wt) then some .number else if 40 ≤ v.arr.length then some .many else none
theorem arr_two {v : NetV} {o t : Str} {sp wt : Int} {er : Er} (h : two v.kvs o t = some er) : arrErr v o t sp wt = some er := by unfold arrErr; rw [h]
theorem arr_none {v : NetV} {o t : Str} {sp wt : Int} (h : two v.kvs o t = none) : arrErr v o t sp wt = if (sp < 1 ∨ 20 < sp) ∨ (wt < 1 ∨ 1000000 < wt) then some .number else if 40 ≤ v.arr.length then some .many else none := by unfold arrErr; rw [h]
def spArrow (K : PySem.W.Frag) (a : Adr) : Sp := fun vs H Q E => ∃ p r v o t sp wt, vs = [.ref p, .str o, .str t, .int sp, .int wt] ∧ NetAt K a.Net H p r v ∧ v.arr.length ≤ 1000 ∧ (∀ q ∈ v.arr, q.num < v.nn) ∧
  (arrErr v o t sp wt = none → ∀ H', Kp p r H H' → NetAt K a.Net H' p r { v with arr := v.arr ++ [⟨v.nn, o, t, sp, wt⟩], nn := v.nn + 1 } → Q (.int v.nn) H') ∧
  (∀ er, arrErr v o t sp wt = some er → ∀ H', Same H H' → Raised a E er H')
theorem arr_new {H : Hp} {n : Int} : ∀ {qs : List Ar} {kvs : Kvs}, ArrV K H qs kvs → (∀ q ∈ qs, q.num < n) → valV kvs (Sum.inl n) = none
  | [], _, h, _ => by rw [show _ = [] from h]; rfl
  | q :: qs, _, h, l => by
    obtain ⟨t, r, rfl, h1, h2⟩ := h
    have ne : ¬ (Sum.inl q.num : Key) = Sum.inl n := fun z => by
      have := l q List.mem_cons_self
      cases z
      omega
    rw [valV_neg (p := (Sum.inl q.num, V.ref t)) ne]
    exact arr_new h2 fun q' hq' => l q' (List.mem_cons_of_mem _ hq')
theorem ok_arrow_body (T : Tx K mg a) (f : Addr) (fd : FuncData) (F : FunD K "put_arrow" "Net.put_arrow" s_Net_put_arrow f fd) : FnOk P w K mg base (CXe P w) 5 f fd ["self", "one", "other", "span", "weight"] (spArrow K a) := by
  have m_Net_need_two_points := ok_two (P := P) (w := w) (base := base) T
  have c_in_range := ok_in_range (P := P) (w := w) (base := base) T
  refine F.okX sc_Net_put_arrow (fun vs H Q E h => ?_) (fun cdv A outer s H vs Q E hr h => ?_)
  · obtain ⟨p, r, v, o, t, sp, wt, rfl, _⟩ := h
    rfl
  · obtain ⟨p, r, v, o, t, sp, wt, rfl, N, hk, hnn, k1, k2⟩ := h
    obtain ⟨dx, hp⟩ := N.ex
    refine ⟨_, (pss_cons (ps_expr (pe_mcalX (pv 0) T.c_Net m_Net_need_two_points px_body (hr.mono (by decide)) (pa_cons (pv 1) (pa_cons (pv 2) pa_nil))))
      (pss_cons (ps_if (PW.pt (pw_or (pt_not (pt_val (pe_cal c_in_range (hr.mono (by decide)) rfl (pa_cons (pv 3) (pa_cons pe_int (pa_cons (pe_gInt rfl T.k_LONGEST_SPAN) pa_nil)))))) (pw_or1 (pt_not (pt_val (pe_cal c_in_range (hr.mono (by decide)) rfl (pa_cons (pv 4) (pa_cons pe_int (pa_cons (pe_gInt rfl T.k_GREATEST_WEIGHT) pa_nil))))))))) (pss_one (ps_raise0 px_body T.x_NoNumber rfl T.g_NoNumber)) pss_nil)
      (pss_cons (ps_if (pt_cmpR op_ge (pe_callB call_lenD rfl T.n_len bt_len (pa_cons (pe_fld (pv 0) rfl) pa_nil)) (pe_gInt rfl T.k_MOST_ARROWS) (nomark _)) (pss_one (ps_raise0 px_body T.x_TooMany rfl T.g_TooMany)) pss_nil)
      (pss_cons (ps_set (i := 5) sc_Net_put_arrow.nd rfl (by first | exact Or.inl rfl | exact Or.inr rfl) (pe_fld (pv 0) rfl))
      (pss_cons (ps_dput (hu_of hr) (pe_fld (pv 0) rfl) (pv 5) (pe_tup (pa_cons (pv 1) (pa_cons (pv 2) (pa_cons (pv 3) (pa_cons (pv 4) pa_nil))))) rfl)
      (pss_cons (ps_fld (pv 0) (pe_op op_add (pv 5) pe_int) rfl)
      (pss_one (ps_ret (pv 5))))))))), ?_⟩
    refine ⟨_, rfl, p, dx, _, rfl, hp, by rfl, _, rfl, _, rfl, p, r, v, o, t, rfl, N, fun c1 H1 s1 => ?_, fun er c => k2 er (arr_two c)⟩
    rw [arr_none c1] at k1 k2
    have N1 := N.same s1
    obtain ⟨avs, h3, h4⟩ := N1.ha
    have hp1 := s1 _ _ hp
    have hl : avs.length = v.arr.length := by rw [← h4.length]
    have numb : ((sp < 1 ∨ 20 < sp) ∨ (wt < 1 ∨ 1000000 < wt)) → _ := fun c => k2 .number (by rw [if_pos c]) H1 s1
    refine ⟨_, rfl, sp, 1, 20, rfl, _, rfl, ?_⟩
    refine iteB (fun c => ?_) (fun c => ?_)
    · have c' : sp < 1 ∨ 20 < sp := by
        simp only [Bool.not_eq_true', Bool.and_eq_false_iff, decide_eq_false_iff_not] at c
        omega
      exact iteT ⟨by show 0 ≤ sizeLine; decide, numb (.inl c')⟩
    have c3 : ¬ (sp < 1 ∨ 20 < sp) := by
      simp only [Bool.not_eq_false', Bool.and_eq_true, decide_eq_true_eq] at c
      omega
    refine ⟨_, rfl, wt, 1, 1000000, rfl, _, rfl, ?_⟩
    refine iteB (fun c => ?_) (fun c => ?_)
    · have c' : wt < 1 ∨ 1000000 < wt := by
        simp only [Bool.not_eq_true', Bool.and_eq_false_iff, decide_eq_false_iff_not] at c
        omega
      exact ⟨by show 0 ≤ sizeLine; decide, numb (.inr c')⟩
    have c4 : ¬ (wt < 1 ∨ 1000000 < wt) := by
      simp only [Bool.not_eq_false', Bool.and_eq_true, decide_eq_true_eq] at c
      omega
    rw [if_neg (fun z => z.elim c3 c4)] at k1 k2
    refine ⟨_, rfl, p, a.Net, dx, _, _, rfl, hp1, T.c_Net, T.na_Net_arrows_by_number, lk_arrows, r.da, avs, rfl, h3, _, _, rfl, rfl, _, rfl, ?_⟩
    refine iteB (fun c => ?_) (fun c => ?_)
    · have c' : 40 ≤ v.arr.length := by
        have : (40 : Int) ≤ avs.length := of_decide_eq_true c
        omega
      exact ⟨by show 0 ≤ sizeLine; decide, k2 .many (by rw [if_pos c']) H1 s1⟩
    have c' : ¬ 40 ≤ v.arr.length := by
      have : ¬ (40 : Int) ≤ avs.length := of_decide_eq_false c
      omega
    refine ⟨_, rfl, p, a.Net, dx, _, _, rfl, hp1, T.c_Net, T.na_Net_next_number, lk_nn, ?_⟩
    refine ⟨_, rfl, _, rfl, _, rfl, _, rfl, (by show 4 ≤ sizeLine; decide), fun q nq => ?_⟩
    have s2 : Same H1 (upd H1 q (.tup [.str o, .str t, .int sp, .int wt])) := Same.new nq
    have hq : SqT K (upd H1 q (.tup [.str o, .str t, .int sp, .int wt])) q (arV ⟨v.nn, o, t, sp, wt⟩) := SqT.of upd_same
    generalize upd H1 q (.tup [.str o, .str t, .int sp, .int wt]) = H2 at s2 hq ⊢
    have hp2 := s2 _ _ hp1
    have h32 := s2 _ _ h3
    refine ⟨_, rfl, p, a.Net, dx, _, _, rfl, hp2, T.c_Net, T.na_Net_arrows_by_number, lk_arrows, _, rfl, r.da, _, rfl, DPut.k (k := Sum.inl v.nn) h32 (by rw [sizeLine_eq]; omega), ?_⟩
    rw [putK_new (.ref q) (arr_new h4 hnn)]
    have hp3 : upd H2 r.da (.dK (avs ++ [(Sum.inl v.nn, .ref q)])) p = some (.ins a.Net dx (netF r.dh r.da v.nn r.ls r.lm)) := by rw [upd_ne (ne_of hp2 h32 (by intro z; cases z))]; exact hp2
    refine ⟨_, rfl, _, _, rfl, rfl, _, rfl, p, a.Net, dx, _, rfl, hp3, T.c_Net, T.na_Net_next_number, by show 5 < 1000; decide, ?_⟩
    rw [netF_put_nn]
    refine ⟨_, rfl, ?_⟩
    show Q (.int v.nn) _
    refine k1 (by rw [if_neg c']) _ (fun b u e z1 _ z3 _ _ => by rw [upd_ne z1, upd_ne z3]; exact s2 _ _ (s1 _ _ e)) ?_
    obtain ⟨⟨dx2, _⟩, h2, _, ⟨xs, h5, h6⟩, ⟨ys, h7, h8⟩, n1, n2⟩ := N1.same s2
    have tk : Tk H2 (upd (upd H2 r.da (.dK (avs ++ [(Sum.inl v.nn, .ref q)]))) p (.ins a.Net dx (netF r.dh r.da (v.nn + 1) r.ls r.lm))) := (Tk.upd h32 rfl).trans (Tk.upd hp3 rfl)
    have ne : ∀ b u, H2 b = some u → b ≠ p → b ≠ r.da → upd (upd H2 r.da (.dK (avs ++ [(Sum.inl v.nn, .ref q)]))) p (.ins a.Net dx (netF r.dh r.da (v.nn + 1) r.ls r.lm)) b = some u := fun b u e z1 z3 => by rw [upd_ne z1, upd_ne z3]; exact e
    exact ⟨⟨dx, upd_same⟩, ne _ _ h2 (ne_of h2 hp2 (by intro z; cases z)) (Ne.symm n1), ⟨_, (by rw [upd_ne (ne_of h32 hp2 (by intro z; cases z))]; exact upd_same), (tk.arr ((Tk.of s2).arr h4)).snoc (tk.sqT hq)⟩,
      ⟨xs, ne _ _ h5 (ne_of h5 hp2 (by intro z; cases z)) (ne_of h5 h32 (by intro z; cases z)), tk.dts (noLsts_map (fun _ => rfl) _) h6⟩, ⟨ys, ne _ _ h7 (ne_of h7 hp2 (by intro z; cases z)) (ne_of h7 h32 (by intro z; cases z)), tk.dts (noLsts_map (fun _ => rfl) _) h8⟩, n1, n2⟩
theorem ok_arrow (T : Tx K mg a) : CalM P w K mg base (CXe P w) 5 a.Net "put_arrow" ["self", "one", "other", "span", "weight"] [] (spArrow K a) := T.m_Net_put_arrow.cal fun f fd F => ok_arrow_body T f fd F
def spRows (K : PySem.W.Frag) (C : Addr) (f : NetV → List Dt) : Sp := fun vs H Q _ => ∃ p r v, vs = [.ref p] ∧ NetAt K C H p r v ∧ (f v).length ≤ 1000 ∧ ∀ l H' xs, Same H H' → H l = none → H' l = some (.lst xs) → DtVs K H' (f v) xs → Tps H' xs → Q (.ref l) H'
theorem ok_sames (T : Tx K mg a) : CalM P w K mg base CX0 1 a.Net "sames" ["self"] [] (spRows K a.Net fun v => v.ss.map sameD) := T.m_Net_sames.cal fun f fd F => by
  refine F.ok sc_Net_sames (fun vs H Q E h => ?_) (fun cdv A outer s H vs Q E hr h => ?_)
  · obtain ⟨p, r, v, rfl, _⟩ := h
    rfl
  · obtain ⟨p, r, v, rfl, N, hk, k⟩ := h
    obtain ⟨dx, hp⟩ := N.ex
    obtain ⟨xs, h5, h6⟩ := N.hs
    have hl : v.ss.length = xs.length := by rw [← h6.length, List.length_map]
    dsimp only at hk
    rw [List.length_map] at hk
    refine ⟨_, (pss_one (ps_ret (pe_comp (N := ["one", "other"]) (cap := [none, none]) rfl (cap_ok (osc := defScope s_Net_sames) (XN := ["self"]) rfl rfl (by decide +kernel)) (pi_list (pe_fld (pv 0) rfl)) (fun cl C s H fp pins => (pgK_tup (K := K) (n := 2) rfl rfl (pgs_cons (pg_name (i := 0) (show (["one", "other"] : List Str).Nodup by decide +kernel) rfl (by first | exact Or.inl rfl | exact Or.inr rfl)) (pgs_cons (pg_name (i := 1) (show (["one", "other"] : List Str).Nodup by decide +kernel) rfl (by first | exact Or.inl rfl | exact Or.inr rfl)) pgs_nil)))) (fun cl C s H fp pins => pif_nil) (fun cl C s H fp pins => (pe_tup (pa_cons (pv 0) (pa_cons (pv 1) pa_nil))))))), ?_⟩
    refine ⟨_, rfl, p, a.Net, dx, _, _, rfl, hp, T.c_Net, T.na_Net_same_pairs, lk_sames, r.ls, rfl, ⟨_, SqL.of h5⟩, fun D hD => ?_⟩
    refine comp_list (K := K) (a := r.ls) (xs := xs) (fun i τ H' => ∃ v1 v2 ys, τ = [v1, v2] ∧ Same H H' ∧ H' D = some (.lst ys) ∧ DtVs K H' ((v.ss.take i).map sameD) ys ∧ Tps H' ys) ⟨none, none, [], rfl, Same.new hD, upd_same, rfl, Tps.nil⟩ ?_ ?_ ?_
    · rintro i τ H' _ ⟨v1, v2, ys, rfl, sm, hy, hd, tp⟩
      exact SqL.of (sm _ _ h5)
    · rintro i x τ H' hx ⟨v1, v2, ys, rfl, sm, hy, hd, tp⟩
      obtain ⟨⟨o, t⟩, hq, dq⟩ := dts_get h6 hx
      obtain ⟨q, rfl, h1⟩ := un_same (sm.dt dq)
      have hyl : ys.length ≤ v.ss.length := by rw [← hd.length, List.length_map, List.length_take]; exact Nat.min_le_right _ _
      refine ⟨q, _, rfl, h1, rfl, _, _, rfl, _, _, rfl, rfl, ?_⟩
      dsimp only [tYes]
      rw [if_pos rfl]
      refine ⟨_, rfl, _, rfl, (by show 2 ≤ sizeLine; decide), fun z nz => ⟨ys, by rw [upd_ne (ne_of_none hy nz)]; exact hy, by rw [sizeLine_eq]; omega, _, _, _, rfl, ?_, upd_same, ?_, ?_⟩⟩
      · intro b u e
        rw [upd_ne (ne_of_none e hD)]
        exact (sm.trans (Same.new nz)) b u e
      · have s3 : Same H' (upd H' z (.tup [.str o, .str t])) := Same.new nz
        have hz : SqT K (upd H' z (.tup [.str o, .str t])) z [.str o, .str t] := SqT.of upd_same
        have hy3 := s3 _ _ hy
        generalize upd H' z (.tup [.str o, .str t]) = H3 at s3 hz hy3 ⊢
        have tk : Tk H3 (upd H3 D (.lst (ys ++ [.ref z]))) := Tk.upd hy3 rfl
        rw [take_snoc hq, List.map_append]
        exact DtVs.snoc (dt_same (tk.sqT hz)) (tk.dts (noLsts_map (fun _ => rfl) _) (s3.dts hd))
      · have s3 : Same H' (upd H' z (.tup [.str o, .str t])) := Same.new nz
        have hz : upd H' z (.tup [.str o, .str t]) z = some (.tup [.str o, .str t]) := upd_same
        have hy3 := s3 _ _ hy
        generalize upd H' z (.tup [.str o, .str t]) = H3 at s3 hz hy3 ⊢
        exact ((tp.tk (Tk.of s3)).snoc hz).tk (Tk.upd hy3 rfl)
    · rintro τ H' ⟨v1, v2, ys, rfl, sm, hy, hd, tp⟩
      rw [← hl, List.take_length] at hd
      exact k D H' ys sm hD hy hd tp
theorem ok_mosts (T : Tx K mg a) : CalM P w K mg base CX0 1 a.Net "mosts" ["self"] [] (spRows K a.Net fun v => v.mm.map mostD) := T.m_Net_mosts.cal fun f fd F => by
  refine F.ok sc_Net_mosts (fun vs H Q E h => ?_) (fun cdv A outer s H vs Q E hr h => ?_)
  · obtain ⟨p, r, v, rfl, _⟩ := h
    rfl
  · obtain ⟨p, r, v, rfl, N, hk, k⟩ := h
    obtain ⟨dx, hp⟩ := N.ex
    obtain ⟨xs, h5, h6⟩ := N.hm
    have hl : v.mm.length = xs.length := by rw [← h6.length, List.length_map]
    dsimp only at hk
    rw [List.length_map] at hk
    refine ⟨_, (pss_one (ps_ret (pe_comp (N := ["one", "other", "number"]) (cap := [none, none, none]) rfl (cap_ok (osc := defScope s_Net_mosts) (XN := ["self"]) rfl rfl (by decide +kernel)) (pi_list (pe_fld (pv 0) rfl)) (fun cl C s H fp pins => (pgK_tup (K := K) (n := 3) rfl rfl (pgs_cons (pg_name (i := 0) (show (["one", "other", "number"] : List Str).Nodup by decide +kernel) rfl (by first | exact Or.inl rfl | exact Or.inr rfl)) (pgs_cons (pg_name (i := 1) (show (["one", "other", "number"] : List Str).Nodup by decide +kernel) rfl (by first | exact Or.inl rfl | exact Or.inr rfl)) (pgs_cons (pg_name (i := 2) (show (["one", "other", "number"] : List Str).Nodup by decide +kernel) rfl (by first | exact Or.inl rfl | exact Or.inr rfl)) pgs_nil))))) (fun cl C s H fp pins => pif_nil) (fun cl C s H fp pins => (pe_tup (pa_cons (pv 0) (pa_cons (pv 1) (pa_cons (pv 2) pa_nil)))))))), ?_⟩
    refine ⟨_, rfl, p, a.Net, dx, _, _, rfl, hp, T.c_Net, T.na_Net_most_bounds, lk_mosts, r.lm, rfl, ⟨_, SqL.of h5⟩, fun D hD => ?_⟩
    refine comp_list (K := K) (a := r.lm) (xs := xs) (fun i τ H' => ∃ v1 v2 v3 ys, τ = [v1, v2, v3] ∧ Same H H' ∧ H' D = some (.lst ys) ∧ DtVs K H' ((v.mm.take i).map mostD) ys ∧ Tps H' ys) ⟨none, none, none, [], rfl, Same.new hD, upd_same, rfl, Tps.nil⟩ ?_ ?_ ?_
    · rintro i τ H' _ ⟨v1, v2, v3, ys, rfl, sm, hy, hd, tp⟩
      exact SqL.of (sm _ _ h5)
    · rintro i x τ H' hx ⟨v1, v2, v3, ys, rfl, sm, hy, hd, tp⟩
      obtain ⟨⟨o, t, n⟩, hq, dq⟩ := dts_get h6 hx
      obtain ⟨q, rfl, h1⟩ := un_most (sm.dt dq)
      have hyl : ys.length ≤ v.mm.length := by rw [← hd.length, List.length_map, List.length_take]; exact Nat.min_le_right _ _
      refine ⟨q, _, rfl, h1, rfl, _, _, rfl, _, _, rfl, _, _, rfl, rfl, ?_⟩
      dsimp only [tYes]
      rw [if_pos rfl]
      refine ⟨_, rfl, _, rfl, _, rfl, (by show 3 ≤ sizeLine; decide), fun z nz => ⟨ys, by rw [upd_ne (ne_of_none hy nz)]; exact hy, by rw [sizeLine_eq]; omega, _, _, _, _, rfl, ?_, upd_same, ?_, ?_⟩⟩
      · intro b u e
        rw [upd_ne (ne_of_none e hD)]
        exact (sm.trans (Same.new nz)) b u e
      · have s3 : Same H' (upd H' z (.tup [.str o, .str t, .int n])) := Same.new nz
        have hz : SqT K (upd H' z (.tup [.str o, .str t, .int n])) z [.str o, .str t, .int n] := SqT.of upd_same
        have hy3 := s3 _ _ hy
        generalize upd H' z (.tup [.str o, .str t, .int n]) = H3 at s3 hz hy3 ⊢
        have tk : Tk H3 (upd H3 D (.lst (ys ++ [.ref z]))) := Tk.upd hy3 rfl
        rw [take_snoc hq, List.map_append]
        exact DtVs.snoc (dt_most (tk.sqT hz)) (tk.dts (noLsts_map (fun _ => rfl) _) (s3.dts hd))
      · have s3 : Same H' (upd H' z (.tup [.str o, .str t, .int n])) := Same.new nz
        have hz : upd H' z (.tup [.str o, .str t, .int n]) z = some (.tup [.str o, .str t, .int n]) := upd_same
        have hy3 := s3 _ _ hy
        generalize upd H' z (.tup [.str o, .str t, .int n]) = H3 at s3 hz hy3 ⊢
        exact ((tp.tk (Tk.of s3)).snoc hz).tk (Tk.upd hy3 rfl)
    · rintro τ H' ⟨v1, v2, v3, ys, rfl, sm, hy, hd, tp⟩
      rw [← hl, List.take_length] at hd
      exact k D H' ys sm hD hy hd tp
theorem ok_arrows (T : Tx K mg a) : CalM P w K mg base CX0 1 a.Net "arrows" ["self"] [] (spRows K a.Net fun v => v.arr.map arD) := T.m_Net_arrows.cal fun f fd F => by
  refine F.ok sc_Net_arrows (fun vs H Q E h => ?_) (fun cdv A outer s H vs Q E hr h => ?_)
  · obtain ⟨p, r, v, rfl, _⟩ := h
    rfl
  · obtain ⟨p, r, v, rfl, N, hk, k⟩ := h
    obtain ⟨dx, hp⟩ := N.ex
    obtain ⟨avs, h2, h4⟩ := N.ha
    have hl := h4.length
    dsimp only at hk
    rw [List.length_map] at hk
    refine ⟨_, (pss_one (ps_ret (pe_thaw (pe_comp (N := ["number", "arrow"]) (cap := [none, none]) rfl (cap_ok (osc := defScope s_Net_arrows) (XN := ["self"]) rfl rfl (by decide +kernel)) (pi_view (pe_bm0 PySem.F.plainAttrs_dict PySem.F.slot_dict_items PySem.F.type_dict_items mt_items (pe_fld (pv 0) rfl))) (fun cl C s H fp pins => (pgK_tup (K := K) (n := 2) rfl rfl (pgs_cons (pg_name (i := 0) (show (["number", "arrow"] : List Str).Nodup by decide +kernel) rfl (by first | exact Or.inl rfl | exact Or.inr rfl)) (pgs_cons (pg_name (i := 1) (show (["number", "arrow"] : List Str).Nodup by decide +kernel) rfl (by first | exact Or.inl rfl | exact Or.inr rfl)) pgs_nil)))) (fun cl C s H fp pins => pif_nil) (fun cl C s H fp pins => (pe_tup (pa_cons (pv 0) (pa_cons (pe_ix (ixK_tup (K := K) rfl) (pv 1) pe_int (fun _ _ => rfl)) (pa_cons (pe_ix (ixK_tup (K := K) rfl) (pv 1) pe_int (fun _ _ => rfl)) (pa_cons (pe_ix (ixK_tup (K := K) rfl) (pv 1) pe_int (fun _ _ => rfl)) (pa_cons (pe_ix (ixK_tup (K := K) rfl) (pv 1) pe_int (fun _ _ => rfl)) pa_nil))))))))))), ?_⟩
    refine ⟨r.da, avs, h2, _, rfl, p, a.Net, dx, _, _, rfl, hp, T.c_Net, T.na_Net_arrows_by_number, lk_arrows, .inr (.inr (.inl ⟨rfl, .inl ⟨_, h2⟩⟩)), r.da, avs, rfl, rfl, h2, fun w nw => ⟨w, r.da, avs, rfl, upd_same, by rw [upd_ne (ne_of_none h2 nw)]; exact h2, fun o D hD => ?_⟩⟩
    have dw : r.da ≠ w := ne_of_none h2 nw
    have dD : r.da ≠ D := ne_of_none upd_same hD
    have nD : upd H w (ViewO w r.da) D = none := by rw [upd_ne (Ne.symm dD)] at hD; exact hD
    have HD : H D = none := by
      cases hq : H D with
      | none => rfl
      | some u =>
        have := (Same.new (o := ViewO w r.da) nw) D u hq
        rw [nD] at this
        cases this
    refine comp_items (d := r.da) (o := o) (kvs := avs) (fun i τ H' => ∃ v1 v2 ys, τ = [v1, v2] ∧ (∀ b u, H b = some u → b ≠ r.da → H' b = some u) ∧ H' r.da = some (.frz o (.dK avs)) ∧ H' D = some (.lst ys) ∧ DtVs K H' ((v.arr.take i).map arD) ys ∧ Tps H' ys)
      ⟨none, none, [], rfl, fun b u e hb => by rw [upd_ne (ne_of_none e HD), upd_ne hb]; exact Same.new nw b u e, by rw [upd_ne dD]; exact upd_same, upd_same, rfl, Tps.nil⟩ ?_ ?_ ?_
    · rintro i τ H' _ ⟨v1, v2, ys, rfl, fr, hz, hy, hd, tp⟩
      exact hz
    · rintro i ky x T' τ H' hx hT ⟨v1, v2, ys, rfl, fr, hf, hy, hd, tp⟩
      obtain ⟨q, t, hq, rfl, rfl, h1⟩ := h4.get hx
      have tkH : Tk H H' := fun b u e z => fr b u e fun w => by subst w; rw [h2] at e; cases e; cases z
      have hyl : ys.length ≤ v.arr.length := by rw [← hd.length, List.length_map, List.length_take]; exact Nat.min_le_right _ _
      have s1 : Same H' (upd H' T' (.tup [kV (Sum.inl q.num), .ref t])) := Same.new hT
      have h1' := s1.sqT (tkH.sqT h1)
      have hT' : SqT K (upd H' T' (.tup [kV (Sum.inl q.num), .ref t])) T' [kV (Sum.inl q.num), .ref t] := SqT.of upd_same
      have hy' := s1 _ _ hy
      have hf' := s1 _ _ hf
      have hd' := s1.dts hd
      have s1' := s1
      have fr' : ∀ b u, H b = some u → b ≠ r.da → upd H' T' (.tup [kV (Sum.inl q.num), .ref t]) b = some u := fun b u e z => s1 _ _ (fr b u e z)
      generalize upd H' T' (.tup [kV (Sum.inl q.num), .ref t]) = H1 at h1' hT' hy' hf' hd' s1' fr' ⊢
      refine ⟨T', _, rfl, hT', rfl, _, _, rfl, _, _, rfl, rfl, ?_⟩
      dsimp only [tYes]
      rw [if_pos rfl]
      refine ⟨_, rfl, _, rfl, t, arV q, _, _, rfl, rfl, h1', rfl, _, rfl, t, arV q, _, _, rfl, rfl, h1', rfl, _, rfl, t, arV q, _, _, rfl, rfl, h1', rfl, _, rfl, t, arV q, _, _, rfl, rfl, h1', rfl, (by show 5 ≤ sizeLine; decide), fun z nz => ?_⟩
      have s3 : Same H1 (upd H1 z (.tup [kV (Sum.inl q.num), .str q.one, .str q.other, .int q.span, .int q.weight])) := Same.new nz
      have hz0 : upd H1 z (.tup [kV (Sum.inl q.num), .str q.one, .str q.other, .int q.span, .int q.weight]) z = some (.tup (.int q.num :: arV q)) := upd_same
      have tp3 := (tp.tk (Tk.of s1')).tk (Tk.of s3)
      have hz : SqT K (upd H1 z (.tup [kV (Sum.inl q.num), .str q.one, .str q.other, .int q.span, .int q.weight])) z (.int q.num :: arV q) := SqT.of upd_same
      have hy3 := s3 _ _ hy'
      have hd3 := s3.dts hd'
      have hf3 := s3 _ _ hf'
      have fr3 : ∀ b u, H b = some u → b ≠ r.da → upd H1 z (.tup [kV (Sum.inl q.num), .str q.one, .str q.other, .int q.span, .int q.weight]) b = some u := fun b u e w => s3 _ _ (fr' b u e w)
      generalize upd H1 z (.tup [kV (Sum.inl q.num), .str q.one, .str q.other, .int q.span, .int q.weight]) = H3 at hz hz0 tp3 hy3 hd3 hf3 fr3 ⊢
      have tk : Tk H3 (upd H3 D (.lst (ys ++ [.ref z]))) := Tk.upd hy3 rfl
      refine ⟨ys, hy3, by rw [sizeLine_eq]; omega, _, _, _, rfl, fun b u e w => by rw [upd_ne (ne_of_none e HD)]; exact fr3 b u e w, by rw [upd_ne dD]; exact hf3, upd_same, ?_, (tp3.snoc hz0).tk tk⟩
      rw [take_snoc hq, List.map_append]
      exact DtVs.snoc (dt_ar (tk.sqT hz)) (tk.dts (noLsts_map (fun _ => rfl) _) hd3)
    · rintro τ H' ⟨v1, v2, ys, rfl, fr, hf, hy, hd, tp⟩
      rw [← hl, List.take_length] at hd
      refine ⟨o, hf, ?_⟩
      have tk : Tk H' (upd H' r.da (.dK avs)) := Tk.upd hf rfl
      refine k D _ ys (fun b u e => ?_) HD (by rw [upd_ne (Ne.symm dD)]; exact hy) (tk.dts (noLsts_map (fun _ => rfl) _) hd) (tp.tk tk)
      by_cases hb : b = r.da
      · subst hb
        rw [h2] at e; cases e
        exact upd_same
      · rw [upd_ne hb]
        exact fr b u e hb
end
end K41
namespace K41
open PySem L2
section
variable {P : Program} {w : World} {K : PySem.W.Frag} {mg : Str → Option Value} {base : Heap} {a : Adr}
theorem ok_NoSuch (T : Tx K mg a) : CalXI P w K mg base CX0 1 a.NoSuch "NoSuch" ["self", "number"] (spXInit a.NoSuch "number") := T.xi_NoSuch.cal fun f fd F => by
  refine F.ok sc_NoSuch___init__ (fun vs H Q E h => ?_) (fun cdv A outer s H vs Q E hr h => ?_)
  · obtain ⟨x, t, y, rfl, _⟩ := h
    rfl
  · obtain ⟨x, t, y, rfl, hx, k⟩ := h
    refine ⟨_, (pss_one (ps_fldX (pv 0) (pv 1) rfl)), ?_⟩
    exact ⟨_, rfl, _, rfl, x, a.NoSuch, t, rfl, hx, T.xs_NoSuch_number, fun dx nd => k dx nd⟩
/-- take_arrow -/
def hasN (arr : List Ar) (i : Int) : Bool := arr.any fun q => decide (q.num = i)
def without (arr : List Ar) (i : Int) : List Ar := arr.filter fun q => decide (q.num ≠ i)
theorem arr_has {H : Hp} {i : Int} : ∀ {qs : List Ar} {kvs : Kvs}, ArrV K H qs kvs → (valV kvs (Sum.inl i)).isSome = hasN qs i
  | [], _, h => by rw [show _ = [] from h]; rfl
  | q :: qs, _, h => by
    obtain ⟨t, r, rfl, h1, h2⟩ := h
    show _ = (decide (q.num = i) || hasN qs i)
    by_cases e : q.num = i
    · rw [valV_pos (p := (Sum.inl q.num, V.ref t)) (by rw [e]), decide_eq_true e]
      rfl
    · rw [valV_neg (p := (Sum.inl q.num, V.ref t)) (fun z => e (Sum.inl.inj z)), decide_eq_false e, arr_has h2]
      rfl
theorem arr_drop {H : Hp} {i : Int} : ∀ {qs : List Ar} {kvs : Kvs}, ArrV K H qs kvs → ArrV K H (without qs i) (dropK kvs (Sum.inl i))
  | [], _, h => by rw [show _ = [] from h]; rfl
  | q :: qs, _, h => by
    obtain ⟨t, r, rfl, h1, h2⟩ := h
    by_cases e : q.num = i
    · rw [dropK_pos (p := (Sum.inl q.num, V.ref t)) (by rw [e])]
      have : without (q :: qs) i = without qs i := by unfold without; rw [List.filter_cons, if_neg (by simp [e])]
      rw [this]
      exact arr_drop h2
    · rw [dropK_neg (p := (Sum.inl q.num, V.ref t)) (fun z => e (Sum.inl.inj z))]
      have : without (q :: qs) i = q :: without qs i := by unfold without; rw [List.filter_cons, if_pos (by simp [e])]
      rw [this]
      exact ⟨t, _, rfl, h1, arr_drop h2⟩
def spTake (K : PySem.W.Frag) (a : Adr) : Sp := fun vs H Q E => ∃ p r v i, vs = [.ref p, .int i] ∧ NetAt K a.Net H p r v ∧
  (hasN v.arr i = true → ∀ H', Kp p r H H' → NetAt K a.Net H' p r { v with arr := without v.arr i } → Q .non H') ∧
  (hasN v.arr i = false → ∀ H', Same H H' → Raised a E (.such i) H')
theorem ok_take (T : Tx K mg a) : CalM P w K mg base (CXe P w) 3 a.Net "take_arrow" ["self", "number"] [] (spTake K a) := T.m_Net_take_arrow.cal fun f fd F => by
  have c_is_whole := ok_is_whole (P := P) (w := w) (base := base) T
  have x_NoSuch := ok_NoSuch (P := P) (w := w) (base := base) T
  refine F.okX sc_Net_take_arrow (fun vs H Q E h => ?_) (fun cdv A outer s H vs Q E hr h => ?_)
  · obtain ⟨p, r, v, i, rfl, _⟩ := h
    rfl
  · obtain ⟨p, r, v, i, rfl, N, k1, k2⟩ := h
    obtain ⟨dx, hp⟩ := N.ex
    obtain ⟨avs, h3, h4⟩ := N.ha
    refine ⟨_, (pss_cons (ps_if (PW.pt (pw_or (pt_not (pt_val (pe_cal c_is_whole (hr.mono (by decide)) rfl (pa_cons (pv 1) pa_nil)))) (pw_or1 (pt_cmp (pc_dnotin (hu_of hr) (pv 1) (pe_fld (pv 0) rfl)))))) (pss_one (ps_raiseC px_body x_NoSuch (hr.mono (by decide)) rfl (pa_cons (pv 1) pa_nil))) pss_nil)
      (pss_one (ps_expr (pe_dpop1 (pe_fld (pv 0) rfl) (pv 1) ⟨rfl, rfl, rfl, rfl⟩)))), ?_⟩
    refine ⟨_, rfl, i, rfl, _, rfl, iteOr rfl ?_⟩
    refine ⟨_, rfl, _, rfl, p, a.Net, dx, _, _, rfl, hp, T.c_Net, T.na_Net_arrows_by_number, lk_arrows, r.da, _, rfl, DGet.k (k := Sum.inl i) h3, _, rfl, ?_⟩
    rw [arr_has h4]
    refine iteB (fun c => ?_) (fun c => ?_)
    · have c' : hasN v.arr i = false := by simpa using c
      refine ⟨_, rfl, by show 1 ≤ sizeLine; decide, fun x t hx => ⟨x, t, _, rfl, upd_same, fun d nd => ⟨rfl, some d, upd_same, ?_⟩⟩⟩
      have xd : d ≠ x := fun z => by rw [z, upd_same] at nd; cases nd
      have e : del (upd (upd (upd H x (XObj a.NoSuch t x none)) d (.xd [("number", .int i)])) x (XObj a.NoSuch t x (some d))) x = upd H d (.xd [("number", .int i)]) := by
        funext b
        unfold del
        by_cases h1 : b = x
        · subst h1
          rw [if_pos rfl, upd_ne (Ne.symm xd), hx]
        · rw [if_neg h1, upd_ne h1]
          by_cases h2 : b = d
          · subst h2; rw [upd_same, upd_same]
          · rw [upd_ne h2, upd_ne h1, upd_ne h2]
      show E _ _ _
      rw [e]
      have nd' : H d = none := by rw [upd_ne xd] at nd; exact nd
      exact k2 c' _ (Same.new nd') d upd_same
    · have c' : hasN v.arr i = true := by simpa using c
      obtain ⟨y, hy⟩ := Option.isSome_iff_exists.mp ((arr_has (i := i) h4).trans c')
      refine ⟨_, rfl, p, a.Net, dx, _, _, rfl, hp, T.c_Net, T.na_Net_arrows_by_number, lk_arrows, r.da, rfl, .inl ⟨_, .inl h3⟩, _, rfl, avs, Sum.inl i, y, h3, rfl, hy, ?_⟩
      refine k1 c' _ (fun b u e _ _ z3 _ _ => by rw [upd_ne z3]; exact e) ?_
      obtain ⟨_, h2, _, ⟨xs, h5, h6⟩, ⟨ys, h7, h8⟩, n1, n2⟩ := N
      have tk : Tk H (upd H r.da (.dK (dropK avs (Sum.inl i)))) := Tk.upd h3 rfl
      exact ⟨⟨dx, by rw [upd_ne (ne_of hp h3 (by intro z; cases z))]; exact hp⟩, by rw [upd_ne (Ne.symm n1)]; exact h2, ⟨_, upd_same, tk.arr (arr_drop h4)⟩, ⟨xs, by rw [upd_ne (ne_of h5 h3 (by intro z; cases z))]; exact h5, tk.dts (noLsts_map (fun _ => rfl) _) h6⟩,
        ⟨ys, by rw [upd_ne (ne_of h7 h3 (by intro z; cases z))]; exact h7, tk.dts (noLsts_map (fun _ => rfl) _) h8⟩, n1, n2⟩
theorem ok_put1 (T : Tx K mg a) : CalM P w K mg base (CXe P w) 3 a.Net "put_point" ["self", "name", "half"] [.int 0] (spPut K a) := T.m_Net_put_point1.cal fun f fd F => ok_put_body T f fd F
end
end K41
namespace K41
open PySem L2
/-! arrows that lead from a point to another one -/
inductive Path (ar : List Ar) (s : Str) : Str → List Int → Prop
  | nil : Path ar s s []
  | snoc {p : Str} {zs : List Int} {q : Ar} : Path ar s p zs → q ∈ ar → q.one = p → Path ar s q.other (zs ++ [q.num])
def Leads (ar : List Ar) (s t : Str) : Prop := ∃ zs, Path ar s t zs
theorem has_snoc {kvs : Kvs} {x y : Str} {v : V} (h : has kvs x = false) : has (kvs ++ [(Sum.inr x, v)]) y = (decide (y = x) || has kvs y) := by
  unfold has at h ⊢
  have e : valV kvs (Sum.inr x) = none := by simpa using h
  rw [valV_snoc (Sum.inr x) (Sum.inr y) v kvs e]
  by_cases z : y = x
  · rw [if_pos (by rw [z]), decide_eq_true z]
    rfl
  · rw [if_neg (fun q => z (Sum.inr.inj q)), decide_eq_false z]
    rfl
/-- how many arrows end where no way is known -/
def cntN (ar : List Ar) (kvs : Kvs) : Nat := (ar.filter fun q => !has kvs q.other).length
theorem cnt_le (ar : List Ar) (kvs : Kvs) : cntN ar kvs ≤ ar.length := List.length_filter_le _ _
theorem filter_lt {α : Type} {f g : α → Bool} : ∀ {l : List α} {q : α}, (∀ x, g x = true → f x = true) → q ∈ l → f q = true → g q = false → (l.filter g).length < (l.filter f).length
  | x :: l, q, h, hq, h1, h2 => by
    rw [List.filter_cons, List.filter_cons]
    have le : ∀ l : List α, (l.filter g).length ≤ (l.filter f).length := fun l => by
      induction l with
      | nil => exact Nat.le_refl _
      | cons y l ih =>
        rw [List.filter_cons, List.filter_cons]
        cases e : g y with
        | true => rw [if_pos rfl, if_pos (h y e)]; exact Nat.succ_le_succ ih
        | false =>
          rw [if_neg (by decide)]
          split
          · exact Nat.le_succ_of_le ih
          · exact ih
    rcases List.mem_cons.mp hq with rfl | hq
    · rw [if_neg (by rw [h2]; decide), if_pos h1]
      exact Nat.lt_succ_of_le (le l)
    · have ih := filter_lt h hq h1 h2
      cases e : g x with
      | true => rw [if_pos rfl, if_pos (h x e)]; exact Nat.succ_lt_succ ih
      | false =>
        rw [if_neg (by decide)]
        split
        · exact Nat.lt_succ_of_lt ih
        · exact ih
theorem cnt_lt {ar : List Ar} {kvs : Kvs} {q : Ar} {v : V} (hq : q ∈ ar) (h : has kvs q.other = false) : cntN ar (kvs ++ [(Sum.inr q.other, v)]) < cntN ar kvs := by
  refine filter_lt (q := q) (fun x hx => ?_) hq (by rw [h]; rfl) (by rw [has_snoc h, decide_eq_true rfl]; rfl)
  rw [has_snoc h] at hx
  cases e : has kvs x.other with
  | false => rfl
  | true => rw [e, Bool.or_true] at hx; cases hx
/-- rows of arrows at l -/
def RowsAt (K : PySem.W.Frag) (H : Hp) (l : Addr) (ar : List Ar) : Prop := ∃ xs, SqL K H l xs ∧ DtVs K H (ar.map arD) xs
/-- what the search holds -/
structure Bf (K : PySem.W.Frag) (H0 H : Hp) (D wt : Addr) (ar : List Ar) (s : Str) (kvs : Kvs) (wl : List Str) : Prop where
  old : Same H0 H
  d : H D = some (.dK kvs)
  w : H wt = some (.lst (wl.map V.str))
  ok : ∀ x v, valV kvs (Sum.inr x) = some v → ∃ r zs, v = .ref r ∧ H r = some (.lst ((zs : List Int).map V.int)) ∧ r ≠ wt ∧ Path ar s x zs ∧ zs.length < kvs.length ∧ H0 r = none
  k : kvs.length + cntN ar kvs ≤ 1 + ar.length
  root : has kvs s = true
  sub : ∀ x ∈ wl, has kvs x = true
  wk : wl.length + 2 * cntN ar kvs ≤ 1 + 2 * ar.length
theorem Bf.same {K : PySem.W.Frag} {H0 H H' : Hp} {D wt : Addr} {ar : List Ar} {s : Str} {kvs : Kvs} {wl : List Str} (b : Bf K H0 H D wt ar s kvs wl) (e : Same H H') : Bf K H0 H' D wt ar s kvs wl :=
  ⟨b.old.trans e, e _ _ b.d, e _ _ b.w, fun x v hv => by
    obtain ⟨r, zs, h1, h2, h3⟩ := b.ok x v hv
    exact ⟨r, zs, h1, e _ _ h2, h3⟩, b.k, b.root, b.sub, b.wk⟩
theorem Bf.setw {K : PySem.W.Frag} {H0 H : Hp} {D wt : Addr} {ar : List Ar} {s : Str} {kvs : Kvs} {wl wl2 : List Str} (b : Bf K H0 H D wt ar s kvs wl) (hw : H0 wt = none) (nd : D ≠ wt) (hs : ∀ x ∈ wl2, has kvs x = true) (hk : wl2.length + 2 * cntN ar kvs ≤ 1 + 2 * ar.length) :
    Bf K H0 (upd H wt (.lst (wl2.map V.str))) D wt ar s kvs wl2 :=
  ⟨fun x o e => by rw [upd_ne (ne_of_none e hw)]; exact b.old x o e, by rw [upd_ne nd]; exact b.d, upd_same, fun x v hv => by
    obtain ⟨r, zs, h1, h2, h3, h4⟩ := b.ok x v hv
    exact ⟨r, zs, h1, by rw [upd_ne h3]; exact h2, h3, h4⟩, b.k, b.root, hs, hk⟩
theorem Bf.put {K : PySem.W.Frag} {H0 H : Hp} {D wt r2 : Addr} {ar : List Ar} {s : Str} {kvs : Kvs} {wl : List Str} {q : Ar} {zs : List Int} (b : Bf K H0 H D wt ar s kvs wl) (hD : H0 D = none) (nd : D ≠ wt) (hq : q ∈ ar) (hp : Path ar s q.one zs) (hr : H r2 = some (.lst ((zs ++ [q.num]).map V.int)))
    (n2 : r2 ≠ wt) (n3 : H0 r2 = none) (hn : has kvs q.other = false) (hz : zs.length < kvs.length) : Bf K H0 (upd H D (.dK (kvs ++ [(Sum.inr q.other, .ref r2)]))) D wt ar s (kvs ++ [(Sum.inr q.other, .ref r2)]) wl := by
  have lt := cnt_lt (v := .ref r2) hq hn
  have hl : (kvs ++ [(Sum.inr q.other, V.ref r2)]).length = kvs.length + 1 := by rw [List.length_append]; rfl
  have nn : valV kvs (Sum.inr q.other) = none := by unfold has at hn; simpa using hn
  refine ⟨fun x o e => by rw [upd_ne (ne_of_none e hD)]; exact b.old x o e, upd_same, by rw [upd_ne (Ne.symm nd)]; exact b.w, fun x v hv => ?_, ?_, ?_, fun x hx => ?_, ?_⟩
  · rw [valV_snoc (Sum.inr q.other) (Sum.inr x) _ kvs nn] at hv
    by_cases z : x = q.other
    · rw [if_pos (by rw [z])] at hv
      cases hv
      subst z
      exact ⟨r2, zs ++ [q.num], rfl, by rw [upd_ne (ne_of hr b.d (by intro z; cases z))]; exact hr, n2, .snoc hp hq rfl, by rw [List.length_append, hl]; show _ + 1 < _; omega, n3⟩
    · rw [if_neg (fun e => z (Sum.inr.inj e))] at hv
      obtain ⟨r, ys, h1, h2, h3, h4, h5, h6⟩ := b.ok x v hv
      exact ⟨r, ys, h1, by rw [upd_ne (ne_of h2 b.d (by intro z; cases z))]; exact h2, h3, h4, by omega, h6⟩
  · rw [hl]
    have := b.k
    omega
  · rw [has_snoc hn, b.root, Bool.or_true]
  · rw [has_snoc hn, b.sub x hx, Bool.or_true]
  · have := b.wk
    omega
theorem Bf.leads {K : PySem.W.Frag} {H0 H : Hp} {D wt : Addr} {ar : List Ar} {s : Str} {kvs : Kvs} (b : Bf K H0 H D wt ar s kvs []) (cl : ∀ x, has kvs x = true → ∀ q ∈ ar, q.one = x → has kvs q.other = true) (t : Str) : has kvs t = true ↔ Leads ar s t := by
  constructor
  · intro h
    obtain ⟨v, hv⟩ := Option.isSome_iff_exists.mp h
    obtain ⟨r, zs, _, _, _, hp, _, _⟩ := b.ok t v hv
    exact ⟨zs, hp⟩
  · rintro ⟨zs, hp⟩
    induction hp with
    | nil => exact b.root
    | snoc _ hq e ih => exact cl _ ih _ hq e
section
variable {P : Program} {w : World} {K : PySem.W.Frag} {mg : Str → Option Value} {base : Heap} {a : Adr}
theorem un_ar' {H : Hp} {x : V} {q : Ar} (h : DtV K H (arD q) x) : ∃ t, x = .ref t ∧ SqT K H t (.int q.num :: arV q) := by
  obtain ⟨t, xs, rfl, h1, y1, ys1, rfl, rfl, y2, ys2, rfl, rfl, y3, ys3, rfl, rfl, y4, ys4, rfl, rfl, y5, ys5, rfl, rfl, h2⟩ := h
  rw [show ys5 = [] from h2] at h1
  exact ⟨t, rfl, h1⟩
def spWay (K : PySem.W.Frag) : Sp := fun vs H Q _ => ∃ l ar s t, vs = [.ref l, .str s, .str t] ∧ RowsAt K H l ar ∧ ar.length ≤ 100 ∧
  (∀ r zs H', Path ar s t zs → Same H H' → H' r = some (.lst ((zs : List Int).map V.int)) → zs.length ≤ 101 → H r = none → Q (.ref r) H') ∧ (¬ Leads ar s t → ∀ H', Same H H' → Q .non H')
set_option maxHeartbeats 4000000 in
theorem ok_way (T : Tx K mg a) : Cal P w K mg base CX0 1 "way" ["arrows", "start", "end"] [] (spWay K) := T.d_way.cal fun f fd F => by
  refine F.ok sc_way (fun vs H Q E h => ?_) (fun cdv A outer s0 H vs Q E hr h => ?_)
  · obtain ⟨l, ar, s, t, rfl, _⟩ := h
    rfl
  · obtain ⟨l, ar, s, t, rfl, ⟨xs, hl, hd⟩, hk, k1, k2⟩ := h
    have hxl : ar.length = xs.length := by rw [← hd.length, List.length_map]
    refine ⟨_, (pss_cons (ps_set (i := 3) sc_way.nd rfl (by first | exact Or.inl rfl | exact Or.inr rfl) (pe_disp (pps_cons (pv 1) (pe_lst pa_nil) pps_nil) rfl rfl (by decide) (by decide)))
      (pss_cons (ps_set (i := 4) sc_way.nd rfl (by first | exact Or.inl rfl | exact Or.inr rfl) (pe_lst (pa_cons (pv 1) pa_nil)))
      (pss_cons (ps_while PassesOwn.never (pt_truth (pv 4) (fun _ => rfl)) (pss_cons (ps_set (i := 5) sc_way.nd rfl (by first | exact Or.inl rfl | exact Or.inr rfl) (pe_bm PySem.F.plainAttrs_list PySem.F.slot_list_pop PySem.F.type_list_pop mt_popAt (pv 4) (pa_cons pe_int pa_nil)))
      (pss_one (ps_for PassesOwn.never rfl (pi_list (pv 0)) (pg_tup rfl (pgs_cons (pg_name (i := 6) sc_way.nd rfl (by first | exact Or.inl rfl | exact Or.inr rfl)) (pgs_cons (pg_name (i := 7) sc_way.nd rfl (by first | exact Or.inl rfl | exact Or.inr rfl)) (pgs_cons (pg_name (i := 8) sc_way.nd rfl (by first | exact Or.inl rfl | exact Or.inr rfl)) (pgs_cons (pg_name (i := 9) sc_way.nd rfl (by first | exact Or.inl rfl | exact Or.inr rfl)) (pgs_cons (pg_name (i := 10) sc_way.nd rfl (by first | exact Or.inl rfl | exact Or.inr rfl)) pgs_nil)))))) (pss_one (ps_if (PW.pt (pw_and (pt_cmpR op_eq (pv 7) (pv 5) (nomark _)) (pw_and1 (pt_cmp (pc_dnotin (hu_of hr) (pv 8) (pv 3)))))) (pss_cons (ps_dput (hu_of hr) (pv 3) (pv 8) (pe_op op_cat (pe_dget (hu_of hr) (pv 3) (pv 5) (fun _ _ => rfl)) (pe_lst (pa_cons (pv 6) pa_nil))) rfl)
      (pss_one (ps_expr (pe_bm PySem.F.plainAttrs_list PySem.F.slot_list_append PySem.F.type_list_append mt_append (pv 4) (pa_cons (pv 8) pa_nil))))) pss_nil))))))
      (pss_one (ps_ret (pe_dget1 (hu_of hr) (pv 3) (pv 2) ⟨rfl, rfl, rfl, rfl⟩)))))), ?_⟩
    refine fun D hD => ⟨_, rfl, (by show 0 ≤ sizeLine; decide), fun r0 hr0 => ⟨Same.new hr0 _ _ upd_same, [(Sum.inr s, .ref r0)], rfl, (by show 1 ≤ 15; decide), _, rfl, (by show 1 ≤ sizeLine; decide), fun wt hwt => ?_⟩⟩
    have ne1 : D ≠ r0 := ne_of_none upd_same hr0
    have hr0n : H r0 = none := by
      have e := hr0
      rw [upd_ne (Ne.symm ne1)] at e
      exact e
    have hwt' := hwt
    rw [upd_at] at hwt'
    have ne2 : wt ≠ D := fun e => by rw [if_pos e] at hwt'; cases hwt'
    rw [if_neg ne2, upd_at] at hwt'
    have ne3 : wt ≠ r0 := fun e => by rw [if_pos e] at hwt'; cases hwt'
    rw [if_neg ne3, upd_ne ne2] at hwt'
    have e0 : mergeK [] [(Sum.inr s, V.ref r0)] = [(Sum.inr s, V.ref r0)] := rfl
    have hroot : has [(Sum.inr s, V.ref r0)] s = true := by
      unfold has
      rw [valV_pos (p := (Sum.inr s, V.ref r0)) rfl]
      rfl
    have b0 : Bf K H (upd (upd (upd (upd H D (.dK [])) r0 (.lst [])) D (.dK (mergeK [] [(Sum.inr s, V.ref r0)]))) wt (.lst [V.str s])) D wt ar s [(Sum.inr s, .ref r0)] [s] := by
      refine ⟨fun b o e => ?_, ?_, upd_same, fun x v hv => ?_, ?_, hroot, fun x hx => ?_, ?_⟩
      · rw [upd_ne (ne_of_none e hwt'), upd_ne (ne_of_none e hD), upd_ne (ne_of_none e hr0n), upd_ne (ne_of_none e hD)]
        exact e
      · rw [upd_ne (Ne.symm ne2), upd_same, e0]
      · by_cases z : s = x
        · subst z
          rw [valV_pos (p := (Sum.inr s, V.ref r0)) rfl] at hv
          cases hv
          exact ⟨r0, [], rfl, by rw [upd_ne (Ne.symm ne3), upd_ne (Ne.symm ne1), upd_same]; rfl, Ne.symm ne3, .nil, (by show 0 < 1; decide), hr0n⟩
        · rw [valV_neg (p := (Sum.inr s, V.ref r0)) (fun q => z (Sum.inr.inj q))] at hv
          cases hv
      · show 1 + _ ≤ _
        have := cnt_le ar [(Sum.inr s, V.ref r0)]
        omega
      · rw [List.mem_singleton.mp hx]
        exact hroot
      · show 1 + _ ≤ _
        have := cnt_le ar [(Sum.inr s, V.ref r0)]
        omega
    generalize upd (upd (upd (upd H D (.dK [])) r0 (.lst [])) D (.dK (mergeK [] [(Sum.inr s, V.ref r0)]))) wt (.lst [V.str s]) = H1 at b0 ⊢
    refine ⟨fun m σ H' => ∃ v5 v6 v7 v8 v9 v10 kvs wl, σ = [some (.ref l), some (.str s), some (.str t), some (.ref D), some (.ref wt), v5, v6, v7, v8, v9, v10] ∧ m = wl.length + 2 * cntN ar kvs ∧ Bf K H H' D wt ar s kvs wl ∧ ∀ x, has kvs x = true → x ∈ wl ∨ ∀ q ∈ ar, q.one = x → has kvs q.other = true,
      ⟨_, none, none, none, none, none, none, _, _, rfl, rfl, b0, fun x hx => ?_⟩, ?_⟩
    · by_cases z : s = x
      · exact .inl (List.mem_singleton.mpr z.symm)
      · unfold has at hx
        rw [valV_neg (p := (Sum.inr s, V.ref r0)) (fun q => z (Sum.inr.inj q))] at hx
        cases hx
    rintro m σ H2 ⟨v5, v6, v7, v8, v9, v10, kvs, wl, rfl, rfl, b2, cl2⟩
    refine ⟨_, rfl, _, .inl ⟨_, SqL.of b2.w, rfl⟩, ?_⟩
    refine iteB (fun c => ?_) (fun c => ?_)
    · -- one more point is looked at
      obtain ⟨x, wl', rfl⟩ : ∃ x wl', wl = x :: wl' := by
        cases wl with
        | nil => cases c
        | cons x wl' => exact ⟨x, wl', rfl⟩
      refine ⟨_, fun σ' H' q => q, ?_⟩
      refine ⟨_, rfl, .inl ⟨rfl, _, SqL.of b2.w⟩, wt, _, 0, 0, _, rfl, rfl, b2.w, by decide, by decide, ?_, rfl, ?_⟩
      · show seqIndex? 0 (((x :: wl').map V.str).length) = some 0
        rw [List.length_map]
        unfold seqIndex?
        simp
      have hl3 : ((x :: wl').map V.str).eraseIdx 0 = wl'.map V.str := rfl
      rw [hl3]
      have wk2 := b2.wk
      have b3 := b2.setw (wl2 := wl') hwt' (Ne.symm ne2) (fun y hy => b2.sub y (List.mem_cons_of_mem _ hy)) (by have : (x :: wl').length = wl'.length + 1 := rfl; omega)
      have hx3 := b2.sub x List.mem_cons_self
      generalize upd H2 wt (.lst (wl'.map V.str)) = H3 at b3 ⊢
      refine ⟨_, rfl, l, rfl, ⟨_, b3.old.sqL hl⟩, for_list (K := K) (a := l) (xs := xs) (fun i σ H' => ∃ v6 v7 v8 v9 v10 kvs' wl2, σ = [some (.ref l), some (.str s), some (.str t), some (.ref D), some (.ref wt), some (.str x), v6, v7, v8, v9, v10] ∧ Bf K H H' D wt ar s kvs' wl2 ∧ wl2.length + 2 * cntN ar kvs' ≤ wl'.length + 2 * cntN ar kvs ∧ (∀ y, has kvs' y = true → y ∈ wl2 ∨ y = x ∨ ∀ q ∈ ar, q.one = y → has kvs' q.other = true) ∧ has kvs' x = true ∧ ∀ q ∈ ar.take i, q.one = x → has kvs' q.other = true)
        ⟨v6, v7, v8, v9, v10, kvs, wl', rfl, b3, Nat.le_refl _, fun y hy => ?_, hx3, fun q hq => by rw [List.take_zero] at hq; cases hq⟩ ?_ ?_ ?_⟩
      · rcases cl2 y hy with z | z
        · rcases List.mem_cons.mp z with z | z
          · exact .inr (.inl z)
          · exact .inl z
        · exact .inr (.inr z)
      · rintro i σ H' _ ⟨_, _, _, _, _, kvs', wl2, rfl, b4, _⟩
        exact b4.old.sqL hl
      · rintro i y σ H' hy ⟨u6, u7, u8, u9, u10, kvs', wl2, rfl, b4, le4, cl4, hx4, tk4⟩
        obtain ⟨q, hq, dq⟩ := dts_get hd hy
        obtain ⟨tq, rfl, hq1⟩ := un_ar' (b4.old.dt dq)
        have hqm := List.mem_of_getElem? hq
        refine ⟨tq, _, rfl, hq1, rfl, _, _, rfl, _, _, rfl, _, _, rfl, _, _, rfl, _, _, rfl, rfl, ?_⟩
        have skip : (q.one = x → has kvs' q.other = true) → ∀ z ∈ ar.take (i + 1), z.one = x → has kvs' z.other = true := fun h z hz e => by
          rw [take_snoc hq] at hz
          rcases List.mem_append.mp hz with h1 | h1
          · exact tk4 z h1 e
          · rw [List.mem_singleton.mp h1] at e ⊢
            exact h e
        refine ⟨_, rfl, _, rfl, rfl, _, rfl, ?_⟩
        refine iteB (fun c1 => ?_) (fun c1 => iteF ⟨_, _, _, _, _, kvs', wl2, rfl, b4, le4, cl4, hx4, skip fun e => ?_⟩)
        · have e1 : q.one = x := by simpa using c1
          refine ⟨_, rfl, _, rfl, D, _, rfl, DGet.k (k := Sum.inr _) b4.d, _, rfl, ?_⟩
          refine iteB (fun c2 => ?_) (fun c2 => ⟨_, _, _, _, _, kvs', wl2, rfl, b4, le4, cl4, hx4, skip fun _ => ?_⟩)
          · have hn : has kvs' q.other = false := by
              unfold has
              simpa using c2
            obtain ⟨vx, hvx⟩ := Option.isSome_iff_exists.mp hx4
            obtain ⟨rx, zs, rfl, hrx, nrx, px, zx, _⟩ := b4.ok x vx hvx
            have gx : DGet H' D (.str x) (some (.ref rx)) := by
              rw [← hvx]
              exact DGet.k (k := Sum.inr x) b4.d
            have kb := b4.k
            refine ⟨_, rfl, _, rfl, D, _, rfl, gx, _, rfl, (by show 1 ≤ sizeLine; decide), fun z nz => ⟨rx, z, _, _, rfl, rfl, Same.new nz _ _ hrx, upd_same, (by rw [List.length_map, sizeLine_eq]; show _ + 1 ≤ _; omega), fun r2 nr2 => ?_⟩⟩
            have s5 : Same H' (upd (upd H' z (.lst [V.int q.num])) r2 (.lst (zs.map V.int ++ [V.int q.num]))) := (Same.new nz).trans (Same.new nr2)
            have h5 : upd (upd H' z (.lst [V.int q.num])) r2 (.lst (zs.map V.int ++ [V.int q.num])) r2 = some (.lst ((zs ++ [q.num]).map V.int)) := by rw [upd_same, List.map_append]; rfl
            have n5 : r2 ≠ wt := fun e => by
              have := Same.new (o := .lst [V.int q.num]) nz _ _ b4.w
              rw [← e, nr2] at this
              cases this
            have n6 : H r2 = none := by
              cases e : H r2 with
              | none => rfl
              | some o =>
                have := Same.new (o := .lst [V.int q.num]) nz _ _ (b4.old _ _ e)
                rw [nr2] at this
                cases this
            generalize upd (upd H' z (.lst [V.int q.num])) r2 (.lst (zs.map V.int ++ [V.int q.num])) = H5 at s5 h5 ⊢
            have b5 := b4.same s5
            refine ⟨_, rfl, _, rfl, D, _, rfl, .inl ⟨kvs', Sum.inr q.other, b5.d, rfl, by rw [sizeLine_eq]; omega, rfl⟩, ?_⟩
            rw [putK_new (.ref r2) (by unfold has at hn; simpa using hn)]
            have b6 := b5.put hD (Ne.symm ne2) hqm (by rw [e1]; exact px) h5 n5 n6 hn zx
            have lt6 := cnt_lt (v := .ref r2) hqm hn
            have up : ∀ y, has kvs' y = true → has (kvs' ++ [(Sum.inr q.other, V.ref r2)]) y = true := fun y hy => by rw [has_snoc hn, hy, Bool.or_true]
            generalize upd H5 D (.dK (kvs' ++ [(Sum.inr q.other, V.ref r2)])) = H6 at b6 ⊢
            have wk6 := b6.wk
            have wk4 := b4.wk
            refine ⟨_, rfl, .inl ⟨rfl, _, SqL.of b6.w⟩, _, rfl, wt, _, _, rfl, rfl, b6.w, (by rw [List.length_map, sizeLine_eq]; omega), ?_⟩
            have h7 : wl2.map V.str ++ [V.str q.other] = (wl2 ++ [q.other]).map V.str := by rw [List.map_append]; rfl
            have hl7 : (wl2 ++ [q.other]).length = wl2.length + 1 := by rw [List.length_append]; rfl
            rw [h7]
            have b7 := b6.setw (wl2 := wl2 ++ [q.other]) hwt' (Ne.symm ne2) (fun y hy => by
              rcases List.mem_append.mp hy with h1 | h1
              · exact b6.sub y h1
              · rw [List.mem_singleton.mp h1, has_snoc hn, decide_eq_true rfl]; rfl) (by omega)
            refine ⟨_, _, _, _, _, _, wl2 ++ [q.other], rfl, b7, by omega, fun y hy => ?_, up _ hx4, fun y hy e => ?_⟩
            · rw [has_snoc hn] at hy
              by_cases zz : y = q.other
              · exact .inl (List.mem_append_right _ (by rw [zz]; exact List.mem_singleton.mpr rfl))
              · rw [decide_eq_false zz, Bool.false_or] at hy
                rcases cl4 y hy with h1 | h1 | h1
                · exact .inl (List.mem_append_left _ h1)
                · exact .inr (.inl h1)
                · exact .inr (.inr fun q' hq' e' => up _ (h1 q' hq' e'))
            · rw [take_snoc hq] at hy
              rcases List.mem_append.mp hy with h1 | h1
              · exact up _ (tk4 y h1 e)
              · rw [List.mem_singleton.mp h1, has_snoc hn, decide_eq_true rfl]; rfl
          · unfold has
            simpa using c2
        · have : ¬ q.one = x := by simpa using c1
          exact absurd e this
      · rintro σ H' ⟨u6, u7, u8, u9, u10, kvs', wl2, rfl, b4, le4, cl4, hx4, tk4⟩
        rw [← hxl, List.take_length] at tk4
        refine ⟨wl2.length + 2 * cntN ar kvs', ?_, _, _, _, _, _, _, kvs', wl2, rfl, rfl, b4, fun y hy => ?_⟩
        · have : (x :: wl').length = wl'.length + 1 := rfl
          omega
        · rcases cl4 y hy with h1 | h1 | h1
          · exact .inl h1
          · exact .inr fun q hq e => tk4 q hq (e.trans h1)
          · exact .inr h1
    · obtain rfl : wl = [] := by
        cases wl with
        | nil => rfl
        | cons x wl' => cases c
      have lead := b2.leads (fun x hx => (cl2 x hx).resolve_left (fun z => by cases z)) t
      refine ⟨_, rfl, D, rfl, .inl ⟨_, .inl b2.d⟩, _, rfl, _, DGet.k (k := Sum.inr t) b2.d, ?_⟩
      cases e : valV kvs (Sum.inr t) with
      | none =>
        refine k2 (fun z => ?_) H2 b2.old
        have := lead.mpr z
        unfold has at this
        rw [e] at this
        cases this
      | some v =>
        obtain ⟨r, zs, rfl, h1, h2, h3, h4, h5⟩ := b2.ok t v e
        have := b2.k
        exact k1 r zs H2 h3 b2.old h1 (by omega) h5
end
end K41
namespace K41
open PySem L2
/-! which arrows are kept, which are turned -/
open Classical in
def keepS (ks : List Ar) (q : Ar) : List Ar := if Leads ks q.other q.one then ks else ks ++ [q]
def keptOf (ar : List Ar) : List Ar := ar.foldl keepS []
open Classical in
def dueF (kf : List Ar × List Int) (q : Ar) : List Ar × List Int := if Leads kf.1 q.other q.one then (kf.1, kf.2 ++ [q.num]) else (kf.1 ++ [q], kf.2)
def turnedOf (ar : List Ar) : List Int := (ar.foldl dueF ([], [])).2
def inK (ks : List Ar) (q : Ar) : Bool := (ks.map arD).any fun e => eqD e (arD q)
theorem keepS_yes {ks : List Ar} {q : Ar} (h : Leads ks q.other q.one) : keepS ks q = ks := by unfold keepS; rw [if_pos h]
theorem keepS_no {ks : List Ar} {q : Ar} (h : ¬ Leads ks q.other q.one) : keepS ks q = ks ++ [q] := by unfold keepS; rw [if_neg h]
theorem dueF_yes {ks : List Ar} {fs : List Int} {q : Ar} (h : Leads ks q.other q.one) : dueF (ks, fs) q = (ks, fs ++ [q.num]) := by unfold dueF; rw [if_pos h]
theorem dueF_no {ks : List Ar} {fs : List Int} {q : Ar} (h : ¬ Leads ks q.other q.one) : dueF (ks, fs) q = (ks ++ [q], fs) := by unfold dueF; rw [if_neg h]
theorem keep_len : ∀ (l ks : List Ar), (l.foldl keepS ks).length ≤ ks.length + l.length
  | [], _ => Nat.le_refl _
  | q :: l, ks => by
    show (l.foldl keepS (keepS ks q)).length ≤ _
    have := keep_len l (keepS ks q)
    by_cases h : Leads ks q.other q.one
    · rw [keepS_yes h] at this ⊢
      rw [List.length_cons]
      omega
    · rw [keepS_no h, List.length_append] at this
      rw [keepS_no h, List.length_cons]
      have e : ([q] : List Ar).length = 1 := rfl
      omega
theorem keep_mem : ∀ {l ks : List Ar} {x : Ar}, x ∈ ks → x ∈ l.foldl keepS ks
  | [], _, _, h => h
  | q :: l, ks, x, h => by
    show x ∈ l.foldl keepS (keepS ks q)
    by_cases e : Leads ks q.other q.one
    · rw [keepS_yes e]; exact keep_mem h
    · rw [keepS_no e]; exact keep_mem (List.mem_append_left _ h)
theorem keep_sub : ∀ {l ks : List Ar} {x : Ar}, x ∈ l.foldl keepS ks → x ∈ ks ∨ x ∈ l
  | [], _, _, h => .inl h
  | q :: l, ks, x, h => by
    replace h : x ∈ l.foldl keepS (keepS ks q) := h
    by_cases e : Leads ks q.other q.one
    · rw [keepS_yes e] at h
      rcases keep_sub h with z | z
      · exact .inl z
      · exact .inr (List.mem_cons_of_mem _ z)
    · rw [keepS_no e] at h
      rcases keep_sub h with z | z
      · rcases List.mem_append.mp z with z | z
        · exact .inl z
        · exact .inr (List.mem_singleton.mp z ▸ List.mem_cons_self)
      · exact .inr (List.mem_cons_of_mem _ z)
theorem inK_num {ks : List Ar} {q : Ar} (h : inK ks q = true) : ∃ e ∈ ks, e.num = q.num := by
  obtain ⟨d, hd, e⟩ := List.any_eq_true.mp h
  obtain ⟨k, hk, rfl⟩ := List.mem_map.mp hd
  refine ⟨k, hk, ?_⟩
  have z : (eqD (.int k.num) (.int q.num) && eqDs [.str k.one, .str k.other, .int k.span, .int k.weight] [.str q.one, .str q.other, .int q.span, .int q.weight]) = true := e
  have := ((Bool.and_eq_true _ _).mp z).1
  exact eq_of_beq this
theorem inK_mem {ks : List Ar} {q : Ar} (h : q ∈ ks) : inK ks q = true := List.any_eq_true.mpr ⟨arD q, List.mem_map.mpr ⟨q, h, rfl⟩, eqD_refl _⟩
theorem due_filter : ∀ (l ks : List Ar) (fs : List Int) (F : List Ar), F = l.foldl keepS ks → (l.map Ar.num).Nodup → (∀ x ∈ ks, ∀ q ∈ l, x.num ≠ q.num) → (l.foldl dueF (ks, fs)).2 = fs ++ (l.filter fun q => !inK F q).map Ar.num
  | [], _, fs, _, _, _, _ => by simp
  | q :: l, ks, fs, F, hF, nd, ap => by
    have nd' : (q.num :: l.map Ar.num).Nodup := nd
    rw [List.nodup_cons] at nd'
    replace hF : F = l.foldl keepS (keepS ks q) := hF
    show (l.foldl dueF (dueF (ks, fs) q)).2 = _
    by_cases h : Leads ks q.other q.one
    · rw [dueF_yes h]
      rw [keepS_yes h] at hF
      rw [due_filter l ks _ F hF nd'.2 fun x hx z hz => ap x hx z (List.mem_cons_of_mem _ hz)]
      have hq : inK F q = false := by
        cases e : inK F q with
        | false => rfl
        | true =>
          obtain ⟨k, hk, en⟩ := inK_num e
          rw [hF] at hk
          rcases keep_sub hk with z | z
          · exact absurd en (ap k z q List.mem_cons_self)
          · exact absurd (List.mem_map.mpr ⟨k, z, en⟩) nd'.1
      rw [List.filter_cons, hq, if_pos (by rfl), List.map_cons, List.append_assoc]
      rfl
    · rw [dueF_no h]
      rw [keepS_no h] at hF
      rw [due_filter l _ fs F hF nd'.2 fun x hx z hz => by
        rcases List.mem_append.mp hx with y | y
        · exact ap x y z (List.mem_cons_of_mem _ hz)
        · rw [List.mem_singleton.mp y]
          exact fun e => nd'.1 (List.mem_map.mpr ⟨z, hz, e.symm⟩)]
      have hq : inK F q = true := inK_mem (by rw [hF]; exact keep_mem (List.mem_append_right _ (List.mem_singleton.mpr rfl)))
      rw [List.filter_cons, hq, if_neg (by decide)]
theorem turned_filter {ar : List Ar} (nd : (ar.map Ar.num).Nodup) : (ar.filter fun q => !inK (keptOf ar) q).map Ar.num = turnedOf ar := by
  unfold turnedOf
  rw [due_filter ar [] [] (keptOf ar) rfl nd fun x hx => by cases hx]
  rfl
section
variable {P : Program} {w : World} {K : PySem.W.Frag} {mg : Str → Option Value} {base : Heap} {a : Adr}
def spKept (K : PySem.W.Frag) (C : Addr) : Sp := fun vs H Q _ => ∃ p r v, vs = [.ref p] ∧ NetAt K C H p r v ∧ v.arr.length ≤ 100 ∧ ∀ k ys H', Same H H' → H k = none → H' k = some (.lst ys) → DtVs K H' ((keptOf v.arr).map arD) ys → Q (.ref k) H'
theorem ok_kept (T : Tx K mg a) : Cal P w K mg base CX0 2 "kept_arrows" ["net"] [] (spKept K a.Net) := T.d_kept_arrows.cal fun f fd F => by
  have c_way := ok_way (P := P) (w := w) (base := base) T
  have m_Net_arrows := ok_arrows (P := P) (w := w) (base := base) T
  refine F.ok sc_kept_arrows (fun vs H Q E h => ?_) (fun cdv A outer s H vs Q E hr h => ?_)
  · obtain ⟨p, r, v, rfl, _⟩ := h
    rfl
  · obtain ⟨p, r, v, rfl, N, hk, k⟩ := h
    refine ⟨_, (pss_cons (ps_set (i := 1) sc_kept_arrows.nd rfl (by first | exact Or.inl rfl | exact Or.inr rfl) (pe_lst pa_nil))
      (pss_cons (ps_for PassesOwn.never rfl (pi_list (pe_mcal0 (pv 0) T.c_Net m_Net_arrows (hr.mono (by decide)))) (pg_name (i := 2) sc_kept_arrows.nd rfl (by first | exact Or.inl rfl | exact Or.inr rfl)) (pss_one (ps_if (pt_cmp (pc_isN (pe_cal c_way (hr.mono (by decide)) rfl (pa_cons (pv 1) (pa_cons (pe_ix ix_tup (pv 2) pe_int (fun _ _ => rfl)) (pa_cons (pe_ix ix_tup (pv 2) pe_int (fun _ _ => rfl)) pa_nil)))))) (pss_one (ps_expr (pe_bm PySem.F.plainAttrs_list PySem.F.slot_list_append PySem.F.type_list_append mt_append (pv 1) (pa_cons (pv 2) pa_nil)))) pss_nil)))
      (pss_one (ps_ret (pv 1))))), ?_⟩
    refine ⟨(by show 0 ≤ sizeLine; decide), fun g ng => ?_⟩
    have s1 : Same H (upd H g (.lst [])) := Same.new ng
    have h1 : upd H g (.lst []) g = some (.lst []) := upd_same
    generalize upd H g (.lst []) = H1 at s1 h1 ⊢
    have N1 := N.same s1
    obtain ⟨dx, hp⟩ := N1.ex
    refine ⟨_, rfl, p, dx, _, rfl, hp, by rfl, p, r, v, rfl, N1, by rw [List.length_map]; omega, fun l H2 xs s2 nl h2 d2 _ => ?_⟩
    have hxl : v.arr.length = xs.length := by rw [← d2.length, List.length_map]
    have ngl : l ≠ g := fun e => by rw [e, h1] at nl; cases nl
    refine ⟨l, rfl, ⟨_, SqL.of h2⟩, for_list (K := K) (a := l) (xs := xs) (fun i σ H' => ∃ v2 ys, σ = [some (.ref p), some (.ref g), v2] ∧ (∀ b o, H2 b = some o → b ≠ g → H' b = some o) ∧ H' g = some (.lst ys) ∧ DtVs K H' (((v.arr.take i).foldl keepS []).map arD) ys)
      ⟨none, [], rfl, fun b o e _ => e, s2 _ _ h1, rfl⟩ ?_ ?_ ?_⟩
    · rintro i σ H' _ ⟨_, _, rfl, o3, _⟩
      exact SqL.of (o3 _ _ h2 ngl)
    · rintro i x σ H3 hx ⟨v2, ys, rfl, o3, h3, d3⟩
      have tk3 : Tk H2 H3 := fun b o e z => o3 b o e (fun q => by rw [q, s2 _ _ h1] at e; cases e; cases z)
      obtain ⟨q, hq, dq⟩ := dts_get d2 hx
      obtain ⟨t, rfl, ht2⟩ := un_ar' dq
      have ht := tk3.sqT ht2
      have kl := keep_len (v.arr.take i) []
      have hil : (v.arr.take i).length ≤ 100 := by rw [List.length_take]; omega
      have hyl : ys.length ≤ 100 := by
        rw [← d3.length, List.length_map]
        have e : ([] : List Ar).length = 0 := rfl
        omega
      have e1 : (v.arr.take (i + 1)).foldl keepS [] = keepS ((v.arr.take i).foldl keepS []) q := by
        rw [take_snoc hq, List.foldl_append]
        rfl
      dsimp only [gName]
      refine ⟨_, rfl, _, rfl, t, _, _, _, rfl, rfl, ht, rfl, _, rfl, t, _, _, _, rfl, rfl, ht, rfl, g, (v.arr.take i).foldl keepS [], q.other, q.one, rfl, ⟨ys, SqL.of h3, d3⟩, by rw [← List.length_map (f := arD), d3.length]; exact hyl, fun r2 zs H4 pt s4 h4 _ _ => ?_, fun nl4 H4 s4 => ?_⟩
      · refine ⟨_, rfl, iteOr rfl ?_⟩
        refine ⟨_, ys, rfl, fun b o e ne => s4 _ _ (o3 b o e ne), s4 _ _ h3, ?_⟩
        rw [e1, keepS_yes ⟨zs, pt⟩]
        exact s4.dts d3
      · refine ⟨_, rfl, iteYes rfl ?_⟩
        have h4 := s4 _ _ h3
        refine ⟨_, rfl, .inl ⟨rfl, _, SqL.of h4⟩, _, rfl, g, _, _, rfl, rfl, h4, by rw [sizeLine_eq]; omega, ?_⟩
        have tk : Tk H4 (upd H4 g (.lst (ys ++ [.ref t]))) := Tk.upd h4 rfl
        refine ⟨_, _, rfl, fun b o e ne => by rw [upd_ne ne]; exact s4 _ _ (o3 b o e ne), upd_same, ?_⟩
        rw [e1, keepS_no nl4, List.map_append]
        exact DtVs.snoc (dt_ar (tk.sqT (s4.sqT ht))) (tk.dts (noLsts_map (fun _ => rfl) _) (s4.dts d3))
    · rintro σ H3 ⟨v2, ys, rfl, o3, h3, d3⟩
      rw [← hxl, List.take_length] at d3
      exact ⟨_, rfl, k g ys H3 (fun b o e => o3 b o (s2 _ _ (s1 _ _ e)) (ne_of_none e ng)) ng h3 d3⟩
def spTurned (K : PySem.W.Frag) (C : Addr) : Sp := fun vs H Q _ => ∃ p r v, vs = [.ref p] ∧ NetAt K C H p r v ∧ v.arr.length ≤ 100 ∧ (v.arr.map Ar.num).Nodup ∧ ∀ k H', Same H H' → H k = none → H' k = some (.lst ((turnedOf v.arr).map V.int)) → Q (.ref k) H'
theorem ok_turned (T : Tx K mg a) : Cal P w K mg base CX0 3 "turned" ["net"] [] (spTurned K a.Net) := T.d_turned.cal fun f fd F => by
  have c_kept_arrows := ok_kept (P := P) (w := w) (base := base) T
  have m_Net_arrows := ok_arrows (P := P) (w := w) (base := base) T
  refine F.ok sc_turned (fun vs H Q E h => ?_) (fun cdv A outer s H vs Q E hr h => ?_)
  · obtain ⟨p, r, v, rfl, _⟩ := h
    rfl
  · obtain ⟨p, r, v, rfl, N, hk, nd, k⟩ := h
    refine ⟨_, (pss_cons (ps_set (i := 1) sc_turned.nd rfl (by first | exact Or.inl rfl | exact Or.inr rfl) (pe_cal c_kept_arrows (hr.mono (by decide)) rfl (pa_cons (pv 0) pa_nil)))
      (pss_one (ps_ret (pe_comp (N := ["arrow", "kept"]) (cap := [none, some 1]) rfl (cap_ok (osc := defScope s_turned) (XN := ["net", "kept"]) rfl rfl (by decide +kernel)) (pi_list (pe_mcal0 (pv 0) T.c_Net m_Net_arrows (hr.mono (by decide)))) (fun cl C s H fp pins => (pg_name (i := 0) (show (["arrow", "kept"] : List Str).Nodup by decide +kernel) rfl (by first | exact Or.inl rfl | exact Or.inr rfl))) (fun cl C s H fp pins => pif_one (pt_cmpR (opK_notInD (K := K) rfl hr.units) (pv 0) (pv 1) (by with_unfolding_all rfl))) (fun cl C s H fp pins => (pe_ix (ixK_tup (K := K) rfl) (pv 0) pe_int (fun _ _ => rfl))))))), ?_⟩
    refine ⟨_, rfl, p, r, v, rfl, N, hk, fun g ys H1 s1 ng h1 d1 => ?_⟩
    have N1 := N.same s1
    obtain ⟨dx, hp⟩ := N1.ex
    refine ⟨_, rfl, p, dx, _, rfl, hp, by rfl, p, r, v, rfl, N1, by rw [List.length_map]; omega, fun l H2 xs s2 nl h2 d2 _ => ?_⟩
    have hxl : v.arr.length = xs.length := by rw [← d2.length, List.length_map]
    refine ⟨l, rfl, ⟨_, SqL.of h2⟩, fun D hD => ?_⟩
    refine comp_list (K := K) (a := l) (xs := xs) (fun i τ H' => ∃ v1, τ = [v1, some (.ref g)] ∧ Same H2 H' ∧ H' D = some (.lst ((((v.arr.take i).filter fun q => !inK (keptOf v.arr) q).map Ar.num).map V.int))) ⟨none, rfl, Same.new hD, upd_same⟩ ?_ ?_ ?_
    · rintro i τ H' _ ⟨v1, rfl, sm, hy⟩
      exact SqL.of (sm _ _ h2)
    · rintro i x τ H' hx ⟨v1, rfl, sm, hy⟩
      obtain ⟨q, hq, dq⟩ := dts_get d2 hx
      obtain ⟨t, rfl, ht⟩ := un_ar' (sm.dt dq)
      have fl : (v.arr.take (i + 1)).filter (fun q => !inK (keptOf v.arr) q) = (v.arr.take i).filter (fun q => !inK (keptOf v.arr) q) ++ (if (!inK (keptOf v.arr) q) = true then [q] else []) := by
        rw [take_snoc hq, List.filter_append]
        cases e : inK (keptOf v.arr) q <;> simp [e]
      dsimp only [gName]
      refine ⟨_, rfl, _, rfl, g, (keptOf v.arr).map arD, ys, arD q, rfl, SqL.of (sm _ _ (s2 _ _ h1)), sm.dts (s2.dts d1), dt_ar ht, deeps_map (fun q => deep_ar q) _, _, rfl, ?_⟩
      show if (!inK (keptOf v.arr) q) = true then _ else _
      refine iteB (fun c => ?_) (fun c => ?_)
      · refine ⟨_, rfl, t, _, _, _, rfl, rfl, ht, rfl, _, hy, ?_, _, rfl, ?_, ?_⟩
        · rw [List.length_map, List.length_map, sizeLine_eq]
          have := List.length_filter_le (fun q => !inK (keptOf v.arr) q) (v.arr.take i)
          rw [List.length_take] at this
          omega
        · intro b u e
          rw [upd_ne (ne_of_none e hD)]
          exact sm b u e
        · rw [upd_same, fl, if_pos c, List.map_append, List.map_append]
          rfl
      · refine ⟨_, rfl, sm, ?_⟩
        rw [fl, if_neg (by rw [c]; decide), List.append_nil]
        exact hy
    · rintro τ H' ⟨v1, rfl, sm, hy⟩
      rw [← hxl, List.take_length, turned_filter nd] at hy
      have s3 := s1.trans (s2.trans sm)
      refine k D H' s3 ?_ hy
      cases e : H D with
      | none => rfl
      | some o =>
        rw [(s1.trans s2) _ _ e] at hD
        cases hD
end
end K41
namespace K41
open PySem L2
/-! wishes and places -/
abbrev Wi := Int × Int × Int × Int
def wV (q : Wi) : List V := [.int q.1, .int q.2.1, .int q.2.2.1, .int q.2.2.2]
def wD (q : Wi) : Dt := .tup [.int q.1, .int q.2.1, .int q.2.2.1, .int q.2.2.2]
section
variable {K : PySem.W.Frag}
theorem dt_w {H : Hp} {t : Addr} {q : Wi} (h : SqT K H t (wV q)) : DtV K H (wD q) (.ref t) := ⟨t, _, rfl, h, _, _, rfl, rfl, _, _, rfl, rfl, _, _, rfl, rfl, _, _, rfl, rfl, rfl⟩
theorem un_w {H : Hp} {x : V} {q : Wi} (h : DtV K H (wD q) x) : ∃ t, x = .ref t ∧ SqT K H t (wV q) := by
  obtain ⟨t, xs, rfl, h1, y1, ys1, rfl, rfl, y2, ys2, rfl, rfl, y3, ys3, rfl, rfl, y4, ys4, rfl, rfl, h2⟩ := h
  rw [show ys4 = [] from h2] at h1
  exact ⟨t, rfl, h1⟩
theorem deep_w {n : Nat} (q : Wi) : DeepLe (n + 1) (wD q) := by cases n <;> exact ⟨trivial, trivial, trivial, trivial, trivial⟩
/-- at l there is a list of these wishes -/
def WsAt (K : PySem.W.Frag) (H : Hp) (l : Addr) (ws : List Wi) : Prop := ∃ xs, SqL K H l xs ∧ DtVs K H (ws.map wD) xs
end
def diff (ps : List Int) (q : Wi) : Int := pz ps q.2.1 - pz ps q.1
def keep (ps : List Int) (q : Wi) : Bool := decide (q.2.2.1 ≤ diff ps q)
def worthW (ws : List Wi) (ps : List Int) : Int := (ws.map fun q => q.2.2.2 * diff ps q).sum
def InR (n : Nat) (q : Wi) : Prop := (0 ≤ q.1 ∧ q.1 < n) ∧ 0 ≤ q.2.1 ∧ q.2.1 < n
def Small (z : Int) : Prop := -(2 ^ 64) < z ∧ z < 2 ^ 64
end K41
namespace K41
open PySem L2
section
variable {P : Program} {w : World} {K : PySem.W.Frag} {mg : Str → Option Value} {base : Heap} {a : Adr}
def fitsW (c : Int) (ws : List Wi) (ps : List Int) : Bool := decide ((ps.length : Int) = c) && ws.all (keep ps)
def spFits (K : PySem.W.Frag) : Sp := fun vs H Q _ => ∃ c l ws p ps, vs = [.int c, .ref l, .ref p] ∧ WsAt K H l ws ∧ SqL K H p (ps.map V.int) ∧ ws.length ≤ 1000 ∧ ((ps.length : Int) = c → ∀ q ∈ ws, InR ps.length q) ∧ ∀ H', Same H H' → Q (.bl (fitsW c ws ps)) H'
theorem ok_fits (T : Tx K mg a) : Cal P w K mg base CX0 1 "fits" ["count", "wishes", "places"] [] (spFits K) := T.d_fits.cal fun f fd F => by
  refine F.ok sc_fits (fun vs H Q E h => ?_) (fun cdv A outer s H vs Q E hr h => ?_)
  · obtain ⟨c, l, ws, p, ps, rfl, _⟩ := h
    rfl
  · obtain ⟨c, l, ws, p, ps, rfl, ⟨xs, hl, hd⟩, hp, hk, hin, k⟩ := h
    have hwl : ws.length = xs.length := by rw [← hd.length, List.length_map]
    refine ⟨_, (pss_cons (ps_if (pt_cmpR op_ne (pe_callB call_len_seq rfl T.n_len bt_len (pa_cons (pv 2) pa_nil)) (pv 0) (nomark _)) (pss_one (ps_ret pe_bl)) pss_nil)
      (pss_one (ps_ret (pe_callB call_allB rfl T.n_all bt_all (pa_cons (pe_comp (N := ["one", "other", "least", "weight", "places"]) (cap := [none, none, none, none, some 2]) rfl (cap_ok (osc := defScope s_fits) (XN := ["count", "wishes", "places"]) rfl rfl (by decide +kernel)) (pi_list (pv 1)) (fun cl C s H fp pins => (pgK_tup (K := K) (n := 4) rfl rfl (pgs_cons (pg_name (i := 0) (show (["one", "other", "least", "weight", "places"] : List Str).Nodup by decide +kernel) rfl (by first | exact Or.inl rfl | exact Or.inr rfl)) (pgs_cons (pg_name (i := 1) (show (["one", "other", "least", "weight", "places"] : List Str).Nodup by decide +kernel) rfl (by first | exact Or.inl rfl | exact Or.inr rfl)) (pgs_cons (pg_name (i := 2) (show (["one", "other", "least", "weight", "places"] : List Str).Nodup by decide +kernel) rfl (by first | exact Or.inl rfl | exact Or.inr rfl)) (pgs_cons (pg_name (i := 3) (show (["one", "other", "least", "weight", "places"] : List Str).Nodup by decide +kernel) rfl (by first | exact Or.inl rfl | exact Or.inr rfl)) pgs_nil)))))) (fun cl C s H fp pins => pif_nil) (fun cl C s H fp pins => (pe_cmpR op_ge (pe_op op_sub (pe_ix (ixK_list (K := K) rfl) (pv 4) (pv 1) (fun _ _ => rfl)) (pe_ix (ixK_list (K := K) rfl) (pv 4) (pv 0) (fun _ _ => rfl))) (pv 2) (nomark _)))) pa_nil))))), ?_⟩
    refine ⟨_, rfl, p, _, rfl, .inl hp, _, rfl, rfl, _, rfl, ?_⟩
    refine iteB (fun c1 => ?_) (fun c1 => ?_)
    · have c2 : ¬ (ps.length : Int) = c := by simpa using c1
      have k' := k H (Same.refl _)
      rw [show fitsW c ws ps = false by unfold fitsW; rw [decide_eq_false c2]; rfl] at k'
      exact k'
    · have c2 : (ps.length : Int) = c := by simpa using c1
      refine ⟨_, rfl, l, rfl, ⟨_, hl⟩, fun D hD => ?_⟩
      refine comp_list (K := K) (a := l) (xs := xs) (fun i τ H' => ∃ v1 v2 v3 v4, τ = [v1, v2, v3, v4, some (.ref p)] ∧ Same H H' ∧ H' D = some (.lst (((ws.take i).map (keep ps)).map V.bl))) ⟨none, none, none, none, rfl, Same.new hD, upd_same⟩ ?_ ?_ ?_
      · rintro i τ H' _ ⟨v1, v2, v3, v4, rfl, sm, hy⟩
        exact sm.sqL hl
      · rintro i x τ H' hx ⟨v1, v2, v3, v4, rfl, sm, hy⟩
        obtain ⟨q, hq, dq⟩ := dts_get hd hx
        obtain ⟨t, rfl, h1⟩ := un_w (sm.dt dq)
        obtain ⟨⟨i1, i2⟩, i3, i4⟩ := hin c2 q (List.mem_of_getElem? hq)
        refine ⟨t, _, rfl, h1, rfl, _, _, rfl, _, _, rfl, _, _, rfl, _, _, rfl, rfl, ?_⟩
        dsimp only [tYes]
        rw [if_pos rfl]
        refine ⟨_, rfl, _, rfl, p, _, _, _, rfl, rfl, sm.sqL hp, at_pz i3 i4, _, rfl, _, rfl, p, _, _, _, rfl, rfl, sm.sqL hp, at_pz i1 i2, _, _, rfl, rfl, _, rfl, _, _, rfl, rfl, _, hy, ?_, _, _, _, _, rfl, ?_, ?_⟩
        · rw [List.length_map, List.length_map, List.length_take, sizeLine_eq]
          omega
        · intro b u e
          rw [upd_ne (ne_of_none e hD)]
          exact sm b u e
        · rw [upd_same, take_snoc hq, List.map_append, List.map_append]
          rfl
      · rintro τ H' ⟨v1, v2, v3, v4, rfl, sm, hy⟩
        refine ⟨D, _, rfl, SqL.of hy, ?_⟩
        have k' := k H' sm
        rw [← hwl, List.take_length]
        rw [show fitsW c ws ps = (ws.map (keep ps)).all id by unfold fitsW; rw [decide_eq_true c2, List.all_map]; rfl] at k'
        exact k'
def spWorth (K : PySem.W.Frag) : Sp := fun vs H Q _ => ∃ l ws p ps, vs = [.ref l, .ref p] ∧ WsAt K H l ws ∧ SqL K H p (ps.map V.int) ∧ ws.length ≤ 1000 ∧ (∀ q ∈ ws, InR ps.length q ∧ Small q.2.2.2) ∧ ∀ H', Same H H' → Q (.int (worthW ws ps)) H'
theorem ok_worth (T : Tx K mg a) : Cal P w K mg base CX0 1 "worth" ["wishes", "places"] [] (spWorth K) := T.d_worth.cal fun f fd F => by
  refine F.ok sc_worth (fun vs H Q E h => ?_) (fun cdv A outer s H vs Q E hr h => ?_)
  · obtain ⟨l, ws, p, ps, rfl, _⟩ := h
    rfl
  · obtain ⟨l, ws, p, ps, rfl, ⟨xs, hl, hd⟩, hp, hk, hin, k⟩ := h
    have hwl : ws.length = xs.length := by rw [← hd.length, List.length_map]
    refine ⟨_, (pss_one (ps_ret (pe_callB call_sum rfl T.n_sum bt_sum (pa_cons (pe_comp (N := ["one", "other", "least", "weight", "places"]) (cap := [none, none, none, none, some 1]) rfl (cap_ok (osc := defScope s_worth) (XN := ["wishes", "places"]) rfl rfl (by decide +kernel)) (pi_list (pv 0)) (fun cl C s H fp pins => (pgK_tup (K := K) (n := 4) rfl rfl (pgs_cons (pg_name (i := 0) (show (["one", "other", "least", "weight", "places"] : List Str).Nodup by decide +kernel) rfl (by first | exact Or.inl rfl | exact Or.inr rfl)) (pgs_cons (pg_name (i := 1) (show (["one", "other", "least", "weight", "places"] : List Str).Nodup by decide +kernel) rfl (by first | exact Or.inl rfl | exact Or.inr rfl)) (pgs_cons (pg_name (i := 2) (show (["one", "other", "least", "weight", "places"] : List Str).Nodup by decide +kernel) rfl (by first | exact Or.inl rfl | exact Or.inr rfl)) (pgs_cons (pg_name (i := 3) (show (["one", "other", "least", "weight", "places"] : List Str).Nodup by decide +kernel) rfl (by first | exact Or.inl rfl | exact Or.inr rfl)) pgs_nil)))))) (fun cl C s H fp pins => pif_nil) (fun cl C s H fp pins => (pe_op op_mul (pv 3) (pe_op op_sub (pe_ix (ixK_list (K := K) rfl) (pv 4) (pv 1) (fun _ _ => rfl)) (pe_ix (ixK_list (K := K) rfl) (pv 4) (pv 0) (fun _ _ => rfl)))))) pa_nil)))), ?_⟩
    refine ⟨_, rfl, l, rfl, ⟨_, hl⟩, fun D hD => ?_⟩
    refine comp_list (K := K) (a := l) (xs := xs) (fun i τ H' => ∃ v1 v2 v3 v4, τ = [v1, v2, v3, v4, some (.ref p)] ∧ Same H H' ∧ H' D = some (.lst (((ws.take i).map fun q => q.2.2.2 * diff ps q).map V.int))) ⟨none, none, none, none, rfl, Same.new hD, upd_same⟩ ?_ ?_ ?_
    · rintro i τ H' _ ⟨v1, v2, v3, v4, rfl, sm, hy⟩
      exact sm.sqL hl
    · rintro i x τ H' hx ⟨v1, v2, v3, v4, rfl, sm, hy⟩
      obtain ⟨q, hq, dq⟩ := dts_get hd hx
      obtain ⟨t, rfl, h1⟩ := un_w (sm.dt dq)
      obtain ⟨⟨⟨i1, i2⟩, i3, i4⟩, hs⟩ := hin q (List.mem_of_getElem? hq)
      refine ⟨t, _, rfl, h1, rfl, _, _, rfl, _, _, rfl, _, _, rfl, _, _, rfl, rfl, ?_⟩
      dsimp only [tYes]
      rw [if_pos rfl]
      refine ⟨_, rfl, _, rfl, _, rfl, p, _, _, _, rfl, rfl, sm.sqL hp, at_pz i3 i4, _, rfl, _, rfl, p, _, _, _, rfl, rfl, sm.sqL hp, at_pz i1 i2, _, _, rfl, rfl, _, _, rfl, rfl, .inl hs, _, hy, ?_, _, _, _, _, rfl, ?_, ?_⟩
      · rw [List.length_map, List.length_map, List.length_take, sizeLine_eq]
        omega
      · intro b u e
        rw [upd_ne (ne_of_none e hD)]
        exact sm b u e
      · rw [upd_same, take_snoc hq, List.map_append, List.map_append]
        rfl
    · rintro τ H' ⟨v1, v2, v3, v4, rfl, sm, hy⟩
      refine ⟨D, _, rfl, SqL.of hy, ?_⟩
      have k' := k H' sm
      rw [← hwl, List.take_length]
      exact k'
end
end K41
namespace K41
open PySem L2
/-! what a net wishes -/
theorem val_fold_no {k : Key} : ∀ (kvs m : List (Key × V)), (∀ kv ∈ kvs, kv.1 ≠ k) → valV (kvs.foldl put1 m) k = valV m k
  | [], _, _ => rfl
  | kv :: r, m, h => by
    show valV (r.foldl put1 (put1 m kv)) k = _
    rw [val_fold_no r _ fun x hx => h x (List.mem_cons_of_mem _ hx)]
    unfold put1
    rw [valV_put, if_neg (Ne.symm (h kv List.mem_cons_self))]
theorem split_at {α : Type} {x : α} : ∀ {l : List α} {i : Nat}, l[i]? = some x → l = l.take i ++ x :: l.drop (i + 1)
  | y :: l, 0, h => by
    obtain rfl : y = x := Option.some.inj h
    rfl
  | y :: l, i + 1, h => by
    show y :: l = y :: (l.take i ++ x :: l.drop (i + 1))
    rw [← split_at (show l[i]? = some x from h)]
theorem val_mkD {kvs : List (Key × V)} {i : Nat} {kv : Key × V} (nd : (kvs.map (·.1)).Nodup) (h : kvs[i]? = some kv) : valV (mkD kvs) kv.1 = some kv.2 := by
  have es := split_at h
  generalize kvs.take i = l at es
  generalize kvs.drop (i + 1) = r at es
  subst es
  unfold mkD
  rw [List.foldl_append]
  show valV (r.foldl put1 (put1 (l.foldl put1 []) kv)) kv.1 = _
  rw [List.map_append, List.map_cons, List.nodup_append, List.nodup_cons] at nd
  rw [val_fold_no r _ fun x hx e => nd.2.1.1 (List.mem_map.mpr ⟨x, hx, e⟩)]
  unfold put1
  rw [valV_put, if_pos rfl]
/-- a name's number -/
def ix (ws : List Str) (n : Str) : Int := (ws.idxOf n : Nat)
theorem ix_at {ws : List Str} {n : Str} (h : n ∈ ws) : ws[ws.idxOf n]? = some n := by
  have := List.idxOf_lt_length_of_mem h
  rw [List.getElem?_eq_getElem this, List.getElem_idxOf]
def numK : Nat → List Str → List (Key × V)
  | _, [] => []
  | i, n :: r => (Sum.inr n, .int (i : Int)) :: numK (i + 1) r
theorem numK_len : ∀ (ws : List Str) (i : Nat), (numK i ws).length = ws.length
  | [], _ => rfl
  | n :: r, i => by show (numK (i + 1) r).length + 1 = _; rw [numK_len r]; rfl
theorem numK_keys : ∀ (ws : List Str) (i : Nat), (numK i ws).map (·.1) = ws.map Sum.inr
  | [], _ => rfl
  | n :: r, i => by show Sum.inr n :: (numK (i + 1) r).map (·.1) = _; rw [numK_keys r]; rfl
theorem numK_at : ∀ (ws : List Str) (i j : Nat) (n : Str), ws[j]? = some n → (numK i ws)[j]? = some (Sum.inr n, .int ((i + j : Nat) : Int))
  | x :: r, i, 0, n, h => by
    obtain rfl : x = n := Option.some.inj h
    rfl
  | x :: r, i, j + 1, n, h => by
    show (numK (i + 1) r)[j]? = _
    rw [numK_at r (i + 1) j n h]
    congr 3
    omega
theorem numK_snoc : ∀ (ws : List Str) (i : Nat) (n : Str), numK i (ws ++ [n]) = numK i ws ++ [(Sum.inr n, .int ((i + ws.length : Nat) : Int))]
  | [], i, n => rfl
  | x :: r, i, n => by
    show _ :: numK (i + 1) (r ++ [n]) = _ :: (numK (i + 1) r ++ _)
    rw [numK_snoc r (i + 1) n, List.length_cons, show i + 1 + r.length = i + (r.length + 1) by omega]
def NumD (ws : List Str) : List (Key × V) := mkD (numK 0 ws)
theorem num_val {ws : List Str} (nd : ws.Nodup) {n : Str} (h : n ∈ ws) : valV (NumD ws) (Sum.inr n) = some (.int (ix ws n)) := by
  have h1 := numK_at ws 0 _ n (ix_at h)
  have nd' : ((numK 0 ws).map (·.1)).Nodup := by
    rw [numK_keys, List.nodup_iff_pairwise_ne, List.pairwise_map]
    rw [List.nodup_iff_pairwise_ne] at nd
    exact nd.imp fun z e => z (Sum.inr.inj e)
  have := val_mkD nd' h1
  rw [Nat.zero_add] at this
  exact this
def wishA (ws : List Str) (tn : List Int) (q : Ar) : Wi := if q.num ∈ tn then (ix ws q.other, ix ws q.one, q.span, q.weight) else (ix ws q.one, ix ws q.other, q.span, q.weight)
def wishS (ws : List Str) (q : Str × Str) : List Wi := [(ix ws q.1, ix ws q.2, 0, 0), (ix ws q.2, ix ws q.1, 0, 0)]
def wishM (ws : List Str) (q : Str × Str × Int) : Wi := (ix ws q.2.1, ix ws q.1, 0 - q.2.2, 0)
def wishesOf (ws : List Str) (v : NetV) : List Wi := v.arr.map (wishA ws (turnedOf v.arr)) ++ v.ss.flatMap (wishS ws) ++ v.mm.map (wishM ws)
section
variable {P : Program} {w : World} {K : PySem.W.Frag} {mg : Str → Option Value} {base : Heap} {a : Adr}
theorem PairsAt.tk {H H' : Hp} (t : Tk H H') : ∀ {kvs : List (Key × V)} {ys : List V}, PairsAt K H kvs ys → PairsAt K H' kvs ys
  | [], _, h => h
  | _ :: _, _, h => by
    obtain ⟨q, ys', e, h1, h2⟩ := h
    exact ⟨q, ys', e, t.sqT h1, PairsAt.tk t h2⟩
theorem PairsAt.snoc {H : Hp} {kv : Key × V} {t : Addr} (ht : SqT K H t [kV kv.1, kv.2]) : ∀ {kvs : List (Key × V)} {ys : List V}, PairsAt K H kvs ys → PairsAt K H (kvs ++ [kv]) (ys ++ [.ref t])
  | [], _, h => by
    obtain rfl : _ = [] := h
    exact ⟨t, [], rfl, ht, rfl⟩
  | _ :: _, _, h => by
    obtain ⟨q, ys', rfl, h1, h2⟩ := h
    exact ⟨q, _, rfl, h1, PairsAt.snoc ht h2⟩
theorem PairsAt.len {H : Hp} : ∀ {kvs : List (Key × V)} {ys : List V}, PairsAt K H kvs ys → kvs.length = ys.length
  | [], _, h => by rw [show _ = [] from h]; rfl
  | _ :: _, _, h => by
    obtain ⟨q, ys', rfl, h1, h2⟩ := h
    rw [List.length_cons, List.length_cons, PairsAt.len h2]
/-- a list of wishes that grows -/
structure Acc (K : PySem.W.Frag) (g : Addr) (B H : Hp) (dn : List Wi) : Prop where
  old : ∀ b o, B b = some o → b ≠ g → H b = some o
  tp : ∀ ys, H g = some (.lst ys) → Tps H ys
  l : ∃ ys, H g = some (.lst ys) ∧ DtVs K H (dn.map wD) ys
theorem Acc.put {g z : Addr} {B H H1 : Hp} {dn : List Wi} {ys : List V} {q : Wi} (old : ∀ b o, B b = some o → b ≠ g → H b = some o) (tp : Tps H ys) (hy : H g = some (.lst ys)) (dy : DtVs K H (dn.map wD) ys) (s : Same H H1) (hz : H1 z = some (.tup (wV q))) : Acc K g B (upd H1 g (.lst (ys ++ [.ref z]))) (dn ++ [q]) := by
  have hg1 := s _ _ hy
  have tk : Tk H1 (upd H1 g (.lst (ys ++ [.ref z]))) := Tk.upd hg1 rfl
  have hzg : z ≠ g := ne_of hz hg1 (by intro q; cases q)
  refine ⟨fun b o e ne => by rw [upd_ne ne]; exact s _ _ (old b o e ne), fun ys' e => ?_, _, upd_same, ?_⟩
  · rw [upd_same] at e
    cases e
    exact Tps.snoc (tp.tk ((Tk.of s).trans tk)) (by rw [upd_ne hzg]; exact hz)
  rw [List.map_append]
  exact DtVs.snoc (dt_w (tk.sqT (SqT.of hz))) (tk.dts (noLsts_map (fun _ => rfl) _) (s.dts dy))
/-- a net with its points, ends among them -/
structure Wn (ws : List Str) (v : NetV) : Prop where
  keys : keysV v.kvs = ws.map V.str
  nd : ws.Nodup
  len : ws.length ≤ 100
  nums : (v.arr.map Ar.num).Nodup
  la : v.arr.length ≤ 100
  ls : v.ss.length ≤ 100
  lm : v.mm.length ≤ 100
  ea : ∀ q ∈ v.arr, q.one ∈ ws ∧ q.other ∈ ws
  es : ∀ q ∈ v.ss, q.1 ∈ ws ∧ q.2 ∈ ws
  em : ∀ q ∈ v.mm, q.1 ∈ ws ∧ q.2.1 ∈ ws
def spWishes (K : PySem.W.Frag) (C : Addr) : Sp := fun vs H Q _ => ∃ p r v ws, vs = [.ref p] ∧ NetAt K C H p r v ∧ Wn ws v ∧ ∀ l ys H', Same H H' → H l = none → H' l = some (.lst ys) → DtVs K H' ((wishesOf ws v).map wD) ys → Tps H' ys → Q (.ref l) H'
theorem flat_ints (l : List Int) : (l.map V.int).all flatV = true := by
  induction l with
  | nil => rfl
  | cons x l ih => exact ih
theorem inV_ints (n : Int) (l : List Int) : inV (.int n) (l.map V.int) = decide (n ∈ l) := by
  induction l with
  | nil => rfl
  | cons x l ih =>
    show (eqV (.int x) (.int n) || inV (.int n) (l.map V.int)) = _
    rw [ih]
    by_cases h : x = n
    · subst h
      simp [eqV]
    · simp [eqV, h, Ne.symm h]
theorem flat_len (ws : List Str) : ∀ l : List (Str × Str), (l.flatMap (wishS ws)).length = 2 * l.length
  | [] => rfl
  | q :: l => by rw [List.flatMap_cons, List.length_append, flat_len ws l, List.length_cons]; show 2 + _ = _; omega
set_option maxHeartbeats 8000000 in
theorem ok_wishes (T : Tx K mg a) : Cal P w K mg base CX0 4 "wishes_of" ["net"] [] (spWishes K a.Net) := T.d_wishes_of.cal fun f fd F => by
  have c_turned := ok_turned (P := P) (w := w) (base := base) T
  have m_Net_points := ok_points (P := P) (w := w) (base := base) T
  have m_Net_arrows := ok_arrows (P := P) (w := w) (base := base) T
  have m_Net_sames := ok_sames (P := P) (w := w) (base := base) T
  have m_Net_mosts := ok_mosts (P := P) (w := w) (base := base) T
  refine F.ok sc_wishes_of (fun vs H Q E h => ?_) (fun cdv A outer s H vs Q E hr h => ?_)
  · obtain ⟨p, r, v, ws, rfl, _⟩ := h
    rfl
  · obtain ⟨p, r, v, ws, rfl, N, W, k⟩ := h
    obtain ⟨dx, hp⟩ := N.ex
    refine ⟨_, (pss_cons (ps_set (i := 1) sc_wishes_of.nd rfl (by first | exact Or.inl rfl | exact Or.inr rfl) (pe_callTy call_dictP rfl T.n_dict bt_dict (pa_cons (pe_comp (N := ["number", "name"]) (cap := [none, none]) rfl (cap_ok (osc := defScope s_wishes_of) (XN := ["net", "numbers", "turned_about", "wishes", "number", "one", "other", "span", "weight"]) rfl rfl (by decide +kernel)) (pi_enumerate rfl T.n_enumerate (pa_cons (pe_mcal0 (pv 0) T.c_Net m_Net_points (hr.mono (by decide))) pa_nil)) (fun cl C s H fp pins => (pgK_tup (K := K) (n := 2) rfl rfl (pgs_cons (pg_name (i := 0) (show (["number", "name"] : List Str).Nodup by decide +kernel) rfl (by first | exact Or.inl rfl | exact Or.inr rfl)) (pgs_cons (pg_name (i := 1) (show (["number", "name"] : List Str).Nodup by decide +kernel) rfl (by first | exact Or.inl rfl | exact Or.inr rfl)) pgs_nil)))) (fun cl C s H fp pins => pif_nil) (fun cl C s H fp pins => (pe_tup (pa_cons (pv 1) (pa_cons (pv 0) pa_nil))))) pa_nil)))
      (pss_cons (ps_set (i := 2) sc_wishes_of.nd rfl (by first | exact Or.inl rfl | exact Or.inr rfl) (pe_cal c_turned (hr.mono (by decide)) rfl (pa_cons (pv 0) pa_nil)))
      (pss_cons (ps_set (i := 3) sc_wishes_of.nd rfl (by first | exact Or.inl rfl | exact Or.inr rfl) (pe_lst pa_nil))
      (pss_cons (ps_for PassesOwn.never rfl (pi_list (pe_mcal0 (pv 0) T.c_Net m_Net_arrows (hr.mono (by decide)))) (pg_tup rfl (pgs_cons (pg_name (i := 4) sc_wishes_of.nd rfl (by first | exact Or.inl rfl | exact Or.inr rfl)) (pgs_cons (pg_name (i := 5) sc_wishes_of.nd rfl (by first | exact Or.inl rfl | exact Or.inr rfl)) (pgs_cons (pg_name (i := 6) sc_wishes_of.nd rfl (by first | exact Or.inl rfl | exact Or.inr rfl)) (pgs_cons (pg_name (i := 7) sc_wishes_of.nd rfl (by first | exact Or.inl rfl | exact Or.inr rfl)) (pgs_cons (pg_name (i := 8) sc_wishes_of.nd rfl (by first | exact Or.inl rfl | exact Or.inr rfl)) pgs_nil)))))) (pss_one (ps_if (pt_cmpR op_in_seq (pv 4) (pv 2) (by with_unfolding_all rfl)) (pss_one (ps_expr (pe_bm PySem.F.plainAttrs_list PySem.F.slot_list_append PySem.F.type_list_append mt_append (pv 3) (pa_cons (pe_tup (pa_cons (pe_dget (hu_of hr) (pv 1) (pv 6) (fun _ _ => rfl)) (pa_cons (pe_dget (hu_of hr) (pv 1) (pv 5) (fun _ _ => rfl)) (pa_cons (pv 7) (pa_cons (pv 8) pa_nil))))) pa_nil)))) (pss_one (ps_expr (pe_bm PySem.F.plainAttrs_list PySem.F.slot_list_append PySem.F.type_list_append mt_append (pv 3) (pa_cons (pe_tup (pa_cons (pe_dget (hu_of hr) (pv 1) (pv 5) (fun _ _ => rfl)) (pa_cons (pe_dget (hu_of hr) (pv 1) (pv 6) (fun _ _ => rfl)) (pa_cons (pv 7) (pa_cons (pv 8) pa_nil))))) pa_nil)))))))
      (pss_cons (ps_for PassesOwn.never rfl (pi_list (pe_mcal0 (pv 0) T.c_Net m_Net_sames (hr.mono (by decide)))) (pg_tup rfl (pgs_cons (pg_name (i := 5) sc_wishes_of.nd rfl (by first | exact Or.inl rfl | exact Or.inr rfl)) (pgs_cons (pg_name (i := 6) sc_wishes_of.nd rfl (by first | exact Or.inl rfl | exact Or.inr rfl)) pgs_nil))) (pss_cons (ps_expr (pe_bm PySem.F.plainAttrs_list PySem.F.slot_list_append PySem.F.type_list_append mt_append (pv 3) (pa_cons (pe_tup (pa_cons (pe_dget (hu_of hr) (pv 1) (pv 5) (fun _ _ => rfl)) (pa_cons (pe_dget (hu_of hr) (pv 1) (pv 6) (fun _ _ => rfl)) (pa_cons pe_int (pa_cons pe_int pa_nil))))) pa_nil)))
      (pss_one (ps_expr (pe_bm PySem.F.plainAttrs_list PySem.F.slot_list_append PySem.F.type_list_append mt_append (pv 3) (pa_cons (pe_tup (pa_cons (pe_dget (hu_of hr) (pv 1) (pv 6) (fun _ _ => rfl)) (pa_cons (pe_dget (hu_of hr) (pv 1) (pv 5) (fun _ _ => rfl)) (pa_cons pe_int (pa_cons pe_int pa_nil))))) pa_nil))))))
      (pss_cons (ps_for PassesOwn.never rfl (pi_list (pe_mcal0 (pv 0) T.c_Net m_Net_mosts (hr.mono (by decide)))) (pg_tup rfl (pgs_cons (pg_name (i := 5) sc_wishes_of.nd rfl (by first | exact Or.inl rfl | exact Or.inr rfl)) (pgs_cons (pg_name (i := 6) sc_wishes_of.nd rfl (by first | exact Or.inl rfl | exact Or.inr rfl)) (pgs_cons (pg_name (i := 4) sc_wishes_of.nd rfl (by first | exact Or.inl rfl | exact Or.inr rfl)) pgs_nil)))) (pss_one (ps_expr (pe_bm PySem.F.plainAttrs_list PySem.F.slot_list_append PySem.F.type_list_append mt_append (pv 3) (pa_cons (pe_tup (pa_cons (pe_dget (hu_of hr) (pv 1) (pv 6) (fun _ _ => rfl)) (pa_cons (pe_dget (hu_of hr) (pv 1) (pv 5) (fun _ _ => rfl)) (pa_cons (pe_op op_sub pe_int (pv 4)) (pa_cons pe_int pa_nil))))) pa_nil)))))
      (pss_one (ps_ret (pv 3))))))))), ?_⟩
    refine ⟨_, rfl, p, dx, _, rfl, hp, by rfl, p, r, v, rfl, N, fun l nl => ?_⟩
    rw [W.keys]
    have s1 : Same H (upd H l (.lst (ws.map V.str))) := Same.new nl
    have h1 : upd H l (.lst (ws.map V.str)) l = some (.lst (ws.map V.str)) := upd_same
    generalize upd H l (.lst (ws.map V.str)) = H1 at s1 h1 ⊢
    refine ⟨l, rfl, ⟨_, SqL.of h1⟩, fun D hD => ?_⟩
    refine comp_enum (K := K) (l := l) (xs := ws.map V.str) (fun j τ H' => ∃ v1 v2 us, τ = [v1, v2] ∧ Same H1 H' ∧ H' D = some (.lst us) ∧ PairsAt K H' (numK 0 (ws.take j)) us) ⟨none, none, [], rfl, Same.new hD, upd_same, by rw [List.take_zero]; rfl⟩ ?_ ?_ ?_
    · rintro j τ H' _ ⟨_, _, _, rfl, sm, _⟩
      exact SqL.of (sm _ _ h1)
    · rintro j y tt τ H' hy nt ⟨v1, v2, us, rfl, sm, hus, pus⟩
      obtain ⟨n, hn, rfl⟩ := Option.map_eq_some_iff.mp ((List.getElem?_map (f := V.str) (l := ws) (i := j)).symm.trans hy)
      have hj : j < ws.length := (List.getElem?_eq_some_iff.mp hn).1
      have hW := W.len
      have ul : us.length ≤ j := by
        rw [← PairsAt.len pus, numK_len, List.length_take]
        omega
      have s3 : Same H' (upd H' tt (.tup [.int j, .str n])) := Same.new nt
      have h3t : upd H' tt (.tup [.int j, .str n]) tt = some (.tup [.int j, .str n]) := upd_same
      generalize upd H' tt (.tup [.int j, .str n]) = H3 at s3 h3t ⊢
      refine ⟨tt, _, rfl, SqT.of h3t, rfl, _, _, rfl, _, _, rfl, rfl, ?_⟩
      refine ⟨_, rfl, _, rfl, (by show 2 ≤ sizeLine; decide), fun z nz => ?_⟩
      have s4 : Same H3 (upd H3 z (.tup [.str n, .int j])) := Same.new nz
      have h4z : upd H3 z (.tup [.str n, .int j]) z = some (.tup [.str n, .int j]) := upd_same
      generalize upd H3 z (.tup [.str n, .int j]) = H4 at s4 h4z ⊢
      have t4 := s3.trans s4
      have h4D := t4 _ _ hus
      have tk : Tk H4 (upd H4 D (.lst (us ++ [.ref z]))) := Tk.upd h4D rfl
      refine ⟨_, h4D, by rw [sizeLine_eq]; omega, _, _, _, rfl, fun b u e => by rw [upd_ne (ne_of_none e hD)]; exact t4 _ _ (sm b u e), upd_same, ?_⟩
      rw [take_snoc hn, numK_snoc, List.length_take, Nat.min_eq_left (Nat.le_of_lt hj), Nat.zero_add]
      exact PairsAt.snoc (kv := (Sum.inr n, .int (j : Int))) (tk.sqT (SqT.of h4z)) (((Tk.of t4).trans tk |> fun t => PairsAt.tk t pus))
    rintro τ H2 ⟨v1, v2, us, rfl, s2, h2D, p2⟩
    rw [List.length_map, List.take_length] at p2
    refine ⟨D, us, numK 0 ws, rfl, SqL.of h2D, p2, by rw [numK_len]; have := W.len; omega, fun d nd => ?_⟩
    have s3 : Same H2 (upd H2 d (.dK (NumD ws))) := Same.new nd
    have h3d : upd H2 d (.dK (NumD ws)) d = some (.dK (NumD ws)) := upd_same
    change upd H2 d (.dK (mkD (numK 0 ws))) d = _ at h3d
    change Same H2 (upd H2 d (.dK (mkD (numK 0 ws)))) at s3
    generalize upd H2 d (.dK (mkD (numK 0 ws))) = H3 at s3 h3d ⊢
    have t3 := s1.trans (s2.trans s3)
    have N3 := N.same t3
    refine ⟨_, rfl, p, r, v, rfl, N3, W.la, W.nums, fun ab H4 s4 nab h4 => ?_⟩
    refine ⟨(by show 0 ≤ sizeLine; decide), fun g ng => ?_⟩
    have ngH : H g = none := by
      cases e : H g with
      | none => rfl
      | some o =>
        have := s4 _ _ (t3 _ _ e)
        rw [ng] at this
        cases this
    have s5 : Same H4 (upd H4 g (.lst [])) := Same.new ng
    have h5g : upd H4 g (.lst []) g = some (.lst []) := upd_same
    have dg : d ≠ g := ne_of_none (s4 _ _ h3d) ng
    have abg : ab ≠ g := ne_of_none h4 ng
    generalize upd H4 g (.lst []) = H5 at s5 h5g ⊢
    have h5d := s5 _ _ (s4 _ _ h3d)
    have h5a := s5 _ _ h4
    have N5 := (N3.same s4).same s5
    have t5 : Same H H5 := t3.trans (s4.trans s5)
    clear s4 s3 p2 h2D s2 h1 s1 h4 N3 t3
    obtain ⟨dx5, hp5⟩ := N5.ex
    have wl := W.la
    have wls := W.ls
    have wlm := W.lm
    refine ⟨_, rfl, p, dx5, _, rfl, hp5, by rfl, p, r, v, rfl, N5, by rw [List.length_map]; omega, fun l6 H6 xs s6 n6 h6 d6 _ => ?_⟩
    have hxl : v.arr.length = xs.length := by rw [← d6.length, List.length_map]
    have lg : l6 ≠ g := fun e => by rw [e, h5g] at n6; cases n6
    refine ⟨l6, rfl, ⟨_, SqL.of h6⟩, for_list (K := K) (a := l6) (xs := xs) (fun i σ H' => ∃ v4 v5 v6 v7 v8, σ = [some (.ref p), some (.ref d), some (.ref ab), some (.ref g), v4, v5, v6, v7, v8] ∧ Acc K g H6 H' ((v.arr.take i).map (wishA ws (turnedOf v.arr)))) ⟨none, none, none, none, none, rfl, ⟨fun b o e _ => e, (fun ys e => by rw [s6 _ _ h5g] at e; cases e; exact Tps.nil), [], s6 _ _ h5g, by rw [List.take_zero]; rfl⟩⟩ ?_ ?_ ?_⟩
    · rintro i σ H' _ ⟨_, _, _, _, _, rfl, A7⟩
      exact SqL.of (A7.old _ _ h6 lg)
    · rintro i y σ H7 hy ⟨v4, v5, v6, v7, v8, rfl, A7⟩
      obtain ⟨q, hq, dq⟩ := dts_get d6 hy
      have hil : i < v.arr.length := (List.getElem?_eq_some_iff.mp hq).1
      have tk7 : Tk H6 H7 := fun b o e z => A7.old b o e (fun w => by rw [w, s6 _ _ h5g] at e; cases e; cases z)
      obtain ⟨tq, rfl, hq6⟩ := un_ar' dq
      have hqm := List.mem_of_getElem? hq
      obtain ⟨e1, e2⟩ := W.ea q hqm
      obtain ⟨ys, hy7, dy7⟩ := A7.l
      have yl : ys.length ≤ i := by
        rw [← dy7.length, List.length_map, List.length_map, List.length_take]
        omega
      have h7d := A7.old _ _ (s6 _ _ h5d) dg
      have h7a := A7.old _ _ (s6 _ _ h5a) abg
      have gN : ∀ n ∈ ws, DGet H7 d (.str n) (some (.int (ix ws n))) := fun n hn => by
        rw [← num_val W.nd hn]
        exact DGet.k (k := Sum.inr n) h7d
      have et : (v.arr.take (i + 1)).map (wishA ws (turnedOf v.arr)) = (v.arr.take i).map (wishA ws (turnedOf v.arr)) ++ [wishA ws (turnedOf v.arr) q] := by rw [take_snoc hq, List.map_append]; rfl
      refine ⟨tq, _, rfl, tk7.sqT hq6, rfl, _, _, rfl, _, _, rfl, _, _, rfl, _, _, rfl, _, _, rfl, rfl, ?_⟩
      refine ⟨_, rfl, _, rfl, ab, _, rfl, .inl (SqL.of h7a), rfl, flat_ints _, _, rfl, ?_⟩
      rw [inV_ints]
      refine iteB (fun c => ?_) (fun c => ?_)
      · have c' : q.num ∈ turnedOf v.arr := of_decide_eq_true c
        refine ⟨_, rfl, .inl ⟨rfl, _, SqL.of hy7⟩, _, rfl, _, rfl, d, _, rfl, gN _ e2, _, rfl, _, rfl, d, _, rfl, gN _ e1, _, rfl, _, rfl, (by show 4 ≤ sizeLine; decide), fun z nz => ?_⟩
        have s8 := Same.new (o := .tup [.int (ix ws q.other), .int (ix ws q.one), .int q.span, .int q.weight]) nz
        refine ⟨g, _, _, rfl, rfl, s8 _ _ hy7, by rw [sizeLine_eq]; omega, _, _, _, _, _, rfl, ?_⟩
        rw [et]
        exact Acc.put A7.old (A7.tp _ hy7) hy7 dy7 s8 (by rw [upd_same]; unfold wishA; rw [if_pos c']; rfl)
      · have c' : q.num ∉ turnedOf v.arr := of_decide_eq_false c
        refine ⟨_, rfl, .inl ⟨rfl, _, SqL.of hy7⟩, _, rfl, _, rfl, d, _, rfl, gN _ e1, _, rfl, _, rfl, d, _, rfl, gN _ e2, _, rfl, _, rfl, (by show 4 ≤ sizeLine; decide), fun z nz => ?_⟩
        have s8 := Same.new (o := .tup [.int (ix ws q.one), .int (ix ws q.other), .int q.span, .int q.weight]) nz
        refine ⟨g, _, _, rfl, rfl, s8 _ _ hy7, by rw [sizeLine_eq]; omega, _, _, _, _, _, rfl, ?_⟩
        rw [et]
        exact Acc.put A7.old (A7.tp _ hy7) hy7 dy7 s8 (by rw [upd_same]; unfold wishA; rw [if_neg c']; rfl)
    rintro σ H7 ⟨v4, v5, v6, v7, v8, rfl, A7⟩
    rw [← hxl, List.take_length] at A7
    have A7' : ∀ b o, H5 b = some o → b ≠ g → H7 b = some o := fun b o e ne => A7.old b o (s6 _ _ e) ne
    have t7 : Same H H7 := fun b o e => A7' b o (t5 _ _ e) (ne_of_none e ngH)
    have N7 := N.same t7
    have h7d := A7' _ _ h5d dg
    obtain ⟨y7, hy7, dy7⟩ := A7.l
    have tp7 := A7.tp _ hy7
    clear A7 A7' d6 h6 s6 n6 lg hxl
    obtain ⟨dx7, hp7⟩ := N7.ex
    refine ⟨_, rfl, p, dx7, _, rfl, hp7, by rfl, p, r, v, rfl, N7, by rw [List.length_map]; omega, fun l6 H8 xs s8 n6 h6 d6 _ => ?_⟩
    have hxl : v.ss.length = xs.length := by rw [← d6.length, List.length_map]
    have lg : l6 ≠ g := fun e => by rw [e, hy7] at n6; cases n6
    have h8g := s8 _ _ hy7
    refine ⟨l6, rfl, ⟨_, SqL.of h6⟩, for_list (K := K) (a := l6) (xs := xs) (fun i σ H' => ∃ v4 v5 v6 v7 v8, σ = [some (.ref p), some (.ref d), some (.ref ab), some (.ref g), v4, v5, v6, v7, v8] ∧ Acc K g H8 H' (v.arr.map (wishA ws (turnedOf v.arr)) ++ (v.ss.take i).flatMap (wishS ws))) ⟨v4, v5, v6, v7, v8, rfl, ⟨fun b o e _ => e, (fun ys e => by rw [h8g] at e; cases e; exact tp7.tk (Tk.of s8)), y7, h8g, by rw [List.take_zero, List.flatMap_nil, List.append_nil]; exact s8.dts dy7⟩⟩ ?_ ?_ ?_⟩
    · rintro i σ H' _ ⟨_, _, _, _, _, rfl, A9⟩
      exact SqL.of (A9.old _ _ h6 lg)
    · rintro i y σ H9 hy ⟨v4, v5, v6, v7, v8, rfl, A9⟩
      obtain ⟨⟨o, t⟩, hq, dq⟩ := dts_get d6 hy
      have hil : i < v.ss.length := (List.getElem?_eq_some_iff.mp hq).1
      have tk9 : Tk H8 H9 := fun b o e z => A9.old b o e (fun w => by rw [w, h8g] at e; cases e; cases z)
      obtain ⟨tq, rfl, hq6⟩ := un_same dq
      obtain ⟨e1, e2⟩ := W.es _ (List.mem_of_getElem? hq)
      dsimp only at e1 e2
      obtain ⟨ys, hy9, dy9⟩ := A9.l
      have fl := flat_len ws (v.ss.take i)
      have yl : ys.length ≤ 300 := by
        rw [← dy9.length, List.length_map, List.length_append, List.length_map, fl, List.length_take]
        omega
      have h9d := A9.old _ _ (s8 _ _ h7d) dg
      have gN : ∀ {G : Hp}, G d = some (.dK (NumD ws)) → ∀ n ∈ ws, DGet G d (.str n) (some (.int (ix ws n))) := fun hG n hn => by
        rw [← num_val W.nd hn]
        exact DGet.k (k := Sum.inr n) hG
      refine ⟨tq, _, rfl, tk9.sqT hq6, rfl, _, _, rfl, _, _, rfl, rfl, ?_⟩
      refine ⟨_, rfl, .inl ⟨rfl, _, SqL.of hy9⟩, _, rfl, _, rfl, d, _, rfl, gN h9d _ e1, _, rfl, _, rfl, d, _, rfl, gN h9d _ e2, (by show 4 ≤ sizeLine; decide), fun z nz => ?_⟩
      have sa := Same.new (o := .tup [.int (ix ws o), .int (ix ws t), .int 0, .int 0]) nz
      refine ⟨g, _, _, rfl, rfl, sa _ _ hy9, by rw [sizeLine_eq]; omega, ?_⟩
      have Aa := Acc.put (q := (ix ws o, ix ws t, 0, 0)) A9.old (A9.tp _ hy9) hy9 dy9 sa upd_same
      have hga : upd (upd H9 z (.tup [.int (ix ws o), .int (ix ws t), .int 0, .int 0])) g (.lst (ys ++ [.ref z])) g = some (.lst (ys ++ [.ref z])) := upd_same
      generalize upd (upd H9 z (.tup [.int (ix ws o), .int (ix ws t), .int 0, .int 0])) g (.lst (ys ++ [.ref z])) = Ha at Aa hga ⊢
      obtain ⟨yb, hyb, dyb⟩ := Aa.l
      rw [hga] at hyb
      obtain rfl : ys ++ [.ref z] = yb := by cases hyb; rfl
      have had := Aa.old _ _ (s8 _ _ h7d) dg
      refine ⟨_, rfl, .inl ⟨rfl, _, SqL.of hga⟩, _, rfl, _, rfl, d, _, rfl, gN had _ e2, _, rfl, _, rfl, d, _, rfl, gN had _ e1, (by show 4 ≤ sizeLine; decide), fun z2 nz2 => ?_⟩
      have sb := Same.new (o := .tup [.int (ix ws t), .int (ix ws o), .int 0, .int 0]) nz2
      refine ⟨g, _, _, rfl, rfl, sb _ _ hga, by rw [List.length_append, sizeLine_eq]; show _ + 1 < _; omega, ?_⟩
      have Ab := Acc.put (q := (ix ws t, ix ws o, 0, 0)) Aa.old (Aa.tp _ hga) hga dyb sb upd_same
      refine ⟨_, _, _, _, _, rfl, ?_⟩
      have et : v.arr.map (wishA ws (turnedOf v.arr)) ++ (v.ss.take (i + 1)).flatMap (wishS ws) = v.arr.map (wishA ws (turnedOf v.arr)) ++ (v.ss.take i).flatMap (wishS ws) ++ [(ix ws o, ix ws t, 0, 0)] ++ [(ix ws t, ix ws o, 0, 0)] := by
        rw [take_snoc hq, List.flatMap_append, List.append_assoc, List.append_assoc]
        rfl
      rw [et]
      exact Ab
    rintro σ H9 ⟨v4, v5, v6, v7, v8, rfl, A9⟩
    rw [← hxl, List.take_length] at A9
    have A9' : ∀ b o, H7 b = some o → b ≠ g → H9 b = some o := fun b o e ne => A9.old b o (s8 _ _ e) ne
    have t9 : Same H H9 := fun b o e => A9' b o (t7 _ _ e) (ne_of_none e ngH)
    have N9 := N.same t9
    have h9d := A9' _ _ h7d dg
    obtain ⟨y9, hy9, dy9⟩ := A9.l
    have tp9 := A9.tp _ hy9
    clear A9 A9' d6 h6 s8 n6 lg hxl h8g
    obtain ⟨dx9, hp9⟩ := N9.ex
    refine ⟨_, rfl, p, dx9, _, rfl, hp9, by rfl, p, r, v, rfl, N9, by rw [List.length_map]; omega, fun l6 H8 xs s8 n6 h6 d6 _ => ?_⟩
    have hxl : v.mm.length = xs.length := by rw [← d6.length, List.length_map]
    have lg : l6 ≠ g := fun e => by rw [e, hy9] at n6; cases n6
    have h8g := s8 _ _ hy9
    refine ⟨l6, rfl, ⟨_, SqL.of h6⟩, for_list (K := K) (a := l6) (xs := xs) (fun i σ H' => ∃ v4 v5 v6 v7 v8, σ = [some (.ref p), some (.ref d), some (.ref ab), some (.ref g), v4, v5, v6, v7, v8] ∧ Acc K g H8 H' (v.arr.map (wishA ws (turnedOf v.arr)) ++ v.ss.flatMap (wishS ws) ++ (v.mm.take i).map (wishM ws))) ⟨v4, v5, v6, v7, v8, rfl, ⟨fun b o e _ => e, (fun ys e => by rw [h8g] at e; cases e; exact tp9.tk (Tk.of s8)), y9, h8g, by rw [List.take_zero, List.map_nil, List.append_nil]; exact s8.dts dy9⟩⟩ ?_ ?_ ?_⟩
    · rintro i σ H' _ ⟨_, _, _, _, _, rfl, Aa⟩
      exact SqL.of (Aa.old _ _ h6 lg)
    · rintro i y σ Ha hy ⟨v4, v5, v6, v7, v8, rfl, Aa⟩
      obtain ⟨⟨o, t, m⟩, hq, dq⟩ := dts_get d6 hy
      have hil : i < v.mm.length := (List.getElem?_eq_some_iff.mp hq).1
      have tka : Tk H8 Ha := fun b o e z => Aa.old b o e (fun w => by rw [w, h8g] at e; cases e; cases z)
      obtain ⟨tq, rfl, hq6⟩ := un_most dq
      obtain ⟨e1, e2⟩ := W.em _ (List.mem_of_getElem? hq)
      dsimp only at e1 e2
      obtain ⟨ys, hya, dya⟩ := Aa.l
      have fl := flat_len ws v.ss
      have yl : ys.length ≤ 400 := by
        rw [← dya.length, List.length_map, List.length_append, List.length_append, List.length_map, List.length_map, fl, List.length_take]
        omega
      have had := Aa.old _ _ (s8 _ _ h9d) dg
      have gN : ∀ n ∈ ws, DGet Ha d (.str n) (some (.int (ix ws n))) := fun n hn => by
        rw [← num_val W.nd hn]
        exact DGet.k (k := Sum.inr n) had
      refine ⟨tq, _, rfl, tka.sqT hq6, rfl, _, _, rfl, _, _, rfl, _, _, rfl, rfl, ?_⟩
      refine ⟨_, rfl, .inl ⟨rfl, _, SqL.of hya⟩, _, rfl, _, rfl, d, _, rfl, gN _ e2, _, rfl, _, rfl, d, _, rfl, gN _ e1, _, rfl, _, _, rfl, rfl, (by show 4 ≤ sizeLine; decide), fun z nz => ?_⟩
      have sa := Same.new (o := .tup [.int (ix ws t), .int (ix ws o), .int (0 - m), .int 0]) nz
      refine ⟨g, _, _, rfl, rfl, sa _ _ hya, by rw [sizeLine_eq]; omega, _, _, _, _, _, rfl, ?_⟩
      have et : v.arr.map (wishA ws (turnedOf v.arr)) ++ v.ss.flatMap (wishS ws) ++ (v.mm.take (i + 1)).map (wishM ws) = v.arr.map (wishA ws (turnedOf v.arr)) ++ v.ss.flatMap (wishS ws) ++ (v.mm.take i).map (wishM ws) ++ [wishM ws (o, t, m)] := by
        rw [take_snoc hq, List.map_append, ← List.append_assoc]
        rfl
      rw [et]
      exact Acc.put Aa.old (Aa.tp _ hya) hya dya sa upd_same
    rintro σ Ha ⟨v4, v5, v6, v7, v8, rfl, Aa⟩
    rw [← hxl, List.take_length] at Aa
    obtain ⟨ya, hya, dya⟩ := Aa.l
    exact ⟨_, rfl, k g ya Ha (fun b o e => Aa.old b o (s8 _ _ (t9 _ _ e)) (ne_of_none e ngH)) ngH hya dya (Aa.tp _ hya)⟩
end
end K41
namespace K41
open PySem L2
theorem ix_in {ws : List Str} {n : Str} (h : n ∈ ws) : 0 ≤ ix ws n ∧ ix ws n < ws.length := by
  have := List.idxOf_lt_length_of_mem h
  unfold ix
  omega
theorem wishes_in {ws : List Str} {v : NetV} (W : Wn ws v) : ∀ q ∈ wishesOf ws v, InR ws.length q := by
  intro q hq
  unfold wishesOf at hq
  rcases List.mem_append.mp hq with hq | hq
  · rcases List.mem_append.mp hq with hq | hq
    · obtain ⟨x, hx, rfl⟩ := List.mem_map.mp hq
      obtain ⟨e1, e2⟩ := W.ea x hx
      unfold wishA
      split
      · exact ⟨ix_in e2, ix_in e1⟩
      · exact ⟨ix_in e1, ix_in e2⟩
    · obtain ⟨x, hx, hq⟩ := List.mem_flatMap.mp hq
      obtain ⟨e1, e2⟩ := W.es x hx
      rcases List.mem_cons.mp hq with rfl | hq
      · exact ⟨ix_in e1, ix_in e2⟩
      · rw [List.mem_singleton.mp hq]
        exact ⟨ix_in e2, ix_in e1⟩
  · obtain ⟨x, hx, rfl⟩ := List.mem_map.mp hq
    obtain ⟨e1, e2⟩ := W.em x hx
    exact ⟨ix_in e2, ix_in e1⟩
theorem small0 : Small 0 := ⟨by decide, by decide⟩
theorem wishes_small {ws : List Str} {v : NetV} (h : ∀ q ∈ v.arr, Small q.weight) : ∀ q ∈ wishesOf ws v, Small q.2.2.2 := by
  intro q hq
  unfold wishesOf at hq
  rcases List.mem_append.mp hq with hq | hq
  · rcases List.mem_append.mp hq with hq | hq
    · obtain ⟨x, hx, rfl⟩ := List.mem_map.mp hq
      unfold wishA
      split
      · exact h x hx
      · exact h x hx
    · obtain ⟨x, hx, hq⟩ := List.mem_flatMap.mp hq
      rcases List.mem_cons.mp hq with rfl | hq
      · exact small0
      · rw [List.mem_singleton.mp hq]
        exact small0
  · obtain ⟨x, hx, rfl⟩ := List.mem_map.mp hq
    exact small0
theorem wishes_len {ws : List Str} {v : NetV} (W : Wn ws v) : (wishesOf ws v).length ≤ 400 := by
  unfold wishesOf
  rw [List.length_append, List.length_append, List.length_map, List.length_map, flat_len]
  have := W.la
  have := W.ls
  have := W.lm
  omega
/-- levels of the points, in their order -/
def LevAt (kvs : Kvs) (ws : List Str) (ps : List Int) : Prop := ps.length = ws.length ∧ ∀ (i : Nat) (n : Str), ws[i]? = some n → ∃ z, ps[i]? = some z ∧ valV kvs (Sum.inr n) = some (.int z)
section
variable {P : Program} {w : World} {K : PySem.W.Frag} {mg : Str → Option Value} {base : Heap} {a : Adr}
def spPlacesBy (K : PySem.W.Frag) (C : Addr) : Sp := fun vs H Q _ => ∃ p r v ws lv kvs ps, vs = [.ref p, .ref lv] ∧ NetAt K C H p r v ∧ Wn ws v ∧ H lv = some (.dK kvs) ∧ LevAt kvs ws ps ∧ ∀ l H', Same H H' → H l = none → H' l = some (.lst (ps.map V.int)) → Q (.ref l) H'
theorem ok_places_by (T : Tx K mg a) : Cal P w K mg base CX0 2 "places_by" ["net", "levels"] [] (spPlacesBy K a.Net) := T.d_places_by.cal fun f fd F => by
  have m_Net_points := ok_points (P := P) (w := w) (base := base) T
  refine F.ok sc_places_by (fun vs H Q E h => ?_) (fun cdv A outer s H vs Q E hr h => ?_)
  · obtain ⟨p, r, v, ws, lv, kvs, ps, rfl, _⟩ := h
    rfl
  · obtain ⟨p, r, v, ws, lv, kvs, ps, rfl, N, W, hl, ⟨L1, L2⟩, k⟩ := h
    obtain ⟨dx, hp⟩ := N.ex
    have hW := W.len
    refine ⟨_, (pss_one (ps_ret (pe_comp (N := ["name", "levels"]) (cap := [none, some 1]) rfl (cap_ok (osc := defScope s_places_by) (XN := ["net", "levels"]) rfl rfl (by decide +kernel)) (pi_list (pe_mcal0 (pv 0) T.c_Net m_Net_points (hr.mono (by decide)))) (fun cl C s H fp pins => (pg_name (i := 0) (show (["name", "levels"] : List Str).Nodup by decide +kernel) rfl (by first | exact Or.inl rfl | exact Or.inr rfl))) (fun cl C s H fp pins => pif_nil) (fun cl C s H fp pins => (pe_dget (hu_of hr) (pv 1) (pv 0) (fun _ _ => rfl)))))), ?_⟩
    refine ⟨_, rfl, p, dx, _, rfl, hp, by rfl, p, r, v, rfl, N, fun l nl => ?_⟩
    rw [W.keys]
    have s1 : Same H (upd H l (.lst (ws.map V.str))) := Same.new nl
    have h1 : upd H l (.lst (ws.map V.str)) l = some (.lst (ws.map V.str)) := upd_same
    generalize upd H l (.lst (ws.map V.str)) = H1 at s1 h1 ⊢
    refine ⟨l, rfl, ⟨_, SqL.of h1⟩, fun D hD => ?_⟩
    refine comp_list (K := K) (a := l) (xs := ws.map V.str) (fun j τ H' => ∃ v1, τ = [v1, some (.ref lv)] ∧ Same H1 H' ∧ H' D = some (.lst ((ps.take j).map V.int))) ⟨none, rfl, Same.new hD, upd_same⟩ ?_ ?_ ?_
    · rintro j τ H' _ ⟨_, rfl, sm, _⟩
      exact SqL.of (sm _ _ h1)
    · rintro j y τ H' hy ⟨v1, rfl, sm, hus⟩
      obtain ⟨n, hn, rfl⟩ := Option.map_eq_some_iff.mp ((List.getElem?_map (f := V.str) (l := ws) (i := j)).symm.trans hy)
      obtain ⟨z, hz, hv⟩ := L2 j n hn
      have gz : DGet H' lv (.str n) (some (.int z)) := by
        rw [← hv]
        exact DGet.k (k := Sum.inr n) (sm _ _ (s1 _ _ hl))
      dsimp only [gName]
      refine ⟨_, rfl, _, rfl, lv, _, rfl, gz, _, hus, by rw [List.length_map, List.length_take, sizeLine_eq]; omega, _, rfl, fun b u e => by rw [upd_ne (ne_of_none e hD)]; exact sm b u e, ?_⟩
      rw [upd_same, take_snoc hz, List.map_append]
      rfl
    rintro τ H2 ⟨v1, rfl, s2, h2D⟩
    rw [List.length_map, ← L1, List.take_length] at h2D
    refine k D H2 (s1.trans s2) ?_ h2D
    cases e : H D with
    | none => rfl
    | some o =>
      have := s1 _ _ e
      rw [hD] at this
      cases this
def spKeepsNet (K : PySem.W.Frag) (C : Addr) : Sp := fun vs H Q _ => ∃ p r v ws lv kvs ps, vs = [.ref p, .ref lv] ∧ NetAt K C H p r v ∧ Wn ws v ∧ H lv = some (.dK kvs) ∧ LevAt kvs ws ps ∧ ∀ H', Same H H' → Q (.bl ((wishesOf ws v).all (keep ps))) H'
theorem ok_keeps_net (T : Tx K mg a) : Cal P w K mg base CX0 5 "keeps_net" ["net", "levels"] [] (spKeepsNet K a.Net) := T.d_keeps_net.cal fun f fd F => by
  have m_Net_points := ok_points (P := P) (w := w) (base := base) T
  have c_wishes_of := ok_wishes (P := P) (w := w) (base := base) T
  have c_places_by := ok_places_by (P := P) (w := w) (base := base) T
  have c_fits := ok_fits (P := P) (w := w) (base := base) T
  refine F.ok sc_keeps_net (fun vs H Q E h => ?_) (fun cdv A outer s H vs Q E hr h => ?_)
  · obtain ⟨p, r, v, ws, lv, kvs, ps, rfl, _⟩ := h
    rfl
  · obtain ⟨p, r, v, ws, lv, kvs, ps, rfl, N, W, hl, L, k⟩ := h
    obtain ⟨dx, hp⟩ := N.ex
    refine ⟨_, (pss_one (ps_ret (pe_cal c_fits (hr.mono (by decide)) rfl (pa_cons (pe_callB call_len_seq rfl T.n_len bt_len (pa_cons (pe_mcal0 (pv 0) T.c_Net m_Net_points (hr.mono (by decide))) pa_nil)) (pa_cons (pe_cal c_wishes_of (hr.mono (by decide)) rfl (pa_cons (pv 0) pa_nil)) (pa_cons (pe_cal c_places_by (hr.mono (by decide)) rfl (pa_cons (pv 0) (pa_cons (pv 1) pa_nil))) pa_nil)))))), ?_⟩
    refine ⟨_, rfl, p, dx, _, rfl, hp, by rfl, p, r, v, rfl, N, fun l nl => ?_⟩
    rw [W.keys]
    have s1 : Same H (upd H l (.lst (ws.map V.str))) := Same.new nl
    have h1 : upd H l (.lst (ws.map V.str)) l = some (.lst (ws.map V.str)) := upd_same
    generalize upd H l (.lst (ws.map V.str)) = H1 at s1 h1 ⊢
    refine ⟨l, _, rfl, .inl (SqL.of h1), _, rfl, p, r, v, ws, rfl, N.same s1, W, fun l2 ys H2 s2 n2 h2 d2 _ => ?_⟩
    have t2 := s1.trans s2
    refine ⟨_, rfl, _, rfl, p, r, v, ws, lv, kvs, ps, rfl, N.same t2, W, t2 _ _ hl, L, fun l3 H3 s3 n3 h3 => ?_⟩
    refine ⟨_, l2, wishesOf ws v, l3, ps, rfl, ⟨ys, SqL.of (s3 _ _ h2), s3.dts d2⟩, SqL.of h3, by have := wishes_len W; omega, fun _ q hq => by rw [L.1]; exact wishes_in W q hq, fun H4 s4 => ?_⟩
    have e : fitsW ((ws.map V.str).length : Nat) (wishesOf ws v) ps = (wishesOf ws v).all (keep ps) := by
      unfold fitsW
      rw [decide_eq_true (by rw [L.1, List.length_map]), Bool.true_and]
    rw [e]
    exact k H4 (t2.trans (s3.trans s4))
def spLength (K : PySem.W.Frag) (C : Addr) : Sp := fun vs H Q _ => ∃ p r v ws lv kvs ps, vs = [.ref p, .ref lv] ∧ NetAt K C H p r v ∧ Wn ws v ∧ (∀ q ∈ v.arr, Small q.weight) ∧ H lv = some (.dK kvs) ∧ LevAt kvs ws ps ∧ ∀ H', Same H H' → Q (.int (worthW (wishesOf ws v) ps)) H'
theorem ok_length (T : Tx K mg a) : Cal P w K mg base CX0 5 "length" ["net", "levels"] [] (spLength K a.Net) := T.d_length.cal fun f fd F => by
  have c_wishes_of := ok_wishes (P := P) (w := w) (base := base) T
  have c_places_by := ok_places_by (P := P) (w := w) (base := base) T
  have c_worth := ok_worth (P := P) (w := w) (base := base) T
  refine F.ok sc_length (fun vs H Q E h => ?_) (fun cdv A outer s H vs Q E hr h => ?_)
  · obtain ⟨p, r, v, ws, lv, kvs, ps, rfl, _⟩ := h
    rfl
  · obtain ⟨p, r, v, ws, lv, kvs, ps, rfl, N, W, sm, hl, L, k⟩ := h
    refine ⟨_, (pss_one (ps_ret (pe_cal c_worth (hr.mono (by decide)) rfl (pa_cons (pe_cal c_wishes_of (hr.mono (by decide)) rfl (pa_cons (pv 0) pa_nil)) (pa_cons (pe_cal c_places_by (hr.mono (by decide)) rfl (pa_cons (pv 0) (pa_cons (pv 1) pa_nil))) pa_nil))))), ?_⟩
    refine ⟨_, rfl, p, r, v, ws, rfl, N, W, fun l2 ys H2 s2 n2 h2 d2 _ => ?_⟩
    refine ⟨_, rfl, _, rfl, p, r, v, ws, lv, kvs, ps, rfl, N.same s2, W, s2 _ _ hl, L, fun l3 H3 s3 n3 h3 => ?_⟩
    refine ⟨l2, wishesOf ws v, l3, ps, rfl, ⟨ys, SqL.of (s3 _ _ h2), s3.dts d2⟩, SqL.of h3, by have := wishes_len W; omega, fun q hq => ⟨by rw [L.1]; exact wishes_in W q hq, wishes_small sm q hq⟩, fun H4 s4 => ?_⟩
    exact k H4 (s2.trans (s3.trans s4))
end
end K41
namespace K41
open PySem L2
theorem cut_n (xs : List V) {k : Int} (h0 : 0 ≤ k) (h1 : k ≤ xs.length) : cutV xs none (some k) = xs.take k.toNat := by
  unfold cutV
  have h2 : HT.sIx xs.length xs.length (some ((k.toNat : Nat) : Int)) = min k.toNat xs.length := HT.sIx_nat _ _ k.toNat
  rw [show ((k.toNat : Nat) : Int) = k by omega] at h2
  rw [HT.sIx_none, h2, List.drop_zero, Nat.sub_zero, Nat.min_eq_left (by omega)]
theorem at_int {ns : List Int} {k : Int} (h0 : 0 ≤ k) (h1 : k < ns.length) : ∃ z, ns[k.toNat]? = some z ∧ atI (ns.map V.int) k = some (.int z) := by
  obtain ⟨z, hz⟩ := get_of (l := ns) (j := k.toNat) (by omega)
  exact ⟨z, hz, by rw [at_nat h0, List.getElem?_map, hz]; rfl⟩
abbrev q0 : List Str := ["a", "b", "c", "d", "e", "f"]
abbrev q1 : List Str := ["ab", "a", "abc", "b", "ba", "bb"]
abbrev q2 : List Str := ["z", "y", "x", "w", "v", "u"]
abbrev q3 : List Str := ["abcdefgh", "abcdefgi", "q", "point", "same", "arrow"]
def nm4 : List (List Str) := [q0, q1, q2, q3]
structure NmOk (ws : List Str) : Prop where
  lo : 1 ≤ ws.length
  hi : ws.length ≤ 6
  nd : ws.Nodup
  is_ : ∀ x ∈ ws, isName x = true
theorem nm4_ok : ∀ xs ∈ nm4, xs.length = 6 ∧ xs.Nodup ∧ ∀ x ∈ xs, isName x = true := by decide +kernel
section
variable {P : Program} {w : World} {K : PySem.W.Frag} {mg : Str → Option Value} {base : Heap} {a : Adr}
def spCellAt (K : PySem.W.Frag) : Sp := fun vs H Q _ => ∃ p, ∃ ns : List Int, ∃ k, vs = [.ref p, .int k] ∧ SqL K H p (ns.map V.int) ∧ 0 ≤ k ∧ ∀ c, Q (.int c) H
theorem ok_cell_at (T : Tx K mg a) : Cal P w K mg base CX0 1 "_law_cell_at" ["_law_script", "_law_k"] [] (spCellAt K) := T.d__law_cell_at.cal fun f fd F => by
  refine F.ok sc__law_cell_at (fun vs H Q E h => ?_) (fun cdv A outer s H vs Q E hr h => ?_)
  · obtain ⟨p, ns, k, rfl, _⟩ := h
    rfl
  · obtain ⟨p, ns, k, rfl, hS, h0, q⟩ := h
    refine ⟨_, (pss_cons (ps_if (pt_cmpR op_lt (pv 1) (pe_callB call_len_seq rfl T.n_len bt_len (pa_cons (pv 0) pa_nil)) (nomark _)) (pss_one (ps_ret (pe_ix ix_list (pv 0) (pv 1) (fun _ _ => rfl)))) pss_nil)
      (pss_one (ps_ret pe_int))), ?_⟩
    refine ⟨_, rfl, _, rfl, p, _, rfl, .inl hS, _, _, rfl, rfl, _, rfl, ?_⟩
    refine iteB (fun c => ?_) (fun c => ?_)
    · have h1 : k < ns.length := by
        have := of_decide_eq_true c
        rwa [List.length_map] at this
      obtain ⟨z, _, hz⟩ := at_int h0 h1
      exact ⟨_, rfl, _, rfl, p, _, _, _, rfl, rfl, hS, hz, q z⟩
    · exact q 0
def spStream : Sp := fun vs H Q _ => ∃ c m, vs = [.int c, .int m] ∧ 0 ≤ m ∧ m ≤ 100 ∧ ∀ l xs H', Same H H' → H l = none → H' l = some (.lst ((xs : List Int).map V.int)) → (xs.length : Int) = m → Q (.ref l) H'
theorem ok_stream (T : Tx K mg a) : Cal P w K mg base CX0 1 "_law_stream" ["_law_cell", "_law_many"] [] spStream := T.d__law_stream.cal fun f fd F => by
  refine F.ok sc__law_stream (fun vs H Q E h => ?_) (fun cdv A outer s H vs Q E hr h => ?_)
  · obtain ⟨c, m, rfl, _⟩ := h
    rfl
  · obtain ⟨c, m, rfl, m0, m1, k⟩ := h
    refine ⟨_, (pss_cons (ps_set (i := 2) sc__law_stream.nd rfl (by first | exact Or.inl rfl | exact Or.inr rfl) (pe_lst pa_nil))
      (pss_cons (ps_set (i := 3) sc__law_stream.nd rfl (by first | exact Or.inl rfl | exact Or.inr rfl) (pe_op op_mod (pe_op op_mul (pe_op op_add (pv 0) pe_int) pe_int) pe_int))
      (pss_cons (ps_for PassesOwn.never rfl (pi_range1 rfl T.n_range (pa_cons (pv 1) pa_nil)) (pg_name (i := 4) sc__law_stream.nd rfl (by first | exact Or.inl rfl | exact Or.inr rfl)) (pss_cons (ps_set (i := 3) sc__law_stream.nd rfl (by first | exact Or.inl rfl | exact Or.inr rfl) (pe_op op_mod (pe_op op_mul (pv 3) (pe_op op_add (pe_op op_add (pe_op op_fdiv (pv 3) pe_int) pe_int) (pv 4))) pe_int))
      (pss_cons (ps_expr (pe_bm PySem.F.plainAttrs_list PySem.F.slot_list_append PySem.F.type_list_append mt_append (pv 2) (pa_cons (pv 3) pa_nil)))
      (pss_one (ps_set (i := 3) sc__law_stream.nd rfl (by first | exact Or.inl rfl | exact Or.inr rfl) (pe_op op_add (pv 3) pe_int))))))
      (pss_one (ps_ret (pv 2)))))), ?_⟩
    refine ⟨(by show 0 ≤ sizeLine; decide), fun g ng => ?_⟩
    have s1 : Same H (upd H g (.lst [])) := Same.new ng
    have h1 : upd H g (.lst []) g = some (.lst []) := upd_same
    generalize upd H g (.lst []) = H1 at s1 h1 ⊢
    refine ⟨_, rfl, _, _, rfl, rfl, _, _, rfl, rfl, .inr ⟨by decide, by decide⟩, _, _, rfl, rfl, (by show (0 : Int) < 2147483647; decide), ?_⟩
    have b0 : 0 ≤ (c + 7919) * 48271 % 2147483647 := Int.emod_nonneg _ (by decide)
    have b1 : (c + 7919) * 48271 % 2147483647 < 2147483647 := Int.emod_lt_of_pos _ (by decide)
    refine ⟨_, rfl, _, rfl, by omega, by omega, for_range (lo := 0) (n := m.toNat) (fun i σ H' => ∃ v4, ∃ z : Int, ∃ xs : List Int, σ = [some (.int c), some (.int m), some (.ref g), some (.int z), v4] ∧ 0 ≤ z ∧ z ≤ 2147483647 ∧ (∀ b o, H1 b = some o → b ≠ g → H' b = some o) ∧ H' g = some (.lst (xs.map V.int)) ∧ xs.length = i) ⟨none, _, [], rfl, b0, Int.le_of_lt b1, fun b o e _ => e, h1, rfl⟩ ?_ ?_⟩
    · rintro i σ H' hi ⟨v4, z, xs, rfl, z0, z1, o3, h3, xl⟩
      dsimp only [gName]
      refine ⟨_, rfl, _, rfl, _, _, rfl, rfl, ⟨by decide, by decide⟩, _, _, rfl, rfl, _, rfl, _, _, rfl, rfl, _, _, rfl, rfl, .inl ⟨?_, ?_⟩, _, _, rfl, rfl, (by show (0 : Int) < 2147483647; decide), ?_⟩
      · show -(2 ^ 64) < z
        omega
      · show z < 2 ^ 64
        omega
      generalize z * (z / 1009 + 69621 + (0 + (i : Int))) = y
      have y0 : 0 ≤ y % 2147483647 := Int.emod_nonneg _ (by decide)
      have y1 : y % 2147483647 < 2147483647 := Int.emod_lt_of_pos _ (by decide)
      refine ⟨_, rfl, .inl ⟨rfl, _, SqL.of h3⟩, _, rfl, g, _, _, rfl, rfl, h3, by rw [List.length_map, sizeLine_eq]; omega, ?_⟩
      refine ⟨_, rfl, _, _, rfl, rfl, ?_⟩
      refine ⟨_, _, xs ++ [y % 2147483647], rfl, by omega, by omega, fun b o e ne => by rw [upd_ne ne]; exact o3 b o e ne, by rw [upd_same, List.map_append]; rfl, by rw [List.length_append, xl]; rfl⟩
    · rintro σ H' ⟨v4, z, xs, rfl, _, _, o3, h3, xl⟩
      exact ⟨_, rfl, k g xs H' (fun b o e => o3 b o (s1 _ _ e) (ne_of_none e ng)) ng h3 (by omega)⟩
def spNames : Sp := fun vs H Q _ => ∃ c, vs = [.int c] ∧ ∀ l ws H', Same H H' → H l = none → H' l = some (.lst ((ws : List Str).map V.str)) → NmOk ws → Q (.ref l) H'
set_option maxHeartbeats 8000000 in
theorem ok_names (T : Tx K mg a) : Cal P w K mg base CX0 1 "_law_names" ["_law_cell"] [] spNames := T.d__law_names.cal fun f fd F => by
  refine F.ok sc__law_names (fun vs H Q E h => ?_) (fun cdv A outer s H vs Q E hr h => ?_)
  · obtain ⟨c, rfl, _⟩ := h
    rfl
  · obtain ⟨c, rfl, k⟩ := h
    refine' ⟨_, pss_cons ?s0 ?r0, ?sg⟩
    case s0 =>
      rw [ps_lists3 (i := 1) (x1 := ["a", "b", "c", "d", "e", "f"]) (x2 := ["ab", "a", "abc", "b", "ba", "bb"]) (x3 := ["z", "y", "x", "w", "v", "u"])]
      exact trivial
      case h1 => rfl
      case h2 => rfl
      case h3 => rfl
      case hN => exact sc__law_names.nd
      case hi => rfl
      case hx => exact Or.inl rfl
      case hs => rfl
      case hf => exact .inr rfl
    case r0 =>
      refine' pss_cons ?s1 ?r1
      case s1 => exact (ps_expr (pe_bm PySem.F.plainAttrs_list PySem.F.slot_list_append PySem.F.type_list_append mt_append (pv 1) (pa_cons (pe_lst (pa_strs (xs := ["abcdefgh", "abcdefgi", "q", "point", "same", "arrow"]) rfl)) pa_nil)))
      case r1 =>
        exact pss_one (ps_ret (pe_slice sl_list (pe_ix ix_list (pv 1) (pe_op op_mod (pv 0) pe_int) (fun _ _ => rfl)) po_none (po_some (pe_op op_add pe_int (pe_op op_mod (pe_op op_fdiv (pv 0) pe_int) pe_int)))))
    case sg =>
    refine ⟨(by show 6 ≤ sizeLine; decide), fun r0 n0 => ⟨(by show 6 ≤ sizeLine; decide), fun r1 n1 => ⟨(by show 6 ≤ sizeLine; decide), fun r2 n2 => ⟨(by show 3 ≤ sizeLine; decide), fun g ng => ?_⟩⟩⟩⟩
    have s1 := Same.new (H := H) (o := .lst (q0.map V.str)) n0
    have s2 := Same.new (H := upd H r0 (.lst (q0.map V.str))) (o := .lst (q1.map V.str)) n1
    have s3 := Same.new (H := upd (upd H r0 (.lst (q0.map V.str))) r1 (.lst (q1.map V.str))) (o := .lst (q2.map V.str)) n2
    have s4 := Same.new (H := upd (upd (upd H r0 (.lst (q0.map V.str))) r1 (.lst (q1.map V.str))) r2 (.lst (q2.map V.str))) (o := .lst [.ref r0, .ref r1, .ref r2]) ng
    have g0 := (s2.trans (s3.trans s4)) r0 _ upd_same
    have g1 := (s3.trans s4) r1 _ upd_same
    have g2 := s4 r2 _ upd_same
    have t4 := s1.trans (s2.trans (s3.trans s4))
    have hg : upd (upd (upd (upd H r0 (.lst (q0.map V.str))) r1 (.lst (q1.map V.str))) r2 (.lst (q2.map V.str))) g (.lst [.ref r0, .ref r1, .ref r2]) g = some (.lst [.ref r0, .ref r1, .ref r2]) := upd_same
    have ngH : H g = none := by
      cases e : H g with
      | none => rfl
      | some o =>
        have := s3 _ _ (s2 _ _ (s1 _ _ e))
        rw [show _ = none from ng] at this
        cases this
    change _ at g0 g1 g2 t4 hg
    refine ⟨_, rfl, .inl ⟨rfl, _, SqL.of hg⟩, (by show 6 ≤ sizeLine; decide), fun r3 n3 => ?_⟩
    have s5 := Same.new (o := .lst (q3.map V.str)) n3
    refine ⟨g, _, _, rfl, rfl, s5 _ _ hg, (by show 3 < sizeLine; decide), ?_⟩
    have t5 : Same H (upd (upd (upd (upd (upd (upd H r0 (.lst (q0.map V.str))) r1 (.lst (q1.map V.str))) r2 (.lst (q2.map V.str))) g (.lst [.ref r0, .ref r1, .ref r2])) r3 (.lst (q3.map V.str))) g (.lst [.ref r0, .ref r1, .ref r2, .ref r3])) := fun b o e => by
      rw [upd_ne (ne_of_none e ngH)]
      exact s5 _ _ (t4 _ _ e)
    have ne : ∀ {r : Addr} {xs : List Str}, (upd (upd (upd (upd H r0 (.lst (q0.map V.str))) r1 (.lst (q1.map V.str))) r2 (.lst (q2.map V.str))) g (.lst [.ref r0, .ref r1, .ref r2])) r = some (.lst (xs.map V.str)) → r ≠ g := fun e z => by
      rw [z, hg] at e
      have := Option.some.inj e
      injection this with this
      rename_i xs
      cases xs with
      | nil => cases this
      | cons x xs => cases this
    have up : ∀ {r : Addr} {xs : List Str}, (upd (upd (upd (upd H r0 (.lst (q0.map V.str))) r1 (.lst (q1.map V.str))) r2 (.lst (q2.map V.str))) g (.lst [.ref r0, .ref r1, .ref r2])) r = some (.lst (xs.map V.str)) → (upd (upd (upd (upd (upd (upd H r0 (.lst (q0.map V.str))) r1 (.lst (q1.map V.str))) r2 (.lst (q2.map V.str))) g (.lst [.ref r0, .ref r1, .ref r2])) r3 (.lst (q3.map V.str))) g (.lst [.ref r0, .ref r1, .ref r2, .ref r3])) r = some (.lst (xs.map V.str)) := fun e => by
      rw [upd_ne (ne e)]
      exact s5 _ _ e
    have f0 := up g0
    have f1 := up g1
    have f2 := up g2
    have f3 : (upd (upd (upd (upd (upd (upd H r0 (.lst (q0.map V.str))) r1 (.lst (q1.map V.str))) r2 (.lst (q2.map V.str))) g (.lst [.ref r0, .ref r1, .ref r2])) r3 (.lst (q3.map V.str))) g (.lst [.ref r0, .ref r1, .ref r2, .ref r3])) r3 = some (.lst (q3.map V.str)) := by
      rw [upd_ne (Ne.symm (ne_of_none hg n3))]
      exact upd_same
    have fg : (upd (upd (upd (upd (upd (upd H r0 (.lst (q0.map V.str))) r1 (.lst (q1.map V.str))) r2 (.lst (q2.map V.str))) g (.lst [.ref r0, .ref r1, .ref r2])) r3 (.lst (q3.map V.str))) g (.lst [.ref r0, .ref r1, .ref r2, .ref r3])) g = some (.lst [.ref r0, .ref r1, .ref r2, .ref r3]) := upd_same
    generalize hHf : (upd (upd (upd (upd (upd (upd H r0 (.lst (q0.map V.str))) r1 (.lst (q1.map V.str))) r2 (.lst (q2.map V.str))) g (.lst [.ref r0, .ref r1, .ref r2])) r3 (.lst (q3.map V.str))) g (.lst [.ref r0, .ref r1, .ref r2, .ref r3])) = Hf at t5 f0 f1 f2 f3 fg
    have c0 : 0 ≤ c % 4 := Int.emod_nonneg _ (by decide)
    have c1 : c % 4 < 4 := Int.emod_lt_of_pos _ (by decide)
    have d0 : 0 ≤ c / 4 % 6 := Int.emod_nonneg _ (by decide)
    have d1 : c / 4 % 6 < 6 := Int.emod_lt_of_pos _ (by decide)
    obtain ⟨rx, xs, ax, hx, mx⟩ : ∃ rx xs, atI [V.ref r0, V.ref r1, V.ref r2, V.ref r3] (c % 4) = some (V.ref rx) ∧ Hf rx = some (.lst (xs.map V.str)) ∧ xs ∈ nm4 := by
      rcases (by omega : c % 4 = 0 ∨ c % 4 = 1 ∨ c % 4 = 2 ∨ c % 4 = 3) with e | e | e | e
      · exact ⟨r0, q0, by rw [e]; rfl, f0, by simp [nm4]⟩
      · exact ⟨r1, q1, by rw [e]; rfl, f1, by simp [nm4]⟩
      · exact ⟨r2, q2, by rw [e]; rfl, f2, by simp [nm4]⟩
      · exact ⟨r3, q3, by rw [e]; rfl, f3, by simp [nm4]⟩
    obtain ⟨x6, xn, xi⟩ := nm4_ok xs mx
    have hcut : cutV (xs.map V.str) none (some (1 + c / 4 % 6)) = (xs.take (1 + c / 4 % 6).toNat).map V.str := by rw [cut_n _ (by omega) (by rw [List.length_map, x6]; omega), List.map_take]
    have ok : NmOk (xs.take (1 + c / 4 % 6).toNat) := ⟨by rw [List.length_take, x6]; omega, by rw [List.length_take, x6]; omega, List.Nodup.sublist (List.take_sublist _ _) xn, fun x hx => xi x (List.mem_of_mem_take hx)⟩
    subst hHf
    refine ⟨_, rfl, _, rfl, _, _, rfl, rfl, (by show (0 : Int) < 4; decide), g, _, _, _, rfl, rfl, SqL.of fg, ax, _, rfl, _, _, rfl, rfl, ⟨by decide, by decide⟩, _, _, rfl, rfl, (by show (0 : Int) < 6; decide), _, _, rfl, rfl, _, rfl, rx, _, rfl, SqL.of hx, fun m nm => ?_⟩
    refine k m _ _ (t5.trans (Same.new nm)) ?_ (by rw [upd_same, hcut]) ok
    cases e : H m with
    | none => rfl
    | some o =>
      have z : some o = none := (t5 _ _ e).symm.trans nm
      cases z
end
end K41
namespace K41
open PySem L2
/-! the law's own world -/
def awV (ws : List Str) (q : Ar) : List V := [.int q.num, .int (ix ws q.one), .int (ix ws q.other), .int q.span, .int q.weight]
def awD (ws : List Str) (q : Ar) : Dt := .tup [.int q.num, .int (ix ws q.one), .int (ix ws q.other), .int q.span, .int q.weight]
def swD (ws : List Str) (q : Str × Str) : Dt := .tup [.int (ix ws q.1), .int (ix ws q.2)]
def mwD (ws : List Str) (q : Str × Str × Int) : Dt := .tup [.int (ix ws q.1), .int (ix ws q.2.1), .int q.2.2]
def worldD (la ls lm : Addr) : Kvs := [(Sum.inr "arrows", .ref la), (Sum.inr "sames", .ref ls), (Sum.inr "mosts", .ref lm)]
section
variable {P : Program} {w : World} {K : PySem.W.Frag} {mg : Str → Option Value} {base : Heap} {a : Adr}
theorem un_aw {H : Hp} {x : V} {ws : List Str} {q : Ar} (h : DtV K H (awD ws q) x) : ∃ t, x = .ref t ∧ SqT K H t (awV ws q) := by
  obtain ⟨t, xs, rfl, h1, y1, ys1, rfl, rfl, y2, ys2, rfl, rfl, y3, ys3, rfl, rfl, y4, ys4, rfl, rfl, y5, ys5, rfl, rfl, h2⟩ := h
  rw [show ys5 = [] from h2] at h1
  exact ⟨t, rfl, h1⟩
theorem dt_aw {H : Hp} {t : Addr} {ws : List Str} {q : Ar} (h : SqT K H t (awV ws q)) : DtV K H (awD ws q) (.ref t) := ⟨t, _, rfl, h, _, _, rfl, rfl, _, _, rfl, rfl, _, _, rfl, rfl, _, _, rfl, rfl, _, _, rfl, rfl, rfl⟩
theorem un_sw {H : Hp} {x : V} {ws : List Str} {q : Str × Str} (h : DtV K H (swD ws q) x) : ∃ t, x = .ref t ∧ SqT K H t [.int (ix ws q.1), .int (ix ws q.2)] := by
  obtain ⟨t, xs, rfl, h1, y1, ys1, rfl, rfl, y2, ys2, rfl, rfl, h2⟩ := h
  rw [show ys2 = [] from h2] at h1
  exact ⟨t, rfl, h1⟩
theorem dt_sw {H : Hp} {t : Addr} {ws : List Str} {q : Str × Str} (h : SqT K H t [.int (ix ws q.1), .int (ix ws q.2)]) : DtV K H (swD ws q) (.ref t) := ⟨t, _, rfl, h, _, _, rfl, rfl, _, _, rfl, rfl, rfl⟩
theorem un_mw {H : Hp} {x : V} {ws : List Str} {q : Str × Str × Int} (h : DtV K H (mwD ws q) x) : ∃ t, x = .ref t ∧ SqT K H t [.int (ix ws q.1), .int (ix ws q.2.1), .int q.2.2] := by
  obtain ⟨t, xs, rfl, h1, y1, ys1, rfl, rfl, y2, ys2, rfl, rfl, y3, ys3, rfl, rfl, h2⟩ := h
  rw [show ys3 = [] from h2] at h1
  exact ⟨t, rfl, h1⟩
theorem dt_mw {H : Hp} {t : Addr} {ws : List Str} {q : Str × Str × Int} (h : SqT K H t [.int (ix ws q.1), .int (ix ws q.2.1), .int q.2.2]) : DtV K H (mwD ws q) (.ref t) := ⟨t, _, rfl, h, _, _, rfl, rfl, _, _, rfl, rfl, _, _, rfl, rfl, rfl⟩
structure WorldAt (K : PySem.W.Frag) (H : Hp) (wd la ls lm : Addr) (ws : List Str) (v : NetV) : Prop where
  d : H wd = some (.dK (worldD la ls lm))
  a : ∃ ys, H la = some (.lst ys) ∧ DtVs K H (v.arr.map (awD ws)) ys
  s : ∃ ys, H ls = some (.lst ys) ∧ DtVs K H (v.ss.map (swD ws)) ys
  m : ∃ ys, H lm = some (.lst ys) ∧ DtVs K H (v.mm.map (mwD ws)) ys
theorem WorldAt.same {H H' : Hp} {wd la ls lm : Addr} {ws : List Str} {v : NetV} (h : WorldAt K H wd la ls lm ws v) (e : Same H H') : WorldAt K H' wd la ls lm ws v := by
  obtain ⟨h1, ⟨y1, a1, b1⟩, ⟨y2, a2, b2⟩, ⟨y3, a3, b3⟩⟩ := h
  exact ⟨e _ _ h1, ⟨y1, e _ _ a1, e.dts b1⟩, ⟨y2, e _ _ a2, e.dts b2⟩, ⟨y3, e _ _ a3, e.dts b3⟩⟩
theorem ne_as : ¬ (Sum.inr (Str.ofString "arrows") : Key) = Sum.inr (Str.ofString "sames") := by decide +kernel
theorem ne_am : ¬ (Sum.inr (Str.ofString "arrows") : Key) = Sum.inr (Str.ofString "mosts") := by decide +kernel
theorem ne_sm : ¬ (Sum.inr (Str.ofString "sames") : Key) = Sum.inr (Str.ofString "mosts") := by decide +kernel
theorem wd_a {la ls lm : Addr} : valV (worldD la ls lm) (Sum.inr "arrows") = some (.ref la) := valV_pos (p := ((Sum.inr (Str.ofString "arrows") : Key), V.ref la)) rfl
theorem wd_s {la ls lm : Addr} : valV (worldD la ls lm) (Sum.inr "sames") = some (.ref ls) := (valV_neg (p := ((Sum.inr (Str.ofString "arrows") : Key), V.ref la)) ne_as).trans (valV_pos (p := ((Sum.inr (Str.ofString "sames") : Key), V.ref ls)) rfl)
theorem wd_m {la ls lm : Addr} : valV (worldD la ls lm) (Sum.inr "mosts") = some (.ref lm) := (valV_neg (p := ((Sum.inr (Str.ofString "arrows") : Key), V.ref la)) ne_am).trans ((valV_neg (p := ((Sum.inr (Str.ofString "sames") : Key), V.ref ls)) ne_sm).trans (valV_pos (p := ((Sum.inr (Str.ofString "mosts") : Key), V.ref lm)) rfl))
theorem get_a {H : Hp} {wd la ls lm : Addr} (h : H wd = some (.dK (worldD la ls lm))) : DGet H wd (.str "arrows") (some (.ref la)) := by
  rw [← wd_a (la := la) (ls := ls) (lm := lm)]
  exact DGet.k (k := Sum.inr "arrows") h
theorem get_s {H : Hp} {wd la ls lm : Addr} (h : H wd = some (.dK (worldD la ls lm))) : DGet H wd (.str "sames") (some (.ref ls)) := by
  rw [← wd_s (la := la) (ls := ls) (lm := lm)]
  exact DGet.k (k := Sum.inr "sames") h
theorem get_m {H : Hp} {wd la ls lm : Addr} (h : H wd = some (.dK (worldD la ls lm))) : DGet H wd (.str "mosts") (some (.ref lm)) := by
  rw [← wd_m (la := la) (ls := ls) (lm := lm)]
  exact DGet.k (k := Sum.inr "mosts") h
def spDue (K : PySem.W.Frag) : Sp := fun vs H Q _ => ∃ wd la ls lm ab ws v, vs = [.ref wd, .ref ab] ∧ WorldAt K H wd la ls lm ws v ∧ Wn ws v ∧ H ab = some (.lst ((turnedOf v.arr).map V.int)) ∧ ∀ l ys H', Same H H' → H l = none → H' l = some (.lst ys) → DtVs K H' ((wishesOf ws v).map wD) ys → Q (.ref l) H'
set_option maxHeartbeats 8000000 in
theorem ok_due (T : Tx K mg a) : Cal P w K mg base CX0 1 "_law_due" ["_law_world", "_law_about"] [] (spDue K) := T.d__law_due.cal fun f fd F => by
  refine F.ok sc__law_due (fun vs H Q E h => ?_) (fun cdv A outer s H vs Q E hr h => ?_)
  · obtain ⟨wd, la, ls, lm, ab, ws, v, rfl, _⟩ := h
    rfl
  · obtain ⟨wd, la, ls, lm, ab, ws, v, rfl, ⟨hwd, ⟨xa, ha, da⟩, ⟨xs_, hs, ds⟩, ⟨xm, hm, dm⟩⟩, W, hab, k⟩ := h
    have wl := W.la
    have wls := W.ls
    have wlm := W.lm
    refine ⟨_, (pss_cons (ps_set (i := 2) sc__law_due.nd rfl (by first | exact Or.inl rfl | exact Or.inr rfl) (pe_lst pa_nil))
      (pss_cons (ps_for PassesOwn.never rfl (pi_list (pe_dget (hu_of hr) (pv 0) pe_str (fun _ _ => rfl))) (pg_tup rfl (pgs_cons (pg_name (i := 3) sc__law_due.nd rfl (by first | exact Or.inl rfl | exact Or.inr rfl)) (pgs_cons (pg_name (i := 4) sc__law_due.nd rfl (by first | exact Or.inl rfl | exact Or.inr rfl)) (pgs_cons (pg_name (i := 5) sc__law_due.nd rfl (by first | exact Or.inl rfl | exact Or.inr rfl)) (pgs_cons (pg_name (i := 6) sc__law_due.nd rfl (by first | exact Or.inl rfl | exact Or.inr rfl)) (pgs_cons (pg_name (i := 7) sc__law_due.nd rfl (by first | exact Or.inl rfl | exact Or.inr rfl)) pgs_nil)))))) (pss_one (ps_if (pt_cmpR op_in_seq (pv 3) (pv 1) (by with_unfolding_all rfl)) (pss_one (ps_expr (pe_bm PySem.F.plainAttrs_list PySem.F.slot_list_append PySem.F.type_list_append mt_append (pv 2) (pa_cons (pe_tup (pa_cons (pv 5) (pa_cons (pv 4) (pa_cons (pv 6) (pa_cons (pv 7) pa_nil))))) pa_nil)))) (pss_one (ps_expr (pe_bm PySem.F.plainAttrs_list PySem.F.slot_list_append PySem.F.type_list_append mt_append (pv 2) (pa_cons (pe_tup (pa_cons (pv 4) (pa_cons (pv 5) (pa_cons (pv 6) (pa_cons (pv 7) pa_nil))))) pa_nil)))))))
      (pss_cons (ps_for PassesOwn.never rfl (pi_list (pe_dget (hu_of hr) (pv 0) pe_str (fun _ _ => rfl))) (pg_tup rfl (pgs_cons (pg_name (i := 4) sc__law_due.nd rfl (by first | exact Or.inl rfl | exact Or.inr rfl)) (pgs_cons (pg_name (i := 5) sc__law_due.nd rfl (by first | exact Or.inl rfl | exact Or.inr rfl)) pgs_nil))) (pss_cons (ps_expr (pe_bm PySem.F.plainAttrs_list PySem.F.slot_list_append PySem.F.type_list_append mt_append (pv 2) (pa_cons (pe_tup (pa_cons (pv 4) (pa_cons (pv 5) (pa_cons pe_int (pa_cons pe_int pa_nil))))) pa_nil)))
      (pss_one (ps_expr (pe_bm PySem.F.plainAttrs_list PySem.F.slot_list_append PySem.F.type_list_append mt_append (pv 2) (pa_cons (pe_tup (pa_cons (pv 5) (pa_cons (pv 4) (pa_cons pe_int (pa_cons pe_int pa_nil))))) pa_nil))))))
      (pss_cons (ps_for PassesOwn.never rfl (pi_list (pe_dget (hu_of hr) (pv 0) pe_str (fun _ _ => rfl))) (pg_tup rfl (pgs_cons (pg_name (i := 4) sc__law_due.nd rfl (by first | exact Or.inl rfl | exact Or.inr rfl)) (pgs_cons (pg_name (i := 5) sc__law_due.nd rfl (by first | exact Or.inl rfl | exact Or.inr rfl)) (pgs_cons (pg_name (i := 8) sc__law_due.nd rfl (by first | exact Or.inl rfl | exact Or.inr rfl)) pgs_nil)))) (pss_one (ps_expr (pe_bm PySem.F.plainAttrs_list PySem.F.slot_list_append PySem.F.type_list_append mt_append (pv 2) (pa_cons (pe_tup (pa_cons (pv 5) (pa_cons (pv 4) (pa_cons (pe_op op_sub pe_int (pv 8)) (pa_cons pe_int pa_nil))))) pa_nil)))))
      (pss_one (ps_ret (pv 2))))))), ?_⟩
    refine ⟨(by show 0 ≤ sizeLine; decide), fun g ng => ?_⟩
    have s1 : Same H (upd H g (.lst [])) := Same.new ng
    have h1g : upd H g (.lst []) g = some (.lst []) := upd_same
    generalize upd H g (.lst []) = H1 at s1 h1g ⊢
    have neg : ∀ {b : Addr} {o : HO}, H b = some o → b ≠ g := fun e => ne_of_none e ng
    have hxa : v.arr.length = xa.length := by rw [← da.length, List.length_map]
    have hxs : v.ss.length = xs_.length := by rw [← ds.length, List.length_map]
    have hxm : v.mm.length = xm.length := by rw [← dm.length, List.length_map]
    refine ⟨_, rfl, wd, _, rfl, get_a (s1 _ _ hwd), la, rfl, ⟨_, SqL.of (s1 _ _ ha)⟩, for_list (K := K) (a := la) (xs := xa) (fun i σ H' => ∃ v3 v4 v5 v6 v7, σ = [some (.ref wd), some (.ref ab), some (.ref g), v3, v4, v5, v6, v7, none] ∧ Acc K g H H' ((v.arr.take i).map (wishA ws (turnedOf v.arr)))) ⟨none, none, none, none, none, rfl, ⟨fun b o e _ => s1 _ _ e, (fun ys e => by rw [h1g] at e; cases e; exact Tps.nil), [], h1g, by rw [List.take_zero]; rfl⟩⟩ ?_ ?_ ?_⟩
    · rintro i σ H' _ ⟨_, _, _, _, _, rfl, A7⟩
      exact SqL.of (A7.old _ _ ha (neg ha))
    · rintro i y σ H7 hy ⟨v3, v4, v5, v6, v7, rfl, A7⟩
      obtain ⟨q, hq, dq⟩ := dts_get da hy
      have hil : i < v.arr.length := (List.getElem?_eq_some_iff.mp hq).1
      have s7 : Same H H7 := fun b o e => A7.old b o e (neg e)
      obtain ⟨tq, rfl, hq6⟩ := un_aw dq
      obtain ⟨ys, hy7, dy7⟩ := A7.l
      have yl : ys.length ≤ i := by
        rw [← dy7.length, List.length_map, List.length_map, List.length_take]
        omega
      have et : (v.arr.take (i + 1)).map (wishA ws (turnedOf v.arr)) = (v.arr.take i).map (wishA ws (turnedOf v.arr)) ++ [wishA ws (turnedOf v.arr) q] := by rw [take_snoc hq, List.map_append]; rfl
      refine ⟨tq, _, rfl, s7.sqT hq6, rfl, _, _, rfl, _, _, rfl, _, _, rfl, _, _, rfl, _, _, rfl, rfl, ?_⟩
      refine ⟨_, rfl, _, rfl, ab, _, rfl, .inl (SqL.of (s7 _ _ hab)), rfl, flat_ints _, _, rfl, ?_⟩
      rw [inV_ints]
      refine iteB (fun c => ?_) (fun c => ?_)
      · have c' : q.num ∈ turnedOf v.arr := of_decide_eq_true c
        refine ⟨_, rfl, .inl ⟨rfl, _, SqL.of hy7⟩, _, rfl, _, rfl, _, rfl, _, rfl, (by show 4 ≤ sizeLine; decide), fun z nz => ?_⟩
        have s8 := Same.new (o := .tup [.int (ix ws q.other), .int (ix ws q.one), .int q.span, .int q.weight]) nz
        refine ⟨g, _, _, rfl, rfl, s8 _ _ hy7, by rw [sizeLine_eq]; omega, _, _, _, _, _, rfl, ?_⟩
        rw [et]
        exact Acc.put A7.old (A7.tp _ hy7) hy7 dy7 s8 (by rw [upd_same]; unfold wishA; rw [if_pos c']; rfl)
      · have c' : q.num ∉ turnedOf v.arr := of_decide_eq_false c
        refine ⟨_, rfl, .inl ⟨rfl, _, SqL.of hy7⟩, _, rfl, _, rfl, _, rfl, _, rfl, (by show 4 ≤ sizeLine; decide), fun z nz => ?_⟩
        have s8 := Same.new (o := .tup [.int (ix ws q.one), .int (ix ws q.other), .int q.span, .int q.weight]) nz
        refine ⟨g, _, _, rfl, rfl, s8 _ _ hy7, by rw [sizeLine_eq]; omega, _, _, _, _, _, rfl, ?_⟩
        rw [et]
        exact Acc.put A7.old (A7.tp _ hy7) hy7 dy7 s8 (by rw [upd_same]; unfold wishA; rw [if_neg c']; rfl)
    rintro σ H7 ⟨v3, v4, v5, v6, v7, rfl, A7⟩
    rw [← hxa, List.take_length] at A7
    have s7 : Same H H7 := fun b o e => A7.old b o e (neg e)
    refine ⟨_, rfl, wd, _, rfl, get_s (s7 _ _ hwd), ls, rfl, ⟨_, SqL.of (s7 _ _ hs)⟩, for_list (K := K) (a := ls) (xs := xs_) (fun i σ H' => ∃ v3 v4 v5 v6 v7, σ = [some (.ref wd), some (.ref ab), some (.ref g), v3, v4, v5, v6, v7, none] ∧ Acc K g H H' (v.arr.map (wishA ws (turnedOf v.arr)) ++ (v.ss.take i).flatMap (wishS ws))) ⟨v3, v4, v5, v6, v7, rfl, by rw [List.take_zero, List.flatMap_nil, List.append_nil]; exact A7⟩ ?_ ?_ ?_⟩
    · rintro i σ H' _ ⟨_, _, _, _, _, rfl, A9⟩
      exact SqL.of (A9.old _ _ hs (neg hs))
    · rintro i y σ H9 hy ⟨v3, v4, v5, v6, v7, rfl, A9⟩
      obtain ⟨⟨o, t⟩, hq, dq⟩ := dts_get ds hy
      have hil : i < v.ss.length := (List.getElem?_eq_some_iff.mp hq).1
      have s9 : Same H H9 := fun b o e => A9.old b o e (neg e)
      obtain ⟨tq, rfl, hq6⟩ := un_sw dq
      obtain ⟨ys, hy9, dy9⟩ := A9.l
      have fl := flat_len ws (v.ss.take i)
      have yl : ys.length ≤ 300 := by
        rw [← dy9.length, List.length_map, List.length_append, List.length_map, fl, List.length_take]
        omega
      refine ⟨tq, _, rfl, s9.sqT hq6, rfl, _, _, rfl, _, _, rfl, rfl, ?_⟩
      refine ⟨_, rfl, .inl ⟨rfl, _, SqL.of hy9⟩, _, rfl, _, rfl, (by show 4 ≤ sizeLine; decide), fun z nz => ?_⟩
      have sa := Same.new (o := .tup [.int (ix ws o), .int (ix ws t), .int 0, .int 0]) nz
      refine ⟨g, _, _, rfl, rfl, sa _ _ hy9, by rw [sizeLine_eq]; omega, ?_⟩
      have Aa := Acc.put (q := (ix ws o, ix ws t, 0, 0)) A9.old (A9.tp _ hy9) hy9 dy9 sa upd_same
      have hga : upd (upd H9 z (.tup [.int (ix ws o), .int (ix ws t), .int 0, .int 0])) g (.lst (ys ++ [.ref z])) g = some (.lst (ys ++ [.ref z])) := upd_same
      generalize upd (upd H9 z (.tup [.int (ix ws o), .int (ix ws t), .int 0, .int 0])) g (.lst (ys ++ [.ref z])) = Ha at Aa hga ⊢
      obtain ⟨yb, hyb, dyb⟩ := Aa.l
      rw [hga] at hyb
      obtain rfl : ys ++ [.ref z] = yb := by cases hyb; rfl
      refine ⟨_, rfl, .inl ⟨rfl, _, SqL.of hga⟩, _, rfl, _, rfl, (by show 4 ≤ sizeLine; decide), fun z2 nz2 => ?_⟩
      have sb := Same.new (o := .tup [.int (ix ws t), .int (ix ws o), .int 0, .int 0]) nz2
      refine ⟨g, _, _, rfl, rfl, sb _ _ hga, by rw [List.length_append, sizeLine_eq]; show _ + 1 < _; omega, ?_⟩
      have Ab := Acc.put (q := (ix ws t, ix ws o, 0, 0)) Aa.old (Aa.tp _ hga) hga dyb sb upd_same
      refine ⟨_, _, _, _, _, rfl, ?_⟩
      have et : v.arr.map (wishA ws (turnedOf v.arr)) ++ (v.ss.take (i + 1)).flatMap (wishS ws) = v.arr.map (wishA ws (turnedOf v.arr)) ++ (v.ss.take i).flatMap (wishS ws) ++ [(ix ws o, ix ws t, 0, 0)] ++ [(ix ws t, ix ws o, 0, 0)] := by
        rw [take_snoc hq, List.flatMap_append, List.append_assoc, List.append_assoc]
        rfl
      rw [et]
      exact Ab
    rintro σ H9 ⟨v3, v4, v5, v6, v7, rfl, A9⟩
    rw [← hxs, List.take_length] at A9
    have s9 : Same H H9 := fun b o e => A9.old b o e (neg e)
    refine ⟨_, rfl, wd, _, rfl, get_m (s9 _ _ hwd), lm, rfl, ⟨_, SqL.of (s9 _ _ hm)⟩, for_list (K := K) (a := lm) (xs := xm) (fun i σ H' => ∃ v3 v4 v5 v6 v7 v8, σ = [some (.ref wd), some (.ref ab), some (.ref g), v3, v4, v5, v6, v7, v8] ∧ Acc K g H H' (v.arr.map (wishA ws (turnedOf v.arr)) ++ v.ss.flatMap (wishS ws) ++ (v.mm.take i).map (wishM ws))) ⟨v3, v4, v5, v6, v7, none, rfl, by rw [List.take_zero, List.map_nil, List.append_nil]; exact A9⟩ ?_ ?_ ?_⟩
    · rintro i σ H' _ ⟨_, _, _, _, _, _, rfl, Aa⟩
      exact SqL.of (Aa.old _ _ hm (neg hm))
    · rintro i y σ Ha hy ⟨v3, v4, v5, v6, v7, v8, rfl, Aa⟩
      obtain ⟨⟨o, t, m⟩, hq, dq⟩ := dts_get dm hy
      have hil : i < v.mm.length := (List.getElem?_eq_some_iff.mp hq).1
      have sa : Same H Ha := fun b o e => Aa.old b o e (neg e)
      obtain ⟨tq, rfl, hq6⟩ := un_mw dq
      obtain ⟨ys, hya, dya⟩ := Aa.l
      have fl := flat_len ws v.ss
      have yl : ys.length ≤ 400 := by
        rw [← dya.length, List.length_map, List.length_append, List.length_append, List.length_map, List.length_map, fl, List.length_take]
        omega
      refine ⟨tq, _, rfl, sa.sqT hq6, rfl, _, _, rfl, _, _, rfl, _, _, rfl, rfl, ?_⟩
      refine ⟨_, rfl, .inl ⟨rfl, _, SqL.of hya⟩, _, rfl, _, rfl, _, rfl, _, _, rfl, rfl, (by show 4 ≤ sizeLine; decide), fun z nz => ?_⟩
      have sb := Same.new (o := .tup [.int (ix ws t), .int (ix ws o), .int (0 - m), .int 0]) nz
      refine ⟨g, _, _, rfl, rfl, sb _ _ hya, by rw [sizeLine_eq]; omega, _, _, _, _, _, _, rfl, ?_⟩
      have et : v.arr.map (wishA ws (turnedOf v.arr)) ++ v.ss.flatMap (wishS ws) ++ (v.mm.take (i + 1)).map (wishM ws) = v.arr.map (wishA ws (turnedOf v.arr)) ++ v.ss.flatMap (wishS ws) ++ (v.mm.take i).map (wishM ws) ++ [wishM ws (o, t, m)] := by
        rw [take_snoc hq, List.map_append, ← List.append_assoc]
        rfl
      rw [et]
      exact Acc.put Aa.old (Aa.tp _ hya) hya dya sb upd_same
    rintro σ Ha ⟨v3, v4, v5, v6, v7, v8, rfl, Aa⟩
    rw [← hxm, List.take_length] at Aa
    obtain ⟨ya, hya, dya⟩ := Aa.l
    exact ⟨_, rfl, k g ya Ha (fun b o e => Aa.old b o e (neg e)) ng hya dya⟩
end
end K41
namespace K41
open PySem L2
structure Apt (r : Rec) (wd la ls lm nm : Addr) : Prop where
  w1 : wd ≠ r.dh
  w2 : wd ≠ r.da
  a1 : la ≠ r.ls
  a2 : la ≠ r.lm
  s1 : ls ≠ r.ls
  s2 : ls ≠ r.lm
  m1 : lm ≠ r.ls
  m2 : lm ≠ r.lm
  n1 : nm ≠ r.ls
  n2 : nm ≠ r.lm
  as_ : la ≠ ls
  am : la ≠ lm
  sm : ls ≠ lm
  na : nm ≠ la
  ns : nm ≠ ls
  nm_ : nm ≠ lm
/-- what a deed keeps -/
def Fr (p : Addr) (r : Rec) (la ls lm : Addr) (H H' : Hp) : Prop := ∀ b o, H b = some o → b ≠ p → b ≠ r.dh → b ≠ r.da → b ≠ r.ls → b ≠ r.lm → b ≠ la → b ≠ ls → b ≠ lm → H' b = some o
theorem erase_without {arr : List Ar} (nd : (arr.map Ar.num).Nodup) : ∀ {k : Nat} {q : Ar}, arr[k]? = some q → without arr q.num = arr.eraseIdx k := by
  induction arr with
  | nil => intro k q h; cases h
  | cons x l ih =>
    rw [List.map_cons, List.nodup_cons] at nd
    intro k q h
    cases k with
    | zero =>
      obtain rfl : x = q := Option.some.inj h
      show without (x :: l) x.num = l
      unfold without
      rw [List.filter_cons, if_neg (by simp)]
      refine List.filter_eq_self.mpr fun y hy => ?_
      have : ¬ y.num = x.num := fun e => nd.1 (List.mem_map.mpr ⟨y, hy, e⟩)
      simpa using this
    | succ k =>
      have hq : l[k]? = some q := h
      show without (x :: l) q.num = x :: l.eraseIdx k
      have ne : ¬ x.num = q.num := fun e => nd.1 (List.mem_map.mpr ⟨q, List.mem_of_getElem? hq, e.symm⟩)
      rw [← ih nd.2 hq]
      unfold without
      rw [List.filter_cons, if_pos (by simpa using ne)]
theorem ix_get {ws : List Str} (nd : ws.Nodup) {i : Nat} {n : Str} (h : ws[i]? = some n) : ix ws n = (i : Int) := by
  have hm := List.mem_of_getElem? h
  have h1 := ix_at hm
  have l1 := (List.getElem?_eq_some_iff.mp h1).1
  have := (List.getElem?_inj l1 nd).mp (h1.trans h.symm)
  unfold ix
  rw [this]
section
variable {P : Program} {w : World} {K : PySem.W.Frag} {mg : Str → Option Value} {base : Heap} {a : Adr}
theorem dts_erase {H : Hp} : ∀ {ds : List Dt} {xs : List V} {k : Nat}, DtVs K H ds xs → DtVs K H (ds.eraseIdx k) (xs.eraseIdx k)
  | [], _, k, h => by rw [show _ = [] from h]; exact rfl
  | d :: ds, _, k, h => by
    obtain ⟨y, ys, rfl, h1, h2⟩ := h
    cases k with
    | zero => exact h2
    | succ k => exact ⟨y, _, rfl, h1, dts_erase h2⟩
theorem NetAt.upd {C : Addr} {H : Hp} {p : Addr} {r : Rec} {v : NetV} {g : Addr} {zs : List V} {o : HO} (n : NetAt K C H p r v) (hg : H g = some (.lst zs)) (n1 : g ≠ r.ls) (n2 : g ≠ r.lm) : NetAt K C (L2.upd H g o) p r v := by
  obtain ⟨⟨dx, h1⟩, h2, ⟨avs, h3, h4⟩, ⟨xs, h5, h6⟩, ⟨ys, h7, h8⟩, n3, n4⟩ := n
  have tk : Tk H (L2.upd H g o) := Tk.upd hg rfl
  exact ⟨⟨dx, by rw [upd_ne (ne_of h1 hg (by intro z; cases z))]; exact h1⟩, by rw [upd_ne (ne_of h2 hg (by intro z; cases z))]; exact h2, ⟨avs, by rw [upd_ne (ne_of h3 hg (by intro z; cases z))]; exact h3, tk.arr h4⟩,
    ⟨xs, by rw [upd_ne (Ne.symm n1)]; exact h5, tk.dts (noLsts_map (fun _ => rfl) _) h6⟩, ⟨ys, by rw [upd_ne (Ne.symm n2)]; exact h7, tk.dts (noLsts_map (fun _ => rfl) _) h8⟩, n3, n4⟩
theorem WorldAt.kp {H H' : Hp} {p : Addr} {r : Rec} {v0 : NetV} {C wd la ls lm nm : Addr} {ws : List Str} {v : NetV} (h : WorldAt K H wd la ls lm ws v) (kp : Kp p r H H') (N : NetAt K C H p r v0) (ap : Apt r wd la ls lm nm) : WorldAt K H' wd la ls lm ws v := by
  obtain ⟨h1, ⟨y1, a1, b1⟩, ⟨y2, a2, b2⟩, ⟨y3, a3, b3⟩⟩ := h
  have tk := kp.tk N
  obtain ⟨dx, hp⟩ := N.ex
  obtain ⟨xs, hs, _⟩ := N.hs
  obtain ⟨ys, hm, _⟩ := N.hm
  exact ⟨kp _ _ h1 (ne_of h1 hp (by intro z; cases z)) ap.w1 ap.w2 (ne_of h1 hs (by intro z; cases z)) (ne_of h1 hm (by intro z; cases z)), ⟨y1, kp.lst N a1 ap.a1 ap.a2, tk.dts (noLsts_map (fun _ => rfl) _) b1⟩, ⟨y2, kp.lst N a2 ap.s1 ap.s2, tk.dts (noLsts_map (fun _ => rfl) _) b2⟩, ⟨y3, kp.lst N a3 ap.m1 ap.m2, tk.dts (noLsts_map (fun _ => rfl) _) b3⟩⟩
end
end K41
namespace K41
open PySem L2
section
variable {P : Program} {w : World} {K : PySem.W.Frag} {mg : Str → Option Value} {base : Heap} {a : Adr}
def pl (l : List Str) : Kvs := l.map fun n => (Sum.inr n, .int 0)
theorem pl_keys (l : List Str) : keysV (pl l) = l.map V.str := by
  unfold keysV pl
  rw [List.map_map]
  rfl
theorem pl_has (l : List Str) (n : Str) : has (pl l) n = decide (n ∈ l) := by
  induction l with
  | nil => rfl
  | cons x l ih =>
    show has ((Sum.inr x, V.int 0) :: pl l) n = _
    by_cases e : x = n
    · subst e
      unfold has
      rw [valV_pos (p := (Sum.inr x, V.int 0)) rfl]
      simp
    · have h1 : has ((Sum.inr x, V.int 0) :: pl l) n = has (pl l) n := by
        unfold has
        rw [valV_neg (p := (Sum.inr x, V.int 0)) (fun z => e (Sum.inr.inj z))]
      rw [h1, ih]
      have : n ≠ x := Ne.symm e
      simp [this]
theorem pl_snoc {l : List Str} {n : Str} : pl (l ++ [n]) = pl l ++ [(Sum.inr n, .int 0)] := by
  unfold pl
  rw [List.map_append]
  rfl
theorem pl_err {ws : List Str} {i : Nat} {n : Str} (h : ws[i]? = some n) (nd : ws.Nodup) (is_ : isName n = true) (hl : ws.length ≤ 12) : pointErr (pl (ws.take i)) n 0 = none := by
  have hi := (List.getElem?_eq_some_iff.mp h).1
  have h1 : ¬ has (pl (ws.take i)) n = true := by
    rw [pl_has]
    intro z
    have z' : n ∈ ws.take i := of_decide_eq_true z
    obtain ⟨j, hj⟩ := List.mem_iff_getElem?.mp z'
    have hji : j < i := by
      have := (List.getElem?_eq_some_iff.mp hj).1
      rw [List.length_take] at this
      omega
    rw [List.getElem?_take, if_pos hji] at hj
    have := (List.getElem?_inj (by omega) nd).mp (hj.trans h.symm)
    omega
  have h2 : ¬ 20 ≤ (pl (ws.take i)).length := by
    unfold pl
    rw [List.length_map, List.length_take]
    omega
  simp only [pointErr, if_neg (show ¬ isName n = false by rw [is_]; decide), if_neg h1, if_neg (show ¬ ((0 : Int) < 0 ∨ (50 : Int) < 0) by decide), if_neg h2]
theorem isName_len {n : Str} (h : isName n = true) : n.length ≤ 1000 := by
  unfold isName at h
  have := of_decide_eq_true ((Bool.and_eq_true _ _).mp ((Bool.and_eq_true _ _).mp h).1).2
  omega
def Rise (arr : List Ar) : Prop := arr.Pairwise fun x y => x.num < y.num
theorem rise_without {arr : List Ar} {i : Int} (h : Rise arr) : Rise (without arr i) := List.Pairwise.filter _ h
theorem mem_without {arr : List Ar} {i : Int} {q : Ar} (h : q ∈ without arr i) : q ∈ arr := (List.mem_filter.mp h).1
theorem rise_snoc {arr : List Ar} {q : Ar} (h : Rise arr) (l : ∀ x ∈ arr, x.num < q.num) : Rise (arr ++ [q]) :=
  List.pairwise_append.mpr ⟨h, List.pairwise_singleton _ _, fun x hx y hy => by rw [List.mem_singleton.mp hy]; exact l x hx⟩
theorem rise_nodup {arr : List Ar} (h : Rise arr) : (arr.map Ar.num).Nodup := by
  rw [List.nodup_iff_pairwise_ne, List.pairwise_map]
  exact h.imp fun z => Int.ne_of_lt z
theorem has_num {arr : List Ar} {q : Ar} (h : q ∈ arr) : hasN arr q.num = true := List.any_eq_true.mpr ⟨q, h, decide_eq_true rfl⟩
theorem without_len (arr : List Ar) (i : Int) : (without arr i).length ≤ arr.length := List.length_filter_le _ _
/-- what the law's net is like -/
structure Nv (ws : List Str) (v : NetV) : Prop where
  kv : v.kvs = pl ws
  rise : Rise v.arr
  nn : ∀ q ∈ v.arr, q.num < v.nn
  n0 : 0 ≤ v.nn
  ends : ∀ q ∈ v.arr, q.one ∈ ws ∧ q.other ∈ ws ∧ q.one ≠ q.other
theorem Nv.take {ws : List Str} {v : NetV} (h : Nv ws v) (i : Int) : Nv ws { v with arr := without v.arr i } :=
  ⟨h.kv, rise_without h.rise, fun q hq => h.nn q (mem_without hq), h.n0, fun q hq => h.ends q (mem_without hq)⟩
theorem Nv.put {ws : List Str} {v : NetV} (h : Nv ws v) {o t : Str} {sp wt : Int} (ho : o ∈ ws) (ht : t ∈ ws) (ne : o ≠ t) : Nv ws { v with arr := v.arr ++ [⟨v.nn, o, t, sp, wt⟩], nn := v.nn + 1 } :=
  ⟨h.kv, rise_snoc h.rise fun x hx => h.nn x hx, fun q hq => by
    show q.num < v.nn + 1
    rcases List.mem_append.mp hq with z | z
    · have := h.nn q z; omega
    · rw [List.mem_singleton.mp z]
      show v.nn < v.nn + 1
      omega, by show 0 ≤ v.nn + 1; have := h.n0; omega, fun q hq => by
    rcases List.mem_append.mp hq with z | z
    · exact h.ends q z
    · rw [List.mem_singleton.mp z]; exact ⟨ho, ht, ne⟩⟩
theorem arrErr_ok {ws : List Str} {v : NetV} (h : Nv ws v) {o t : Str} {sp wt : Int} (ho : o ∈ ws) (ht : t ∈ ws) (ne : o ≠ t) (s1 : 1 ≤ sp) (s2 : sp ≤ 20) (w1 : 1 ≤ wt) (w2 : wt ≤ 1000000) (hl : v.arr.length < 40) : arrErr v o t sp wt = none := by
  have h2 : two v.kvs o t = none := by
    rw [h.kv]
    simp only [two, pl_has]
    rw [if_neg (by simp [ho]), if_neg (by simp [ht]), if_neg ne]
  rw [arr_none h2, if_neg (by omega), if_neg (by omega)]
theorem at_strs {ss : List Str} {k : Int} (h0 : 0 ≤ k) (h1 : k < ss.length) : ∃ s, s ∈ ss ∧ ss[k.toNat]? = some s ∧ atI (ss.map V.str) k = some (.str s) := by
  have hk : k.toNat < ss.length := by omega
  refine ⟨ss[k.toNat], List.getElem_mem hk, List.getElem?_eq_getElem hk, ?_⟩
  rw [at_nat h0, List.getElem?_map, List.getElem?_eq_getElem hk]
  rfl
end
end K41
namespace K41
open PySem L2
/-- the law's net behind i deeds -/
structure Nx (ws : List Str) (v : NetV) (i : Nat) : Prop where
  nv : Nv ws v
  es : ∀ q ∈ v.ss, q.1 ∈ ws ∧ q.2 ∈ ws
  em : ∀ q ∈ v.mm, q.1 ∈ ws ∧ q.2.1 ∈ ws
  la : v.arr.length ≤ i
  ls : v.ss.length ≤ i
  lm : v.mm.length ≤ i
  wt : ∀ q ∈ v.arr, 1 ≤ q.weight ∧ q.weight ≤ 1000000
theorem Nx.up {ws : List Str} {v : NetV} {i : Nat} (h : Nx ws v i) : Nx ws v (i + 1) := ⟨h.nv, h.es, h.em, Nat.le_succ_of_le h.la, Nat.le_succ_of_le h.ls, Nat.le_succ_of_le h.lm, h.wt⟩
theorem erase_map {α β : Type} (f : α → β) : ∀ (l : List α) (k : Nat), (l.map f).eraseIdx k = (l.eraseIdx k).map f
  | [], _ => rfl
  | _ :: _, 0 => rfl
  | x :: l, k + 1 => by show f x :: (l.map f).eraseIdx k = f x :: (l.eraseIdx k).map f; rw [erase_map f l k]
theorem two_ok {ws : List Str} {v : NetV} (h : Nv ws v) {o t : Str} (ho : o ∈ ws) (ht : t ∈ ws) (ne : o ≠ t) : two v.kvs o t = none := by
  rw [h.kv]
  simp only [two, pl_has]
  rw [if_neg (by simp [ho]), if_neg (by simp [ht]), if_neg ne]
theorem at3 {x y z m : Int} (h0 : 0 ≤ m) (h1 : m < 3) : ∃ u, atI [V.int x, V.int y, V.int z] m = some (V.int u) ∧ (u = x ∨ u = y ∨ u = z) := by
  rcases (by omega : m = 0 ∨ m = 1 ∨ m = 2) with e | e | e
  · exact ⟨x, by rw [e]; rfl, .inl rfl⟩
  · exact ⟨y, by rw [e]; rfl, .inr (.inl rfl)⟩
  · exact ⟨z, by rw [e]; rfl, .inr (.inr rfl)⟩
theorem at2 {x y m : Int} (h0 : 0 ≤ m) (h1 : m < 2) : ∃ u, atI [V.int x, V.int y] m = some (V.int u) ∧ (u = x ∨ u = y) := by
  rcases (by omega : m = 0 ∨ m = 1) with e | e
  · exact ⟨x, by rw [e]; rfl, .inl rfl⟩
  · exact ⟨y, by rw [e]; rfl, .inr rfl⟩
section
variable {P : Program} {w : World} {K : PySem.W.Frag} {mg : Str → Option Value} {base : Heap} {a : Adr}
theorem deep_aw {n : Nat} {ws : List Str} (q : Ar) : DeepLe (n + 1) (awD ws q) := by cases n <;> exact ⟨trivial, trivial, trivial, trivial, trivial, trivial⟩
theorem Fr.lst {C p : Addr} {r : Rec} {v : NetV} {la ls lm b : Addr} {zs : List V} {H H' : Hp} (e : Fr p r la ls lm H H') (n : NetAt K C H p r v) (h : H b = some (.lst zs)) (n1 : b ≠ r.ls) (n2 : b ≠ r.lm) (n3 : b ≠ la) (n4 : b ≠ ls) (n5 : b ≠ lm) : H' b = some (.lst zs) := by
  obtain ⟨⟨dx, h1⟩, h2, ⟨avs, h3, h4⟩, _⟩ := n
  exact e b _ h (ne_of h h1 (by intro z; cases z)) (ne_of h h2 (by intro z; cases z)) (ne_of h h3 (by intro z; cases z)) n1 n2 n3 n4 n5
theorem WorldAt.putA {H H1 : Hp} {wd la ls lm z nm : Addr} {r : Rec} {ws : List Str} {v v' : NetV} {q : Ar} {ys : List V} (h : WorldAt K H wd la ls lm ws v) (ap : Apt r wd la ls lm nm) (hy : H la = some (.lst ys)) (s : Same H H1) (hz : H1 z = some (.tup (awV ws q))) (e1 : v'.arr = v.arr ++ [q]) (e2 : v'.ss = v.ss) (e3 : v'.mm = v.mm) : WorldAt K (L2.upd H1 la (.lst (ys ++ [.ref z]))) wd la ls lm ws v' := by
  obtain ⟨h1, ⟨y1, a1, b1⟩, ⟨y2, a2, b2⟩, ⟨y3, a3, b3⟩⟩ := h
  rw [hy] at a1
  obtain rfl : ys = y1 := by cases a1; rfl
  have hl := s _ _ hy
  have tk : Tk H1 (L2.upd H1 la (.lst (ys ++ [.ref z]))) := Tk.upd hl rfl
  refine ⟨by rw [upd_ne (ne_of (s _ _ h1) hl (by intro z; cases z))]; exact s _ _ h1, ⟨_, upd_same, ?_⟩, ⟨y2, by rw [upd_ne (Ne.symm ap.as_)]; exact s _ _ a2, by rw [e2]; exact tk.dts (noLsts_map (fun _ => rfl) _) (s.dts b2)⟩, ⟨y3, by rw [upd_ne (Ne.symm ap.am)]; exact s _ _ a3, by rw [e3]; exact tk.dts (noLsts_map (fun _ => rfl) _) (s.dts b3)⟩⟩
  rw [e1, List.map_append]
  exact DtVs.snoc (dt_aw (tk.sqT (SqT.of hz))) (tk.dts (noLsts_map (fun _ => rfl) _) (s.dts b1))
theorem WorldAt.putS {H H1 : Hp} {wd la ls lm z nm : Addr} {r : Rec} {ws : List Str} {v v' : NetV} {q : Str × Str} {ys : List V} (h : WorldAt K H wd la ls lm ws v) (ap : Apt r wd la ls lm nm) (hy : H ls = some (.lst ys)) (s : Same H H1) (hz : H1 z = some (.tup [.int (ix ws q.1), .int (ix ws q.2)])) (e1 : v'.arr = v.arr) (e2 : v'.ss = v.ss ++ [q]) (e3 : v'.mm = v.mm) : WorldAt K (L2.upd H1 ls (.lst (ys ++ [.ref z]))) wd la ls lm ws v' := by
  obtain ⟨h1, ⟨y1, a1, b1⟩, ⟨y2, a2, b2⟩, ⟨y3, a3, b3⟩⟩ := h
  rw [hy] at a2
  obtain rfl : ys = y2 := by cases a2; rfl
  have hl := s _ _ hy
  have tk : Tk H1 (L2.upd H1 ls (.lst (ys ++ [.ref z]))) := Tk.upd hl rfl
  refine ⟨by rw [upd_ne (ne_of (s _ _ h1) hl (by intro z; cases z))]; exact s _ _ h1, ⟨y1, by rw [upd_ne ap.as_]; exact s _ _ a1, by rw [e1]; exact tk.dts (noLsts_map (fun _ => rfl) _) (s.dts b1)⟩, ⟨_, upd_same, ?_⟩, ⟨y3, by rw [upd_ne (Ne.symm ap.sm)]; exact s _ _ a3, by rw [e3]; exact tk.dts (noLsts_map (fun _ => rfl) _) (s.dts b3)⟩⟩
  rw [e2, List.map_append]
  exact DtVs.snoc (dt_sw (tk.sqT (SqT.of hz))) (tk.dts (noLsts_map (fun _ => rfl) _) (s.dts b2))
theorem WorldAt.putM {H H1 : Hp} {wd la ls lm z nm : Addr} {r : Rec} {ws : List Str} {v v' : NetV} {q : Str × Str × Int} {ys : List V} (h : WorldAt K H wd la ls lm ws v) (ap : Apt r wd la ls lm nm) (hy : H lm = some (.lst ys)) (s : Same H H1) (hz : H1 z = some (.tup [.int (ix ws q.1), .int (ix ws q.2.1), .int q.2.2])) (e1 : v'.arr = v.arr) (e2 : v'.ss = v.ss) (e3 : v'.mm = v.mm ++ [q]) : WorldAt K (L2.upd H1 lm (.lst (ys ++ [.ref z]))) wd la ls lm ws v' := by
  obtain ⟨h1, ⟨y1, a1, b1⟩, ⟨y2, a2, b2⟩, ⟨y3, a3, b3⟩⟩ := h
  rw [hy] at a3
  obtain rfl : ys = y3 := by cases a3; rfl
  have hl := s _ _ hy
  have tk : Tk H1 (L2.upd H1 lm (.lst (ys ++ [.ref z]))) := Tk.upd hl rfl
  refine ⟨by rw [upd_ne (ne_of (s _ _ h1) hl (by intro z; cases z))]; exact s _ _ h1, ⟨y1, by rw [upd_ne ap.am]; exact s _ _ a1, by rw [e1]; exact tk.dts (noLsts_map (fun _ => rfl) _) (s.dts b1)⟩, ⟨y2, by rw [upd_ne ap.sm]; exact s _ _ a2, by rw [e2]; exact tk.dts (noLsts_map (fun _ => rfl) _) (s.dts b2)⟩, ⟨_, upd_same, ?_⟩⟩
  rw [e3, List.map_append]
  exact DtVs.snoc (dt_mw (tk.sqT (SqT.of hz))) (tk.dts (noLsts_map (fun _ => rfl) _) (s.dts b3))
def spDeed (K : PySem.W.Frag) (C : Addr) : Sp := fun vs H Q _ => ∃ p r v wd la ls lm ws nm xl, ∃ xs : List Int, ∃ i, vs = [.ref p, .ref wd, .ref nm, .ref xl] ∧ NetAt K C H p r v ∧ WorldAt K H wd la ls lm ws v ∧ Apt r wd la ls lm nm ∧ H nm = some (.lst (ws.map V.str)) ∧ H xl = some (.lst (xs.map V.int)) ∧ xs.length = 6 ∧ NmOk ws ∧ Nx ws v i ∧ i < 20 ∧
  ∀ v' H', Fr p r la ls lm H H' → NetAt K C H' p r v' → WorldAt K H' wd la ls lm ws v' → Nx ws v' (i + 1) → Q .non H'
set_option maxHeartbeats 8000000 in
theorem ok_deed (T : Tx K mg a) : Cal P w K mg base CX0 6 "_law_deed" ["_law_net", "_law_world", "_law_names_here", "_law_xs"] [] (spDeed K a.Net) := T.d__law_deed.cal fun f fd F => by
  have m_Net_put_arrow := ok_arrow (P := P) (w := w) (base := base) T
  have m_Net_put_same := ok_same (P := P) (w := w) (base := base) T
  have m_Net_put_most := ok_most (P := P) (w := w) (base := base) T
  have m_Net_take_arrow := ok_take (P := P) (w := w) (base := base) T
  refine F.ok sc__law_deed (fun vs H Q E h => ?_) (fun cdv A outer s H vs Q E hr h => ?_)
  · obtain ⟨p, r, v, wd, la, ls, lm, ws, nm, xl, xs, i, rfl, _⟩ := h
    rfl
  · obtain ⟨p, r, v, wd, la, ls, lm, ws, nm, xl, xs, i, rfl, N, Wo, ap, hnm, hxl, x6, ok, X, hi, k⟩ := h
    have wlo := ok.lo
    have whi := ok.hi
    have wlen : ((ws.map V.str).length : Int) = (ws.length : Int) := by rw [List.length_map]
    obtain ⟨z0, _, az0⟩ := at_int (ns := xs) (k := 0) (by decide) (by rw [x6]; decide)
    obtain ⟨z1, _, az1⟩ := at_int (ns := xs) (k := 1) (by decide) (by rw [x6]; decide)
    obtain ⟨z2, _, az2⟩ := at_int (ns := xs) (k := 2) (by decide) (by rw [x6]; decide)
    obtain ⟨z3, _, az3⟩ := at_int (ns := xs) (k := 3) (by decide) (by rw [x6]; decide)
    obtain ⟨z4, _, az4⟩ := at_int (ns := xs) (k := 4) (by decide) (by rw [x6]; decide)
    obtain ⟨z5, _, az5⟩ := at_int (ns := xs) (k := 5) (by decide) (by rw [x6]; decide)
    have skip : Q .non H := k v H (fun b o e _ _ _ _ _ _ _ _ => e) N Wo X.up
    refine ⟨_, (pss_cons (ps_set (i := 4) sc__law_deed.nd rfl (by first | exact Or.inl rfl | exact Or.inr rfl) (pe_op op_mod (pe_ix ix_list (pv 3) pe_int (fun _ _ => rfl)) (pe_callB call_len_seq rfl T.n_len bt_len (pa_cons (pv 2) pa_nil))))
      (pss_cons (ps_set (i := 5) sc__law_deed.nd rfl (by first | exact Or.inl rfl | exact Or.inr rfl) (pe_op op_mod (pe_op op_add (pe_op op_add (pv 4) pe_int) (pe_op op_mod (pe_ix ix_list (pv 3) pe_int (fun _ _ => rfl)) (pe_callB call_max2H rfl T.n_max bt_max (pa_cons pe_int (pa_cons (pe_op op_sub (pe_callB call_len_seq rfl T.n_len bt_len (pa_cons (pv 2) pa_nil)) pe_int) pa_nil))))) (pe_callB call_len_seq rfl T.n_len bt_len (pa_cons (pv 2) pa_nil))))
      (pss_cons (ps_set (i := 6) sc__law_deed.nd rfl (by first | exact Or.inl rfl | exact Or.inr rfl) (pe_op op_mod (pe_ix ix_list (pv 3) pe_int (fun _ _ => rfl)) pe_int))
      (pss_cons (ps_if (pt_cmpR op_eq (pv 4) (pv 5) (nomark _)) (pss_one ps_retN) pss_nil)
      (pss_one (ps_if (pt_cmpR op_lt (pv 6) pe_int (nomark _)) (pss_cons (ps_set (i := 7) sc__law_deed.nd rfl (by first | exact Or.inl rfl | exact Or.inr rfl) (pe_op op_add pe_int (pe_op op_mod (pe_ix ix_list (pv 3) pe_int (fun _ _ => rfl)) (pe_ix ix_list (pe_lst (pa_cons pe_int (pa_cons pe_int (pa_cons pe_int pa_nil)))) (pe_op op_mod (pe_ix ix_list (pv 3) pe_int (fun _ _ => rfl)) pe_int) (fun _ _ => rfl)))))
      (pss_cons (ps_set (i := 8) sc__law_deed.nd rfl (by first | exact Or.inl rfl | exact Or.inr rfl) (pe_op op_add pe_int (pe_op op_mod (pe_ix ix_list (pv 3) pe_int (fun _ _ => rfl)) (pe_ix ix_list (pe_lst (pa_cons pe_int (pa_cons (pe_op op_pow pe_int pe_int) pa_nil))) (pe_op op_mod (pe_op op_fdiv (pe_ix ix_list (pv 3) pe_int (fun _ _ => rfl)) pe_int) pe_int) (fun _ _ => rfl)))))
      (pss_cons (ps_set (i := 9) sc__law_deed.nd rfl (by first | exact Or.inl rfl | exact Or.inr rfl) (pe_mcalX (pv 0) T.c_Net m_Net_put_arrow px_never (hr.mono (by decide)) (pa_cons (pe_ix ix_list (pv 2) (pv 4) (fun _ _ => rfl)) (pa_cons (pe_ix ix_list (pv 2) (pv 5) (fun _ _ => rfl)) (pa_cons (pv 7) (pa_cons (pv 8) pa_nil))))))
      (pss_one (ps_expr (pe_bm PySem.F.plainAttrs_list PySem.F.slot_list_append PySem.F.type_list_append mt_append (pe_dget (hu_of hr) (pv 1) pe_str (fun _ _ => rfl)) (pa_cons (pe_tup (pa_cons (pv 9) (pa_cons (pv 4) (pa_cons (pv 5) (pa_cons (pv 7) (pa_cons (pv 8) pa_nil)))))) pa_nil))))))) (pss_one (ps_if (pt_cmpR op_eq (pv 6) pe_int (nomark _)) (pss_cons (ps_expr (pe_mcalX (pv 0) T.c_Net m_Net_put_same px_never (hr.mono (by decide)) (pa_cons (pe_ix ix_list (pv 2) (pv 4) (fun _ _ => rfl)) (pa_cons (pe_ix ix_list (pv 2) (pv 5) (fun _ _ => rfl)) pa_nil))))
      (pss_one (ps_expr (pe_bm PySem.F.plainAttrs_list PySem.F.slot_list_append PySem.F.type_list_append mt_append (pe_dget (hu_of hr) (pv 1) pe_str (fun _ _ => rfl)) (pa_cons (pe_tup (pa_cons (pv 4) (pa_cons (pv 5) pa_nil))) pa_nil))))) (pss_one (ps_if (pt_cmpR op_lt (pv 6) pe_int (nomark _)) (pss_cons (ps_set (i := 10) sc__law_deed.nd rfl (by first | exact Or.inl rfl | exact Or.inr rfl) (pe_op op_mod (pe_ix ix_list (pv 3) pe_int (fun _ _ => rfl)) (pe_ix ix_list (pe_lst (pa_cons pe_int (pa_cons pe_int pa_nil))) (pe_op op_mod (pe_ix ix_list (pv 3) pe_int (fun _ _ => rfl)) pe_int) (fun _ _ => rfl))))
      (pss_cons (ps_expr (pe_mcalX (pv 0) T.c_Net m_Net_put_most px_never (hr.mono (by decide)) (pa_cons (pe_ix ix_list (pv 2) (pv 4) (fun _ _ => rfl)) (pa_cons (pe_ix ix_list (pv 2) (pv 5) (fun _ _ => rfl)) (pa_cons (pv 10) pa_nil)))))
      (pss_one (ps_expr (pe_bm PySem.F.plainAttrs_list PySem.F.slot_list_append PySem.F.type_list_append mt_append (pe_dget (hu_of hr) (pv 1) pe_str (fun _ _ => rfl)) (pa_cons (pe_tup (pa_cons (pv 4) (pa_cons (pv 5) (pa_cons (pv 10) pa_nil)))) pa_nil)))))) (pss_one (ps_if (pt_cmpR (op_neD hr.units) (pe_dget (hu_of hr) (pv 1) pe_str (fun _ _ => rfl)) (pe_lst pa_nil) (nomark _)) (pss_cons (ps_set (i := 11) sc__law_deed.nd rfl (by first | exact Or.inl rfl | exact Or.inr rfl) (pe_bm PySem.F.plainAttrs_list PySem.F.slot_list_pop PySem.F.type_list_pop mt_popAt (pe_dget (hu_of hr) (pv 1) pe_str (fun _ _ => rfl)) (pa_cons (pe_op op_mod (pe_ix ix_list (pv 3) pe_int (fun _ _ => rfl)) (pe_callB call_len_seq rfl T.n_len bt_len (pa_cons (pe_dget (hu_of hr) (pv 1) pe_str (fun _ _ => rfl)) pa_nil))) pa_nil)))
      (pss_one (ps_expr (pe_mcalX (pv 0) T.c_Net m_Net_take_arrow px_never (hr.mono (by decide)) (pa_cons (pe_ix ix_tup (pv 11) pe_int (fun _ _ => rfl)) pa_nil))))) pss_nil)))))))))))), ?_⟩
    refine ⟨_, rfl, xl, _, _, _, rfl, rfl, SqL.of hxl, az1, _, rfl, nm, _, rfl, .inl (SqL.of hnm), _, _, rfl, rfl, (by rw [wlen]; omega), ?_⟩
    refine ⟨_, rfl, _, _, rfl, rfl, _, rfl, xl, _, _, _, rfl, rfl, SqL.of hxl, az2, _, rfl, nm, _, rfl, .inl (SqL.of hnm), _, _, rfl, rfl, _, _, rfl, _, _, rfl, rfl, (by rw [wlen]; split <;> omega), _, _, rfl, rfl, _, rfl, nm, _, rfl, .inl (SqL.of hnm), _, _, rfl, rfl, (by rw [wlen]; omega), ?_⟩
    dsimp only [gName]
    rw [wlen]
    have o0 : 0 ≤ z1 % (ws.length : Int) := Int.emod_nonneg _ (by omega)
    have o1 : z1 % (ws.length : Int) < ws.length := Int.emod_lt_of_pos _ (by omega)
    generalize (z1 % (ws.length : Int) + 1 + z2 % (if (ws.length : Int) - 1 > 1 then (ws.length : Int) - 1 else 1)) = u
    have t0 : 0 ≤ u % (ws.length : Int) := Int.emod_nonneg _ (by omega)
    have t1 : u % (ws.length : Int) < ws.length := Int.emod_lt_of_pos _ (by omega)
    obtain ⟨o, om, og, oa⟩ := at_strs o0 o1
    obtain ⟨t, tm, tg, ta⟩ := at_strs t0 t1
    have io : ix ws o = z1 % (ws.length : Int) := by rw [ix_get ok.nd og]; omega
    have it : ix ws t = u % (ws.length : Int) := by rw [ix_get ok.nd tg]; omega
    generalize z1 % (ws.length : Int) = x1 at o0 o1 og oa io ⊢
    generalize u % (ws.length : Int) = x2 at t0 t1 tg ta it ⊢
    refine ⟨_, rfl, xl, _, _, _, rfl, rfl, SqL.of hxl, az0, _, _, rfl, rfl, (by show (0 : Int) < 12; decide), ?_⟩
    generalize z0 % 12 = de
    dsimp only [gName]
    refine ⟨_, rfl, _, rfl, rfl, _, rfl, ?_⟩
    refine iteB (fun c => skip) (fun c => ?_)
    have ne : x1 ≠ x2 := fun e => by
      rw [e] at c
      simp at c
    have not_ : o ≠ t := fun e => ne (by rw [← io, ← it, e])
    refine ⟨_, rfl, _, _, rfl, rfl, _, rfl, ?_⟩
    refine iteB (fun c1 => ?_) (fun c1 => ?_)
    · -- an arrow
      refine ⟨_, rfl, xl, _, _, _, rfl, rfl, SqL.of hxl, az3, (by show 3 ≤ sizeLine; decide), fun y ny => ?_⟩
      have s1 : Same H (upd H y (.lst [.int 3, .int 3, .int 20])) := Same.new ny
      have h1y : upd H y (.lst [.int 3, .int 3, .int 20]) y = some (.lst [.int 3, .int 3, .int 20]) := upd_same
      generalize upd H y (.lst [.int 3, .int 3, .int 20]) = H1 at s1 h1y ⊢
      obtain ⟨m3, am3, mm3⟩ := at3 (x := 3) (y := 3) (z := 20) (m := z4 % 3) (Int.emod_nonneg _ (by decide)) (Int.emod_lt_of_pos _ (by decide))
      refine ⟨_, rfl, xl, _, _, _, rfl, rfl, SqL.of (s1 _ _ hxl), az4, _, _, rfl, rfl, (by show (0 : Int) < 3; decide), y, _, _, _, rfl, rfl, SqL.of h1y, am3, _, _, rfl, rfl, (by omega), _, _, rfl, rfl, ?_⟩
      have sp0 : 0 ≤ z3 % m3 := Int.emod_nonneg _ (by omega)
      have sp1 : z3 % m3 < m3 := Int.emod_lt_of_pos _ (by omega)
      dsimp only [gName]
      generalize z3 % m3 = sp at sp0 sp1 ⊢
      refine ⟨_, rfl, xl, _, _, _, rfl, rfl, SqL.of (s1 _ _ hxl), az5, _, _, rfl, rfl, ⟨by decide, by decide, by decide⟩, (by show 2 ≤ sizeLine; decide), fun y2 ny2 => ?_⟩
      have t6 : (10 : Int) ^ Int.toNat 6 = 1000000 := by decide
      have s2 := Same.new (o := .lst [.int 9, .int (10 ^ Int.toNat 6)]) ny2
      have h2y : upd H1 y2 (.lst [.int 9, .int (10 ^ Int.toNat 6)]) y2 = some (.lst [.int 9, .int (10 ^ Int.toNat 6)]) := upd_same
      generalize upd H1 y2 (.lst [.int 9, .int (10 ^ Int.toNat 6)]) = H2 at s2 h2y ⊢
      have t2 := s1.trans s2
      obtain ⟨m2, am2, mm2⟩ := at2 (x := 9) (y := 10 ^ Int.toNat 6) (m := z4 / 3 % 2) (Int.emod_nonneg _ (by decide)) (Int.emod_lt_of_pos _ (by decide))
      rw [t6] at mm2
      refine ⟨_, rfl, xl, _, _, _, rfl, rfl, SqL.of (t2 _ _ hxl), az4, _, _, rfl, rfl, ⟨by decide, by decide⟩, _, _, rfl, rfl, (by show (0 : Int) < 2; decide), y2, _, _, _, rfl, rfl, SqL.of h2y, am2, _, _, rfl, rfl, (by omega), _, _, rfl, rfl, ?_⟩
      have wt0 : 0 ≤ z5 % m2 := Int.emod_nonneg _ (by omega)
      have wt1 : z5 % m2 < m2 := Int.emod_lt_of_pos _ (by omega)
      dsimp only [gName]
      generalize z5 % m2 = wt at wt0 wt1 ⊢
      have N2 := N.same t2
      have W2 := Wo.same t2
      obtain ⟨dx, hp⟩ := N2.ex
      have hn2 := t2 _ _ hnm
      have la := X.la
      have ae := arrErr_ok X.nv (sp := 1 + sp) (wt := 1 + wt) om tm not_ (by omega) (by omega) (by omega) (by omega) (by omega)
      refine ⟨_, rfl, p, dx, _, rfl, hp, by rfl, _, rfl, _, rfl, nm, _, _, _, rfl, rfl, SqL.of hn2, oa, _, rfl, _, rfl, nm, _, _, _, rfl, rfl, SqL.of hn2, ta, _, rfl, _, rfl, p, r, v, o, t, _, _, rfl, N2, by omega, X.nv.nn, fun _ H3 kp3 N3 => ?_, fun er he => ?_⟩
      · have W3 := W2.kp kp3 N2 ap
        obtain ⟨ya, hya, dya⟩ := W3.a
        have yl : ya.length ≤ 100 := by rw [← dya.length, List.length_map]; omega
        dsimp only [gName]
        refine ⟨_, rfl, wd, _, rfl, get_a W3.d, .inl ⟨rfl, _, SqL.of hya⟩, _, rfl, _, rfl, _, rfl, _, rfl, _, rfl, (by show 5 ≤ sizeLine; decide), fun z nz => ?_⟩
        have s4 := Same.new (o := .tup [.int v.nn, .int x1, .int x2, .int (1 + sp), .int (1 + wt)]) nz
        refine ⟨_, _, _, rfl, rfl, s4 _ _ hya, by rw [sizeLine_eq]; omega, ?_⟩
        refine k { v with arr := v.arr ++ [⟨v.nn, o, t, 1 + sp, 1 + wt⟩], nn := v.nn + 1 } _ (fun b ob e n1 n2 n3 n4 n5 n6 n7 n8 => by rw [upd_ne n6]; exact s4 _ _ (kp3 _ _ (t2 _ _ e) n1 n2 n3 n4 n5)) ((N3.same s4).upd (s4 _ _ hya) ap.a1 ap.a2) (W3.putA ap hya s4 (by rw [upd_same]; unfold awV; rw [io, it]) rfl rfl rfl) ⟨X.nv.put om tm not_, X.es, X.em, by rw [List.length_append]; exact Nat.succ_le_succ la, Nat.le_succ_of_le X.ls, Nat.le_succ_of_le X.lm, fun q hq => ?_⟩
        rcases List.mem_append.mp hq with hq | hq
        · exact X.wt q hq
        · rw [List.mem_singleton.mp hq]
          show 1 ≤ 1 + wt ∧ 1 + wt ≤ 1000000
          omega
      · rw [ae] at he
        cases he
    refine ⟨_, rfl, rfl, _, rfl, ?_⟩
    refine iteB (fun c2 => ?_) (fun c2 => ?_)
    · -- a same
      obtain ⟨dx, hp⟩ := N.ex
      have ls_ := X.ls
      have le : lim v.kvs v.ss.length o t none = none := by rw [lim_none (two_ok X.nv om tm not_), if_neg (by decide), if_neg (by omega)]
      refine ⟨_, rfl, p, dx, _, rfl, hp, by rfl, _, rfl, _, rfl, nm, _, _, _, rfl, rfl, SqL.of hnm, oa, _, rfl, _, rfl, nm, _, _, _, rfl, rfl, SqL.of hnm, ta, p, r, v, o, t, rfl, N, by omega, fun _ H3 kp3 N3 => ?_, fun er he => ?_⟩
      · have W3 := Wo.kp kp3 N ap
        obtain ⟨ya, hya, dya⟩ := W3.s
        have yl : ya.length ≤ 100 := by rw [← dya.length, List.length_map]; omega
        refine ⟨_, rfl, wd, _, rfl, get_s W3.d, .inl ⟨rfl, _, SqL.of hya⟩, _, rfl, _, rfl, (by show 2 ≤ sizeLine; decide), fun z nz => ?_⟩
        have s4 := Same.new (o := .tup [.int x1, .int x2]) nz
        refine ⟨_, _, _, rfl, rfl, s4 _ _ hya, by rw [sizeLine_eq]; omega, ?_⟩
        refine k { v with ss := v.ss ++ [(o, t)] } _ (fun b ob e n1 n2 n3 n4 n5 n6 n7 n8 => by rw [upd_ne n7]; exact s4 _ _ (kp3 _ _ e n1 n2 n3 n4 n5)) ((N3.same s4).upd (s4 _ _ hya) ap.s1 ap.s2) (W3.putS ap hya s4 (q := (o, t)) (by rw [upd_same]; dsimp only; rw [io, it]) rfl rfl rfl) ⟨⟨X.nv.kv, X.nv.rise, X.nv.nn, X.nv.n0, X.nv.ends⟩, fun q hq => ?_, X.em, Nat.le_succ_of_le X.la, by rw [List.length_append]; exact Nat.succ_le_succ ls_, Nat.le_succ_of_le X.lm, X.wt⟩
        rcases List.mem_append.mp hq with hq | hq
        · exact X.es q hq
        · rw [List.mem_singleton.mp hq]
          exact ⟨om, tm⟩
      · rw [le] at he
        cases he
    refine ⟨_, rfl, _, _, rfl, rfl, _, rfl, ?_⟩
    refine iteB (fun c3 => ?_) (fun c3 => ?_)
    · -- a most
      refine ⟨_, rfl, xl, _, _, _, rfl, rfl, SqL.of hxl, az3, (by show 2 ≤ sizeLine; decide), fun y ny => ?_⟩
      have s1 : Same H (upd H y (.lst [.int 9, .int 100])) := Same.new ny
      have h1y : upd H y (.lst [.int 9, .int 100]) y = some (.lst [.int 9, .int 100]) := upd_same
      generalize upd H y (.lst [.int 9, .int 100]) = H1 at s1 h1y ⊢
      obtain ⟨m2, am2, mm2⟩ := at2 (x := 9) (y := 100) (m := z4 % 2) (Int.emod_nonneg _ (by decide)) (Int.emod_lt_of_pos _ (by decide))
      refine ⟨_, rfl, xl, _, _, _, rfl, rfl, SqL.of (s1 _ _ hxl), az4, _, _, rfl, rfl, (by show (0 : Int) < 2; decide), y, _, _, _, rfl, rfl, SqL.of h1y, am2, _, _, rfl, rfl, (by omega), ?_⟩
      have mo0 : 0 ≤ z3 % m2 := Int.emod_nonneg _ (by omega)
      have mo1 : z3 % m2 < m2 := Int.emod_lt_of_pos _ (by omega)
      dsimp only [gName]
      generalize z3 % m2 = mo at mo0 mo1 ⊢
      have N1 := N.same s1
      have W1 := Wo.same s1
      obtain ⟨dx, hp⟩ := N1.ex
      have hn1 := s1 _ _ hnm
      have lm_ := X.lm
      have bd : bad (some mo) = false := by
        show (decide (mo < 0) || decide (99 < mo)) = false
        rw [decide_eq_false (by omega), decide_eq_false (by omega)]
        rfl
      have le : lim v.kvs v.mm.length o t (some mo) = none := by rw [lim_none (two_ok X.nv om tm not_), bd, if_neg (by decide), if_neg (by omega)]
      refine ⟨_, rfl, p, dx, _, rfl, hp, by rfl, _, rfl, _, rfl, nm, _, _, _, rfl, rfl, SqL.of hn1, oa, _, rfl, _, rfl, nm, _, _, _, rfl, rfl, SqL.of hn1, ta, _, rfl, p, r, v, o, t, _, rfl, N1, by omega, fun _ H3 kp3 N3 => ?_, fun er he => ?_⟩
      · have W3 := W1.kp kp3 N1 ap
        obtain ⟨ya, hya, dya⟩ := W3.m
        have yl : ya.length ≤ 100 := by rw [← dya.length, List.length_map]; omega
        refine ⟨_, rfl, wd, _, rfl, get_m W3.d, .inl ⟨rfl, _, SqL.of hya⟩, _, rfl, _, rfl, _, rfl, (by show 3 ≤ sizeLine; decide), fun z nz => ?_⟩
        have s4 := Same.new (o := .tup [.int x1, .int x2, .int mo]) nz
        refine ⟨_, _, _, rfl, rfl, s4 _ _ hya, by rw [sizeLine_eq]; omega, ?_⟩
        refine k { v with mm := v.mm ++ [(o, t, mo)] } _ (fun b ob e n1 n2 n3 n4 n5 n6 n7 n8 => by rw [upd_ne n8]; exact s4 _ _ (kp3 _ _ (s1 _ _ e) n1 n2 n3 n4 n5)) ((N3.same s4).upd (s4 _ _ hya) ap.m1 ap.m2) (W3.putM ap hya s4 (q := (o, t, mo)) (by rw [upd_same]; dsimp only; rw [io, it]) rfl rfl rfl) ⟨⟨X.nv.kv, X.nv.rise, X.nv.nn, X.nv.n0, X.nv.ends⟩, X.es, fun q hq => ?_, Nat.le_succ_of_le X.la, Nat.le_succ_of_le X.ls, by rw [List.length_append]; exact Nat.succ_le_succ lm_, X.wt⟩
        rcases List.mem_append.mp hq with hq | hq
        · exact X.em q hq
        · rw [List.mem_singleton.mp hq]
          exact ⟨om, tm⟩
      · rw [le] at he
        cases he
    -- an arrow is taken
    obtain ⟨ya, hya, dya⟩ := Wo.a
    have yal : ya.length = v.arr.length := by rw [← dya.length, List.length_map]
    have la_ := X.la
    refine ⟨_, rfl, wd, _, rfl, get_a Wo.d, (by show 0 ≤ sizeLine; decide), fun z nz => ?_⟩
    have s1 : Same H (upd H z (.lst [])) := Same.new nz
    have h1z : upd H z (.lst []) z = some (.lst []) := upd_same
    generalize upd H z (.lst []) = H1 at s1 h1z ⊢
    have W1 := Wo.same s1
    have N1 := N.same s1
    have hya1 := s1 _ _ hya
    have dya1 := s1.dts dya
    refine ⟨.lst (v.arr.map (awD ws)), .lst [], rfl, rfl, ⟨la, ya, rfl, SqL.of hya1, dya1⟩, ⟨z, [], rfl, SqL.of h1z, rfl⟩, deeps_map (fun q => deep_aw q) _, _, rfl, ?_⟩
    refine iteB (fun c4 => ?_) (fun c4 => ?_)
    · have hpos : 0 < v.arr.length := Nat.pos_of_ne_zero fun e => by
        rw [List.length_eq_zero_iff.mp e] at c4
        cases c4
      have i0 : 0 ≤ z3 % (ya.length : Int) := Int.emod_nonneg _ (by omega)
      have i1 : z3 % (ya.length : Int) < ya.length := Int.emod_lt_of_pos _ (by omega)
      have hk : (z3 % (ya.length : Int)).toNat < v.arr.length := by omega
      obtain ⟨q, hq⟩ := get_of (l := v.arr) hk
      obtain ⟨yk, hyk⟩ := get_of (l := ya) (j := (z3 % (ya.length : Int)).toNat) (by omega)
      obtain ⟨q', hq', dq⟩ := dts_get dya1 hyk
      rw [hq] at hq'
      obtain rfl : q = q' := Option.some.inj hq'
      obtain ⟨tq, rfl, htq⟩ := un_aw dq
      have em : (v.arr.map (awD ws)).eraseIdx (z3 % (ya.length : Int)).toNat = (without v.arr q.num).map (awD ws) := by rw [erase_without (rise_nodup X.nv.rise) hq, erase_map]
      have si : seqIndex? (z3 % (ya.length : Int)) ya.length = some (z3 % (ya.length : Int)).toNat := by
        unfold seqIndex?
        simp
        omega
      refine ⟨_, rfl, wd, _, rfl, get_a W1.d, .inl ⟨rfl, _, SqL.of hya1⟩, _, rfl, xl, _, _, _, rfl, rfl, SqL.of (s1 _ _ hxl), az3, _, rfl, wd, _, rfl, get_a W1.d, la, _, rfl, .inl (SqL.of hya1), _, _, rfl, rfl, (by show (0 : Int) < (ya.length : Int); omega), la, ya, _, _, _, rfl, rfl, hya1, by omega, by omega, si, hyk, ?_⟩
      have tk2 : Tk H1 (upd H1 la (.lst (ya.eraseIdx (z3 % (ya.length : Int)).toNat))) := Tk.upd hya1 rfl
      have N2 := N1.upd (o := .lst (ya.eraseIdx (z3 % (ya.length : Int)).toNat)) hya1 ap.a1 ap.a2
      have W2 : WorldAt K (upd H1 la (.lst (ya.eraseIdx (z3 % (ya.length : Int)).toNat))) wd la ls lm ws { v with arr := without v.arr q.num } := by
        obtain ⟨h1, _, ⟨y2, a2, b2⟩, ⟨y3, a3, b3⟩⟩ := W1
        refine ⟨by rw [upd_ne (ne_of h1 hya1 (by intro z; cases z))]; exact h1, ⟨_, upd_same, ?_⟩, ⟨y2, by rw [upd_ne (Ne.symm ap.as_)]; exact a2, tk2.dts (noLsts_map (fun _ => rfl) _) b2⟩, ⟨y3, by rw [upd_ne (Ne.symm ap.am)]; exact a3, tk2.dts (noLsts_map (fun _ => rfl) _) b3⟩⟩
        show DtVs K _ ((without v.arr q.num).map (awD ws)) _
        rw [← em]
        exact dts_erase (tk2.dts (noLsts_map (fun _ => rfl) _) dya1)
      obtain ⟨dx, hp⟩ := N2.ex
      dsimp only [gName]
      refine ⟨_, rfl, p, dx, _, rfl, hp, by rfl, _, rfl, tq, _, _, _, rfl, rfl, tk2.sqT htq, rfl, p, r, v, q.num, rfl, N2, fun _ H3 kp3 N3 => ?_, fun hf => ?_⟩
      · have wl := without_len v.arr q.num
        exact k { v with arr := without v.arr q.num } H3 (fun b ob e n1 n2 n3 n4 n5 n6 n7 n8 => kp3 _ _ (by rw [upd_ne n6]; exact s1 _ _ e) n1 n2 n3 n4 n5) N3 (W2.kp kp3 N2 ap) ⟨X.nv.take q.num, X.es, X.em, Nat.le_trans wl (Nat.le_succ_of_le la_), Nat.le_succ_of_le X.ls, Nat.le_succ_of_le X.lm, fun x hx => X.wt x (mem_without hx)⟩
      · rw [has_num (List.mem_of_getElem? hq)] at hf
        cases hf
    · exact k v H1 (fun b o e _ _ _ _ _ _ _ _ => s1 _ _ e) N1 W1 X.up
end
end K41
namespace K41
open PySem L2
theorem ixN_nat {n : Nat} {k : Int} (h0 : 0 ≤ k) (h1 : k < n) : ixN n k = some k.toNat := by
  unfold ixN
  rw [if_pos h0, if_pos h1]
section
variable {P : Program} {w : World} {K : PySem.W.Frag} {mg : Str → Option Value} {base : Heap} {a : Adr}
def spKinds (K : PySem.W.Frag) : Sp := fun vs H Q _ => ∃ l ys, ∃ ws : List Wi, vs = [.ref l] ∧ H l = some (.lst ys) ∧ DtVs K H (ws.map wD) ys ∧ Tps H ys ∧ ∀ H', Same H H' → Q (.bl true) H'
set_option maxHeartbeats 4000000 in
theorem ok_kinds (T : Tx K mg a) : Cal P w K mg base CX0 1 "_law_kinds" ["_law_told"] [] (spKinds K) := T.d__law_kinds.cal fun f fd F => by
  refine F.ok sc__law_kinds (fun vs H Q E h => ?_) (fun cdv A outer s H vs Q E hr h => ?_)
  · obtain ⟨l, ys, ws, rfl, _⟩ := h
    rfl
  · obtain ⟨l, ys, ws, rfl, hl, hd, tp, k⟩ := h
    refine ⟨_, (pss_cons (ps_if (pt_not (pt_val (pe_callB call_isinst rfl T.n_isinstance bt_isinstance (pa_cons (pv 0) (pa_cons (pe_gTy rfl T.n_list bt_list) pa_nil))))) (pss_one (ps_ret pe_bl)) pss_nil)
      (pss_cons (ps_for PassesOwn.never rfl (pi_list (pv 0)) (pg_name (i := 1) sc__law_kinds.nd rfl (by first | exact Or.inl rfl | exact Or.inr rfl)) (pss_cons (ps_if (PW.pt (pw_or (pt_not (pt_val (pe_callB call_isinst rfl T.n_isinstance bt_isinstance (pa_cons (pv 1) (pa_cons (pe_gTy rfl T.n_tuple bt_tuple) pa_nil))))) (pw_or1 (pt_cmpR op_ne (pe_callB call_len_seq rfl T.n_len bt_len (pa_cons (pv 1) pa_nil)) pe_int (nomark _))))) (pss_one (ps_ret pe_bl)) pss_nil)
      (pss_one (ps_if (pt_cmpR (op_neD hr.units) (pe_comp (N := ["_law_one"]) (cap := [none]) rfl (cap_ok (osc := defScope s__law_kinds) (XN := ["_law_told", "_law_wish"]) rfl rfl (by decide +kernel)) (pi_tup (pv 1)) (fun cl C s H fp pins => (pg_name (i := 0) (show (["_law_one"] : List Str).Nodup by decide +kernel) rfl (by first | exact Or.inl rfl | exact Or.inr rfl))) (fun cl C s H fp pins => pif_one (PW.pt (pw_or (pt_not (pt_val (pe_callB (callK_isinst (K := K) rfl) rfl T.n_isinstance bt_isinstance (pa_cons (pv 0) (pa_cons (pe_gTy rfl T.n_int bt_int) pa_nil))))) (pw_or1 (pt_val (pe_callB (callK_isinst (K := K) rfl) rfl T.n_isinstance bt_isinstance (pa_cons (pv 0) (pa_cons (pe_gTy rfl T.n_bool bt_bool) pa_nil)))))))) (fun cl C s H fp pins => (pv 0))) (pe_lst pa_nil) (nomark _)) (pss_one (ps_ret pe_bl)) pss_nil))))
      (pss_one (ps_ret pe_bl)))), ?_⟩
    refine ⟨_, rfl, _, _, _, _, _, rfl, rfl, .lst hl, T.kb_list_list, _, rfl, iteOr rfl ?_⟩
    refine ⟨_, rfl, l, rfl, ⟨_, SqL.of hl⟩, for_list (K := K) (a := l) (xs := ys) (fun i σ H' => ∃ v1, σ = [some (.ref l), v1] ∧ Same H H') ⟨none, rfl, Same.refl _⟩ ?_ ?_ ?_⟩
    · rintro i σ H' _ ⟨_, rfl, sm⟩
      exact SqL.of (sm _ _ hl)
    · rintro i y σ H' hy ⟨v1, rfl, sm⟩
      obtain ⟨q, hq, dq⟩ := dts_get hd hy
      obtain ⟨t, rfl, ht0⟩ := un_w dq
      have ht := sm.sqT ht0
      obtain ⟨t', zs, e', hz0⟩ := tp _ (List.mem_of_getElem? hy)
      cases e'
      dsimp only [gName]
      refine ⟨_, rfl, _, _, _, _, _, rfl, rfl, TyOf.tup (sm _ _ hz0), T.kb_tuple_tuple, true, rfl, iteOr rfl ?_⟩
      refine ⟨_, rfl, t, _, rfl, .inr ht, rfl, _, rfl, iteOr (by rfl) ?_⟩
      refine ⟨_, rfl, t, rfl, ⟨_, ht⟩, fun D hD => ?_⟩
      refine comp_tup (K := K) (a := t) (xs := wV q) (fun i τ G => ∃ v1, τ = [v1] ∧ Same H' G ∧ G D = some (.lst [])) ⟨none, rfl, Same.new hD, upd_same⟩ ?_ ?_ ?_
      · rintro i τ G _ ⟨_, rfl, sg, _⟩
        exact sg.sqT ht
      · rintro i u τ G hu ⟨v1, rfl, sg, hy⟩
        have hi3 : i < 4 := (List.getElem?_eq_some_iff.mp hu).1
        obtain ⟨n, rfl⟩ : ∃ n : Int, u = .int n := by
          rcases i with _ | _ | _ | _ | i
          · exact ⟨_, (Option.some.inj hu).symm⟩
          · exact ⟨_, (Option.some.inj hu).symm⟩
          · exact ⟨_, (Option.some.inj hu).symm⟩
          · exact ⟨_, (Option.some.inj hu).symm⟩
          · omega
        dsimp only [gName]
        refine ⟨_, rfl, _, _, _, _, _, rfl, rfl, .int _, T.kb_int_int, _, rfl, iteOr rfl ?_⟩
        refine ⟨_, rfl, _, _, _, _, _, rfl, rfl, .int _, T.kb_int_bool, _, rfl, iteOr rfl ?_⟩
        exact ⟨_, rfl, sg, hy⟩
      rintro τ G ⟨v1, rfl, sg, hy⟩
      refine ⟨(by show 0 ≤ sizeLine; decide), fun z nz => ?_⟩
      have sz : Same G (upd G z (.lst [])) := Same.new nz
      have hz : upd G z (.lst []) z = some (.lst []) := upd_same
      generalize upd G z (.lst []) = G1 at sz hz ⊢
      refine ⟨.lst [], .lst [], rfl, rfl, ⟨D, [], rfl, SqL.of (sz _ _ hy), rfl⟩, ⟨z, [], rfl, SqL.of hz, rfl⟩, trivial, _, rfl, iteOr rfl ?_⟩
      exact ⟨_, rfl, sm.trans (sg.trans sz)⟩
    · rintro σ H' ⟨v1, rfl, sm⟩
      exact k H' sm
def spLevels (K : PySem.W.Frag) : Sp := fun vs H Q _ => ∃ nm l xl, ∃ ws : List Str, ∃ wi : List Wi, ∃ xs : List Int, vs = [.ref nm, .ref l, .ref xl] ∧ H nm = some (.lst (ws.map V.str)) ∧ WsAt K H l wi ∧ (∀ q ∈ wi, InR ws.length q) ∧ ws.length ≤ 6 ∧ H xl = some (.lst (xs.map V.int)) ∧ xs.length = 8 ∧
  ∀ g (lv : List Int) H', Same H H' → H g = none → H' g = some (.lst (lv.map V.int)) → lv.length = ws.length → Q (.ref g) H'
set_option maxHeartbeats 4000000 in
theorem ok_levels (T : Tx K mg a) : Cal P w K mg base CX0 1 "_law_levels" ["_law_names_here", "_law_wishes", "_law_xs"] [] (spLevels K) := T.d__law_levels.cal fun f fd F => by
  refine F.ok sc__law_levels (fun vs H Q E h => ?_) (fun cdv A outer s H vs Q E hr h => ?_)
  · obtain ⟨nm, l, xl, ws, wi, xs, rfl, _⟩ := h
    rfl
  · obtain ⟨nm, l, xl, ws, wi, xs, rfl, hnm, ⟨ws_, hl, hd⟩, hin, w6, hxl, x8, k⟩ := h
    obtain ⟨z6, _, az6⟩ := at_int (ns := xs) (k := 6) (by decide) (by rw [x8]; decide)
    obtain ⟨z7, _, az7⟩ := at_int (ns := xs) (k := 7) (by decide) (by rw [x8]; decide)
    have wlen : ((ws.map V.str).length : Int) = (ws.length : Int) := by rw [List.length_map]
    refine ⟨_, (pss_cons (ps_setC (i := 3) sc__law_levels.nd rfl rfl (N := ["_law_k", "_law_xs"]) (cap := [none, some 2]) rfl (cap_ok (osc := defScope s__law_levels) (XN := ["_law_names_here", "_law_wishes", "_law_xs", "_law_levels_here", "_law_turn", "_law_one", "_law_other", "_law_least", "_law_weight"]) rfl rfl (by decide +kernel)) (pi_range1 rfl T.n_range (pa_cons (pe_callB call_len_seq rfl T.n_len bt_len (pa_cons (pv 0) pa_nil)) pa_nil)) (fun cl C s H fp pins => (pg_name (i := 0) (show (["_law_k", "_law_xs"] : List Str).Nodup by decide +kernel) rfl (by first | exact Or.inl rfl | exact Or.inr rfl))) (fun cl C s H fp pins => pif_nil) (fun cl C s H fp pins => (pe_op op_mod (pe_ix (ixK_list (K := K) rfl) (pv 1) (pv 0) (fun _ _ => rfl)) (pe_ix (ixK_list (K := K) rfl) (pe_lst (pa_cons pe_int (pa_cons pe_int (pa_cons pe_int pa_nil)))) (pe_op op_mod (pe_ix (ixK_list (K := K) rfl) (pv 1) pe_int (fun _ _ => rfl)) pe_int) (fun _ _ => rfl)))) (hsw := rfl))
      (pss_cons (ps_for PassesOwn.never rfl (pi_range1 rfl T.n_range (pa_cons (pe_op op_mod (pe_ix ix_list (pv 2) pe_int (fun _ _ => rfl)) pe_int) pa_nil)) (pg_name (i := 4) sc__law_levels.nd rfl (by first | exact Or.inl rfl | exact Or.inr rfl)) (pss_one (ps_for PassesOwn.never rfl (pi_list (pv 1)) (pg_tup rfl (pgs_cons (pg_name (i := 5) sc__law_levels.nd rfl (by first | exact Or.inl rfl | exact Or.inr rfl)) (pgs_cons (pg_name (i := 6) sc__law_levels.nd rfl (by first | exact Or.inl rfl | exact Or.inr rfl)) (pgs_cons (pg_name (i := 7) sc__law_levels.nd rfl (by first | exact Or.inl rfl | exact Or.inr rfl)) (pgs_cons (pg_name (i := 8) sc__law_levels.nd rfl (by first | exact Or.inl rfl | exact Or.inr rfl)) pgs_nil))))) (pss_one (ps_if (PW.pt (pw_and (pt_cmpR op_lt (pe_ix ix_list (pv 3) (pv 6) (fun _ _ => rfl)) (pe_op op_add (pe_ix ix_list (pv 3) (pv 5) (fun _ _ => rfl)) (pv 7)) (nomark _)) (pw_and1 (pt_cmpR op_lt (pe_op op_add (pe_ix ix_list (pv 3) (pv 5) (fun _ _ => rfl)) (pv 7)) pe_int (nomark _))))) (pss_one (ps_asg (pe_op op_add (pe_ix ix_list (pv 3) (pv 5) (fun _ _ => rfl)) (pv 7)) (pg_sub (pv 3) (pv 6) set_list))) pss_nil)))))
      (pss_one (ps_ret (pv 3))))), ?_⟩
    refine ⟨_, rfl, nm, _, rfl, .inl (SqL.of hnm), _, rfl, by rw [wlen]; omega, by rw [wlen]; omega, fun D hD => ?_⟩
    refine comp_range (n := ((ws.map V.str).length : Int).toNat) (fun i τ H' => ∃ v1, ∃ lv : List Int, τ = [v1, some (.ref xl)] ∧ Same H H' ∧ H' D = some (.lst (lv.map V.int)) ∧ lv.length = i) ⟨none, [], rfl, Same.new hD, upd_same, rfl⟩ ?_ ?_
    · rintro i τ H' hi ⟨v1, lv, rfl, sm, hy, ll⟩
      have hi' : i < ws.length := by
        rw [wlen] at hi
        omega
      obtain ⟨zk, _, azk⟩ := at_int (ns := xs) (k := 0 + (i : Int)) (by omega) (by rw [x8]; omega)
      obtain ⟨m3, am3, mm3⟩ := at3 (x := 31) (y := 4) (z := 12) (m := z6 % 3) (Int.emod_nonneg _ (by decide)) (Int.emod_lt_of_pos _ (by decide))
      dsimp only [gName]
      refine ⟨_, rfl, _, rfl, xl, _, _, _, rfl, rfl, SqL.of (sm _ _ hxl), azk, (by show 3 ≤ sizeLine; decide), fun y ny => ?_⟩
      have s1 : Same H' (upd H' y (.lst [.int 31, .int 4, .int 12])) := Same.new ny
      have h1y : upd H' y (.lst [.int 31, .int 4, .int 12]) y = some (.lst [.int 31, .int 4, .int 12]) := upd_same
      generalize upd H' y (.lst [.int 31, .int 4, .int 12]) = H1 at s1 h1y ⊢
      refine ⟨_, rfl, xl, _, _, _, rfl, rfl, SqL.of (s1 _ _ (sm _ _ hxl)), az6, _, _, rfl, rfl, (by show (0 : Int) < 3; decide), y, _, _, _, rfl, rfl, SqL.of h1y, am3, _, _, rfl, rfl, (by omega), _, s1 _ _ hy, by rw [List.length_map, sizeLine_eq]; omega, _, lv ++ [zk % m3], rfl, fun b u e => by rw [upd_ne (ne_of_none e hD)]; exact s1 _ _ (sm b u e), by rw [upd_same, List.map_append]; rfl, by rw [List.length_append, ll]; rfl⟩
    rintro τ H2 ⟨v1, lv, rfl, s2, h2D, ll⟩
    have ll' : lv.length = ws.length := by
      rw [wlen] at ll
      omega
    have t0 : 0 ≤ z7 % 12 := Int.emod_nonneg _ (by decide)
    have t1 : z7 % 12 < 12 := Int.emod_lt_of_pos _ (by decide)
    have xlD : xl ≠ D := ne_of_none hxl hD
    refine ⟨_, rfl, xl, _, _, _, rfl, rfl, SqL.of (s2 _ _ hxl), az7, _, _, rfl, rfl, (by show (0 : Int) < 12; decide), _, rfl, by omega, by omega, for_range (lo := 0) (n := (z7 % 12).toNat) (fun i σ H' => ∃ v4 v5 v6 v7 v8, ∃ lv : List Int, σ = [some (.ref nm), some (.ref l), some (.ref xl), some (.ref D), v4, v5, v6, v7, v8] ∧ Same H H' ∧ H' D = some (.lst (lv.map V.int)) ∧ lv.length = ws.length) ⟨none, none, none, none, none, lv, rfl, s2, h2D, ll'⟩ ?_ ?_⟩
    · rintro i σ H3 hi ⟨v4, v5, v6, v7, v8, lv, rfl, s3, h3D, ll3⟩
      dsimp only [gName]
      refine ⟨_, rfl, l, rfl, ⟨_, s3.sqL hl⟩, for_list (K := K) (a := l) (xs := ws_) (fun j σ H' => ∃ v5 v6 v7 v8, ∃ lv : List Int, σ = [some (.ref nm), some (.ref l), some (.ref xl), some (.ref D), some (.int (0 + (i : Int))), v5, v6, v7, v8] ∧ Same H H' ∧ H' D = some (.lst (lv.map V.int)) ∧ lv.length = ws.length) ⟨v5, v6, v7, v8, lv, rfl, s3, h3D, ll3⟩ ?_ ?_ ?_⟩
      · rintro j σ H' _ ⟨_, _, _, _, _, rfl, s4, _⟩
        exact s4.sqL hl
      · rintro j y σ H4 hy ⟨v5, v6, v7, v8, lv, rfl, s4, h4D, ll4⟩
        obtain ⟨q, hq, dq⟩ := dts_get hd hy
        obtain ⟨t, rfl, ht⟩ := un_w (s4.dt dq)
        obtain ⟨⟨i0, i1⟩, j0, j1⟩ := hin q (List.mem_of_getElem? hq)
        obtain ⟨za, _, aza⟩ := at_int (ns := lv) (k := q.1) i0 (by rw [ll4]; exact i1)
        obtain ⟨zb, _, azb⟩ := at_int (ns := lv) (k := q.2.1) j0 (by rw [ll4]; exact j1)
        refine ⟨t, _, rfl, ht, rfl, _, _, rfl, _, _, rfl, _, _, rfl, _, _, rfl, rfl, ?_⟩
        refine ⟨_, rfl, _, rfl, D, _, _, _, rfl, rfl, SqL.of h4D, azb, _, rfl, _, rfl, D, _, _, _, rfl, rfl, SqL.of h4D, aza, _, rfl, _, _, rfl, rfl, _, _, rfl, rfl, _, rfl, ?_⟩
        refine iteB (fun c => ?_) (fun c => iteF ⟨_, _, _, _, lv, rfl, s4, h4D, ll4⟩)
        refine ⟨_, rfl, _, rfl, D, _, _, _, rfl, rfl, SqL.of h4D, aza, _, rfl, _, _, rfl, rfl, _, _, rfl, rfl, _, rfl, ?_⟩
        refine iteB (fun c2 => ?_) (fun c2 => ⟨_, _, _, _, lv, rfl, s4, h4D, ll4⟩)
        refine ⟨_, rfl, _, rfl, D, _, _, _, rfl, rfl, SqL.of h4D, aza, _, rfl, _, _, rfl, rfl, _, rfl, _, rfl, D, _, _, _, rfl, rfl, h4D, ixN_nat j0 (by rw [List.length_map, ll4]; exact j1), ?_⟩
        refine ⟨_, _, _, _, lv.set q.2.1.toNat (za + q.2.2.1), rfl, fun b u e => by rw [upd_ne (ne_of_none e hD)]; exact s4 b u e, by rw [upd_same, List.map_set], by rw [List.length_set]; exact ll4⟩
      · rintro σ H4 ⟨v5, v6, v7, v8, lv, rfl, s4, h4D, ll4⟩
        exact ⟨_, _, _, _, _, lv, rfl, s4, h4D, ll4⟩
    · rintro σ H3 ⟨v4, v5, v6, v7, v8, lv, rfl, s3, h3D, ll3⟩
      exact ⟨_, rfl, k D lv H3 s3 hD h3D ll3⟩
end
end K41
namespace K41
open PySem L2
theorem Nx.wn {ws : List Str} {v : NetV} {i : Nat} (h : Nx ws v i) (ok : NmOk ws) (hi : i ≤ 20) : Wn ws v := by
  have := ok.hi
  have := h.la
  have := h.ls
  have := h.lm
  exact ⟨by rw [h.nv.kv, pl_keys], ok.nd, by omega, rise_nodup h.nv.rise, by omega, by omega, by omega, fun q hq => ⟨(h.nv.ends q hq).1, (h.nv.ends q hq).2.1⟩, h.es, h.em⟩
theorem Nx.small {ws : List Str} {v : NetV} {i : Nat} (h : Nx ws v i) : ∀ q ∈ v.arr, Small q.weight := fun q hq => by
  have := h.wt q hq
  exact ⟨by omega, by omega⟩
/-- none of the net's places is an old one -/
def Apart (H : Hp) (x : Addr) (r : Rec) : Prop := ∀ b o, H b = some o → b ≠ x ∧ b ≠ r.dh ∧ b ≠ r.da ∧ b ≠ r.ls ∧ b ≠ r.lm
theorem Apart.kp {H Ha Hb : Hp} {x : Addr} {r : Rec} (f : Apart H x r) (s : Same H Ha) (k : Kp x r Ha Hb) : Same H Hb := fun b o e => by
  obtain ⟨q1, q2, q3, q4, q5⟩ := f b o e
  exact k b o (s b o e) q1 q2 q3 q4 q5
theorem none_of {H H' : Hp} {r : Addr} (s : Same H H') (h : H' r = none) : H r = none := by
  cases e : H r with
  | none => rfl
  | some o =>
    have := s _ _ e
    rw [h] at this
    cases this
theorem eqD_nil (l : List Wi) : eqD (.lst (l.map wD)) (.lst []) = l.isEmpty := by cases l <;> rfl
theorem keep_all (lv : List Int) : ∀ l : List Wi, (l.filter fun q => !keep lv q).isEmpty = l.all (keep lv)
  | [] => rfl
  | q :: l => by
    rw [List.filter_cons, List.all_cons]
    cases e : keep lv q with
    | true => rw [if_neg (by decide), keep_all lv l]; rfl
    | false => rw [if_pos (show (!false) = true from rfl)]; rfl
theorem merge_world (la ls lm : Addr) : mergeK [] (worldD la ls lm) = worldD la ls lm := by
  show putK (putK (putK [] (Sum.inr (Str.ofString "arrows") : Key) (V.ref la)) (Sum.inr (Str.ofString "sames") : Key) (V.ref ls)) (Sum.inr (Str.ofString "mosts") : Key) (V.ref lm) = _
  have h1 : putK ([] : Kvs) (Sum.inr (Str.ofString "arrows")) (V.ref la) = [((Sum.inr (Str.ofString "arrows") : Key), V.ref la)] := putK_new (kvs := []) _ rfl
  have h2 : putK [((Sum.inr (Str.ofString "arrows") : Key), V.ref la)] (Sum.inr (Str.ofString "sames")) (V.ref ls) = [((Sum.inr (Str.ofString "arrows") : Key), V.ref la), ((Sum.inr (Str.ofString "sames") : Key), V.ref ls)] := putK_new _ ((valV_neg (p := ((Sum.inr (Str.ofString "arrows") : Key), V.ref la)) ne_as).trans rfl)
  have h3 : putK [((Sum.inr (Str.ofString "arrows") : Key), V.ref la), ((Sum.inr (Str.ofString "sames") : Key), V.ref ls)] (Sum.inr (Str.ofString "mosts")) (V.ref lm) = [((Sum.inr (Str.ofString "arrows") : Key), V.ref la), ((Sum.inr (Str.ofString "sames") : Key), V.ref ls), ((Sum.inr (Str.ofString "mosts") : Key), V.ref lm)] := putK_new _ ((valV_neg (p := ((Sum.inr (Str.ofString "arrows") : Key), V.ref la)) ne_am).trans ((valV_neg (p := ((Sum.inr (Str.ofString "sames") : Key), V.ref ls)) ne_sm).trans rfl))
  rw [h1, h2, h3]
  rfl
section
variable {P : Program} {w : World} {K : PySem.W.Frag} {mg : Str → Option Value} {base : Heap} {a : Adr}
def spLaw (K : PySem.W.Frag) : Sp := fun vs H Q _ => ∃ (p : Addr) (ns : List Int), vs = [.ref p] ∧ SqL K H p (ns.map V.int) ∧ ns.length ≤ 63 ∧ ∀ H', Q (.bl true) H'
set_option maxHeartbeats 16000000 in
theorem ok_law (T : Tx K mg a) (f : Addr) (fd : FuncData) (F : FunD K "law" "law" s_law f fd) : FnOk P w K mg base CX0 9 f fd ["_law_script"] (spLaw K) := by
  have c__law_cell_at := ok_cell_at (P := P) (w := w) (base := base) T
  have c__law_names := ok_names (P := P) (w := w) (base := base) T
  have c__law_stream := ok_stream (P := P) (w := w) (base := base) T
  have c__law_deed := ok_deed (P := P) (w := w) (base := base) T
  have c__law_due := ok_due (P := P) (w := w) (base := base) T
  have c__law_kinds := ok_kinds (P := P) (w := w) (base := base) T
  have c__law_levels := ok_levels (P := P) (w := w) (base := base) T
  have c_wishes_of := ok_wishes (P := P) (w := w) (base := base) T
  have c_turned := ok_turned (P := P) (w := w) (base := base) T
  have c_keeps_net := ok_keeps_net (P := P) (w := w) (base := base) T
  have c_length := ok_length (P := P) (w := w) (base := base) T
  have i_Net := ok_init (P := P) (w := w) (base := base) T
  have m_Net_put_point1 := ok_put1 (P := P) (w := w) (base := base) T
  refine F.ok sc_law (fun vs H Q E h => ?_) (fun cdv A outer s H vs Q E hr h => ?_)
  · obtain ⟨p, ns, rfl, _⟩ := h
    rfl
  · obtain ⟨p, ns, rfl, hS, hlen, k⟩ := h
    refine ⟨_, (pss_cons (ps_set (i := 1) sc_law.nd rfl (by first | exact Or.inl rfl | exact Or.inr rfl) (pe_op op_mod (pe_cal c__law_cell_at (hr.mono (by decide)) rfl (pa_cons (pv 0) (pa_cons pe_int pa_nil))) pe_int))
      (pss_cons (ps_set (i := 2) sc_law.nd rfl (by first | exact Or.inl rfl | exact Or.inr rfl) (pe_cal c__law_names (hr.mono (by decide)) rfl (pa_cons (pv 1) pa_nil)))
      (pss_cons (ps_set (i := 3) sc_law.nd rfl (by first | exact Or.inl rfl | exact Or.inr rfl) (pe_ical0 i_Net (hr.mono (by decide)) rfl))
      (pss_cons (ps_for PassesOwn.never rfl (pi_list (pv 2)) (pg_name (i := 4) sc_law.nd rfl (by first | exact Or.inl rfl | exact Or.inr rfl)) (pss_one (ps_expr (pe_mcalX (pv 3) T.c_Net m_Net_put_point1 px_never (hr.mono (by decide)) (pa_cons (pv 4) pa_nil)))))
      (pss_cons (ps_set (i := 5) sc_law.nd rfl (by first | exact Or.inl rfl | exact Or.inr rfl) (pe_disp (pps_cons pe_str (pe_lst pa_nil) (pps_cons pe_str (pe_lst pa_nil) (pps_cons pe_str (pe_lst pa_nil) pps_nil))) rfl rfl (by decide) (by decide)))
      (pss_cons (ps_for PassesOwn.never rfl (pi_list (pe_slice sl_list (pv 0) (po_some pe_int) (po_some pe_int))) (pg_name (i := 1) sc_law.nd rfl (by first | exact Or.inl rfl | exact Or.inr rfl)) (pss_cons (ps_expr (pe_cal c__law_deed (hr.mono (by decide)) rfl (pa_cons (pv 3) (pa_cons (pv 5) (pa_cons (pv 2) (pa_cons (pe_cal c__law_stream (hr.mono (by decide)) rfl (pa_cons (pv 1) (pa_cons pe_int pa_nil))) pa_nil))))))
      (pss_one (ps_if (pt_cmpR (op_neD hr.units) (pe_cal c_wishes_of (hr.mono (by decide)) rfl (pa_cons (pv 3) pa_nil)) (pe_cal c__law_due (hr.mono (by decide)) rfl (pa_cons (pv 5) (pa_cons (pe_cal c_turned (hr.mono (by decide)) rfl (pa_cons (pv 3) pa_nil)) pa_nil))) (nomark _)) (pss_one (ps_ret pe_bl)) pss_nil))))
      (pss_cons (ps_set (i := 6) sc_law.nd rfl (by first | exact Or.inl rfl | exact Or.inr rfl) (pe_cal c__law_due (hr.mono (by decide)) rfl (pa_cons (pv 5) (pa_cons (pe_cal c_turned (hr.mono (by decide)) rfl (pa_cons (pv 3) pa_nil)) pa_nil))))
      (pss_cons (ps_set (i := 7) sc_law.nd rfl (by first | exact Or.inl rfl | exact Or.inr rfl) (pe_cal c_wishes_of (hr.mono (by decide)) rfl (pa_cons (pv 3) pa_nil)))
      (pss_cons (ps_if (PW.pt (pw_or (pt_not (pt_val (pe_cal c__law_kinds (hr.mono (by decide)) rfl (pa_cons (pv 7) pa_nil)))) (pw_or1 (pt_cmpR (op_neD hr.units) (pv 7) (pv 6) (nomark _))))) (pss_one (ps_ret pe_bl)) pss_nil)
      (pss_cons (ps_expr (pe_bm PySem.F.plainAttrs_list PySem.F.slot_list_append PySem.F.type_list_append mt_append (pv 7) (pa_cons (pe_tup (pa_cons pe_int (pa_cons pe_int (pa_cons pe_int (pa_cons pe_int pa_nil))))) pa_nil)))
      (pss_cons (ps_set (i := 8) sc_law.nd rfl (by first | exact Or.inl rfl | exact Or.inr rfl) (pe_cal c__law_levels (hr.mono (by decide)) rfl (pa_cons (pv 2) (pa_cons (pv 6) (pa_cons (pe_cal c__law_stream (hr.mono (by decide)) rfl (pa_cons (pe_cal c__law_cell_at (hr.mono (by decide)) rfl (pa_cons (pv 0) (pa_cons pe_int pa_nil))) (pa_cons pe_int pa_nil))) pa_nil)))))
      (pss_cons (ps_set (i := 9) sc_law.nd rfl (by first | exact Or.inl rfl | exact Or.inr rfl) pe_dnewK)
      (pss_cons (ps_for PassesOwn.never rfl (pi_enumerate rfl T.n_enumerate (pa_cons (pv 2) pa_nil)) (pg_tup rfl (pgs_cons (pg_name (i := 10) sc_law.nd rfl (by first | exact Or.inl rfl | exact Or.inr rfl)) (pgs_cons (pg_name (i := 4) sc_law.nd rfl (by first | exact Or.inl rfl | exact Or.inr rfl)) pgs_nil))) (pss_one (ps_dput (hu_of hr) (pv 9) (pv 4) (pe_ix ix_list (pv 8) (pv 10) (fun _ _ => rfl)) rfl)))
      (pss_cons (ps_set (i := 11) sc_law.nd rfl (by first | exact Or.inl rfl | exact Or.inr rfl) (pe_cmpR (op_eqD hr.units) (pe_comp (N := ["_law_wish", "_law_levels_here"]) (cap := [none, some 8]) rfl (cap_ok (osc := defScope s_law) (XN := ["_law_script", "_law_cell", "_law_names_here", "_law_net", "_law_name", "_law_world", "_law_due_here", "_law_told", "_law_levels_here", "_law_by_name", "_law_k", "_law_kept", "_law_worth_due"]) rfl rfl (by decide +kernel)) (pi_list (pv 6)) (fun cl C s H fp pins => (pg_name (i := 0) (show (["_law_wish", "_law_levels_here"] : List Str).Nodup by decide +kernel) rfl (by first | exact Or.inl rfl | exact Or.inr rfl))) (fun cl C s H fp pins => pif_one (pt_cmpR op_lt (pe_op op_sub (pe_ix (ixK_list (K := K) rfl) (pv 1) (pe_ix (ixK_tup (K := K) rfl) (pv 0) pe_int (fun _ _ => rfl)) (fun _ _ => rfl)) (pe_ix (ixK_list (K := K) rfl) (pv 1) (pe_ix (ixK_tup (K := K) rfl) (pv 0) pe_int (fun _ _ => rfl)) (fun _ _ => rfl))) (pe_ix (ixK_tup (K := K) rfl) (pv 0) pe_int (fun _ _ => rfl)) (nomark _))) (fun cl C s H fp pins => (pv 0))) (pe_lst pa_nil) (nomark _)))
      (pss_cons (ps_set (i := 12) sc_law.nd rfl (by first | exact Or.inl rfl | exact Or.inr rfl) (pe_callB call_sum rfl T.n_sum bt_sum (pa_cons (pe_comp (N := ["_law_wish", "_law_levels_here"]) (cap := [none, some 8]) rfl (cap_ok (osc := defScope s_law) (XN := ["_law_script", "_law_cell", "_law_names_here", "_law_net", "_law_name", "_law_world", "_law_due_here", "_law_told", "_law_levels_here", "_law_by_name", "_law_k", "_law_kept", "_law_worth_due"]) rfl rfl (by decide +kernel)) (pi_list (pv 6)) (fun cl C s H fp pins => (pg_name (i := 0) (show (["_law_wish", "_law_levels_here"] : List Str).Nodup by decide +kernel) rfl (by first | exact Or.inl rfl | exact Or.inr rfl))) (fun cl C s H fp pins => pif_nil) (fun cl C s H fp pins => (pe_op op_mul (pe_ix (ixK_tup (K := K) rfl) (pv 0) pe_int (fun _ _ => rfl)) (pe_op op_sub (pe_ix (ixK_list (K := K) rfl) (pv 1) (pe_ix (ixK_tup (K := K) rfl) (pv 0) pe_int (fun _ _ => rfl)) (fun _ _ => rfl)) (pe_ix (ixK_list (K := K) rfl) (pv 1) (pe_ix (ixK_tup (K := K) rfl) (pv 0) pe_int (fun _ _ => rfl)) (fun _ _ => rfl)))))) pa_nil)))
      (pss_cons (ps_if (PW.pt (pw_or (pt_cmpR op_ne (pe_cal c_keeps_net (hr.mono (by decide)) rfl (pa_cons (pv 3) (pa_cons (pe_callTy call_dictD rfl T.n_dict bt_dict (pa_cons (pv 9) pa_nil)) pa_nil))) (pv 11) (nomark _)) (pw_or1 (pt_cmpR op_ne (pe_cal c_length (hr.mono (by decide)) rfl (pa_cons (pv 3) (pa_cons (pv 9) pa_nil))) (pv 12) (nomark _))))) (pss_one (ps_ret pe_bl)) pss_nil)
      (pss_one (ps_ret (pe_cmpR (op_eqD hr.units) (pe_cal c_wishes_of (hr.mono (by decide)) rfl (pa_cons (pv 3) pa_nil)) (pv 6) (nomark _)))))))))))))))))))), ?_⟩
    refine ⟨_, rfl, p, ns, 0, rfl, hS, by decide, fun c => ⟨_, _, rfl, rfl, (by show (0 : Int) < 2147483647; decide), ?_⟩⟩
    refine ⟨_, rfl, _, rfl, fun nm ws H1 s1 n1 hn1 ok => ?_⟩
    have wlo := ok.lo
    have whi := ok.hi
    refine fun x dx nx ndx nex => ⟨x, dx, rfl, upd_same, fun r H2 fr fo N2 => ⟨rfl, ?_⟩⟩
    have s2 : Same H1 H2 := fun b o e => fr b o (by rw [upd_ne (ne_of_none e nx), upd_ne (ne_of_none e ndx)]; exact e) (ne_of_none e nx)
    have ap1 : Apart H1 x r := fun b o e => ⟨ne_of_none e nx, fo b o (by rw [upd_ne (ne_of_none e nx), upd_ne (ne_of_none e ndx)]; exact e)⟩
    refine ⟨_, rfl, nm, rfl, ⟨_, SqL.of (s2 _ _ hn1)⟩, for_list (K := K) (a := nm) (xs := ws.map V.str) (fun i σ H' => ∃ v4, σ = [some (.ref p), some (.int (c % 2147483647)), some (.ref nm), some (.ref x), v4, none, none, none, none, none, none, none, none] ∧ Same H1 H' ∧ NetAt K a.Net H' x r { emp with kvs := pl (ws.take i) })
      ⟨none, rfl, s2, N2⟩ ?_ ?_ ?_⟩
    · rintro i σ H' _ ⟨v3, rfl, sl, _⟩
      exact SqL.of (sl _ _ hn1)
    · rintro i y σ H' hi ⟨v3, rfl, S3, N3⟩
      obtain ⟨z, hz, rfl⟩ := Option.map_eq_some_iff.mp ((List.getElem?_map (f := V.str) (l := ws) (i := i)).symm.trans hi)
      have isz := ok.is_ z (List.mem_of_getElem? hz)
      have pe' := pl_err hz ok.nd isz (by omega)
      obtain ⟨dx3, hp3⟩ := N3.ex
      refine ⟨_, rfl, x, dx3, _, rfl, hp3, by rfl, _, rfl, x, r, _, z, 0, rfl, isName_len isz, N3, ?_, fun er he => ?_, fun _ H4 kp4 N4 => ?_⟩
      · show (pl (ws.take i)).length ≤ 1000
        unfold pl
        rw [List.length_map, List.length_take]
        omega
      · rw [show pointErr (pl (ws.take i)) z 0 = none from pe'] at he
        cases he
      · refine ⟨_, rfl, ap1.kp S3 kp4, ?_⟩
        rw [take_snoc hz, pl_snoc]
        exact N4
    rintro σ H3 ⟨v4, rfl, S3, N3⟩
    rw [List.length_map, List.take_length] at N3
    have V3 : Nx ws { emp with kvs := pl ws } 0 := ⟨⟨rfl, List.Pairwise.nil, (fun q hq => by cases hq), (by show (0 : Int) ≤ 0; decide), fun q hq => by cases hq⟩, (fun q hq => by cases hq), (fun q hq => by cases hq), Nat.le_refl _, Nat.le_refl _, Nat.le_refl _, fun q hq => by cases hq⟩
    -- the world
    refine fun wd nwd => ⟨(by show 0 ≤ sizeLine; decide), fun la nla => ⟨(by show 0 ≤ sizeLine; decide), fun ls nls => ⟨(by show 0 ≤ sizeLine; decide), fun lm nlm => ?_⟩⟩⟩
    have u1 := Same.new (o := .dK []) nwd
    have u2 := Same.new (o := .lst []) nla
    have u3 := Same.new (o := .lst []) nls
    have u4 := Same.new (o := .lst []) nlm
    refine ⟨u4 _ _ (u3 _ _ (u2 _ _ upd_same)), worldD la ls lm, rfl, (by show 3 ≤ 15; decide), ?_⟩
    have f1 := nwd
    have ala : la ≠ wd := Ne.symm (ne_of_none upd_same nla)
    have als : ls ≠ wd := Ne.symm (ne_of_none (u2 _ _ upd_same) nls)
    have alm : lm ≠ wd := Ne.symm (ne_of_none (u3 _ _ (u2 _ _ upd_same)) nlm)
    have nla3 : H3 la = none := none_of u1 nla
    have nls3 : H3 ls = none := none_of (u1.trans u2) nls
    have nlm3 : H3 lm = none := none_of (u1.trans (u2.trans u3)) nlm
    have hla : upd (upd (upd (upd H3 wd (.dK [])) la (.lst [])) ls (.lst [])) lm (.lst []) la = some (.lst []) := u4 _ _ (u3 _ _ upd_same)
    have hls : upd (upd (upd (upd H3 wd (.dK [])) la (.lst [])) ls (.lst [])) lm (.lst []) ls = some (.lst []) := u4 _ _ upd_same
    have hlm : upd (upd (upd (upd H3 wd (.dK [])) la (.lst [])) ls (.lst [])) lm (.lst []) lm = some (.lst []) := upd_same
    have s4 : Same H3 (upd (upd (upd (upd (upd H3 wd (.dK [])) la (.lst [])) ls (.lst [])) lm (.lst [])) wd (.dK (mergeK [] (worldD la ls lm)))) := fun b o e => by
      rw [upd_ne (ne_of_none e nwd)]
      exact u4 _ _ (u3 _ _ (u2 _ _ (u1 _ _ e)))
    have nls_la : la ≠ ls := ne_of_none (upd_same (H := upd H3 wd (.dK [])) (a := la)) nls
    have nlm_la : la ≠ lm := ne_of_none (u3 _ _ (upd_same (H := upd H3 wd (.dK [])) (a := la))) nlm
    have nlm_ls : ls ≠ lm := ne_of_none (upd_same (H := upd (upd H3 wd (.dK [])) la (.lst [])) (a := ls)) nlm
    have W4 : WorldAt K (upd (upd (upd (upd (upd H3 wd (.dK [])) la (.lst [])) ls (.lst [])) lm (.lst [])) wd (.dK (mergeK [] (worldD la ls lm)))) wd la ls lm ws { emp with kvs := pl ws } := ⟨by rw [upd_same, merge_world], ⟨[], by rw [upd_ne ala]; exact hla, rfl⟩, ⟨[], by rw [upd_ne als]; exact hls, rfl⟩, ⟨[], by rw [upd_ne alm]; exact hlm, rfl⟩⟩
    have hnm3 := S3 _ _ hn1
    have apt : Apt r wd la ls lm nm := by
      obtain ⟨xs, hs, _⟩ := N3.hs
      obtain ⟨ys, hm, _⟩ := N3.hm
      obtain ⟨avs, hda, _⟩ := N3.ha
      obtain ⟨_, _, _, q4, q5⟩ := ap1 _ _ hn1
      exact ⟨Ne.symm (ne_of_none N3.hh nwd), Ne.symm (ne_of_none hda nwd), Ne.symm (ne_of_none hs nla3), Ne.symm (ne_of_none hm nla3), Ne.symm (ne_of_none hs nls3), Ne.symm (ne_of_none hm nls3), Ne.symm (ne_of_none hs nlm3), Ne.symm (ne_of_none hm nlm3), q4, q5, nls_la, nlm_la, nlm_ls, ne_of_none hnm3 nla3, ne_of_none hnm3 nls3, ne_of_none hnm3 nlm3⟩
    have N4 := N3.same s4
    have S4 := S3.trans s4
    have frS : ∀ {Ga Gb : Hp}, Same H1 Ga → Fr x r la ls lm Ga Gb → Same H1 Gb := fun sa fr b o e => by
      obtain ⟨q1, q2, q3, q4, q5⟩ := ap1 b o e
      have e3 := S3 _ _ e
      exact fr b o (sa b o e) q1 q2 q3 q4 q5 (ne_of_none e3 nla3) (ne_of_none e3 nls3) (ne_of_none e3 nlm3)
    dsimp only [gName]
    generalize upd (upd (upd (upd (upd H3 wd (.dK [])) la (.lst [])) ls (.lst [])) lm (.lst [])) wd (.dK (mergeK [] (worldD la ls lm))) = H4 at s4 W4 N4 S4 ⊢
    clear u1 u2 u3 u4 hla hls hlm f1 nwd nla nls nlm
    obtain ⟨ms, hms, hml⟩ : ∃ ms : List Int, cutV (ns.map V.int) (some 1) (some 21) = ms.map V.int ∧ ms.length ≤ 20 := by
      refine ⟨(ns.drop (HT.sIx (ns.map V.int).length 0 (some 1))).take (HT.sIx (ns.map V.int).length (ns.map V.int).length (some 21) - HT.sIx (ns.map V.int).length 0 (some 1)), ?_, ?_⟩
      · unfold cutV
        rw [List.map_take, List.map_drop]
      · have e32 : HT.sIx (ns.map V.int).length (ns.map V.int).length (some 21) = min 21 (ns.map V.int).length := HT.sIx_nat _ _ 21
        have e2 : HT.sIx (ns.map V.int).length 0 (some 1) = min 1 (ns.map V.int).length := HT.sIx_nat _ _ 1
        rw [List.length_take, e32, e2, List.length_map]
        omega
    refine ⟨_, rfl, _, rfl, _, rfl, p, _, rfl, (s1.trans S4).sqL hS, fun lc nlc => ?_⟩
    rw [hms]
    have t5 : Same H4 (upd H4 lc (.lst (ms.map V.int))) := Same.new nlc
    have h5c : upd H4 lc (.lst (ms.map V.int)) lc = some (.lst (ms.map V.int)) := upd_same
    have N5 := N4.same t5
    have W5 := W4.same t5
    have S5 := S4.trans t5
    have olc : lc ≠ r.ls ∧ lc ≠ r.lm ∧ lc ≠ la ∧ lc ≠ ls ∧ lc ≠ lm := by
      obtain ⟨xs, hs, _⟩ := N4.hs
      obtain ⟨ys, hm, _⟩ := N4.hm
      obtain ⟨_, q1, _⟩ := W4.a
      obtain ⟨_, q2, _⟩ := W4.s
      obtain ⟨_, q3, _⟩ := W4.m
      exact ⟨Ne.symm (ne_of_none hs nlc), Ne.symm (ne_of_none hm nlc), Ne.symm (ne_of_none q1 nlc), Ne.symm (ne_of_none q2 nlc), Ne.symm (ne_of_none q3 nlc)⟩
    generalize upd H4 lc (.lst (ms.map V.int)) = H5 at t5 h5c N5 W5 S5 ⊢
    refine ⟨lc, rfl, ⟨_, SqL.of h5c⟩, for_list (K := K) (a := lc) (xs := ms.map V.int) (fun i σ H' => ∃ v1, ∃ v : NetV, σ = [some (.ref p), v1, some (.ref nm), some (.ref x), v4, some (.ref wd), none, none, none, none, none, none, none] ∧ Same H1 H' ∧ H' lc = some (.lst (ms.map V.int)) ∧ NetAt K a.Net H' x r v ∧ WorldAt K H' wd la ls lm ws v ∧ Nx ws v i)
      ⟨_, _, rfl, S5, h5c, N5, W5, V3⟩ ?_ ?_ ?_⟩
    · rintro i σ H' _ ⟨_, _, rfl, _, hc, _⟩
      exact SqL.of hc
    · rintro i y σ H6 hi ⟨v1, v, rfl, S6, h6c, N6, W6, X6⟩
      obtain ⟨z, hz, rfl⟩ := Option.map_eq_some_iff.mp ((List.getElem?_map (f := V.int) (l := ms) (i := i)).symm.trans hi)
      have hil : i < ms.length := (List.getElem?_eq_some_iff.mp hz).1
      dsimp only [gName]
      refine ⟨_, rfl, _, rfl, _, rfl, _, rfl, z, 6, rfl, by decide, by decide, fun xl xs H7 s7 n7 h7 l7 => ?_⟩
      refine ⟨x, r, v, wd, la, ls, lm, ws, nm, xl, xs, i, rfl, N6.same s7, W6.same s7, apt, (S6.trans s7) _ _ hn1, h7, by omega, ok, X6, by omega, fun v' H8 fr8 N8 W8 X8 => ?_⟩
      have S8 := frS (S6.trans s7) fr8
      have h8c := fr8.lst (N6.same s7) (s7 _ _ h6c) olc.1 olc.2.1 olc.2.2.1 olc.2.2.2.1 olc.2.2.2.2
      have Wn8 := X8.wn ok (by omega)
      refine ⟨_, rfl, x, r, v', ws, rfl, N8, Wn8, fun l9 y9 H9 s9 n9 h9 d9 _ => ?_⟩
      refine ⟨_, rfl, _, rfl, x, r, v', rfl, N8.same s9, Wn8.la, Wn8.nums, fun ab Ha sa nab hab => ?_⟩
      have ta := s9.trans sa
      refine ⟨wd, la, ls, lm, ab, ws, v', rfl, W8.same ta, Wn8, hab, fun lb yb Hb sb nb hb db => ?_⟩
      refine ⟨.lst ((wishesOf ws v').map wD), .lst ((wishesOf ws v').map wD), rfl, rfl, ⟨l9, _, rfl, SqL.of (sb _ _ (sa _ _ h9)), sb.dts (sa.dts d9)⟩, ⟨lb, _, rfl, SqL.of hb, db⟩, deeps_map (fun q => deep_w q) _, _, rfl, iteOr (by rw [eqD_refl]; rfl) ?_⟩
      have tb := ta.trans sb
      exact ⟨_, v', rfl, S8.trans tb, tb _ _ h8c, N8.same tb, W8.same tb, X8⟩
    rintro σ H6 ⟨v1, v, rfl, S6, h6c, N6, W6, X6⟩
    rw [List.length_map] at X6
    have Wn6 := X6.wn ok hml
    have sml := X6.small
    clear V3 S5 h5c N5 W5 t5 S4 W4 N4 s4 N3 S3 frS hnm3 h6c olc N2 s2 fr fo
    have hnm6 := S6 _ _ hn1
    have hS6 := (s1.trans S6).sqL hS
    refine ⟨_, rfl, _, rfl, x, r, v, rfl, N6, Wn6.la, Wn6.nums, fun ab Ha sa nab hab => ?_⟩
    refine ⟨wd, la, ls, lm, ab, ws, v, rfl, W6.same sa, Wn6, hab, fun g6 y6 Hb sb nb hb db => ?_⟩
    have tb := sa.trans sb
    refine ⟨_, rfl, x, r, v, ws, rfl, N6.same tb, Wn6, fun g7 y7 Hc sc nc hc dc tpc => ?_⟩
    have yl7 : y7.length ≤ 400 := by rw [← dc.length, List.length_map]; exact wishes_len Wn6
    refine ⟨_, rfl, g7, y7, wishesOf ws v, rfl, hc, dc, tpc, fun Hd sd => ⟨_, rfl, iteOr rfl ?_⟩⟩
    refine ⟨_, rfl, _, rfl, .lst ((wishesOf ws v).map wD), .lst ((wishesOf ws v).map wD), rfl, rfl, ⟨g7, _, rfl, SqL.of (sd _ _ hc), sd.dts dc⟩, ⟨g6, _, rfl, SqL.of (sd _ _ (sc _ _ hb)), sd.dts (sc.dts db)⟩, deeps_map (fun q => deep_w q) _, _, rfl, iteOr (by rw [eqD_refl]; rfl) ?_⟩
    refine ⟨_, rfl, .inl ⟨rfl, _, SqL.of (sd _ _ hc)⟩, (by show 4 ≤ sizeLine; decide), fun z nz => ?_⟩
    have se := Same.new (o := .tup [.int 0, .int 0, .int 0, .int 0]) nz
    refine ⟨g7, _, _, rfl, rfl, se _ _ (sd _ _ hc), by rw [sizeLine_eq]; omega, ?_⟩
    have te : Same Hb (upd (upd Hd z (.tup [.int 0, .int 0, .int 0, .int 0])) g7 (.lst (y7 ++ [.ref z]))) := fun b o e => by
      rw [upd_ne (ne_of_none e nc)]
      exact se _ _ (sd _ _ (sc _ _ e))
    generalize upd (upd Hd z (.tup [.int 0, .int 0, .int 0, .int 0])) g7 (.lst (y7 ++ [.ref z])) = He at te ⊢
    have tE := tb.trans te
    have NE := N6.same tE
    have hbE := te _ _ hb
    have dbE := te.dts db
    clear se sd sc dc hc tpc nc nz sb sa
    refine ⟨_, rfl, _, rfl, _, rfl, p, ns, 1, rfl, tE.sqL hS6, by decide, fun c1 => ⟨c1, 8, rfl, by decide, by decide, fun xl xs Hx sx nx hx xlen => ?_⟩⟩
    refine ⟨nm, g6, xl, ws, wishesOf ws v, xs, rfl, sx _ _ (tE _ _ hnm6), ⟨y6, SqL.of (sx _ _ hbE), sx.dts dbE⟩, wishes_in Wn6, whi, hx, by omega, fun g8 lv H8 s8 n8 h8 l8 => ?_⟩
    have t8 := sx.trans s8
    have T8 := tE.trans t8
    have h8n := T8 _ _ hnm6
    have h86 := t8 _ _ hbE
    have d86 := t8.dts dbE
    have N8 := NE.same t8
    refine fun D nD => ?_
    have s9 : Same H8 (upd H8 D (.dK [])) := Same.new nD
    have h9D : upd H8 D (.dK []) D = some (.dK []) := upd_same
    generalize upd H8 D (.dK []) = H9 at s9 h9D ⊢
    refine ⟨_, rfl, nm, rfl, ⟨_, SqL.of (s9 _ _ h8n)⟩, for_enum (K := K) (l := nm) (xs := ws.map V.str) (fun i σ H' => ∃ v4 v10 kvs, σ = [some (.ref p), v1, some (.ref nm), some (.ref x), v4, some (.ref wd), some (.ref g6), some (.ref g7), some (.ref g8), some (.ref D), v10, none, none] ∧ Same H8 H' ∧ H' D = some (.dK kvs) ∧ kvs.length ≤ i ∧ (∀ (j : Nat) (n : Str), j < i → ws[j]? = some n → ∃ z, lv[j]? = some z ∧ valV kvs (Sum.inr n) = some (.int z)) ∧ ∀ n : Str, n ∉ ws.take i → valV kvs (Sum.inr n) = none)
      ⟨v4, none, [], rfl, s9, h9D, Nat.le_refl _, fun j n h => absurd h (Nat.not_lt_zero _), fun n _ => rfl⟩ ?_ ?_ ?_⟩
    · rintro i σ H' _ ⟨_, _, _, rfl, sl, _⟩
      exact SqL.of (sl _ _ h8n)
    · rintro i y tt σ Ha hy nt ⟨v4, v10, kvs, rfl, sa, haD, kl, k1, k2⟩
      obtain ⟨n, hn, rfl⟩ := Option.map_eq_some_iff.mp ((List.getElem?_map (f := V.str) (l := ws) (i := i)).symm.trans hy)
      have hil : i < ws.length := (List.getElem?_eq_some_iff.mp hn).1
      obtain ⟨z, hz, az⟩ := at_int (ns := lv) (k := (i : Int)) (by omega) (by rw [l8]; omega)
      rw [Int.toNat_natCast] at hz
      have sb : Same Ha (upd Ha tt (.tup [.int i, .str n])) := Same.new nt
      have hbt : upd Ha tt (.tup [.int i, .str n]) tt = some (.tup [.int i, .str n]) := upd_same
      generalize upd Ha tt (.tup [.int i, .str n]) = Hb at sb hbt ⊢
      have newk : valV kvs (Sum.inr n) = none := k2 n fun hm => by
        obtain ⟨j, hj, ej⟩ := List.getElem_of_mem hm
        rw [List.length_take] at hj
        rw [List.getElem_take] at ej
        have e1 : ws[j]? = some n := by rw [List.getElem?_eq_getElem (by omega), ej]
        have := (List.getElem?_inj (i := j) (j := i) (by omega) ok.nd).mp (e1.trans hn.symm)
        omega
      refine ⟨tt, _, rfl, SqT.of hbt, rfl, _, _, rfl, _, _, rfl, rfl, ?_⟩
      refine ⟨_, rfl, _, rfl, g8, _, _, _, rfl, rfl, SqL.of (sb _ _ (sa _ _ h8)), az, _, rfl, _, rfl, D, _, rfl, .inl ⟨kvs, Sum.inr n, sb _ _ haD, rfl, by rw [sizeLine_eq]; omega, rfl⟩, ?_⟩
      rw [putK_new (.int z) newk]
      refine ⟨_, _, _, rfl, fun b o e => by rw [upd_ne (ne_of_none e nD)]; exact sb _ _ (sa b o e), upd_same, by rw [List.length_append]; exact Nat.succ_le_succ kl, fun j m hj hm => ?_, fun m hm => ?_⟩
      · rw [valV_snoc _ _ _ _ newk]
        by_cases e : j = i
        · subst e
          rw [hn] at hm
          cases hm
          exact ⟨z, hz, by rw [if_pos rfl]⟩
        · obtain ⟨z', h1, h2⟩ := k1 j m (by omega) hm
          refine ⟨z', h1, ?_⟩
          rw [if_neg (fun q => by rw [q, newk] at h2; cases h2)]
          exact h2
      · rw [take_snoc hn] at hm
        rw [valV_snoc _ _ _ _ newk, if_neg (fun q => hm (List.mem_append_right _ (by rw [Sum.inr.inj q]; exact List.mem_singleton.mpr rfl)))]
        exact k2 m fun q => hm (List.mem_append_left _ q)
    rintro σ Ha ⟨v4, v10, kvs, rfl, sa, haD, kl, k1, k2⟩
    rw [List.length_map] at k1
    have L : LevAt kvs ws lv := ⟨l8, fun j n hj => k1 j n (List.getElem?_eq_some_iff.mp hj).1 hj⟩
    have ha6 := sa _ _ h86
    have da6 := sa.dts d86
    have ha8 := sa _ _ h8
    have Na := N8.same sa
    have inr := wishes_in Wn6
    have y6l : (wishesOf ws v).length = y6.length := by rw [← da6.length, List.length_map]
    have wl := wishes_len Wn6
    clear k1 k2 s9 h9D
    refine ⟨_, rfl, g6, rfl, ⟨_, SqL.of ha6⟩, fun E hE => ?_⟩
    refine comp_list (K := K) (a := g6) (xs := y6) (fun j τ H' => ∃ w1 us, τ = [w1, some (.ref g8)] ∧ Same Ha H' ∧ H' E = some (.lst us) ∧ DtVs K Ha ((((wishesOf ws v).take j).filter fun q => !keep lv q).map wD) us) ⟨none, [], rfl, Same.new hE, upd_same, by rw [List.take_zero]; rfl⟩ ?_ ?_ ?_
    · rintro j τ H' _ ⟨_, _, rfl, sm, _⟩
      exact SqL.of (sm _ _ ha6)
    · rintro j y τ H' hy ⟨w1, us, rfl, sm, hus, du⟩
      obtain ⟨q, hq, dq⟩ := dts_get da6 hy
      have hjl : j < y6.length := (List.getElem?_eq_some_iff.mp hy).1
      obtain ⟨t, rfl, ht0⟩ := un_w dq
      have ht := sm.sqT ht0
      obtain ⟨⟨i0, i1⟩, j0, j1⟩ := inr q (List.mem_of_getElem? hq)
      rw [← l8] at i1 j1
      have ul : us.length ≤ 400 := by
        rw [← du.length, List.length_map]
        have := List.length_filter_le (fun q => !keep lv q) ((wishesOf ws v).take j)
        rw [List.length_take] at this
        omega
      have fl : ((wishesOf ws v).take (j + 1)).filter (fun q => !keep lv q) = ((wishesOf ws v).take j).filter (fun q => !keep lv q) ++ (if (!keep lv q) = true then [q] else []) := by
        rw [take_snoc hq, List.filter_append]
        cases e : keep lv q <;> simp [List.filter_cons, e]
      have hb : decide (pz lv q.2.1 - pz lv q.1 < q.2.2.1) = !keep lv q := by
        unfold keep diff
        by_cases e : pz lv q.2.1 - pz lv q.1 < q.2.2.1
        · rw [decide_eq_true e, decide_eq_false (by omega)]
          rfl
        · rw [decide_eq_false e, decide_eq_true (by omega)]
          rfl
      dsimp only [gName]
      refine ⟨_, rfl, _, rfl, t, _, _, _, rfl, rfl, ht, rfl, g8, _, _, _, rfl, rfl, SqL.of (sm _ _ ha8), at_pz j0 j1, _, rfl, _, rfl, t, _, _, _, rfl, rfl, ht, rfl, g8, _, _, _, rfl, rfl, SqL.of (sm _ _ ha8), at_pz i0 i1, _, _, rfl, rfl, _, rfl, t, _, _, _, rfl, rfl, ht, rfl, _, _, rfl, rfl, _, rfl, ?_⟩
      rw [hb]
      refine iteB (fun c2 => ?_) (fun c2 => ?_)
      · refine ⟨_, rfl, _, hus, by rw [sizeLine_eq]; omega, _, _, rfl, fun b u e => by rw [upd_ne (ne_of_none e hE)]; exact sm b u e, upd_same, ?_⟩
        rw [fl, if_pos c2, List.map_append]
        exact DtVs.snoc (dt_w ht0) du
      · refine ⟨_, _, rfl, sm, hus, ?_⟩
        rw [fl, if_neg (by rw [c2]; decide), List.append_nil]
        exact du
    rintro τ Hb ⟨w1, us, rfl, sb, hbE, du⟩
    rw [← y6l, List.take_length] at du
    refine ⟨(by show 0 ≤ sizeLine; decide), fun z nz => ?_⟩
    have sz : Same Hb (upd Hb z (.lst [])) := Same.new nz
    have hz : upd Hb z (.lst []) z = some (.lst []) := upd_same
    generalize upd Hb z (.lst []) = Hc at sz hz ⊢
    have tc := sb.trans sz
    refine ⟨.lst (((wishesOf ws v).filter fun q => !keep lv q).map wD), .lst [], rfl, rfl, ⟨E, us, rfl, SqL.of (sz _ _ hbE), tc.dts du⟩, ⟨z, [], rfl, SqL.of hz, rfl⟩, deeps_map (fun q => deep_w q) _, ?_⟩
    have eb : eqD (.lst (((wishesOf ws v).filter fun q => !keep lv q).map wD)) (.lst []) = (wishesOf ws v).all (keep lv) := by rw [eqD_nil, keep_all]
    rw [eb]
    have hc6 := tc _ _ ha6
    have dc6 := tc.dts da6
    have hc8 := tc _ _ ha8
    have hcD := tc _ _ haD
    have Nc := Na.same tc
    have Wsm := wishes_small (ws := ws) sml
    dsimp only [gName]
    clear hbE du sz hz eb
    refine ⟨_, rfl, g6, rfl, ⟨_, SqL.of hc6⟩, fun E2 hE2 => ?_⟩
    refine comp_list (K := K) (a := g6) (xs := y6) (fun j τ H' => ∃ w1, τ = [w1, some (.ref g8)] ∧ Same Hc H' ∧ H' E2 = some (.lst ((((wishesOf ws v).take j).map fun q => q.2.2.2 * diff lv q).map V.int))) ⟨none, rfl, Same.new hE2, upd_same⟩ ?_ ?_ ?_
    · rintro j τ H' _ ⟨_, rfl, sm, _⟩
      exact SqL.of (sm _ _ hc6)
    · rintro j y τ H' hy ⟨w1, rfl, sm, hus⟩
      obtain ⟨q, hq, dq⟩ := dts_get dc6 hy
      have hjl : j < y6.length := (List.getElem?_eq_some_iff.mp hy).1
      obtain ⟨t, rfl, ht0⟩ := un_w dq
      have ht := sm.sqT ht0
      have hqm := List.mem_of_getElem? hq
      obtain ⟨⟨i0, i1⟩, j0, j1⟩ := inr q hqm
      rw [← l8] at i1 j1
      dsimp only [gName, tYes]
      rw [if_pos rfl]
      refine ⟨_, rfl, t, _, _, _, rfl, rfl, ht, rfl, _, rfl, _, rfl, t, _, _, _, rfl, rfl, ht, rfl, g8, _, _, _, rfl, rfl, SqL.of (sm _ _ hc8), at_pz j0 j1, _, rfl, _, rfl, t, _, _, _, rfl, rfl, ht, rfl, g8, _, _, _, rfl, rfl, SqL.of (sm _ _ hc8), at_pz i0 i1, _, _, rfl, rfl, _, _, rfl, rfl, .inl (Wsm q hqm), _, hus, by rw [List.length_map, List.length_map, List.length_take, sizeLine_eq]; omega, _, rfl, fun b u e => by rw [upd_ne (ne_of_none e hE2)]; exact sm b u e, ?_⟩
      rw [upd_same, take_snoc hq, List.map_append, List.map_append]
      rfl
    rintro τ Hd ⟨w1, rfl, sd, hdE⟩
    rw [← y6l, List.take_length] at hdE
    refine ⟨E2, _, rfl, SqL.of hdE, ?_⟩
    have td := tc.trans sd
    dsimp only [gName]
    refine ⟨_, rfl, _, rfl, D, kvs, rfl, sd _ _ hcD, fun d2 nd2 => ?_⟩
    have se := Same.new (o := .dK kvs) nd2
    refine ⟨x, r, v, ws, d2, kvs, lv, rfl, (Nc.same sd).same se, Wn6, upd_same, L, fun He te => ?_⟩
    refine ⟨_, rfl, rfl, _, rfl, iteOr (by simp) ?_⟩
    have tf := sd.trans (se.trans te)
    refine ⟨_, rfl, _, rfl, x, r, v, ws, D, kvs, lv, rfl, Nc.same tf, Wn6, sml, tf _ _ hcD, L, fun Hf sf => ?_⟩
    refine ⟨_, rfl, rfl, _, rfl, iteOr (by unfold worthW; simp) ?_⟩
    have tg := tf.trans sf
    refine ⟨_, rfl, x, r, v, ws, rfl, Nc.same tg, Wn6, fun lz yz Hz sz nz hz dz _ => ?_⟩
    refine ⟨_, rfl, .lst ((wishesOf ws v).map wD), .lst ((wishesOf ws v).map wD), rfl, rfl, ⟨lz, _, rfl, SqL.of hz, dz⟩, ⟨g6, _, rfl, SqL.of (sz _ _ (tg _ _ hc6)), sz.dts (tg.dts dc6)⟩, deeps_map (fun q => deep_w q) _, ?_⟩
    show Q (.bl (eqD _ _)) _
    rw [eqD_refl]
    exact k _
end
end K41
namespace K41
open PySem L2
set_option maxHeartbeats 4000000 in
theorem all_mk {l : PySem.W.OpenLaw} {w : World} {K : PySem.W.Frag} {h : Heap} {mg : Str → Option Value} {fa : Addr}
    {CDrawError : Addr}
    {CNoName : Addr}
    {CTaken : Addr}
    {CAlone : Addr}
    {CNoNumber : Addr}
    {CTooMany : Addr}
    {CNoPoint : Addr}
    {CNoSuch : Addr}
    {CNet : Addr}
    {fNoPoint___init__ : Addr} {odNoPoint___init__ anNoPoint___init__ : Option Addr} {slNoPoint___init__ : Array (Option Value)} {ocNoPoint___init__ kVNoPoint___init__ dcNoPoint___init__ pmNoPoint___init__ cdNoPoint___init__ ctNoPoint___init__ : Value}
    {fNoSuch___init__ : Addr} {odNoSuch___init__ anNoSuch___init__ : Option Addr} {slNoSuch___init__ : Array (Option Value)} {ocNoSuch___init__ kVNoSuch___init__ dcNoSuch___init__ pmNoSuch___init__ cdNoSuch___init__ ctNoSuch___init__ : Value}
    {ffits : Addr} {odfits anfits : Option Addr} {slfits : Array (Option Value)} {ocfits kVfits dcfits pmfits cdfits ctfits : Value}
    {fworth : Addr} {odworth anworth : Option Addr} {slworth : Array (Option Value)} {ocworth kVworth dcworth pmworth cdworth ctworth : Value}
    {fis_name : Addr} {odis_name anis_name : Option Addr} {slis_name : Array (Option Value)} {ocis_name kVis_name dcis_name pmis_name cdis_name ctis_name : Value}
    {fis_whole : Addr} {odis_whole anis_whole : Option Addr} {slis_whole : Array (Option Value)} {ocis_whole kVis_whole dcis_whole pmis_whole cdis_whole ctis_whole : Value}
    {fin_range : Addr} {odin_range anin_range : Option Addr} {slin_range : Array (Option Value)} {ocin_range kVin_range dcin_range pmin_range cdin_range ctin_range : Value}
    {fNet___init__ : Addr} {odNet___init__ anNet___init__ : Option Addr} {slNet___init__ : Array (Option Value)} {ocNet___init__ kVNet___init__ dcNet___init__ pmNet___init__ cdNet___init__ ctNet___init__ : Value}
    {fNet_put_point : Addr} {odNet_put_point anNet_put_point : Option Addr} {slNet_put_point : Array (Option Value)} {ocNet_put_point kVNet_put_point dcNet_put_point pmNet_put_point cdNet_put_point ctNet_put_point : Value}
    {TNet_put_point : Addr} {ocTNet_put_point : Value} {odTNet_put_point : Option Addr} {slTNet_put_point : Array (Option Value)} {nTNet_put_point : Nat} {tkNet_put_point0 : Tok}
    {fNet_put_arrow : Addr} {odNet_put_arrow anNet_put_arrow : Option Addr} {slNet_put_arrow : Array (Option Value)} {ocNet_put_arrow kVNet_put_arrow dcNet_put_arrow pmNet_put_arrow cdNet_put_arrow ctNet_put_arrow : Value}
    {TNet_put_arrow : Addr} {ocTNet_put_arrow : Value} {odTNet_put_arrow : Option Addr} {slTNet_put_arrow : Array (Option Value)} {nTNet_put_arrow : Nat} {tkNet_put_arrow0 tkNet_put_arrow1 : Tok}
    {fNet_put_same : Addr} {odNet_put_same anNet_put_same : Option Addr} {slNet_put_same : Array (Option Value)} {ocNet_put_same kVNet_put_same dcNet_put_same pmNet_put_same cdNet_put_same ctNet_put_same : Value}
    {fNet_put_most : Addr} {odNet_put_most anNet_put_most : Option Addr} {slNet_put_most : Array (Option Value)} {ocNet_put_most kVNet_put_most dcNet_put_most pmNet_put_most cdNet_put_most ctNet_put_most : Value}
    {fNet_take_arrow : Addr} {odNet_take_arrow anNet_take_arrow : Option Addr} {slNet_take_arrow : Array (Option Value)} {ocNet_take_arrow kVNet_take_arrow dcNet_take_arrow pmNet_take_arrow cdNet_take_arrow ctNet_take_arrow : Value}
    {fNet_points : Addr} {odNet_points anNet_points : Option Addr} {slNet_points : Array (Option Value)} {ocNet_points kVNet_points dcNet_points pmNet_points cdNet_points ctNet_points : Value}
    {fNet_arrows : Addr} {odNet_arrows anNet_arrows : Option Addr} {slNet_arrows : Array (Option Value)} {ocNet_arrows kVNet_arrows dcNet_arrows pmNet_arrows cdNet_arrows ctNet_arrows : Value}
    {fNet_sames : Addr} {odNet_sames anNet_sames : Option Addr} {slNet_sames : Array (Option Value)} {ocNet_sames kVNet_sames dcNet_sames pmNet_sames cdNet_sames ctNet_sames : Value}
    {fNet_mosts : Addr} {odNet_mosts anNet_mosts : Option Addr} {slNet_mosts : Array (Option Value)} {ocNet_mosts kVNet_mosts dcNet_mosts pmNet_mosts cdNet_mosts ctNet_mosts : Value}
    {fNet_need_point : Addr} {odNet_need_point anNet_need_point : Option Addr} {slNet_need_point : Array (Option Value)} {ocNet_need_point kVNet_need_point dcNet_need_point pmNet_need_point cdNet_need_point ctNet_need_point : Value}
    {fNet_need_two_points : Addr} {odNet_need_two_points anNet_need_two_points : Option Addr} {slNet_need_two_points : Array (Option Value)} {ocNet_need_two_points kVNet_need_two_points dcNet_need_two_points pmNet_need_two_points cdNet_need_two_points ctNet_need_two_points : Value}
    {fway : Addr} {odway anway : Option Addr} {slway : Array (Option Value)} {ocway kVway dcway pmway cdway ctway : Value}
    {fkept_arrows : Addr} {odkept_arrows ankept_arrows : Option Addr} {slkept_arrows : Array (Option Value)} {ockept_arrows kVkept_arrows dckept_arrows pmkept_arrows cdkept_arrows ctkept_arrows : Value}
    {fturned : Addr} {odturned anturned : Option Addr} {slturned : Array (Option Value)} {octurned kVturned dcturned pmturned cdturned ctturned : Value}
    {fwishes_of : Addr} {odwishes_of anwishes_of : Option Addr} {slwishes_of : Array (Option Value)} {ocwishes_of kVwishes_of dcwishes_of pmwishes_of cdwishes_of ctwishes_of : Value}
    {fplaces_by : Addr} {odplaces_by anplaces_by : Option Addr} {slplaces_by : Array (Option Value)} {ocplaces_by kVplaces_by dcplaces_by pmplaces_by cdplaces_by ctplaces_by : Value}
    {fkeeps_net : Addr} {odkeeps_net ankeeps_net : Option Addr} {slkeeps_net : Array (Option Value)} {ockeeps_net kVkeeps_net dckeeps_net pmkeeps_net cdkeeps_net ctkeeps_net : Value}
    {flength : Addr} {odlength anlength : Option Addr} {sllength : Array (Option Value)} {oclength kVlength dclength pmlength cdlength ctlength : Value}
    {f_law_cell_at : Addr} {od_law_cell_at an_law_cell_at : Option Addr} {sl_law_cell_at : Array (Option Value)} {oc_law_cell_at kV_law_cell_at dc_law_cell_at pm_law_cell_at cd_law_cell_at ct_law_cell_at : Value}
    {f_law_stream : Addr} {od_law_stream an_law_stream : Option Addr} {sl_law_stream : Array (Option Value)} {oc_law_stream kV_law_stream dc_law_stream pm_law_stream cd_law_stream ct_law_stream : Value}
    {f_law_names : Addr} {od_law_names an_law_names : Option Addr} {sl_law_names : Array (Option Value)} {oc_law_names kV_law_names dc_law_names pm_law_names cd_law_names ct_law_names : Value}
    {f_law_deed : Addr} {od_law_deed an_law_deed : Option Addr} {sl_law_deed : Array (Option Value)} {oc_law_deed kV_law_deed dc_law_deed pm_law_deed cd_law_deed ct_law_deed : Value}
    {f_law_due : Addr} {od_law_due an_law_due : Option Addr} {sl_law_due : Array (Option Value)} {oc_law_due kV_law_due dc_law_due pm_law_due cd_law_due ct_law_due : Value}
    {f_law_kinds : Addr} {od_law_kinds an_law_kinds : Option Addr} {sl_law_kinds : Array (Option Value)} {oc_law_kinds kV_law_kinds dc_law_kinds pm_law_kinds cd_law_kinds ct_law_kinds : Value}
    {f_law_levels : Addr} {od_law_levels an_law_levels : Option Addr} {sl_law_levels : Array (Option Value)} {oc_law_levels kV_law_levels dc_law_levels pm_law_levels cd_law_levels ct_law_levels : Value}
    {flaw : Addr} {odlaw anlaw : Option Addr} {sllaw : Array (Option Value)} {oclaw kVlaw dclaw pmlaw cdlaw ctlaw : Value}
    {tGREATEST_MOST : Tok}
    {tGREATEST_WEIGHT : Tok}
    {tLONGEST_NAME : Tok}
    {tLONGEST_SPAN : Tok}
    {tMOST_ARROWS : Tok}
    {tMOST_MOSTS : Tok}
    {tMOST_POINTS : Tok}
    {tMOST_SAMES : Tok}
    {tSMALL_LETTERS : Tok}
    {tWIDEST_HALF : Tok}
    (X : K.In h) (G : h.Ns mainGlobals mg) (hfa : mg "law" = some (.ref fa))
    (aDrawError : PySem.W.nsIn K mainGlobals "DrawError" = some (some (.ref CDrawError)))
    (xbDrawError : PySem.W.mroIn K CDrawError (.type "BaseException") = some true)
    (xtDrawError : PySem.W.typeIn K (.ref CDrawError) = some (.type "type"))
    (aNoName : PySem.W.nsIn K mainGlobals "NoName" = some (some (.ref CNoName)))
    (xbNoName : PySem.W.mroIn K CNoName (.type "BaseException") = some true)
    (xtNoName : PySem.W.typeIn K (.ref CNoName) = some (.type "type"))
    (xaNoName : excAt K CNoName bmV "ValueError.__new__" = true)
    (xkNoName : PySem.W.keepIn K (.ref CNoName) = true)
    (xiNoName : PySem.W.findIn K (.ref CNoName) "__init__" = some (some (.builtin "ValueError.__init__")))
    (aTaken : PySem.W.nsIn K mainGlobals "Taken" = some (some (.ref CTaken)))
    (xbTaken : PySem.W.mroIn K CTaken (.type "BaseException") = some true)
    (xtTaken : PySem.W.typeIn K (.ref CTaken) = some (.type "type"))
    (xaTaken : excAt K CTaken bmV "ValueError.__new__" = true)
    (xkTaken : PySem.W.keepIn K (.ref CTaken) = true)
    (xiTaken : PySem.W.findIn K (.ref CTaken) "__init__" = some (some (.builtin "ValueError.__init__")))
    (aAlone : PySem.W.nsIn K mainGlobals "Alone" = some (some (.ref CAlone)))
    (xbAlone : PySem.W.mroIn K CAlone (.type "BaseException") = some true)
    (xtAlone : PySem.W.typeIn K (.ref CAlone) = some (.type "type"))
    (xaAlone : excAt K CAlone bmV "ValueError.__new__" = true)
    (xkAlone : PySem.W.keepIn K (.ref CAlone) = true)
    (xiAlone : PySem.W.findIn K (.ref CAlone) "__init__" = some (some (.builtin "ValueError.__init__")))
    (aNoNumber : PySem.W.nsIn K mainGlobals "NoNumber" = some (some (.ref CNoNumber)))
    (xbNoNumber : PySem.W.mroIn K CNoNumber (.type "BaseException") = some true)
    (xtNoNumber : PySem.W.typeIn K (.ref CNoNumber) = some (.type "type"))
    (xaNoNumber : excAt K CNoNumber bmV "ValueError.__new__" = true)
    (xkNoNumber : PySem.W.keepIn K (.ref CNoNumber) = true)
    (xiNoNumber : PySem.W.findIn K (.ref CNoNumber) "__init__" = some (some (.builtin "ValueError.__init__")))
    (aTooMany : PySem.W.nsIn K mainGlobals "TooMany" = some (some (.ref CTooMany)))
    (xbTooMany : PySem.W.mroIn K CTooMany (.type "BaseException") = some true)
    (xtTooMany : PySem.W.typeIn K (.ref CTooMany) = some (.type "type"))
    (xaTooMany : excAt K CTooMany bmV "ValueError.__new__" = true)
    (xkTooMany : PySem.W.keepIn K (.ref CTooMany) = true)
    (xiTooMany : PySem.W.findIn K (.ref CTooMany) "__init__" = some (some (.builtin "ValueError.__init__")))
    (aNoPoint : PySem.W.nsIn K mainGlobals "NoPoint" = some (some (.ref CNoPoint)))
    (xbNoPoint : PySem.W.mroIn K CNoPoint (.type "BaseException") = some true)
    (xtNoPoint : PySem.W.typeIn K (.ref CNoPoint) = some (.type "type"))
    (aNoSuch : PySem.W.nsIn K mainGlobals "NoSuch" = some (some (.ref CNoSuch)))
    (xbNoSuch : PySem.W.mroIn K CNoSuch (.type "BaseException") = some true)
    (xtNoSuch : PySem.W.typeIn K (.ref CNoSuch) = some (.type "type"))
    (aNet : PySem.W.nsIn K mainGlobals "Net" = some (some (.ref CNet)))
    (pgNet : PySem.W.plainGet K CNet Str.empty = true)
    (hdNet : PySem.W.hasDictIn K CNet = true)
    (poNet : PySem.W.plainOver K CNet = true)
    (saNet : PySem.W.findIn K (.ref CNet) "__setattr__" = some (some (.builtin "object.__setattr__")))
    (mkNet : PySem.W.makesIn K CNet = true)
    (kcNet : PySem.W.keepIn K (.ref CNet) = true)
    (naNet_arrows_by_number : PySem.W.findIn K (.ref CNet) "arrows_by_number" = some none)
    (naNet_halves : PySem.W.findIn K (.ref CNet) "halves" = some none)
    (naNet_most_bounds : PySem.W.findIn K (.ref CNet) "most_bounds" = some none)
    (naNet_next_number : PySem.W.findIn K (.ref CNet) "next_number" = some none)
    (naNet_same_pairs : PySem.W.findIn K (.ref CNet) "same_pairs" = some none)
    (aNoPoint___init__ : PySem.W.findIn K (.ref CNoPoint) "__init__" = some (some (.ref fNoPoint___init__)))
    (iNoPoint___init__ : PySem.W.isFn K (.ref fNoPoint___init__) = true)
    (lNoPoint___init__ : K.lookup fNoPoint___init__ = some ⟨ocNoPoint___init__, odNoPoint___init__, .func (PySem.W.fnOf "__init__" "NoPoint.__init__" (defArgs s_NoPoint___init__) (defBody s_NoPoint___init__) (defScope s_NoPoint___init__) .none kVNoPoint___init__ dcNoPoint___init__ pmNoPoint___init__ anNoPoint___init__ cdNoPoint___init__ ctNoPoint___init__), slNoPoint___init__⟩)
    (ccNoPoint___init__ : PySem.W.codeIn K cdNoPoint___init__ "NoPoint.__init__" = true)
    (xaNoPoint : excAt K CNoPoint bmV "ValueError.__new__" = true)
    (xkNoPoint : PySem.W.keepIn K (.ref CNoPoint) = true)
    (ysNoPointname : PySem.W.findIn K (.ref CNoPoint) "__setattr__" = some (some (.builtin "object.__setattr__")))
    (yoNoPointname : ownVIn K CNoPoint = true)
    (ytNoPointname : PySem.W.takerIn K CNoPoint "name" = some none)
    (yhNoPointname : PySem.W.hasDictIn K CNoPoint = true)
    (zaNoPointname : PySem.W.findIn K (.ref CNoPoint) "__getattribute__" = some (some (.builtin "BaseException.__getattribute__")))
    (zbNoPointname : PySem.W.findIn K (.ref CNoPoint) "__getattr__" = some none)
    (znNoPointname : PySem.W.findIn K (.ref CNoPoint) "name" = some none)
    (aNoSuch___init__ : PySem.W.findIn K (.ref CNoSuch) "__init__" = some (some (.ref fNoSuch___init__)))
    (iNoSuch___init__ : PySem.W.isFn K (.ref fNoSuch___init__) = true)
    (lNoSuch___init__ : K.lookup fNoSuch___init__ = some ⟨ocNoSuch___init__, odNoSuch___init__, .func (PySem.W.fnOf "__init__" "NoSuch.__init__" (defArgs s_NoSuch___init__) (defBody s_NoSuch___init__) (defScope s_NoSuch___init__) .none kVNoSuch___init__ dcNoSuch___init__ pmNoSuch___init__ anNoSuch___init__ cdNoSuch___init__ ctNoSuch___init__), slNoSuch___init__⟩)
    (ccNoSuch___init__ : PySem.W.codeIn K cdNoSuch___init__ "NoSuch.__init__" = true)
    (xaNoSuch : excAt K CNoSuch bmV "ValueError.__new__" = true)
    (xkNoSuch : PySem.W.keepIn K (.ref CNoSuch) = true)
    (ysNoSuchnumber : PySem.W.findIn K (.ref CNoSuch) "__setattr__" = some (some (.builtin "object.__setattr__")))
    (yoNoSuchnumber : ownVIn K CNoSuch = true)
    (ytNoSuchnumber : PySem.W.takerIn K CNoSuch "number" = some none)
    (yhNoSuchnumber : PySem.W.hasDictIn K CNoSuch = true)
    (zaNoSuchnumber : PySem.W.findIn K (.ref CNoSuch) "__getattribute__" = some (some (.builtin "BaseException.__getattribute__")))
    (zbNoSuchnumber : PySem.W.findIn K (.ref CNoSuch) "__getattr__" = some none)
    (znNoSuchnumber : PySem.W.findIn K (.ref CNoSuch) "number" = some none)
    (afits : PySem.W.nsIn K mainGlobals "fits" = some (some (.ref ffits)))
    (lfits : K.lookup ffits = some ⟨ocfits, odfits, .func (PySem.W.fnOf "fits" "fits" (defArgs s_fits) (defBody s_fits) (defScope s_fits) .none kVfits dcfits pmfits anfits cdfits ctfits), slfits⟩)
    (ccfits : PySem.W.codeIn K cdfits "fits" = true)
    (kfits : PySem.W.keepIn K (.ref ffits) = true)
    (aworth : PySem.W.nsIn K mainGlobals "worth" = some (some (.ref fworth)))
    (lworth : K.lookup fworth = some ⟨ocworth, odworth, .func (PySem.W.fnOf "worth" "worth" (defArgs s_worth) (defBody s_worth) (defScope s_worth) .none kVworth dcworth pmworth anworth cdworth ctworth), slworth⟩)
    (ccworth : PySem.W.codeIn K cdworth "worth" = true)
    (kworth : PySem.W.keepIn K (.ref fworth) = true)
    (ais_name : PySem.W.nsIn K mainGlobals "is_name" = some (some (.ref fis_name)))
    (lis_name : K.lookup fis_name = some ⟨ocis_name, odis_name, .func (PySem.W.fnOf "is_name" "is_name" (defArgs s_is_name) (defBody s_is_name) (defScope s_is_name) .none kVis_name dcis_name pmis_name anis_name cdis_name ctis_name), slis_name⟩)
    (ccis_name : PySem.W.codeIn K cdis_name "is_name" = true)
    (kis_name : PySem.W.keepIn K (.ref fis_name) = true)
    (ais_whole : PySem.W.nsIn K mainGlobals "is_whole" = some (some (.ref fis_whole)))
    (lis_whole : K.lookup fis_whole = some ⟨ocis_whole, odis_whole, .func (PySem.W.fnOf "is_whole" "is_whole" (defArgs s_is_whole) (defBody s_is_whole) (defScope s_is_whole) .none kVis_whole dcis_whole pmis_whole anis_whole cdis_whole ctis_whole), slis_whole⟩)
    (ccis_whole : PySem.W.codeIn K cdis_whole "is_whole" = true)
    (kis_whole : PySem.W.keepIn K (.ref fis_whole) = true)
    (ain_range : PySem.W.nsIn K mainGlobals "in_range" = some (some (.ref fin_range)))
    (lin_range : K.lookup fin_range = some ⟨ocin_range, odin_range, .func (PySem.W.fnOf "in_range" "in_range" (defArgs s_in_range) (defBody s_in_range) (defScope s_in_range) .none kVin_range dcin_range pmin_range anin_range cdin_range ctin_range), slin_range⟩)
    (ccin_range : PySem.W.codeIn K cdin_range "in_range" = true)
    (kin_range : PySem.W.keepIn K (.ref fin_range) = true)
    (aNet___init__ : PySem.W.findIn K (.ref CNet) "__init__" = some (some (.ref fNet___init__)))
    (iNet___init__ : PySem.W.isFn K (.ref fNet___init__) = true)
    (lNet___init__ : K.lookup fNet___init__ = some ⟨ocNet___init__, odNet___init__, .func (PySem.W.fnOf "__init__" "Net.__init__" (defArgs s_Net___init__) (defBody s_Net___init__) (defScope s_Net___init__) .none kVNet___init__ dcNet___init__ pmNet___init__ anNet___init__ cdNet___init__ ctNet___init__), slNet___init__⟩)
    (ccNet___init__ : PySem.W.codeIn K cdNet___init__ "Net.__init__" = true)
    (aNet_put_point : PySem.W.findIn K (.ref CNet) "put_point" = some (some (.ref fNet_put_point)))
    (iNet_put_point : PySem.W.isFn K (.ref fNet_put_point) = true)
    (lNet_put_point : K.lookup fNet_put_point = some ⟨ocNet_put_point, odNet_put_point, .func (PySem.W.fnOf "put_point" "Net.put_point" (defArgs s_Net_put_point) (defBody s_Net_put_point) (defScope s_Net_put_point) (.ref TNet_put_point) kVNet_put_point dcNet_put_point pmNet_put_point anNet_put_point cdNet_put_point ctNet_put_point), slNet_put_point⟩)
    (ccNet_put_point : PySem.W.codeIn K cdNet_put_point "Net.put_point" = true)
    (tdNet_put_point : K.lookup TNet_put_point = some ⟨ocTNet_put_point, odTNet_put_point, .seq #[.int 0 tkNet_put_point0] nTNet_put_point, slTNet_put_point⟩)
    (kNet_put_point : PySem.W.keepIn K (.ref fNet_put_point) = true)
    (aNet_put_arrow : PySem.W.findIn K (.ref CNet) "put_arrow" = some (some (.ref fNet_put_arrow)))
    (iNet_put_arrow : PySem.W.isFn K (.ref fNet_put_arrow) = true)
    (lNet_put_arrow : K.lookup fNet_put_arrow = some ⟨ocNet_put_arrow, odNet_put_arrow, .func (PySem.W.fnOf "put_arrow" "Net.put_arrow" (defArgs s_Net_put_arrow) (defBody s_Net_put_arrow) (defScope s_Net_put_arrow) (.ref TNet_put_arrow) kVNet_put_arrow dcNet_put_arrow pmNet_put_arrow anNet_put_arrow cdNet_put_arrow ctNet_put_arrow), slNet_put_arrow⟩)
    (ccNet_put_arrow : PySem.W.codeIn K cdNet_put_arrow "Net.put_arrow" = true)
    (tdNet_put_arrow : K.lookup TNet_put_arrow = some ⟨ocTNet_put_arrow, odTNet_put_arrow, .seq #[.int 1 tkNet_put_arrow0, .int 1 tkNet_put_arrow1] nTNet_put_arrow, slTNet_put_arrow⟩)
    (kNet_put_arrow : PySem.W.keepIn K (.ref fNet_put_arrow) = true)
    (aNet_put_same : PySem.W.findIn K (.ref CNet) "put_same" = some (some (.ref fNet_put_same)))
    (iNet_put_same : PySem.W.isFn K (.ref fNet_put_same) = true)
    (lNet_put_same : K.lookup fNet_put_same = some ⟨ocNet_put_same, odNet_put_same, .func (PySem.W.fnOf "put_same" "Net.put_same" (defArgs s_Net_put_same) (defBody s_Net_put_same) (defScope s_Net_put_same) .none kVNet_put_same dcNet_put_same pmNet_put_same anNet_put_same cdNet_put_same ctNet_put_same), slNet_put_same⟩)
    (ccNet_put_same : PySem.W.codeIn K cdNet_put_same "Net.put_same" = true)
    (kNet_put_same : PySem.W.keepIn K (.ref fNet_put_same) = true)
    (aNet_put_most : PySem.W.findIn K (.ref CNet) "put_most" = some (some (.ref fNet_put_most)))
    (iNet_put_most : PySem.W.isFn K (.ref fNet_put_most) = true)
    (lNet_put_most : K.lookup fNet_put_most = some ⟨ocNet_put_most, odNet_put_most, .func (PySem.W.fnOf "put_most" "Net.put_most" (defArgs s_Net_put_most) (defBody s_Net_put_most) (defScope s_Net_put_most) .none kVNet_put_most dcNet_put_most pmNet_put_most anNet_put_most cdNet_put_most ctNet_put_most), slNet_put_most⟩)
    (ccNet_put_most : PySem.W.codeIn K cdNet_put_most "Net.put_most" = true)
    (kNet_put_most : PySem.W.keepIn K (.ref fNet_put_most) = true)
    (aNet_take_arrow : PySem.W.findIn K (.ref CNet) "take_arrow" = some (some (.ref fNet_take_arrow)))
    (iNet_take_arrow : PySem.W.isFn K (.ref fNet_take_arrow) = true)
    (lNet_take_arrow : K.lookup fNet_take_arrow = some ⟨ocNet_take_arrow, odNet_take_arrow, .func (PySem.W.fnOf "take_arrow" "Net.take_arrow" (defArgs s_Net_take_arrow) (defBody s_Net_take_arrow) (defScope s_Net_take_arrow) .none kVNet_take_arrow dcNet_take_arrow pmNet_take_arrow anNet_take_arrow cdNet_take_arrow ctNet_take_arrow), slNet_take_arrow⟩)
    (ccNet_take_arrow : PySem.W.codeIn K cdNet_take_arrow "Net.take_arrow" = true)
    (kNet_take_arrow : PySem.W.keepIn K (.ref fNet_take_arrow) = true)
    (aNet_points : PySem.W.findIn K (.ref CNet) "points" = some (some (.ref fNet_points)))
    (iNet_points : PySem.W.isFn K (.ref fNet_points) = true)
    (lNet_points : K.lookup fNet_points = some ⟨ocNet_points, odNet_points, .func (PySem.W.fnOf "points" "Net.points" (defArgs s_Net_points) (defBody s_Net_points) (defScope s_Net_points) .none kVNet_points dcNet_points pmNet_points anNet_points cdNet_points ctNet_points), slNet_points⟩)
    (ccNet_points : PySem.W.codeIn K cdNet_points "Net.points" = true)
    (kNet_points : PySem.W.keepIn K (.ref fNet_points) = true)
    (aNet_arrows : PySem.W.findIn K (.ref CNet) "arrows" = some (some (.ref fNet_arrows)))
    (iNet_arrows : PySem.W.isFn K (.ref fNet_arrows) = true)
    (lNet_arrows : K.lookup fNet_arrows = some ⟨ocNet_arrows, odNet_arrows, .func (PySem.W.fnOf "arrows" "Net.arrows" (defArgs s_Net_arrows) (defBody s_Net_arrows) (defScope s_Net_arrows) .none kVNet_arrows dcNet_arrows pmNet_arrows anNet_arrows cdNet_arrows ctNet_arrows), slNet_arrows⟩)
    (ccNet_arrows : PySem.W.codeIn K cdNet_arrows "Net.arrows" = true)
    (kNet_arrows : PySem.W.keepIn K (.ref fNet_arrows) = true)
    (aNet_sames : PySem.W.findIn K (.ref CNet) "sames" = some (some (.ref fNet_sames)))
    (iNet_sames : PySem.W.isFn K (.ref fNet_sames) = true)
    (lNet_sames : K.lookup fNet_sames = some ⟨ocNet_sames, odNet_sames, .func (PySem.W.fnOf "sames" "Net.sames" (defArgs s_Net_sames) (defBody s_Net_sames) (defScope s_Net_sames) .none kVNet_sames dcNet_sames pmNet_sames anNet_sames cdNet_sames ctNet_sames), slNet_sames⟩)
    (ccNet_sames : PySem.W.codeIn K cdNet_sames "Net.sames" = true)
    (kNet_sames : PySem.W.keepIn K (.ref fNet_sames) = true)
    (aNet_mosts : PySem.W.findIn K (.ref CNet) "mosts" = some (some (.ref fNet_mosts)))
    (iNet_mosts : PySem.W.isFn K (.ref fNet_mosts) = true)
    (lNet_mosts : K.lookup fNet_mosts = some ⟨ocNet_mosts, odNet_mosts, .func (PySem.W.fnOf "mosts" "Net.mosts" (defArgs s_Net_mosts) (defBody s_Net_mosts) (defScope s_Net_mosts) .none kVNet_mosts dcNet_mosts pmNet_mosts anNet_mosts cdNet_mosts ctNet_mosts), slNet_mosts⟩)
    (ccNet_mosts : PySem.W.codeIn K cdNet_mosts "Net.mosts" = true)
    (kNet_mosts : PySem.W.keepIn K (.ref fNet_mosts) = true)
    (aNet_need_point : PySem.W.findIn K (.ref CNet) "need_point" = some (some (.ref fNet_need_point)))
    (iNet_need_point : PySem.W.isFn K (.ref fNet_need_point) = true)
    (lNet_need_point : K.lookup fNet_need_point = some ⟨ocNet_need_point, odNet_need_point, .func (PySem.W.fnOf "need_point" "Net.need_point" (defArgs s_Net_need_point) (defBody s_Net_need_point) (defScope s_Net_need_point) .none kVNet_need_point dcNet_need_point pmNet_need_point anNet_need_point cdNet_need_point ctNet_need_point), slNet_need_point⟩)
    (ccNet_need_point : PySem.W.codeIn K cdNet_need_point "Net.need_point" = true)
    (kNet_need_point : PySem.W.keepIn K (.ref fNet_need_point) = true)
    (aNet_need_two_points : PySem.W.findIn K (.ref CNet) "need_two_points" = some (some (.ref fNet_need_two_points)))
    (iNet_need_two_points : PySem.W.isFn K (.ref fNet_need_two_points) = true)
    (lNet_need_two_points : K.lookup fNet_need_two_points = some ⟨ocNet_need_two_points, odNet_need_two_points, .func (PySem.W.fnOf "need_two_points" "Net.need_two_points" (defArgs s_Net_need_two_points) (defBody s_Net_need_two_points) (defScope s_Net_need_two_points) .none kVNet_need_two_points dcNet_need_two_points pmNet_need_two_points anNet_need_two_points cdNet_need_two_points ctNet_need_two_points), slNet_need_two_points⟩)
    (ccNet_need_two_points : PySem.W.codeIn K cdNet_need_two_points "Net.need_two_points" = true)
    (kNet_need_two_points : PySem.W.keepIn K (.ref fNet_need_two_points) = true)
    (away : PySem.W.nsIn K mainGlobals "way" = some (some (.ref fway)))
    (lway : K.lookup fway = some ⟨ocway, odway, .func (PySem.W.fnOf "way" "way" (defArgs s_way) (defBody s_way) (defScope s_way) .none kVway dcway pmway anway cdway ctway), slway⟩)
    (ccway : PySem.W.codeIn K cdway "way" = true)
    (kway : PySem.W.keepIn K (.ref fway) = true)
    (akept_arrows : PySem.W.nsIn K mainGlobals "kept_arrows" = some (some (.ref fkept_arrows)))
    (lkept_arrows : K.lookup fkept_arrows = some ⟨ockept_arrows, odkept_arrows, .func (PySem.W.fnOf "kept_arrows" "kept_arrows" (defArgs s_kept_arrows) (defBody s_kept_arrows) (defScope s_kept_arrows) .none kVkept_arrows dckept_arrows pmkept_arrows ankept_arrows cdkept_arrows ctkept_arrows), slkept_arrows⟩)
    (cckept_arrows : PySem.W.codeIn K cdkept_arrows "kept_arrows" = true)
    (kkept_arrows : PySem.W.keepIn K (.ref fkept_arrows) = true)
    (aturned : PySem.W.nsIn K mainGlobals "turned" = some (some (.ref fturned)))
    (lturned : K.lookup fturned = some ⟨octurned, odturned, .func (PySem.W.fnOf "turned" "turned" (defArgs s_turned) (defBody s_turned) (defScope s_turned) .none kVturned dcturned pmturned anturned cdturned ctturned), slturned⟩)
    (ccturned : PySem.W.codeIn K cdturned "turned" = true)
    (kturned : PySem.W.keepIn K (.ref fturned) = true)
    (awishes_of : PySem.W.nsIn K mainGlobals "wishes_of" = some (some (.ref fwishes_of)))
    (lwishes_of : K.lookup fwishes_of = some ⟨ocwishes_of, odwishes_of, .func (PySem.W.fnOf "wishes_of" "wishes_of" (defArgs s_wishes_of) (defBody s_wishes_of) (defScope s_wishes_of) .none kVwishes_of dcwishes_of pmwishes_of anwishes_of cdwishes_of ctwishes_of), slwishes_of⟩)
    (ccwishes_of : PySem.W.codeIn K cdwishes_of "wishes_of" = true)
    (kwishes_of : PySem.W.keepIn K (.ref fwishes_of) = true)
    (aplaces_by : PySem.W.nsIn K mainGlobals "places_by" = some (some (.ref fplaces_by)))
    (lplaces_by : K.lookup fplaces_by = some ⟨ocplaces_by, odplaces_by, .func (PySem.W.fnOf "places_by" "places_by" (defArgs s_places_by) (defBody s_places_by) (defScope s_places_by) .none kVplaces_by dcplaces_by pmplaces_by anplaces_by cdplaces_by ctplaces_by), slplaces_by⟩)
    (ccplaces_by : PySem.W.codeIn K cdplaces_by "places_by" = true)
    (kplaces_by : PySem.W.keepIn K (.ref fplaces_by) = true)
    (akeeps_net : PySem.W.nsIn K mainGlobals "keeps_net" = some (some (.ref fkeeps_net)))
    (lkeeps_net : K.lookup fkeeps_net = some ⟨ockeeps_net, odkeeps_net, .func (PySem.W.fnOf "keeps_net" "keeps_net" (defArgs s_keeps_net) (defBody s_keeps_net) (defScope s_keeps_net) .none kVkeeps_net dckeeps_net pmkeeps_net ankeeps_net cdkeeps_net ctkeeps_net), slkeeps_net⟩)
    (cckeeps_net : PySem.W.codeIn K cdkeeps_net "keeps_net" = true)
    (kkeeps_net : PySem.W.keepIn K (.ref fkeeps_net) = true)
    (alength : PySem.W.nsIn K mainGlobals "length" = some (some (.ref flength)))
    (llength : K.lookup flength = some ⟨oclength, odlength, .func (PySem.W.fnOf "length" "length" (defArgs s_length) (defBody s_length) (defScope s_length) .none kVlength dclength pmlength anlength cdlength ctlength), sllength⟩)
    (cclength : PySem.W.codeIn K cdlength "length" = true)
    (klength : PySem.W.keepIn K (.ref flength) = true)
    (a_law_cell_at : PySem.W.nsIn K mainGlobals "_law_cell_at" = some (some (.ref f_law_cell_at)))
    (l_law_cell_at : K.lookup f_law_cell_at = some ⟨oc_law_cell_at, od_law_cell_at, .func (PySem.W.fnOf "_law_cell_at" "_law_cell_at" (defArgs s__law_cell_at) (defBody s__law_cell_at) (defScope s__law_cell_at) .none kV_law_cell_at dc_law_cell_at pm_law_cell_at an_law_cell_at cd_law_cell_at ct_law_cell_at), sl_law_cell_at⟩)
    (cc_law_cell_at : PySem.W.codeIn K cd_law_cell_at "_law_cell_at" = true)
    (k_law_cell_at : PySem.W.keepIn K (.ref f_law_cell_at) = true)
    (a_law_stream : PySem.W.nsIn K mainGlobals "_law_stream" = some (some (.ref f_law_stream)))
    (l_law_stream : K.lookup f_law_stream = some ⟨oc_law_stream, od_law_stream, .func (PySem.W.fnOf "_law_stream" "_law_stream" (defArgs s__law_stream) (defBody s__law_stream) (defScope s__law_stream) .none kV_law_stream dc_law_stream pm_law_stream an_law_stream cd_law_stream ct_law_stream), sl_law_stream⟩)
    (cc_law_stream : PySem.W.codeIn K cd_law_stream "_law_stream" = true)
    (k_law_stream : PySem.W.keepIn K (.ref f_law_stream) = true)
    (a_law_names : PySem.W.nsIn K mainGlobals "_law_names" = some (some (.ref f_law_names)))
    (l_law_names : K.lookup f_law_names = some ⟨oc_law_names, od_law_names, .func (PySem.W.fnOf "_law_names" "_law_names" (defArgs s__law_names) (defBody s__law_names) (defScope s__law_names) .none kV_law_names dc_law_names pm_law_names an_law_names cd_law_names ct_law_names), sl_law_names⟩)
    (cc_law_names : PySem.W.codeIn K cd_law_names "_law_names" = true)
    (k_law_names : PySem.W.keepIn K (.ref f_law_names) = true)
    (a_law_deed : PySem.W.nsIn K mainGlobals "_law_deed" = some (some (.ref f_law_deed)))
    (l_law_deed : K.lookup f_law_deed = some ⟨oc_law_deed, od_law_deed, .func (PySem.W.fnOf "_law_deed" "_law_deed" (defArgs s__law_deed) (defBody s__law_deed) (defScope s__law_deed) .none kV_law_deed dc_law_deed pm_law_deed an_law_deed cd_law_deed ct_law_deed), sl_law_deed⟩)
    (cc_law_deed : PySem.W.codeIn K cd_law_deed "_law_deed" = true)
    (k_law_deed : PySem.W.keepIn K (.ref f_law_deed) = true)
    (a_law_due : PySem.W.nsIn K mainGlobals "_law_due" = some (some (.ref f_law_due)))
    (l_law_due : K.lookup f_law_due = some ⟨oc_law_due, od_law_due, .func (PySem.W.fnOf "_law_due" "_law_due" (defArgs s__law_due) (defBody s__law_due) (defScope s__law_due) .none kV_law_due dc_law_due pm_law_due an_law_due cd_law_due ct_law_due), sl_law_due⟩)
    (cc_law_due : PySem.W.codeIn K cd_law_due "_law_due" = true)
    (k_law_due : PySem.W.keepIn K (.ref f_law_due) = true)
    (a_law_kinds : PySem.W.nsIn K mainGlobals "_law_kinds" = some (some (.ref f_law_kinds)))
    (l_law_kinds : K.lookup f_law_kinds = some ⟨oc_law_kinds, od_law_kinds, .func (PySem.W.fnOf "_law_kinds" "_law_kinds" (defArgs s__law_kinds) (defBody s__law_kinds) (defScope s__law_kinds) .none kV_law_kinds dc_law_kinds pm_law_kinds an_law_kinds cd_law_kinds ct_law_kinds), sl_law_kinds⟩)
    (cc_law_kinds : PySem.W.codeIn K cd_law_kinds "_law_kinds" = true)
    (k_law_kinds : PySem.W.keepIn K (.ref f_law_kinds) = true)
    (a_law_levels : PySem.W.nsIn K mainGlobals "_law_levels" = some (some (.ref f_law_levels)))
    (l_law_levels : K.lookup f_law_levels = some ⟨oc_law_levels, od_law_levels, .func (PySem.W.fnOf "_law_levels" "_law_levels" (defArgs s__law_levels) (defBody s__law_levels) (defScope s__law_levels) .none kV_law_levels dc_law_levels pm_law_levels an_law_levels cd_law_levels ct_law_levels), sl_law_levels⟩)
    (cc_law_levels : PySem.W.codeIn K cd_law_levels "_law_levels" = true)
    (k_law_levels : PySem.W.keepIn K (.ref f_law_levels) = true)
    (alaw : PySem.W.nsIn K mainGlobals "law" = some (some (.ref flaw)))
    (llaw : K.lookup flaw = some ⟨oclaw, odlaw, .func (PySem.W.fnOf "law" "law" (defArgs s_law) (defBody s_law) (defScope s_law) .none kVlaw dclaw pmlaw anlaw cdlaw ctlaw), sllaw⟩)
    (cclaw : PySem.W.codeIn K cdlaw "law" = true)
    (klaw : PySem.W.keepIn K (.ref flaw) = true)
    (qGREATEST_MOST : PySem.W.nsIn K mainGlobals "GREATEST_MOST" = some (some (.int 99 tGREATEST_MOST)))
    (qGREATEST_WEIGHT : PySem.W.nsIn K mainGlobals "GREATEST_WEIGHT" = some (some (.int 1000000 tGREATEST_WEIGHT)))
    (qLONGEST_NAME : PySem.W.nsIn K mainGlobals "LONGEST_NAME" = some (some (.int 8 tLONGEST_NAME)))
    (qLONGEST_SPAN : PySem.W.nsIn K mainGlobals "LONGEST_SPAN" = some (some (.int 20 tLONGEST_SPAN)))
    (qMOST_ARROWS : PySem.W.nsIn K mainGlobals "MOST_ARROWS" = some (some (.int 40 tMOST_ARROWS)))
    (qMOST_MOSTS : PySem.W.nsIn K mainGlobals "MOST_MOSTS" = some (some (.int 20 tMOST_MOSTS)))
    (qMOST_POINTS : PySem.W.nsIn K mainGlobals "MOST_POINTS" = some (some (.int 20 tMOST_POINTS)))
    (qMOST_SAMES : PySem.W.nsIn K mainGlobals "MOST_SAMES" = some (some (.int 20 tMOST_SAMES)))
    (qSMALL_LETTERS : PySem.W.nsIn K mainGlobals "SMALL_LETTERS" = some (some (.str "abcdefghijklmnopqrstuvwxyz" tSMALL_LETTERS)))
    (qWIDEST_HALF : PySem.W.nsIn K mainGlobals "WIDEST_HALF" = some (some (.int 50 tWIDEST_HALF)))
    (ekb_str_str : PySem.W.kitOne K (.type "str") (.type "str") = some true)
    (ekb_int_int : PySem.W.kitOne K (.type "int") (.type "int") = some true)
    (ekb_int_bool : PySem.W.kitOne K (.type "int") (.type "bool") = some false)
    (ekb_list_list : PySem.W.kitOne K (.type "list") (.type "list") = some true)
    (ekb_tuple_tuple : PySem.W.kitOne K (.type "tuple") (.type "tuple") = some true)
    (zall : PySem.W.nsIn K mainGlobals "all" = some none)
    (zbool : PySem.W.nsIn K mainGlobals "bool" = some none)
    (zdict : PySem.W.nsIn K mainGlobals "dict" = some none)
    (zenumerate : PySem.W.nsIn K mainGlobals "enumerate" = some none)
    (zint : PySem.W.nsIn K mainGlobals "int" = some none)
    (zisinstance : PySem.W.nsIn K mainGlobals "isinstance" = some none)
    (zlen : PySem.W.nsIn K mainGlobals "len" = some none)
    (zlist : PySem.W.nsIn K mainGlobals "list" = some none)
    (zmax : PySem.W.nsIn K mainGlobals "max" = some none)
    (zrange : PySem.W.nsIn K mainGlobals "range" = some none)
    (zstr : PySem.W.nsIn K mainGlobals "str" = some none)
    (zsum : PySem.W.nsIn K mainGlobals "sum" = some none)
    (ztuple : PySem.W.nsIn K mainGlobals "tuple" = some none) :
    ∃ fd : FuncData, (∀ (s : Shared) (v : Value), BindsTo s fd ⟨[v], []⟩ [("_law_script", v)]) ∧ ∀ base : Heap, K.In base → base.Ns mainGlobals mg → FnOk l.prog w K mg base CX0 9 fa fd ["_law_script"] (spLaw K) := by
  have e := hfa.symm.trans (PySem.W.mg_of X G alaw)
  cases e
  have T : Tx K mg ⟨CDrawError, CNoName, CTaken, CAlone, CNoNumber, CTooMany, CNoPoint, CNoSuch, CNet⟩ := ⟨PySem.W.mg_of X G aDrawError,
    xbDrawError,
    xtDrawError,
    PySem.W.mg_of X G aNoName,
    xbNoName,
    xtNoName,
    ⟨xaNoName, xkNoName, xiNoName⟩,
    PySem.W.mg_of X G aTaken,
    xbTaken,
    xtTaken,
    ⟨xaTaken, xkTaken, xiTaken⟩,
    PySem.W.mg_of X G aAlone,
    xbAlone,
    xtAlone,
    ⟨xaAlone, xkAlone, xiAlone⟩,
    PySem.W.mg_of X G aNoNumber,
    xbNoNumber,
    xtNoNumber,
    ⟨xaNoNumber, xkNoNumber, xiNoNumber⟩,
    PySem.W.mg_of X G aTooMany,
    xbTooMany,
    xtTooMany,
    ⟨xaTooMany, xkTooMany, xiTooMany⟩,
    PySem.W.mg_of X G aNoPoint,
    xbNoPoint,
    xtNoPoint,
    PySem.W.mg_of X G aNoSuch,
    xbNoSuch,
    xtNoSuch,
    PySem.W.mg_of X G aNet,
    ⟨pgNet, hdNet, poNet, saNet⟩,
    naNet_arrows_by_number,
    naNet_halves,
    naNet_most_bounds,
    naNet_next_number,
    naNet_same_pairs,
    ⟨fNoPoint___init__, _, funD_mk lNoPoint___init__ ccNoPoint___init__, ⟨xaNoPoint, xkNoPoint, aNoPoint___init__, iNoPoint___init__⟩, PySem.W.mg_of X G aNoPoint, (.all (len2 fun _ _ => rfl))⟩,
    ⟨ysNoPointname, yoNoPointname, ytNoPointname, yhNoPointname⟩,
    ⟨zaNoPointname, zbNoPointname, xbNoPoint, znNoPointname, yhNoPointname⟩,
    ⟨fNoSuch___init__, _, funD_mk lNoSuch___init__ ccNoSuch___init__, ⟨xaNoSuch, xkNoSuch, aNoSuch___init__, iNoSuch___init__⟩, PySem.W.mg_of X G aNoSuch, (.all (len2 fun _ _ => rfl))⟩,
    ⟨ysNoSuchnumber, yoNoSuchnumber, ytNoSuchnumber, yhNoSuchnumber⟩,
    ⟨zaNoSuchnumber, zbNoSuchnumber, xbNoSuch, znNoSuchnumber, yhNoSuchnumber⟩,
    ⟨_, _, [], funD_mk lfits ccfits, PySem.W.mg_of X G afits, kfits, (.all (len3 fun _ _ _ => rfl)), .nil⟩,
    ⟨_, _, [], funD_mk lworth ccworth, PySem.W.mg_of X G aworth, kworth, (.all (len2 fun _ _ => rfl)), .nil⟩,
    ⟨_, _, [], funD_mk lis_name ccis_name, PySem.W.mg_of X G ais_name, kis_name, (.all (len1 fun _ => rfl)), .nil⟩,
    ⟨_, _, [], funD_mk lis_whole ccis_whole, PySem.W.mg_of X G ais_whole, kis_whole, (.all (len1 fun _ => rfl)), .nil⟩,
    ⟨_, _, [], funD_mk lin_range ccin_range, PySem.W.mg_of X G ain_range, kin_range, (.all (len3 fun _ _ _ => rfl)), .nil⟩,
    ⟨fNet___init__, _, funD_mk lNet___init__ ccNet___init__, ⟨mkNet, aNet___init__, iNet___init__, kcNet⟩, PySem.W.mg_of X G aNet, (.all (len1 fun _ => rfl))⟩,
    ⟨fNet_put_point, _, [], funD_mk lNet_put_point ccNet_put_point, ⟨aNet_put_point, iNet_put_point, kNet_put_point⟩, (fun s us KI hl => by have h9 : us.length = 3 := (by simpa using hl); clear hl; revert us; exact len3 fun _ _ _ => PySem.W.binds_K KI rfl tdNet_put_point rfl rfl rfl), .nil⟩,
    ⟨fNet_put_point, _, [.int 0 tkNet_put_point0], funD_mk lNet_put_point ccNet_put_point, ⟨aNet_put_point, iNet_put_point, kNet_put_point⟩, (fun s us KI hl => by have h9 : us.length = 2 := (by simpa using hl); clear hl; revert us; exact len2 fun _ _ => PySem.W.binds_K KI rfl tdNet_put_point rfl rfl rfl), (.cons ⟨tkNet_put_point0, rfl⟩ .nil)⟩,
    ⟨fNet_put_arrow, _, [], funD_mk lNet_put_arrow ccNet_put_arrow, ⟨aNet_put_arrow, iNet_put_arrow, kNet_put_arrow⟩, (fun s us KI hl => by have h9 : us.length = 5 := (by simpa using hl); clear hl; revert us; exact len5 fun _ _ _ _ _ => PySem.W.binds_K KI rfl tdNet_put_arrow rfl rfl rfl), .nil⟩,
    ⟨fNet_put_arrow, _, [.int 1 tkNet_put_arrow1], funD_mk lNet_put_arrow ccNet_put_arrow, ⟨aNet_put_arrow, iNet_put_arrow, kNet_put_arrow⟩, (fun s us KI hl => by have h9 : us.length = 4 := (by simpa using hl); clear hl; revert us; exact len4 fun _ _ _ _ => PySem.W.binds_K KI rfl tdNet_put_arrow rfl rfl rfl), (.cons ⟨tkNet_put_arrow1, rfl⟩ .nil)⟩,
    ⟨fNet_put_arrow, _, [.int 1 tkNet_put_arrow0, .int 1 tkNet_put_arrow1], funD_mk lNet_put_arrow ccNet_put_arrow, ⟨aNet_put_arrow, iNet_put_arrow, kNet_put_arrow⟩, (fun s us KI hl => by have h9 : us.length = 3 := (by simpa using hl); clear hl; revert us; exact len3 fun _ _ _ => PySem.W.binds_K KI rfl tdNet_put_arrow rfl rfl rfl), (.cons ⟨tkNet_put_arrow0, rfl⟩ (.cons ⟨tkNet_put_arrow1, rfl⟩ .nil))⟩,
    ⟨fNet_put_same, _, [], funD_mk lNet_put_same ccNet_put_same, ⟨aNet_put_same, iNet_put_same, kNet_put_same⟩, (.all (len3 fun _ _ _ => rfl)), .nil⟩,
    ⟨fNet_put_most, _, [], funD_mk lNet_put_most ccNet_put_most, ⟨aNet_put_most, iNet_put_most, kNet_put_most⟩, (.all (len4 fun _ _ _ _ => rfl)), .nil⟩,
    ⟨fNet_take_arrow, _, [], funD_mk lNet_take_arrow ccNet_take_arrow, ⟨aNet_take_arrow, iNet_take_arrow, kNet_take_arrow⟩, (.all (len2 fun _ _ => rfl)), .nil⟩,
    ⟨fNet_points, _, [], funD_mk lNet_points ccNet_points, ⟨aNet_points, iNet_points, kNet_points⟩, (.all (len1 fun _ => rfl)), .nil⟩,
    ⟨fNet_arrows, _, [], funD_mk lNet_arrows ccNet_arrows, ⟨aNet_arrows, iNet_arrows, kNet_arrows⟩, (.all (len1 fun _ => rfl)), .nil⟩,
    ⟨fNet_sames, _, [], funD_mk lNet_sames ccNet_sames, ⟨aNet_sames, iNet_sames, kNet_sames⟩, (.all (len1 fun _ => rfl)), .nil⟩,
    ⟨fNet_mosts, _, [], funD_mk lNet_mosts ccNet_mosts, ⟨aNet_mosts, iNet_mosts, kNet_mosts⟩, (.all (len1 fun _ => rfl)), .nil⟩,
    ⟨fNet_need_point, _, [], funD_mk lNet_need_point ccNet_need_point, ⟨aNet_need_point, iNet_need_point, kNet_need_point⟩, (.all (len2 fun _ _ => rfl)), .nil⟩,
    ⟨fNet_need_two_points, _, [], funD_mk lNet_need_two_points ccNet_need_two_points, ⟨aNet_need_two_points, iNet_need_two_points, kNet_need_two_points⟩, (.all (len3 fun _ _ _ => rfl)), .nil⟩,
    ⟨_, _, [], funD_mk lway ccway, PySem.W.mg_of X G away, kway, (.all (len3 fun _ _ _ => rfl)), .nil⟩,
    ⟨_, _, [], funD_mk lkept_arrows cckept_arrows, PySem.W.mg_of X G akept_arrows, kkept_arrows, (.all (len1 fun _ => rfl)), .nil⟩,
    ⟨_, _, [], funD_mk lturned ccturned, PySem.W.mg_of X G aturned, kturned, (.all (len1 fun _ => rfl)), .nil⟩,
    ⟨_, _, [], funD_mk lwishes_of ccwishes_of, PySem.W.mg_of X G awishes_of, kwishes_of, (.all (len1 fun _ => rfl)), .nil⟩,
    ⟨_, _, [], funD_mk lplaces_by ccplaces_by, PySem.W.mg_of X G aplaces_by, kplaces_by, (.all (len2 fun _ _ => rfl)), .nil⟩,
    ⟨_, _, [], funD_mk lkeeps_net cckeeps_net, PySem.W.mg_of X G akeeps_net, kkeeps_net, (.all (len2 fun _ _ => rfl)), .nil⟩,
    ⟨_, _, [], funD_mk llength cclength, PySem.W.mg_of X G alength, klength, (.all (len2 fun _ _ => rfl)), .nil⟩,
    ⟨_, _, [], funD_mk l_law_cell_at cc_law_cell_at, PySem.W.mg_of X G a_law_cell_at, k_law_cell_at, (.all (len2 fun _ _ => rfl)), .nil⟩,
    ⟨_, _, [], funD_mk l_law_stream cc_law_stream, PySem.W.mg_of X G a_law_stream, k_law_stream, (.all (len2 fun _ _ => rfl)), .nil⟩,
    ⟨_, _, [], funD_mk l_law_names cc_law_names, PySem.W.mg_of X G a_law_names, k_law_names, (.all (len1 fun _ => rfl)), .nil⟩,
    ⟨_, _, [], funD_mk l_law_deed cc_law_deed, PySem.W.mg_of X G a_law_deed, k_law_deed, (.all (len4 fun _ _ _ _ => rfl)), .nil⟩,
    ⟨_, _, [], funD_mk l_law_due cc_law_due, PySem.W.mg_of X G a_law_due, k_law_due, (.all (len2 fun _ _ => rfl)), .nil⟩,
    ⟨_, _, [], funD_mk l_law_kinds cc_law_kinds, PySem.W.mg_of X G a_law_kinds, k_law_kinds, (.all (len1 fun _ => rfl)), .nil⟩,
    ⟨_, _, [], funD_mk l_law_levels cc_law_levels, PySem.W.mg_of X G a_law_levels, k_law_levels, (.all (len3 fun _ _ _ => rfl)), .nil⟩,
    ⟨_, _, [], funD_mk llaw cclaw, PySem.W.mg_of X G alaw, klaw, (.all (len1 fun _ => rfl)), .nil⟩,
    ⟨tGREATEST_MOST, PySem.W.mg_of X G qGREATEST_MOST⟩,
    ⟨tGREATEST_WEIGHT, PySem.W.mg_of X G qGREATEST_WEIGHT⟩,
    ⟨tLONGEST_NAME, PySem.W.mg_of X G qLONGEST_NAME⟩,
    ⟨tLONGEST_SPAN, PySem.W.mg_of X G qLONGEST_SPAN⟩,
    ⟨tMOST_ARROWS, PySem.W.mg_of X G qMOST_ARROWS⟩,
    ⟨tMOST_MOSTS, PySem.W.mg_of X G qMOST_MOSTS⟩,
    ⟨tMOST_POINTS, PySem.W.mg_of X G qMOST_POINTS⟩,
    ⟨tMOST_SAMES, PySem.W.mg_of X G qMOST_SAMES⟩,
    ⟨tSMALL_LETTERS, PySem.W.mg_of X G qSMALL_LETTERS⟩,
    ⟨tWIDEST_HALF, PySem.W.mg_of X G qWIDEST_HALF⟩,
    ekb_str_str,
    ekb_int_int,
    ekb_int_bool,
    ekb_list_list,
    ekb_tuple_tuple,
    PySem.W.mg_none_of X G zall,
    PySem.W.mg_none_of X G zbool,
    PySem.W.mg_none_of X G zdict,
    PySem.W.mg_none_of X G zenumerate,
    PySem.W.mg_none_of X G zint,
    PySem.W.mg_none_of X G zisinstance,
    PySem.W.mg_none_of X G zlen,
    PySem.W.mg_none_of X G zlist,
    PySem.W.mg_none_of X G zmax,
    PySem.W.mg_none_of X G zrange,
    PySem.W.mg_none_of X G zstr,
    PySem.W.mg_none_of X G zsum,
    PySem.W.mg_none_of X G ztuple⟩
  exact ⟨_, fun s v => .of_eq rfl, fun base _ _ => ok_law T _ _ (funD_mk (st := s_law) llaw cclaw)⟩
theorem walk {l : PySem.W.OpenLaw} {q : Program} {loose : List Str} {XP : (Str → Option Value) → Heap → Prop} {YP : World → Heap → Prop} {d : DefRec} {K : Params → PySem.W.Frag} (hn : l.most = some 63) (hdf : d.params.defaults = [])
    (hY : ∀ (w : World) (h : Heap), YP w h → (K w.params).In h)
    (F : ∀ (w : World) (mg : Str → Option Value) (fa : Addr) (h : Heap), (K w.params).In h → h.Ns mainGlobals mg → mg d.name = some (.ref fa) →
      ∃ fd : FuncData, (∀ (s : Shared) (u : Value), BindsTo s fd ⟨[u], []⟩ [("_law_script", u)]) ∧ ∀ base : Heap, (K w.params).In base → base.Ns mainGlobals mg → FnOk l.prog w (K w.params) mg base CX0 9 fa fd ["_law_script"] (spLaw (K w.params))) :
    PySem.W.WalkO q loose XP YP l.row.toRowW d [] (fun f vs => PySem.call f vs) :=
  L2.walk_of (n := 63) (k := 9) (x := "_law_script") (CX := fun _ => CX0) (sp := fun w => spLaw (K w.params)) hn (by decide) hdf ⟨by decide, by decide⟩ hY F (fun _ _ a ns hl _ hS => ⟨a, ns, rfl, hS, hl, fun _ => rfl⟩) fun _ _ _ _ _ z => z
end K41
/-! the names of twins that are not wanted -/
def PySem.W.Fast.tw8027421447997170200 : Unit := ()
def PySem.W.Fast.tw5377102597836217990 : Unit := ()
def PySem.W.Fast.tw11201367976514581438 : Unit := ()
def PySem.W.Fast.tw18280469450428917195 : Unit := ()
def PySem.W.Fast.tw3343109938939826909 : Unit := ()
def PySem.W.Fast.tw12092350431033098613 : Unit := ()
def PySem.W.Fast.tw8913943576409662510 : Unit := ()
def PySem.W.Fast.tw4633915847023777767 : Unit := ()
def PySem.W.Fast.tw265779506045618110 : Unit := ()
def PySem.W.Fast.tw12790159443526220998 : Unit := ()
def PySem.W.Fast.tw6574255571074763304 : Unit := ()
def PySem.W.Fast.tw3124278789825673246 : Unit := ()
def PySem.W.Fast.tw17188010565819941200 : Unit := ()
def PySem.W.Fast.tw3941325336930217748 : Unit := ()
def PySem.W.Fast.tw12317829966681039067 : Unit := ()
def PySem.W.Fast.tw1979308681002048918 : Unit := ()
def PySem.W.Fast.tw5259535753041679334 : Unit := ()
def PySem.W.Fast.tw10262016708916561071 : Unit := ()
def PySem.W.Fast.tw16754004758992183660 : Unit := ()
def PySem.W.Fast.tw2569069164597374431 : Unit := ()
def PySem.W.Fast.tw4369212322111150983 : Unit := ()
def PySem.W.Fast.tw3967814014115942034 : Unit := ()
def PySem.W.Fast.tw17490650490772110023 : Unit := ()
def PySem.W.Fast.tw13591696698911905722 : Unit := ()
def PySem.W.Fast.tw7840340034231924133 : Unit := ()
def PySem.W.Fast.tw4952503659341848558 : Unit := ()
def PySem.W.Fast.tw8544314069720422102 : Unit := ()
def PySem.W.Fast.tw7483715232814316578 : Unit := ()
def PySem.W.Fast.tw956904618998536995 : Unit := ()
def PySem.W.Fast.tw11572265106893696623 : Unit := ()
def PySem.W.Fast.tw512387892794205436 : Unit := ()
open PySem PySem.W PyProof.Rows
set_option maxRecDepth 100000 in
set_option maxHeartbeats 0 in
theorem PySem.Challenge.cw_layerdraw_k41_what_a_net_wishes_holds : PySem.Challenge.rw_layerdraw_k41_what_a_net_wishes.Holds := by
  w_on; o_law; k_head; (case hw => w_witness2)
  k_fill
  refine K41.walk (l := PySem.Challenge.rw_layerdraw_k41_what_a_net_wishes) rfl rfl (fun w h Y => PySem.W.kIn_of Y) ?F
  case F =>
    intro w mg fa h KX G hmg
    refine' K41.all_mk KX G hmg ?aDrawError ?xbDrawError ?xtDrawError ?aNoName ?xbNoName ?xtNoName ?xaNoName ?xkNoName ?xiNoName ?aTaken ?xbTaken ?xtTaken ?xaTaken ?xkTaken ?xiTaken ?aAlone ?xbAlone ?xtAlone ?xaAlone ?xkAlone ?xiAlone ?aNoNumber ?xbNoNumber ?xtNoNumber ?xaNoNumber ?xkNoNumber ?xiNoNumber ?aTooMany ?xbTooMany ?xtTooMany ?xaTooMany ?xkTooMany ?xiTooMany ?aNoPoint ?xbNoPoint ?xtNoPoint ?aNoSuch ?xbNoSuch ?xtNoSuch ?aNet ?pgNet ?hdNet ?poNet ?saNet ?mkNet ?kcNet ?naNet_arrows_by_number ?naNet_halves ?naNet_most_bounds ?naNet_next_number ?naNet_same_pairs ?aNoPoint___init__ ?iNoPoint___init__ ?lNoPoint___init__ ?ccNoPoint___init__ ?xaNoPoint ?xkNoPoint ?ysNoPointname ?yoNoPointname ?ytNoPointname ?yhNoPointname ?zaNoPointname ?zbNoPointname ?znNoPointname ?aNoSuch___init__ ?iNoSuch___init__ ?lNoSuch___init__ ?ccNoSuch___init__ ?xaNoSuch ?xkNoSuch ?ysNoSuchnumber ?yoNoSuchnumber ?ytNoSuchnumber ?yhNoSuchnumber ?zaNoSuchnumber ?zbNoSuchnumber ?znNoSuchnumber ?afits ?lfits ?ccfits ?kfits ?aworth ?lworth ?ccworth ?kworth ?ais_name ?lis_name ?ccis_name ?kis_name ?ais_whole ?lis_whole ?ccis_whole ?kis_whole ?ain_range ?lin_range ?ccin_range ?kin_range ?aNet___init__ ?iNet___init__ ?lNet___init__ ?ccNet___init__ ?aNet_put_point ?iNet_put_point ?lNet_put_point ?ccNet_put_point ?tdNet_put_point ?kNet_put_point ?aNet_put_arrow ?iNet_put_arrow ?lNet_put_arrow ?ccNet_put_arrow ?tdNet_put_arrow ?kNet_put_arrow ?aNet_put_same ?iNet_put_same ?lNet_put_same ?ccNet_put_same ?kNet_put_same ?aNet_put_most ?iNet_put_most ?lNet_put_most ?ccNet_put_most ?kNet_put_most ?aNet_take_arrow ?iNet_take_arrow ?lNet_take_arrow ?ccNet_take_arrow ?kNet_take_arrow ?aNet_points ?iNet_points ?lNet_points ?ccNet_points ?kNet_points ?aNet_arrows ?iNet_arrows ?lNet_arrows ?ccNet_arrows ?kNet_arrows ?aNet_sames ?iNet_sames ?lNet_sames ?ccNet_sames ?kNet_sames ?aNet_mosts ?iNet_mosts ?lNet_mosts ?ccNet_mosts ?kNet_mosts ?aNet_need_point ?iNet_need_point ?lNet_need_point ?ccNet_need_point ?kNet_need_point ?aNet_need_two_points ?iNet_need_two_points ?lNet_need_two_points ?ccNet_need_two_points ?kNet_need_two_points ?away ?lway ?ccway ?kway ?akept_arrows ?lkept_arrows ?cckept_arrows ?kkept_arrows ?aturned ?lturned ?ccturned ?kturned ?awishes_of ?lwishes_of ?ccwishes_of ?kwishes_of ?aplaces_by ?lplaces_by ?ccplaces_by ?kplaces_by ?akeeps_net ?lkeeps_net ?cckeeps_net ?kkeeps_net ?alength ?llength ?cclength ?klength ?a_law_cell_at ?l_law_cell_at ?cc_law_cell_at ?k_law_cell_at ?a_law_stream ?l_law_stream ?cc_law_stream ?k_law_stream ?a_law_names ?l_law_names ?cc_law_names ?k_law_names ?a_law_deed ?l_law_deed ?cc_law_deed ?k_law_deed ?a_law_due ?l_law_due ?cc_law_due ?k_law_due ?a_law_kinds ?l_law_kinds ?cc_law_kinds ?k_law_kinds ?a_law_levels ?l_law_levels ?cc_law_levels ?k_law_levels ?alaw ?llaw ?cclaw ?klaw ?qGREATEST_MOST ?qGREATEST_WEIGHT ?qLONGEST_NAME ?qLONGEST_SPAN ?qMOST_ARROWS ?qMOST_MOSTS ?qMOST_POINTS ?qMOST_SAMES ?qSMALL_LETTERS ?qWIDEST_HALF ?ekb_str_str ?ekb_int_int ?ekb_int_bool ?ekb_list_list ?ekb_tuple_tuple ?zall ?zbool ?zdict ?zenumerate ?zint ?zisinstance ?zlen ?zlist ?zmax ?zrange ?zstr ?zsum ?ztuple
    (case aDrawError => first | k_is | kit_is | kernel_rfl | rfl)
    (case xbDrawError => first | k_is | kit_is | kernel_rfl | rfl)
    (case xtDrawError => first | k_is | kit_is | kernel_rfl | rfl)
    (case aNoName => first | k_is | kit_is | kernel_rfl | rfl)
    (case xbNoName => first | k_is | kit_is | kernel_rfl | rfl)
    (case xtNoName => first | k_is | kit_is | kernel_rfl | rfl)
    (case xaNoName => first | k_is | kit_is | kernel_rfl | rfl)
    (case xkNoName => first | k_is | kit_is | kernel_rfl | rfl)
    (case xiNoName => first | k_is | kit_is | kernel_rfl | rfl)
    (case aTaken => first | k_is | kit_is | kernel_rfl | rfl)
    (case xbTaken => first | k_is | kit_is | kernel_rfl | rfl)
    (case xtTaken => first | k_is | kit_is | kernel_rfl | rfl)
    (case xaTaken => first | k_is | kit_is | kernel_rfl | rfl)
    (case xkTaken => first | k_is | kit_is | kernel_rfl | rfl)
    (case xiTaken => first | k_is | kit_is | kernel_rfl | rfl)
    (case aAlone => first | k_is | kit_is | kernel_rfl | rfl)
    (case xbAlone => first | k_is | kit_is | kernel_rfl | rfl)
    (case xtAlone => first | k_is | kit_is | kernel_rfl | rfl)
    (case xaAlone => first | k_is | kit_is | kernel_rfl | rfl)
    (case xkAlone => first | k_is | kit_is | kernel_rfl | rfl)
    (case xiAlone => first | k_is | kit_is | kernel_rfl | rfl)
    (case aNoNumber => first | k_is | kit_is | kernel_rfl | rfl)
    (case xbNoNumber => first | k_is | kit_is | kernel_rfl | rfl)
    (case xtNoNumber => first | k_is | kit_is | kernel_rfl | rfl)
    (case xaNoNumber => first | k_is | kit_is | kernel_rfl | rfl)
    (case xkNoNumber => first | k_is | kit_is | kernel_rfl | rfl)
    (case xiNoNumber => first | k_is | kit_is | kernel_rfl | rfl)
    (case aTooMany => first | k_is | kit_is | kernel_rfl | rfl)
    (case xbTooMany => first | k_is | kit_is | kernel_rfl | rfl)
    (case xtTooMany => first | k_is | kit_is | kernel_rfl | rfl)
    (case xaTooMany => first | k_is | kit_is | kernel_rfl | rfl)
    (case xkTooMany => first | k_is | kit_is | kernel_rfl | rfl)
    (case xiTooMany => first | k_is | kit_is | kernel_rfl | rfl)
    (case aNoPoint => first | k_is | kit_is | kernel_rfl | rfl)
    (case xbNoPoint => first | k_is | kit_is | kernel_rfl | rfl)
    (case xtNoPoint => first | k_is | kit_is | kernel_rfl | rfl)
    (case aNoSuch => first | k_is | kit_is | kernel_rfl | rfl)
    (case xbNoSuch => first | k_is | kit_is | kernel_rfl | rfl)
    (case xtNoSuch => first | k_is | kit_is | kernel_rfl | rfl)
    (case aNet => first | k_is | kit_is | kernel_rfl | rfl)
    (case pgNet => first | k_is | kit_is | kernel_rfl | rfl)
    (case hdNet => first | k_is | kit_is | kernel_rfl | rfl)
    (case poNet => first | k_is | kit_is | kernel_rfl | rfl)
    (case saNet => first | k_is | kit_is | kernel_rfl | rfl)
    (case mkNet => first | k_is | kit_is | kernel_rfl | rfl)
    (case kcNet => first | k_is | kit_is | kernel_rfl | rfl)
    (case naNet_arrows_by_number => first | k_is | kit_is | kernel_rfl | rfl)
    (case naNet_halves => first | k_is | kit_is | kernel_rfl | rfl)
    (case naNet_most_bounds => first | k_is | kit_is | kernel_rfl | rfl)
    (case naNet_next_number => first | k_is | kit_is | kernel_rfl | rfl)
    (case naNet_same_pairs => first | k_is | kit_is | kernel_rfl | rfl)
    (case aNoPoint___init__ => first | k_is | kit_is | kernel_rfl | rfl)
    (case iNoPoint___init__ => first | k_is | kit_is | kernel_rfl | rfl)
    (case lNoPoint___init__ => first | k_is | kit_is | kernel_rfl | rfl)
    (case ccNoPoint___init__ => first | k_is | kit_is | kernel_rfl | rfl)
    (case xaNoPoint => first | k_is | kit_is | kernel_rfl | rfl)
    (case xkNoPoint => first | k_is | kit_is | kernel_rfl | rfl)
    (case ysNoPointname => first | k_is | kit_is | kernel_rfl | rfl)
    (case yoNoPointname => first | k_is | kit_is | kernel_rfl | rfl)
    (case ytNoPointname => first | k_is | kit_is | kernel_rfl | rfl)
    (case yhNoPointname => first | k_is | kit_is | kernel_rfl | rfl)
    (case zaNoPointname => first | k_is | kit_is | kernel_rfl | rfl)
    (case zbNoPointname => first | k_is | kit_is | kernel_rfl | rfl)
    (case znNoPointname => first | k_is | kit_is | kernel_rfl | rfl)
    (case aNoSuch___init__ => first | k_is | kit_is | kernel_rfl | rfl)
    (case iNoSuch___init__ => first | k_is | kit_is | kernel_rfl | rfl)
    (case lNoSuch___init__ => first | k_is | kit_is | kernel_rfl | rfl)
    (case ccNoSuch___init__ => first | k_is | kit_is | kernel_rfl | rfl)
    (case xaNoSuch => first | k_is | kit_is | kernel_rfl | rfl)
    (case xkNoSuch => first | k_is | kit_is | kernel_rfl | rfl)
    (case ysNoSuchnumber => first | k_is | kit_is | kernel_rfl | rfl)
    (case yoNoSuchnumber => first | k_is | kit_is | kernel_rfl | rfl)
    (case ytNoSuchnumber => first | k_is | kit_is | kernel_rfl | rfl)
    (case yhNoSuchnumber => first | k_is | kit_is | kernel_rfl | rfl)
    (case zaNoSuchnumber => first | k_is | kit_is | kernel_rfl | rfl)
    (case zbNoSuchnumber => first | k_is | kit_is | kernel_rfl | rfl)
    (case znNoSuchnumber => first | k_is | kit_is | kernel_rfl | rfl)
    (case afits => first | k_is | kit_is | kernel_rfl | rfl)
    (case lfits => first | k_is | kit_is | kernel_rfl | rfl)
    (case ccfits => first | k_is | kit_is | kernel_rfl | rfl)
    (case kfits => first | k_is | kit_is | kernel_rfl | rfl)
    (case aworth => first | k_is | kit_is | kernel_rfl | rfl)
    (case lworth => first | k_is | kit_is | kernel_rfl | rfl)
    (case ccworth => first | k_is | kit_is | kernel_rfl | rfl)
    (case kworth => first | k_is | kit_is | kernel_rfl | rfl)
    (case ais_name => first | k_is | kit_is | kernel_rfl | rfl)
    (case lis_name => first | k_is | kit_is | kernel_rfl | rfl)
    (case ccis_name => first | k_is | kit_is | kernel_rfl | rfl)
    (case kis_name => first | k_is | kit_is | kernel_rfl | rfl)
    (case ais_whole => first | k_is | kit_is | kernel_rfl | rfl)
    (case lis_whole => first | k_is | kit_is | kernel_rfl | rfl)
    (case ccis_whole => first | k_is | kit_is | kernel_rfl | rfl)
    (case kis_whole => first | k_is | kit_is | kernel_rfl | rfl)
    (case ain_range => first | k_is | kit_is | kernel_rfl | rfl)
    (case lin_range => first | k_is | kit_is | kernel_rfl | rfl)
    (case ccin_range => first | k_is | kit_is | kernel_rfl | rfl)
    (case kin_range => first | k_is | kit_is | kernel_rfl | rfl)
    (case aNet___init__ => first | k_is | kit_is | kernel_rfl | rfl)
    (case iNet___init__ => first | k_is | kit_is | kernel_rfl | rfl)
    (case lNet___init__ => first | k_is | kit_is | kernel_rfl | rfl)
    (case ccNet___init__ => first | k_is | kit_is | kernel_rfl | rfl)
    (case aNet_put_point => first | k_is | kit_is | kernel_rfl | rfl)
    (case iNet_put_point => first | k_is | kit_is | kernel_rfl | rfl)
    (case lNet_put_point => first | k_is | kit_is | kernel_rfl | rfl)
    (case ccNet_put_point => first | k_is | kit_is | kernel_rfl | rfl)
    (case tdNet_put_point => first | k_is | kit_is | kernel_rfl | rfl)
    (case kNet_put_point => first | k_is | kit_is | kernel_rfl | rfl)
    (case aNet_put_arrow => first | k_is | kit_is | kernel_rfl | rfl)
    (case iNet_put_arrow => first | k_is | kit_is | kernel_rfl | rfl)
    (case lNet_put_arrow => first | k_is | kit_is | kernel_rfl | rfl)
    (case ccNet_put_arrow => first | k_is | kit_is | kernel_rfl | rfl)
    (case tdNet_put_arrow => first | k_is | kit_is | kernel_rfl | rfl)
    (case kNet_put_arrow => first | k_is | kit_is | kernel_rfl | rfl)
    (case aNet_put_same => first | k_is | kit_is | kernel_rfl | rfl)
    (case iNet_put_same => first | k_is | kit_is | kernel_rfl | rfl)
    (case lNet_put_same => first | k_is | kit_is | kernel_rfl | rfl)
    (case ccNet_put_same => first | k_is | kit_is | kernel_rfl | rfl)
    (case kNet_put_same => first | k_is | kit_is | kernel_rfl | rfl)
    (case aNet_put_most => first | k_is | kit_is | kernel_rfl | rfl)
    (case iNet_put_most => first | k_is | kit_is | kernel_rfl | rfl)
    (case lNet_put_most => first | k_is | kit_is | kernel_rfl | rfl)
    (case ccNet_put_most => first | k_is | kit_is | kernel_rfl | rfl)
    (case kNet_put_most => first | k_is | kit_is | kernel_rfl | rfl)
    (case aNet_take_arrow => first | k_is | kit_is | kernel_rfl | rfl)
    (case iNet_take_arrow => first | k_is | kit_is | kernel_rfl | rfl)
    (case lNet_take_arrow => first | k_is | kit_is | kernel_rfl | rfl)
    (case ccNet_take_arrow => first | k_is | kit_is | kernel_rfl | rfl)
    (case kNet_take_arrow => first | k_is | kit_is | kernel_rfl | rfl)
    (case aNet_points => first | k_is | kit_is | kernel_rfl | rfl)
    (case iNet_points => first | k_is | kit_is | kernel_rfl | rfl)
    (case lNet_points => first | k_is | kit_is | kernel_rfl | rfl)
    (case ccNet_points => first | k_is | kit_is | kernel_rfl | rfl)
    (case kNet_points => first | k_is | kit_is | kernel_rfl | rfl)
    (case aNet_arrows => first | k_is | kit_is | kernel_rfl | rfl)
    (case iNet_arrows => first | k_is | kit_is | kernel_rfl | rfl)
    (case lNet_arrows => first | k_is | kit_is | kernel_rfl | rfl)
    (case ccNet_arrows => first | k_is | kit_is | kernel_rfl | rfl)
    (case kNet_arrows => first | k_is | kit_is | kernel_rfl | rfl)
    (case aNet_sames => first | k_is | kit_is | kernel_rfl | rfl)
    (case iNet_sames => first | k_is | kit_is | kernel_rfl | rfl)
    (case lNet_sames => first | k_is | kit_is | kernel_rfl | rfl)
    (case ccNet_sames => first | k_is | kit_is | kernel_rfl | rfl)
    (case kNet_sames => first | k_is | kit_is | kernel_rfl | rfl)
    (case aNet_mosts => first | k_is | kit_is | kernel_rfl | rfl)
    (case iNet_mosts => first | k_is | kit_is | kernel_rfl | rfl)
    (case lNet_mosts => first | k_is | kit_is | kernel_rfl | rfl)
    (case ccNet_mosts => first | k_is | kit_is | kernel_rfl | rfl)
    (case kNet_mosts => first | k_is | kit_is | kernel_rfl | rfl)
    (case aNet_need_point => first | k_is | kit_is | kernel_rfl | rfl)
    (case iNet_need_point => first | k_is | kit_is | kernel_rfl | rfl)
    (case lNet_need_point => first | k_is | kit_is | kernel_rfl | rfl)
    (case ccNet_need_point => first | k_is | kit_is | kernel_rfl | rfl)
    (case kNet_need_point => first | k_is | kit_is | kernel_rfl | rfl)
    (case aNet_need_two_points => first | k_is | kit_is | kernel_rfl | rfl)
    (case iNet_need_two_points => first | k_is | kit_is | kernel_rfl | rfl)
    (case lNet_need_two_points => first | k_is | kit_is | kernel_rfl | rfl)
    (case ccNet_need_two_points => first | k_is | kit_is | kernel_rfl | rfl)
    (case kNet_need_two_points => first | k_is | kit_is | kernel_rfl | rfl)
    (case away => first | k_is | kit_is | kernel_rfl | rfl)
    (case lway => first | k_is | kit_is | kernel_rfl | rfl)
    (case ccway => first | k_is | kit_is | kernel_rfl | rfl)
    (case kway => first | k_is | kit_is | kernel_rfl | rfl)
    (case akept_arrows => first | k_is | kit_is | kernel_rfl | rfl)
    (case lkept_arrows => first | k_is | kit_is | kernel_rfl | rfl)
    (case cckept_arrows => first | k_is | kit_is | kernel_rfl | rfl)
    (case kkept_arrows => first | k_is | kit_is | kernel_rfl | rfl)
    (case aturned => first | k_is | kit_is | kernel_rfl | rfl)
    (case lturned => first | k_is | kit_is | kernel_rfl | rfl)
    (case ccturned => first | k_is | kit_is | kernel_rfl | rfl)
    (case kturned => first | k_is | kit_is | kernel_rfl | rfl)
    (case awishes_of => first | k_is | kit_is | kernel_rfl | rfl)
    (case lwishes_of => first | k_is | kit_is | kernel_rfl | rfl)
    (case ccwishes_of => first | k_is | kit_is | kernel_rfl | rfl)
    (case kwishes_of => first | k_is | kit_is | kernel_rfl | rfl)
    (case aplaces_by => first | k_is | kit_is | kernel_rfl | rfl)
    (case lplaces_by => first | k_is | kit_is | kernel_rfl | rfl)
    (case ccplaces_by => first | k_is | kit_is | kernel_rfl | rfl)
    (case kplaces_by => first | k_is | kit_is | kernel_rfl | rfl)
    (case akeeps_net => first | k_is | kit_is | kernel_rfl | rfl)
    (case lkeeps_net => first | k_is | kit_is | kernel_rfl | rfl)
    (case cckeeps_net => first | k_is | kit_is | kernel_rfl | rfl)
    (case kkeeps_net => first | k_is | kit_is | kernel_rfl | rfl)
    (case alength => first | k_is | kit_is | kernel_rfl | rfl)
    (case llength => first | k_is | kit_is | kernel_rfl | rfl)
    (case cclength => first | k_is | kit_is | kernel_rfl | rfl)
    (case klength => first | k_is | kit_is | kernel_rfl | rfl)
    (case a_law_cell_at => first | k_is | kit_is | kernel_rfl | rfl)
    (case l_law_cell_at => first | k_is | kit_is | kernel_rfl | rfl)
    (case cc_law_cell_at => first | k_is | kit_is | kernel_rfl | rfl)
    (case k_law_cell_at => first | k_is | kit_is | kernel_rfl | rfl)
    (case a_law_stream => first | k_is | kit_is | kernel_rfl | rfl)
    (case l_law_stream => first | k_is | kit_is | kernel_rfl | rfl)
    (case cc_law_stream => first | k_is | kit_is | kernel_rfl | rfl)
    (case k_law_stream => first | k_is | kit_is | kernel_rfl | rfl)
    (case a_law_names => first | k_is | kit_is | kernel_rfl | rfl)
    (case l_law_names => first | k_is | kit_is | kernel_rfl | rfl)
    (case cc_law_names => first | k_is | kit_is | kernel_rfl | rfl)
    (case k_law_names => first | k_is | kit_is | kernel_rfl | rfl)
    (case a_law_deed => first | k_is | kit_is | kernel_rfl | rfl)
    (case l_law_deed => first | k_is | kit_is | kernel_rfl | rfl)
    (case cc_law_deed => first | k_is | kit_is | kernel_rfl | rfl)
    (case k_law_deed => first | k_is | kit_is | kernel_rfl | rfl)
    (case a_law_due => first | k_is | kit_is | kernel_rfl | rfl)
    (case l_law_due => first | k_is | kit_is | kernel_rfl | rfl)
    (case cc_law_due => first | k_is | kit_is | kernel_rfl | rfl)
    (case k_law_due => first | k_is | kit_is | kernel_rfl | rfl)
    (case a_law_kinds => first | k_is | kit_is | kernel_rfl | rfl)
    (case l_law_kinds => first | k_is | kit_is | kernel_rfl | rfl)
    (case cc_law_kinds => first | k_is | kit_is | kernel_rfl | rfl)
    (case k_law_kinds => first | k_is | kit_is | kernel_rfl | rfl)
    (case a_law_levels => first | k_is | kit_is | kernel_rfl | rfl)
    (case l_law_levels => first | k_is | kit_is | kernel_rfl | rfl)
    (case cc_law_levels => first | k_is | kit_is | kernel_rfl | rfl)
    (case k_law_levels => first | k_is | kit_is | kernel_rfl | rfl)
    (case alaw => first | k_is | kit_is | kernel_rfl | rfl)
    (case llaw => first | k_is | kit_is | kernel_rfl | rfl)
    (case cclaw => first | k_is | kit_is | kernel_rfl | rfl)
    (case klaw => first | k_is | kit_is | kernel_rfl | rfl)
    (case qGREATEST_MOST => first | k_is | kit_is | kernel_rfl | rfl)
    (case qGREATEST_WEIGHT => first | k_is | kit_is | kernel_rfl | rfl)
    (case qLONGEST_NAME => first | k_is | kit_is | kernel_rfl | rfl)
    (case qLONGEST_SPAN => first | k_is | kit_is | kernel_rfl | rfl)
    (case qMOST_ARROWS => first | k_is | kit_is | kernel_rfl | rfl)
    (case qMOST_MOSTS => first | k_is | kit_is | kernel_rfl | rfl)
    (case qMOST_POINTS => first | k_is | kit_is | kernel_rfl | rfl)
    (case qMOST_SAMES => first | k_is | kit_is | kernel_rfl | rfl)
    (case qSMALL_LETTERS => first | k_is | kit_is | kernel_rfl | rfl)
    (case qWIDEST_HALF => first | k_is | kit_is | kernel_rfl | rfl)
    (case ekb_str_str => first | k_is | kit_is | kernel_rfl | rfl)
    (case ekb_int_int => first | k_is | kit_is | kernel_rfl | rfl)
    (case ekb_int_bool => first | k_is | kit_is | kernel_rfl | rfl)
    (case ekb_list_list => first | k_is | kit_is | kernel_rfl | rfl)
    (case ekb_tuple_tuple => first | k_is | kit_is | kernel_rfl | rfl)
    (case zall => first | k_is | kit_is | kernel_rfl | rfl)
    (case zbool => first | k_is | kit_is | kernel_rfl | rfl)
    (case zdict => first | k_is | kit_is | kernel_rfl | rfl)
    (case zenumerate => first | k_is | kit_is | kernel_rfl | rfl)
    (case zint => first | k_is | kit_is | kernel_rfl | rfl)
    (case zisinstance => first | k_is | kit_is | kernel_rfl | rfl)
    (case zlen => first | k_is | kit_is | kernel_rfl | rfl)
    (case zlist => first | k_is | kit_is | kernel_rfl | rfl)
    (case zmax => first | k_is | kit_is | kernel_rfl | rfl)
    (case zrange => first | k_is | kit_is | kernel_rfl | rfl)
    (case zstr => first | k_is | kit_is | kernel_rfl | rfl)
    (case zsum => first | k_is | kit_is | kernel_rfl | rfl)
    (case ztuple => first | k_is | kit_is | kernel_rfl | rfl)

