import PyProof.Rows.All
import Wide.All
import OpenK.AllK
import Wide.FinOn
import Lean
import PyProof.EqAt
import PyProof.EqKinds
import PyProof.TupleCall
import PyProof.NeKinds
import PySem.Challenge.RW_layerdraw_k61_what_is_asked
set_option Elab.async false
set_option linter.all false
set_option maxRecDepth 100000
set_option genInjectivity false
set_option genSizeOf false
noncomputable section
namespace L2
theorem ex3 {α : Sort _} {a b : α → Prop} {G : Prop} (k : ∀ x, a x → b x → G) : (∃ x, a x ∧ b x) → G := fun ⟨x, h1, h2⟩ => k x h1 h2
theorem ex4 {α β : Sort _} {a b : α → β → Prop} {G : Prop} (k : ∀ x y, a x y → b x y → G) : (∃ x y, a x y ∧ b x y) → G := fun ⟨x, y, h1, h2⟩ => k x y h1 h2
theorem ex5 {α β : Sort _} {a b c : α → β → Prop} {G : Prop} (k : ∀ x y, a x y → b x y → c x y → G) : (∃ x y, a x y ∧ b x y ∧ c x y) → G := fun ⟨x, y, h1, h2, h3⟩ => k x y h1 h2 h3
end L2
/-! ### loops end, tuples open, errors are raised while an exception is handled, too -/
namespace L2
open PySem PySem.Spec PyProof.Rows
theorem entry_unchain : entryFor table "proto.unchain" = some Builtin.«proto.unchain» := entryFor_of_tree (by kernel_rfl)
/-- the contexts of exceptions, from one to the next, to the last, which has none -/
def nxt (cs : List Addr) (j : Nat) : Value := match cs[j]? with | none => Value.none | some b => Value.ref b
def Chn (h : Heap) (cs : List Addr) : Prop := cs.Nodup ∧ ∀ j a, cs[j]? = some a → ∃ o vs, h.get? a = some o ∧ o.data = .fields vs ∧ vs[2]? = some (nxt cs (j + 1))
/-- nothing is handled, or an exception whose contexts end -/
def Hd (A : Around) (h : Heap) : Prop := A.handled = none ∨ ∃ a cs, A.handled = some (.ref a) ∧ Chn h (a :: cs)
theorem Hd.keeps {A : Around} {h h' : Heap} (x : Hd A h) (k : ∀ b o, h.get? b = some o → h'.get? b = some o) : Hd A h' := by
  rcases x with e | ⟨a, cs, e, nd, c⟩
  · exact .inl e
  · refine .inr ⟨a, cs, e, nd, fun j b hb => ?_⟩
    obtain ⟨o, vs, ho, r⟩ := c j b hb
    exact ⟨o, vs, k b o ho, r⟩
/-- kept but for the object at it, which is no exception of the chain -/
theorem Hd.but {A : Around} {h h' : Heap} {it : Addr} {oi : Obj} (x : Hd A h) (hit : h.get? it = some oi) (hno : ∀ vs, oi.data = .fields vs → vs.size < 3 ∨ vs[2]? ≠ some Value.none ∧ ∀ b, vs[2]? ≠ some (.ref b)) (k : ∀ b o, b ≠ it → h.get? b = some o → h'.get? b = some o) : Hd A h' := by
  rcases x with e | ⟨a, cs, e, nd, c⟩
  · exact .inl e
  · refine .inr ⟨a, cs, e, nd, fun j b hb => ?_⟩
    obtain ⟨o, vs, ho, hd, h2⟩ := c j b hb
    refine ⟨o, vs, k b o (fun z => ?_) ho, hd, h2⟩
    subst z
    rw [hit] at ho
    cases ho
    rcases hno vs hd with q | ⟨q1, q2⟩
    · have := (Array.getElem?_eq_some_iff.mp h2).1
      omega
    · unfold nxt at h2
      cases hz : (a :: cs)[j + 1]? with
      | none => rw [hz] at h2; exact q1 h2
      | some y => rw [hz] at h2; exact q2 y h2
section
variable {prog : Program} {w : World} {A : Around} {E : Value → Shared → Prop} {s : Shared}
theorem unchain_ok {cs : List Addr} {e : Addr} {R : Result → Shared → Prop} (c : Chn s.heap cs) (he : e ∉ cs) (hR : R (.ok (.ret .none)) s) : ∀ (n j i : Nat) (o sl : Addr) (tg : Bool), cs.length - j = n → cs[j]? = some o → cs[i]? = some sl → i ≤ j →
    codeAny (model prog w) A (.builtin "proto.unchain" ⟨[.ref e, .ref o, .ref sl, .bool tg], []⟩) R s := by
  intro n
  induction n with
  | zero =>
    intro j i o sl tg hn hj _ _
    have := (List.getElem?_eq_some_iff.mp hj).1
    omega
  | succ n ih =>
    intro j i o sl tg hn hj hi hij
    obtain ⟨oo, vs, ho, hd, h2⟩ := c.2 j o hj
    refine codeAny_builtin entry_unchain ?_
    unfold Builtin.«proto.unchain»
    refine wpAny_bind (wpAny_field ho hd h2 ?_)
    cases hz : cs[j + 1]? with
    | none =>
      simp only [nxt, hz]
      rw [if_pos (by rfl)]
      refine wpAny_bind (wpAny_pure (wpAny_pure ?_))
      exact hR
    | some b =>
      simp only [nxt, hz]
      have hb : b ∈ cs := List.mem_of_getElem? hz
      have hbe : b ≠ e := fun z => he (z ▸ hb)
      have hbs : b ≠ sl := fun z => by
        subst z
        have e1 := List.getElem?_eq_some_iff.mp hz
        have e2 := List.getElem?_eq_some_iff.mp hi
        have lt : i < j + 1 := by omega
        exact (List.pairwise_iff_getElem.mp c.1) i (j + 1) e2.1 e1.1 lt (e2.2.trans e1.2.symm)
      rw [if_neg (by simp), if_neg (by simpa using hbe), if_neg (by simpa using hbs)]
      have hi1 : ∃ b', cs[i + 1]? = some b' := by
        have e1 := (List.getElem?_eq_some_iff.mp hz).1
        exact ⟨_, List.getElem?_eq_getElem (by omega)⟩
      obtain ⟨b', hb'⟩ := hi1
      cases tg with
      | false =>
        rw [if_neg (by simp)]
        refine wpAny_bind (wpAny_pure (wpAny_pure ?_))
        exact (⟨Code.quiet_builtin _ (by decide +kernel), ih (j + 1) i b sl true (by omega) hz hi (by omega)⟩)
      | true =>
        rw [if_pos rfl]
        obtain ⟨os, ws, hos, hds, hs2⟩ := c.2 i sl hi
        simp only [nxt, hb'] at hs2
        refine wpAny_bind (wpAny_field hos hds hs2 (wpAny_pure ?_))
        exact (⟨Code.quiet_builtin _ (by decide +kernel), ih (j + 1) (i + 1) b b' false (by omega) hz hb' (by omega)⟩)
theorem raise_hd {α : Type} {e : Addr} {oe : Obj} {vs : Array Value} {Q : α → Shared → Prop} (hd : A.handled = none ∨ ∃ a cs, A.handled = some (.ref a) ∧ Chn s.heap (a :: cs) ∧ e ∉ a :: cs) (he : s.heap.get? e = some oe) (hf : oe.data = .fields vs) (h2 : 2 < vs.size)
    (h : ∀ h' o' vs', (∀ b o, b ≠ e → s.heap.get? b = some o → h'.get? b = some o) → h'.get? e = some o' → o'.cls = oe.cls → o'.dict = oe.dict → o'.data = .fields vs' → vs'.size = vs.size → vs'[1]? = vs[1]? → vs'[2]? = (match A.handled with | none => vs[2]? | some v => some v) → E (.ref e) { s with heap := h' }) :
    wpAny (model prog w) A (raiseNew (.ref e) : Sem α) Q E s := by
  unfold raiseNew
  refine wpAny_bind (wpAny_handled ?_)
  rcases hd with hn | ⟨a, cs, ha, c, hin⟩
  · rw [hn]
    exact wpAny_bind (wpAny_pure (wpAny_throw (h s.heap oe vs (fun _ _ _ q => q) he rfl rfl hf rfl rfl (by rw [hn]))))
  · rw [ha]
    have hae : a ≠ e := fun z => hin (by simp [z])
    show wpAny _ _ (if (Value.ref a != Value.ref e) = true then _ else _) _ _ s
    rw [if_pos (by simpa using hae)]
    refine wpAny_bind (wpAny_holding (wpAny_runValue (unchain_ok c hin ?_ _ 0 0 a a false rfl rfl rfl (Nat.le_refl _))))
    have up := Obj.data_mapFields hf (·.setIfInBounds 2 (Value.ref a))
    refine wpAny_bind (show wpAny _ _ (setField (.ref e) 2 (.ref a)) _ _ s from wpAny_setField he hf h2 (wpAny_throw (h _ _ _ (fun b q hb hq => (Heap.get?_update_other _ _ (Ne.symm hb)).trans hq) (Heap.get?_update_self _ he (Obj.isFreed_of_fields up)) (Obj.cls_mapFields _ _) ?_ up (by simp) ?_ ?_)))
    · obtain ⟨c1, d1, dt, sl⟩ := oe
      cases dt <;> rfl
    · rw [Array.getElem?_setIfInBounds_ne (by decide)]
    · rw [ha]; simp [h2]
theorem Chn.lt {h : Heap} {cs : List Addr} (c : Chn h cs) : ∀ b ∈ cs, b < h.objs.size := fun b hb => by
  obtain ⟨j, hj⟩ := List.mem_iff_getElem?.mp hb
  obtain ⟨o, _, ho, _⟩ := c.2 j b hj
  exact Heap.lt_size ho
theorem Chn.mono {h h' : Heap} {cs : List Addr} (c : Chn h cs) (k : ∀ b o, b ∈ cs → h.get? b = some o → h'.get? b = some o) : Chn h' cs := ⟨c.1, fun j a hj => by
  obtain ⟨o, vs, ho, r⟩ := c.2 j a hj
  exact ⟨o, vs, k a o (List.mem_of_getElem? hj) ho, r⟩⟩
/-- a StopIteration, made and raised -/
theorem stop_hd {α : Type} {Q : α → Shared → Prop} (hd : Hd A s.heap)
    (h : ∀ h' e, (∀ b o, s.heap.get? b = some o → h'.get? b = some o) → (∃ o', h'.get? e = some o' ∧ o'.cls = .type "StopIteration") → E (.ref e) { s with heap := h' }) :
    wpAny (model prog w) A (newExc (.type "StopIteration") [] >>= fun e => (raiseNew e : Sem α)) Q E s := by
  refine wpAny_bind ?_
  unfold newExc newTuple
  refine wpAny_bind (wpAny_newObj_type ?_ (by size_fits))
  refine wpAny_bind (m := firstArgMember _ _) (wpAny_of_eq (a := Value.none) (by first | rfl | (simp only [firstArgMember]; rfl)) (wpAny_newObj_type ?_ (by size_fits)))
  refine raise_hd ?_ (Heap.get?_push_size _ rfl) rfl (by simp; omega) fun h' o' vs' k' e' c' _ _ _ _ _ =>
    h h' _ (fun b o q => k' b o (Nat.ne_of_lt (by rw [Heap.size_push]; exact Nat.lt_succ_of_lt (Heap.lt_size q))) (Heap.get?_push_of_some _ (Heap.get?_push_of_some _ q))) ⟨o', e', c'⟩
  rcases hd with hn | ⟨a, cs, ha, c⟩
  · exact .inl hn
  · refine .inr ⟨a, cs, ha, c.mono fun b o _ q => Heap.get?_push_of_some _ (Heap.get?_push_of_some _ q), fun z => ?_⟩
    have := c.lt _ z
    rw [Heap.size_push] at this
    exact absurd (Nat.lt_of_lt_of_le this (Nat.le_succ _)) (Nat.lt_irrefl _)
theorem list_endH {it l : Addr} {i : Nat} {items} {Q : Option Value → Shared → Prop} (hd : Hd A s.heap) (hit : s.heap.IsListIter it l i) (hl : s.heap.IsList l items) (hx : items[i]? = none)
    (hQ : ∀ h', Heap.ExtBut it s.heap h' → Q none { s with heap := h' }) : wpAny (model prog w) A (pyNext (.ref it)) Q E s := by
  obtain ⟨o, ho, hc, hdat⟩ := id hit
  obtain ⟨ol, hol, _, nl, hdl⟩ := hl
  unfold pyNext
  refine wpAny_bind (wpAny_attempt (wpAny_callSpecial?_slot (name := Str.ofString "__next__") hit.typeIs slot_listiter_next (wpAny_call_entry slot_listiter_next hit.typeIs entry_listiter_next ?_ (args_listiter_next _))))
  refine (show wpAny _ _ (field (.ref it) 0 >>= _) _ _ s from wpAny_bind (wpAny_field ho hdat (x := .ref l) rfl ?_))
  refine (show wpAny _ _ (if (Value.ref l == Value.none) = true then _ else _) _ _ s from ?_)
  rw [if_neg (by simp)]
  refine (show wpAny _ _ (field (.ref it) 1 >>= _) _ _ s from wpAny_bind (wpAny_field ho hdat (x := .int i 0) rfl ?_))
  refine (show wpAny _ _ (seqItems? (.ref l) >>= _) _ _ s from wpAny_bind (wpAny_seqItems hol hdl ?_))
  simp only [Int.toNat_natCast, hx]
  refine wpAny_bind (wpAny_rule (wpAny_bind (wpAny_setField ho hdat (by simp) ?_)))
  have sb : Heap.SameBut it s.heap (s.heap.update it (Obj.mapFields (·.setIfInBounds 0 Value.none))) := Heap.SameBut.update ..
  refine stop_hd (A := A.in1) (hd.but ho (fun vs q => .inl (by rw [hdat] at q; cases q; simp)) sb.extBut) fun h' e k' ⟨o', e', c'⟩ => ?_
  exact wpAny_bind (wpAny_isInstance (T := "StopIteration") (b := true) ⟨o', e', c'⟩ isSubtype_stop (wpAny_pure (hQ h' fun b q hb hq => k' b q (sb.extBut b q hb hq))))
theorem tup_endH {it t : Addr} {i : Nat} {items} {Q : Option Value → Shared → Prop} (hd : Hd A s.heap) (hit : s.heap.IsTupleIter it t i) (ht : s.heap.IsTuple t items) (hx : items[i]? = none)
    (hQ : ∀ h', Heap.ExtBut it s.heap h' → Q none { s with heap := h' }) : wpAny (model prog w) A (pyNext (.ref it)) Q E s := by
  obtain ⟨o, ho, hc, hdat⟩ := id hit
  obtain ⟨ol, hol, _, nl, hdl⟩ := ht
  unfold pyNext
  refine wpAny_bind (wpAny_attempt (wpAny_callSpecial?_slot (name := Str.ofString "__next__") hit.typeIs F.slot_tuple_iterator_next (wpAny_call_entry F.slot_tuple_iterator_next hit.typeIs F.entry_tuple_iterator_next ?_ (F.args_tuple_iterator_next_1 _))))
  refine (show wpAny _ _ (field (.ref it) 0 >>= _) _ _ s from wpAny_bind (wpAny_field ho hdat (x := .ref t) rfl ?_))
  refine (show wpAny _ _ (if (Value.ref t == Value.none) = true then _ else _) _ _ s from ?_)
  rw [if_neg (by simp)]
  refine (show wpAny _ _ (field (.ref it) 1 >>= _) _ _ s from wpAny_bind (wpAny_field ho hdat (x := .int i 0) rfl ?_))
  refine (show wpAny _ _ (seqItems? (.ref t) >>= _) _ _ s from wpAny_bind (wpAny_seqItems hol hdl ?_))
  simp only [Int.toNat_natCast, hx]
  refine wpAny_bind (wpAny_rule (wpAny_bind (wpAny_setField ho hdat (by simp) ?_)))
  have sb : Heap.SameBut it s.heap (s.heap.update it (Obj.mapFields (·.setIfInBounds 0 Value.none))) := Heap.SameBut.update ..
  refine stop_hd (A := A.in1) (hd.but ho (fun vs q => .inl (by rw [hdat] at q; cases q; simp)) sb.extBut) fun h' e k' ⟨o', e', c'⟩ => ?_
  exact wpAny_bind (wpAny_isInstance (T := "StopIteration") (b := true) ⟨o', e', c'⟩ isSubtype_stop (wpAny_pure (hQ h' fun b q hb hq => k' b q (sb.extBut b q hb hq))))
theorem range_endH {it : Addr} {x left step : Int} {Q : Option Value → Shared → Prop} (hd : Hd A s.heap) (hit : IsRangeIter s.heap it x left step) (hleft : left ≤ 0)
    (hQ : ∀ h', Heap.ExtBut it s.heap h' → Q none { s with heap := h' }) : wpAny (model prog w) A (pyNext (.ref it)) Q E s := by
  have hT : s.TypeIs (.ref it) "range_iterator" := ⟨_, hit, rfl⟩
  unfold pyNext
  refine wpAny_bind (wpAny_attempt (wpAny_callSpecial?_slot (name := Str.ofString "__next__") hT F.slot_range_iterator_next (wpAny_call_entry F.slot_range_iterator_next hT F.entry_range_iterator_next ?_ (F.args_range_iterator_next_1 _))))
  refine (show wpAny _ _ (field (.ref it) 0 >>= _) _ _ s from wpAny_bind (wpAny_field hit rfl (x := rawInt x) rfl ?_))
  refine (show wpAny _ _ (field (.ref it) 1 >>= _) _ _ s from wpAny_bind (wpAny_field hit rfl (x := rawInt left) rfl ?_))
  refine (show wpAny _ _ (field (.ref it) 2 >>= _) _ _ s from wpAny_bind (wpAny_field hit rfl (x := rawInt step) rfl ?_))
  refine (show wpAny _ _ (if left ≤ 0 then _ else _) _ _ s from ?_)
  rw [if_pos hleft]
  refine wpAny_bind (wpAny_rule (wpAny_bind ?_))
  refine stop_hd (A := A.in1) hd fun h' e k' ⟨o', e', c'⟩ => ?_
  exact wpAny_bind (wpAny_isInstance (T := "StopIteration") (b := true) ⟨o', e', c'⟩ isSubtype_stop (wpAny_pure (hQ h' fun b q _ hq => k' b q hq)))
/-- a, b, .. = a tuple: its items are drawn, then it must be at its end -/
theorem unpackH {t : Addr} {items : Array Value} {Q : List Value → Shared → Prop} (hd : Hd A s.heap) (ht : IsTup s.heap t items)
    (hQ : ∀ h', Heap.ExtBut s.heap.objs.size s.heap h' → Q items.toList { s with heap := h' }) : wpAny (model prog w) A (unpackItems (.ref t) items.size none) Q E s := by
  have hlt : t ≠ s.heap.objs.size := by obtain ⟨o, ho, _⟩ := ht; exact Nat.ne_of_lt (Heap.lt_size ho)
  unfold unpackItems
  refine wpAny_bind ?_
  unfold notIterableAtAll
  refine wpAny_bind (wpAny_specialOf ht.typeIs slot_tuple_iter.lookup (wpAny_pure ?_))
  simp only [Bool.false_eq_true, if_false]
  refine wpAny_bind (wpAny_holding (iter_tuple ht (wpAny_bind (wpAny_holding (draw_tuple hlt items.size 0 _ _ ⟨_, Heap.get?_push_size _ rfl, rfl, rfl⟩ (ht.push _) (by omega) fun h₁ hit₁ hs₁ => ?_)))))
  rw [show List.take items.size (List.drop 0 items.toList) = items.toList by rw [List.drop_zero]; exact List.take_of_length_le (by simp)]
  rw [if_neg (by simp)]
  have ht₁ : IsTup h₁ t items := (ht.push _).extBut hs₁.extBut hlt
  have k₁ : ∀ b o, s.heap.get? b = some o → h₁.get? b = some o := fun b o e => hs₁.extBut b o (Nat.ne_of_lt (Heap.lt_size e)) (Heap.get?_push_of_some _ e)
  refine wpAny_bind (wpAny_holding (tup_endH (hd.keeps k₁) hit₁ (show Heap.IsTuple h₁ t items from ht₁) (by simp) fun h₂ he₂ => ?_))
  simp only [Option.isSome_none, Bool.false_eq_true, if_false]
  exact wpAny_pure (hQ h₂ fun b o hb e => he₂ b o hb (k₁ b o e))
theorem assign_tupH {env : Env} {elts : List Expr} {x1} {pos : Pos} {t : Addr} {items : Array Value} {Q : Unit → Shared → Prop} (hd : Hd A s.heap) (ht : IsTup s.heap t items) (hn : (assignEach elts env).length = items.size) (hstar : (assignEach elts env).findIdx? (·.1) = none)
    (h : ∀ h', Heap.ExtBut s.heap.objs.size s.heap h' → wpAny (model prog w) A (assignInOrder ((assignEach elts env).map (·.2)) items.toList) Q E { s with heap := h' }) : wpAny (model prog w) A (assign (.Tuple elts x1 pos) env (.ref t)) Q E s := by
  rw [assign_Tuple]
  refine wpAny_bind (wpAny_standAt ?_)
  unfold unpack
  rw [hn, hstar]
  exact wpAny_bind (wpAny_holding (unpackH hd ht h))
end
end L2

namespace L2
open PySem PySem.Spec PyProof.Rows

/-- a key: an int or a str -/
abbrev Key := Sum Int Str
def keyIs : Key → Value → Bool
  | .inl k, v => Value.isInt k v
  | .inr x, v => Value.isStrOf x v
def keyH (w : World) : Key → Int
  | .inl k => hashInt k
  | .inr x => hashStr w x
theorem keyIs_shape : ∀ {k : Key} {v : Value}, keyIs k v = true → (∃ i t, k = Sum.inl i ∧ v = Value.int i t) ∨ (∃ x t, k = Sum.inr x ∧ v = Value.str x t)
  | .inl i, v, h => by
    obtain ⟨t, e⟩ := Value.isInt_shape (k := i) (v := v) h
    exact .inl ⟨i, t, rfl, e⟩
  | .inr x, v, h => by
    obtain ⟨t, e⟩ := Value.isStrOf_shape (x := x) (v := v) h
    exact .inr ⟨x, t, rfl, e⟩
theorem keyIs_int (i : Int) (t : Tok) : keyIs (.inl i) (.int i t) = true := by simp [keyIs, Value.isInt]
theorem keyIs_str (x : Str) (t : Tok) : keyIs (.inr x) (.str x t) = true := by simp [keyIs, Value.isStrOf]
theorem key_ll (a b : Int) : decide ((Sum.inl a : Key) = Sum.inl b) = (a == b) := by
  by_cases e : a = b
  · subst e; simp
  · have h : ¬ (Sum.inl a : Key) = Sum.inl b := fun q => e (Sum.inl.inj q)
    rw [decide_eq_false h]
    exact (beq_eq_false_iff_ne.mpr e).symm
theorem key_rr (a b : Str) : decide ((Sum.inr a : Key) = Sum.inr b) = decide (a = b) := by
  by_cases e : a = b
  · subst e; simp
  · have h : ¬ (Sum.inr a : Key) = Sum.inr b := fun q => e (Sum.inr.inj q)
    rw [decide_eq_false h, decide_eq_false e]
theorem key_lr (a : Int) (b : Str) : decide ((Sum.inl a : Key) = Sum.inr b) = false := decide_eq_false (fun q => nomatch q)
theorem key_rl (a : Str) (b : Int) : decide ((Sum.inr a : Key) = Sum.inl b) = false := decide_eq_false (fun q => nomatch q)

def mixKind (prog : Program) (w : World) : PySem.KeyKind prog w Key where
  is := keyIs
  hash := keyH w
  inj := fun v a b ha hb => by
    rcases keyIs_shape ha with ⟨i, t, rfl, rfl⟩ | ⟨x, t, rfl, rfl⟩
    · rcases keyIs_shape hb with ⟨j, u, rfl, e⟩ | ⟨y, u, rfl, e⟩
      · injection e with e1 _; rw [e1]
      · exact nomatch e
    · rcases keyIs_shape hb with ⟨j, u, rfl, e⟩ | ⟨y, u, rfl, e⟩
      · exact nomatch e
      · injection e with e1 _; rw [e1]
  byValue := fun k v h => by
    rcases keyIs_shape h with ⟨i, t, rfl, rfl⟩ | ⟨x, t, rfl, rfl⟩ <;> rfl
  pyHash := fun hv h => by
    rcases keyIs_shape hv with ⟨i, t, rfl, rfl⟩ | ⟨x, t, rfl, rfl⟩
    · exact wpAny_pyHash_int h
    · exact wpAny_pyHash_str h
  eqBool := fun hu hv h => by
    rcases keyIs_shape hu with ⟨i, t, rfl, rfl⟩ | ⟨x, t, rfl, rfl⟩
    · rcases keyIs_shape hv with ⟨j, u, rfl, rfl⟩ | ⟨y, u, rfl, rfl⟩
      · rw [key_ll] at h; exact wpAny_eqBool_int h
      · rw [key_lr] at h; exact SeqAt.EqAt.int_str i t y u _ _ _ _ h
    · rcases keyIs_shape hv with ⟨j, u, rfl, rfl⟩ | ⟨y, u, rfl, rfl⟩
      · rw [key_rl] at h; exact SeqAt.EqAt.str_int x t j u _ _ _ _ h
      · rw [key_rr] at h; exact wpAny_eqBool_str h
  «strs» := fun k x t v h => by
    rcases keyIs_shape h with ⟨i, u, rfl, e⟩ | ⟨y, u, rfl, e⟩
    · exact nomatch e
    · injection e with e1 _
      subst e1
      cases v <;> rfl

theorem mixKind_int (prog : Program) (w : World) (i : Int) (t : Tok) : (mixKind prog w).is (.inl i) (.int i t) = true := keyIs_int i t
theorem mixKind_str (prog : Program) (w : World) (x : Str) (t : Tok) : (mixKind prog w).is (.inr x) (.str x t) = true := keyIs_str x t
end L2

namespace L2
open PySem PySem.Spec PyProof.Rows

set_option genInjectivity true
/-- a value, without the heap -/
inductive V where
  | non | bl (b : Bool) | int (i : Int) | str (x : Str) | byt (b : Array UInt8) | flt (b : UInt64) | ref (a : Addr) | ty (n : String)
  deriving DecidableEq
set_option genInjectivity false

def RelV : V → Value → Prop
  | .non, u => u = Value.none
  | .bl b, u => u = Value.bool b
  | .int i, u => ∃ t, u = Value.int i t
  | .str x, u => ∃ t, u = Value.str x t
  | .byt b, u => ∃ t, u = Value.bytes b t
  | .flt b, u => ∃ t, u = Value.float b t
  | .ref a, u => u = Value.ref a
  | .ty n, u => u = Value.type n

abbrev Vals : List V → List Value → Prop := Paired RelV
theorem Vals.length {xs : List V} {us : List Value} (r : Vals xs us) : xs.length = us.length := Paired.length r
theorem Vals.get : ∀ {xs : List V} {us : List Value} {i : Nat} {x : V}, Vals xs us → xs[i]? = some x → ∃ u, us[i]? = some u ∧ RelV x u
  | _, _, _, _, .nil, e => by simp at e
  | _, _, 0, _, .cons r _, e => by simp at e; subst e; exact ⟨_, rfl, r⟩
  | _, _, i + 1, x, .cons _ t, e => by
    obtain ⟨u, h1, h2⟩ := Vals.get (i := i) (x := x) t (by simpa using e)
    exact ⟨u, by simpa using h1, h2⟩
theorem Vals.append : ∀ {xs ys : List V} {us ws : List Value}, Vals xs us → Vals ys ws → Vals (xs ++ ys) (us ++ ws)
  | _, _, _, _, .nil, s => s
  | _, _, _, _, .cons r t, s => .cons r (Vals.append t s)
theorem Vals.take : ∀ {xs : List V} {us : List Value} (n : Nat), Vals xs us → Vals (xs.take n) (us.take n)
  | _, _, 0, _ => .nil
  | _, _, _ + 1, .nil => .nil
  | _, _, n + 1, .cons r t => .cons r (Vals.take n t)
theorem Vals.drop : ∀ {xs : List V} {us : List Value} (n : Nat), Vals xs us → Vals (xs.drop n) (us.drop n)
  | _, _, 0, r => r
  | _, _, _ + 1, .nil => .nil
  | _, _, n + 1, .cons _ t => Vals.drop n t
def RelO : Option V → Option Value → Prop
  | some v, some u => RelV v u
  | none, none => True
  | _, _ => False
def KV {κ : Type} : List (κ × V) → List (κ × Value) → Prop := Paired fun (p : κ × V) (q : κ × Value) => p.1 = q.1 ∧ RelV p.2 q.2

/-- a key of a dict (00_mix): an int or a text -/
def kV : Key → V
  | .inl i => .int i
  | .inr x => .str x

/-- what stands at a tracked address -/
inductive HO where
  /-- a list -/
  | lst (xs : List V)
  /-- a tuple (never changes) -/
  | tup (xs : List V)
  /-- a dict whose keys are ints and texts; one whose keys are tuples of ints and texts (the empty one is both) -/
  | dK (kvs : List (Key × V)) | dT (kvs : List (List Key × V))
  /-- a set of ints: its members, its size -/
  | set (S : Int → Bool) (n : Nat)
  /-- an instance of the class at C, its dict at dx, its attributes -/
  | ins (C dx : Addr) (fs : List (Str × V))
  /-- the dict of the instance at x -/
  | own (x : Addr)
  /-- the dict of an exception -/
  | xd (fs : List (Str × V))
  /-- a bound method, f of x -/
  | met (f x : Addr)
  /-- a range object lo, lo + 1, .. below hi -/
  | rng (lo hi : Int)
  /-- a thing that is known to the object (the script; a dict while a loop walks it): read, never written while it is so -/
  | frz (o : Obj) (u : HO)
  /-- a code object's table -/
  | tbl (ps : Array Value)
  /-- any other thing, by what is true of its one object (a def of one's own: SetO a S n := HO.ext fun h => ..) -/
  | ext (φ : Heap → Prop)

abbrev Hp := Addr → Option HO
def upd (H : Hp) (a : Addr) (o : HO) : Hp := fun b => if b = a then some o else H b
theorem upd_same {H : Hp} {a : Addr} {o : HO} : upd H a o a = some o := by unfold upd; rw [if_pos rfl]
theorem upd_ne {H : Hp} {a b : Addr} {o : HO} (h : b ≠ a) : upd H a o b = H b := by unfold upd; rw [if_neg h]
/-- two objects of different content stand apart -/
theorem ne_of {H : Hp} {a b : Addr} {o u : HO} (h : H a = some o) (h' : H b = some u) (d : o ≠ u) : a ≠ b := by
  intro e; subst e; rw [h] at h'; exact d (Option.some.inj h')
theorem ne_of_none {H : Hp} {a b : Addr} {o : HO} (h : H a = some o) (h' : H b = none) : a ≠ b := by
  intro e; subst e; rw [h] at h'; cases h'

section
variable (P : Program) (w : World)
def ObjOk (H : Hp) (h : Heap) (a : Addr) : HO → Prop
  | .lst xs => xs.length ≤ sizeLine ∧ ∃ (its : List Value) (n : Nat), Vals xs its ∧ h.get? a = some { cls := .type "list", data := .seq its.toArray n }
  | .tup xs => xs.length ≤ sizeLine ∧ ∃ its : List Value, Vals xs its ∧ IsTup h a its.toArray
  | .dK kvs => kvs.length ≤ sizeLine ∧ (a == sysModules) = false ∧ ∃ vs, KV kvs vs ∧ h.DictOf (mixKind P w) a vs
  | .dT kvs => kvs.length ≤ sizeLine ∧ (a == sysModules) = false ∧ ∃ xs : List (List Key × Addr × Value),
      Paired (fun (p : List Key × V) (q : List Key × Addr × Value) => p.1 = q.1 ∧ H q.2.1 = some (.tup (p.1.map kV)) ∧ RelV p.2 q.2.2) kvs xs ∧
      ∃ o es ep, h.get? a = some o ∧ o.ExactDict ∧ o.data = .dict es ep ∧ es.toList = xs.map (entryOfKey (tupleKind (mixKind P w))) ∧ (xs.map (·.1)).Nodup
  | .set S n => h.SetOf (intKind P w) a S n
  | .ins C dx fs => H dx = some (.own a) ∧ fs.length ≤ 1000 ∧ dx ≠ a ∧ h.get? a = some (PySem.W.instObj C dx) ∧
      ∃ mA, h.Ns1 dx mA ∧ (∀ f, RelO (fs.lookup f) (mA f)) ∧ PySem.Within mA (fs.map (·.1))
  | .own _ => ∃ o, h.get? a = some o
  | .xd fs => ∃ mA, h.Ns1 a mA ∧ ∀ f, RelO (fs.lookup f) (mA f)
  | .rng lo hi => ∃ t u v, h.get? a = some { cls := .type "range", data := .fields #[.int lo t, .int hi u, .int 1 v] }
  | .frz o u => h.get? a = some o ∧ ObjOk H h a u
  | .tbl ps => h.get? a = some { cls := .none, data := .fields ps }
  | .met f x => h.get? a = some (PySem.W.methodObj (.ref f) (.ref x))
  | .ext φ => φ h ∧ (∃ o, h.get? a = some o) ∧ ∀ h1 h2 : Heap, φ h1 → (∀ o, h1.get? a = some o → h2.get? a = some o) → φ h2
/-- the abstract heap is held -/
def HOk (H : Hp) (h : Heap) : Prop := ∀ a o, H a = some o → ObjOk P w H h a o
end

section
variable {P : Program} {w : World} {H H' : Hp} {h h' : Heap} {a : Addr} {o : HO}
theorem ObjOk.lt (x : ObjOk P w H h a o) : a < h.objs.size := by
  cases o with
  | lst xs => obtain ⟨_, _, _, _, e⟩ := x; exact Heap.lt_size e
  | tup xs => obtain ⟨_, _, _, p⟩ := x; exact p.lt
  | dK kvs => obtain ⟨_, _, _, _, o, _, _, e, _⟩ := x; exact Heap.lt_size e
  | dT kvs => obtain ⟨_, _, _, _, o, _, _, e, _⟩ := x; exact Heap.lt_size e
  | set S n => obtain ⟨o, _, _, _, e, _⟩ := x; exact Heap.lt_size e
  | ins C dx fs => obtain ⟨_, _, _, e, _⟩ := x; exact Heap.lt_size e
  | own y => obtain ⟨_, e⟩ := x; exact Heap.lt_size e
  | xd fs => obtain ⟨_, ⟨_, _, _, e, _⟩, _⟩ := x; exact Heap.lt_size e
  | rng lo hi => obtain ⟨_, _, _, e⟩ := x; exact Heap.lt_size e
  | frz ob u => obtain ⟨e, _⟩ := x; exact Heap.lt_size e
  | tbl ps => exact Heap.lt_size (show h.get? a = some _ from x)
  | met f y => exact Heap.lt_size (show h.get? a = some _ from x)
  | ext φ => obtain ⟨_, ⟨_, e⟩, _⟩ := x; exact Heap.lt_size e
theorem Paired.mapP {α β : Type} {F G : α → β → Prop} : ∀ {l₁ : List α} {l₂ : List β}, Paired F l₁ l₂ → (∀ a b, F a b → G a b) → Paired G l₁ l₂
  | _, _, .nil, _ => .nil
  | _, _, .cons r t, f => .cons (f _ _ r) (Paired.mapP t f)
/-- what an object's description leans on: its own object, its own dict, the tuples -/
theorem ObjOk.stay (x : ObjOk P w H h a o) (k : ∀ b u, (b = a ∨ H b = some (.own a)) → h.get? b = some u → h'.get? b = some u)
    (ho : ∀ b, H b = some (.own a) → H' b = some (.own a)) (ht : ∀ b xs, H b = some (.tup xs) → H' b = some (.tup xs)) : ObjOk P w H' h' a o := by
  induction o with
  | lst xs => obtain ⟨z, its, n, r, e⟩ := x; exact ⟨z, its, n, r, k _ _ (.inl rfl) e⟩
  | tup xs => obtain ⟨z, its, r, ob, e, c⟩ := x; exact ⟨z, its, r, ob, k _ _ (.inl rfl) e, c⟩
  | dK kvs => obtain ⟨z, y, vs, r, ob, es, ep, e, c⟩ := x; exact ⟨z, y, vs, r, ob, es, ep, k _ _ (.inl rfl) e, c⟩
  | dT kvs =>
    obtain ⟨z, y, xs, r, ob, es, ep, e, c⟩ := x
    exact ⟨z, y, xs, Paired.mapP r fun p q z => ⟨z.1, ht _ _ z.2.1, z.2.2⟩, ob, es, ep, k _ _ (.inl rfl) e, c⟩
  | set S n => obtain ⟨ob, es, ep, t, e, c⟩ := x; exact ⟨ob, es, ep, t, k _ _ (.inl rfl) e, c⟩
  | ins C dx fs =>
    obtain ⟨d, z, ne, e, mA, ⟨od, es, ep, e2, c⟩, r⟩ := x
    exact ⟨ho _ d, z, ne, k _ _ (.inl rfl) e, mA, ⟨od, es, ep, k _ _ (.inr d) e2, c⟩, r⟩
  | own y => obtain ⟨ob, e⟩ := x; exact ⟨ob, k _ _ (.inl rfl) e⟩
  | xd fs => obtain ⟨mA, ⟨od, es, ep, e, c⟩, r⟩ := x; exact ⟨mA, ⟨od, es, ep, k _ _ (.inl rfl) e, c⟩, r⟩
  | rng lo hi => obtain ⟨t, u, v, e⟩ := x; exact ⟨t, u, v, k _ _ (.inl rfl) e⟩
  | frz ob u ih => obtain ⟨e, q⟩ := x; exact ⟨k _ _ (.inl rfl) e, ih q⟩
  | tbl ps =>
    have e : h.get? a = some { cls := .none, data := .fields ps } := x
    show h'.get? a = some { cls := .none, data := .fields ps }
    exact k a _ (.inl rfl) e
  | met f y =>
    have e : h.get? a = some (PySem.W.methodObj (.ref f) (.ref y)) := x
    show h'.get? a = some (PySem.W.methodObj (.ref f) (.ref y))
    exact k a _ (.inl rfl) e
  | ext φ => obtain ⟨p, ⟨o, e⟩, st⟩ := x; exact ⟨st _ _ p fun o q => k _ _ (.inl rfl) q, ⟨o, k _ _ (.inl rfl) e⟩, st⟩
theorem HOk.lt (x : HOk P w H h) (e : H a = some o) : a < h.objs.size := (x a o e).lt
theorem HOk.fresh (x : HOk P w H h) (e : h.objs.size ≤ a) : H a = none := by
  cases q : H a with
  | none => rfl
  | some u => exact absurd (Nat.lt_of_lt_of_le (x.lt q) e) (Nat.lt_irrefl _)
/-- every object of the heap is kept -/
theorem HOk.kept (x : HOk P w H h) (k : ∀ b u, h.get? b = some u → h'.get? b = some u) : HOk P w H h' := fun a o e =>
  (x a o e).stay (fun b u _ q => k b u q) (fun _ q => q) fun _ _ q => q
/-- a new object is laid and tracked -/
theorem HOk.laid (x : HOk P w H h) (k : ∀ b u, h.get? b = some u → h'.get? b = some u) (hp : h.objs.size ≤ a) (new : ObjOk P w (upd H a o) h' a o) : HOk P w (upd H a o) h' := fun b u e => by
  have hn := x.fresh hp
  by_cases hb : b = a
  · subst hb; rw [upd_same] at e; cases e; exact new
  · rw [upd_ne hb] at e
    exact (x b u e).stay (fun c v _ q => k c v q) (fun c q => by rw [upd_ne (ne_of_none q hn)]; exact q) fun c xs q => by rw [upd_ne (ne_of_none q hn)]; exact q
end

/-- what may be read as u: it is u, or a known u -/
def Rd (H : Hp) (a : Addr) (u : HO) : Prop := H a = some u ∨ ∃ o, H a = some (.frz o u)
theorem Rd.ok {P : Program} {w : World} {H : Hp} {h : Heap} {a : Addr} {u : HO} (r : Rd H a u) (x : HOk P w H h) : ObjOk P w H h a u := by
  rcases r with r | ⟨o, r⟩
  · exact x a u r
  · obtain ⟨_, q⟩ := x a _ r
    exact q
/-- what may be written -/
def Mut : Option HO → Prop
  | some (.lst _) => True
  | some (.dK _) => True
  | some (.dT _) => True
  | some (.set _ _) => True
  | some (.ins _ _ _) => True
  | some (.ext _) => True
  | _ => False
section
variable {P : Program} {w : World} {H : Hp} {h h' : Heap} {x e : Addr} {o' : HO}
/-- the object at e is changed: x itself, or the dict of the instance x -/
theorem HOk.write (ok : HOk P w H h) (mu : Mut (H x)) (he : e = x ∨ H e = some (.own x)) (k : ∀ b u, b ≠ e → h.get? b = some u → h'.get? b = some u) (heo : ∃ u, h'.get? e = some u)
    (new : ObjOk P w (upd H x o') h' x o') : HOk P w (upd H x o') h' := fun b u q => by
  have nown : ∀ c y, H c = some (.own y) → c ≠ x := fun c y r z => by subst z; rw [r] at mu; exact mu
  have ntup : ∀ c xs, H c = some (.tup xs) → c ≠ x := fun c xs r z => by subst z; rw [r] at mu; exact mu
  by_cases hb : b = x
  · subst hb; rw [upd_same] at q; cases q; exact new
  · rw [upd_ne hb] at q
    by_cases hbe : b = e
    · have q' : H b = some (.own x) := by
        rcases he with z | z
        · exact absurd (hbe.trans z) hb
        · rw [hbe]; exact z
      rw [q] at q'; cases q'
      obtain ⟨v, hv⟩ := heo
      exact ⟨v, by rw [hbe]; exact hv⟩
    · refine (ok b u q).stay (fun c v hc r => k c v ?_ r) (fun c r => by rw [upd_ne (nown c b r)]; exact r) fun c xs r => by rw [upd_ne (ntup c xs r)]; exact r
      rcases hc with rfl | hc
      · exact hbe
      · rintro rfl
        rcases he with z | z
        · exact nown c b hc z
        · rw [hc] at z; cases z; exact hb rfl
end

/-! ### kept unless tracked; of the frames at fs (the callers') the slots may change (an exception that passes writes there); of the records at ex (iterators) nothing is said -/
structure Un (fs ex : List Addr) (H H' : Hp) (h h' : Heap) : Prop where
  keep : ∀ b o, h.get? b = some o → H b = none → b ∉ fs → b ∉ ex → h'.get? b = some o
  slot : ∀ b o, h.get? b = some o → H b = none → b ∈ fs → b ∉ ex → ∃ sl, h'.get? b = some { o with slots := sl }
  free : ∀ b o, h.get? b = some o → H b = none → b ∉ ex → H' b = none
  there : ∀ b o, h.get? b = some o → b ∉ ex → ∃ o', h'.get? b = some o'
  tups : ∀ b xs, H b = some (.tup xs) → H' b = some (.tup xs)
  frzs : ∀ b o u, H b = some (.frz o u) → H' b = some (.frz o u)
  tbls : ∀ b ps, H b = some (.tbl ps) → ∃ more, H' b = some (.tbl (ps ++ more))
section
variable {fs fs' ex ex' : List Addr} {H H1 H2 : Hp} {h h1 h2 h' : Heap} {a x e : Addr} {o : HO}
theorem Un.any (u : Un fs ex H H1 h h1) {b : Addr} {ob : Obj} (q : h.get? b = some ob) (n : H b = none) (hx : b ∉ ex) : ∃ sl, h1.get? b = some { ob with slots := sl } := by
  by_cases hb : b ∈ fs
  · exact u.slot b ob q n hb hx
  · exact ⟨ob.slots, u.keep b ob q n hb hx⟩
theorem Un.trans (a : Un fs ex H H1 h h1) (b : Un fs ex H1 H2 h1 h2) : Un fs ex H H2 h h2 where
  keep := fun c ob q n hc hx => b.keep c ob (a.keep c ob q n hc hx) (a.free c ob q n hx) hc hx
  slot := fun c ob q n hc hx => by
    obtain ⟨sl, e1⟩ := a.slot c ob q n hc hx
    obtain ⟨sl', e2⟩ := b.slot c _ e1 (a.free c ob q n hx) hc hx
    exact ⟨sl', e2⟩
  free := fun c ob q n hx => by
    obtain ⟨o', e1⟩ := a.there c ob q hx
    exact b.free c o' e1 (a.free c ob q n hx) hx
  there := fun c ob q hx => by
    obtain ⟨o', e1⟩ := a.there c ob q hx
    exact b.there c o' e1 hx
  tups := fun c xs q => b.tups c xs (a.tups c xs q)
  frzs := fun c ob xs q => b.frzs c ob xs (a.frzs c ob xs q)
  tbls := fun c ps q => by
    obtain ⟨m1, e1⟩ := a.tbls c ps q
    obtain ⟨m2, e2⟩ := b.tbls c _ e1
    exact ⟨m1 ++ m2, by rw [e2, Array.append_assoc]⟩
theorem Un.kept (k : ∀ b u, h.get? b = some u → h'.get? b = some u) : Un fs ex H H h h' :=
  ⟨fun b ob q _ _ _ => k b ob q, fun b ob q _ _ _ => ⟨ob.slots, k b ob q⟩, fun _ _ _ n _ => n, fun b ob q _ => ⟨ob, k b ob q⟩, fun _ _ q => q, fun _ _ _ q => q, fun _ ps q => ⟨#[], by rw [q]; simp⟩⟩
theorem Un.refl : Un fs ex H H h h := Un.kept fun _ _ q => q
theorem Un.laid (k : ∀ b u, h.get? b = some u → h'.get? b = some u) (hp : h.objs.size ≤ a) (hn : H a = none) : Un fs ex H (upd H a o) h h' where
  keep := fun b u q _ _ _ => k b u q
  slot := fun b u q _ _ _ => ⟨u.slots, k b u q⟩
  free := fun b u q n _ => by rw [upd_ne (Nat.ne_of_lt (Nat.lt_of_lt_of_le (Heap.lt_size q) hp))]; exact n
  there := fun b u q _ => ⟨u, k b u q⟩
  tups := fun b xs q => by rw [upd_ne (ne_of_none q hn)]; exact q
  frzs := fun b u xs q => by rw [upd_ne (ne_of_none q hn)]; exact q
  tbls := fun b ps q => ⟨#[], by rw [upd_ne (ne_of_none q hn), q]; simp⟩
theorem Un.write (mu : Mut (H x)) (he : e = x ∨ H e = some (.own x)) (k : ∀ b u, b ≠ e → h.get? b = some u → h'.get? b = some u) (heo : ∃ u, h'.get? e = some u) : Un fs ex H (upd H x o) h h' := by
  have hx : ∀ b, H b = none → b ≠ x := fun b n z => by subst z; rw [n] at mu; exact mu
  have hb : ∀ b, H b = none → b ≠ e := fun b n z => by
    subst z
    rcases he with r | r
    · exact hx b n r
    · rw [n] at r; cases r
  have hm : ∀ b u, H b = some u → ¬ Mut (some u) → b ≠ x := fun b u q nm z => by subst z; rw [q] at mu; exact nm mu
  refine ⟨fun b u q n _ _ => k b u (hb b n) q, fun b u q n _ _ => ⟨u.slots, k b u (hb b n) q⟩, fun b u q n _ => by rw [upd_ne (hx b n)]; exact n, fun b u q _ => ?_,
    fun b xs q => by rw [upd_ne (hm b _ q fun z => z)]; exact q, fun b u xs q => by rw [upd_ne (hm b _ q fun z => z)]; exact q, fun b ps q => ⟨#[], by rw [upd_ne (hm b _ q fun z => z), q]; simp⟩⟩
  by_cases hbe : b = e
  · subst hbe; exact heo
  · exact ⟨u, k b u hbe q⟩
end

/-! ### the heap without what is tracked -/
def trk (h : Heap) (H : Hp) : List Addr := (List.range h.objs.size).filter fun a => (H a).isSome
def hidT (h : Heap) (H : Hp) : Heap := PySem.W.hideAll h (trk h H)
theorem hidT_size (h : Heap) (H : Hp) : (hidT h H).objs.size = h.objs.size := PySem.W.hideAll_size _ _
theorem hidT_get {h : Heap} {H : Hp} {b : Addr} {o : Obj} (e : h.get? b = some o) (n : H b = none) : (hidT h H).get? b = some o :=
  PySem.W.hideAll_get _ e fun hm => by
    have q : (H b).isSome = true := (List.mem_filter.mp hm).2
    rw [n] at q; simp at q
theorem of_hidT {h : Heap} {H : Hp} {b : Addr} {o : Obj} (e : (hidT h H).get? b = some o) : h.get? b = some o ∧ H b = none := by
  have e' : h.get? b = some o := PySem.W.of_hideAll (trk h H) e
  refine ⟨e', ?_⟩
  cases q : H b with
  | none => rfl
  | some x =>
    have hm : b ∈ trk h H := List.mem_filter.mpr ⟨List.mem_range.mpr (Heap.lt_size e'), by simp [q]⟩
    have z : (hidT h H).get? b = none := PySem.W.hideAll_none (trk h H) hm
    rw [z] at e; cases e

/-! ### OpenK's ledger, filled with every new object but one -/
def allNews (g h : Heap) (L : Addr) : List (Addr × Obj) := (List.range h.objs.size).filterMap fun a => if a = L ∨ (g.get? a).isSome = true then none else (h.get? a).map fun o => (a, o)
def rest (g h : Heap) (L d : Addr) : List (Addr × Obj) := (allNews g h L).filter fun p => decide (p.1 ≠ d)
end L2

namespace L2
open PySem PySem.Spec PyProof.Rows

/-- the module's facts, over the base: the heap at the law's entry without what is tracked there -/
structure Mod (K : PySem.W.Frag) (mg : Str → Option Value) (base : Heap) : Prop where
  kin : K.In base
  glob : base.Ns mainGlobals mg
  blt : ∃ mb, base.Ns builtinsNs mb ∧ ∀ x : Str, x ≠ "__name__" → mb x = bootBuiltins x
  nolimit : base.NoLimit

/-- the context: a def's body (or a comprehension's block) running. base: fixed through the whole law; s₀, H₀: the entry; outer: the frames whose slots others may change (a def's callers); stack: all frames that run;
   ex: iterators that were made ahead of the entry and are walked here (a comprehension's); fn: the names whose cells were made at the entry (a def: all; a comprehension's block: its own); calm: not within an except suite; pn: pins that every state bears; xe: what is wanted of an exception that leaves the code -/
structure Cx where
  prog : Program
  w : World
  K : PySem.W.Frag
  mg : Str → Option Value
  base : Heap
  A : Around
  N : List Str
  s₀ : Shared
  H₀ : Hp
  env : Env
  outer : List Env
  stack : List Env
  ex : List Addr
  fn : Str → Bool
  calm : Bool
  pn : List (Addr × Obj)
  xe : Value → Shared → Prop
/-- the callers' frames -/
def frs (l : List Env) : List Addr := l.filterMap (·.frame)
abbrev Cx.fs (X : Cx) : List Addr := frs X.outer

def Vis (sc : Scope) (x : Str) : Prop := sc.names.lookup x = some .local ∨ sc.names.lookup x = some .cell ∨ sc.names.lookup x = some .free
def Loc (sc : Scope) (x : Str) : Prop := sc.names.lookup x = some .local ∨ sc.names.lookup x = some .cell
def Look (env : Env) (h : Heap) (m : Str → Option Value) (x : Str) (u : Value) : Prop :=
  (env.kindOf x = some .local ∧ m x = some u) ∨ ((env.kindOf x = some .cell ∨ env.kindOf x = some .free) ∧ ∃ c, env.cells.lookup x = some c ∧ h.IsCell c (some u))

/-- exceptions that stand frozen, each the context of the one ahead -/
def ChnH (H : Hp) (cs : List Addr) : Prop := cs.Nodup ∧ ∀ j a, cs[j]? = some a → ∃ o u vs, H a = some (.frz o u) ∧ o.data = .fields vs ∧ vs[2]? = some (nxt cs (j + 1))
/-- nothing is handled, or an exception that stands frozen, with its contexts -/
def HdAt (A : Around) (H : Hp) : Prop := A.handled = none ∨ ∃ a cs, A.handled = some (.ref a) ∧ ChnH H (a :: cs)
structure Cx.Ok (X : Cx) : Prop where
  mod : Mod X.K X.mg X.base
  kind : X.env.scope.kind = .function
  glob : X.env.globals = mainGlobals
  blt : X.env.builtins = builtinsNs
  above : X.s₀.heap.objs.size ≤ X.env.locals
  inj : ∀ x y c, X.env.cells.lookup x = some c → X.env.cells.lookup y = some c → x = y
  has : ∀ x, (X.env.kindOf x = some .cell ∨ X.env.kindOf x = some .free) → ∃ c, X.env.cells.lookup x = some c
  cab : ∀ x c, X.fn x = true → X.env.cells.lookup x = some c → X.s₀.heap.objs.size ≤ c
  hd : HdAt X.A X.H₀
  frames : X.A.frames = some X.stack
  stk : X.stack = X.outer ∨ (X.stack = X.env :: X.outer ∧ X.env.frame = some X.env.locals)
  exf : ∀ b ∈ X.ex, b ≠ X.env.locals ∧ ∀ x c, X.env.cells.lookup x = some c → c ≠ b
  bs : ∀ b o, X.base.get? b = some o → X.s₀.heap.get? b = some o ∧ X.H₀ b = none
  bsz : X.base.objs.size ≤ X.s₀.heap.objs.size
  noex : ∀ b o, X.base.get? b = some o → b ∉ X.ex
  exfs : ∀ b ∈ X.ex, b ∉ X.fs
  funs : X.s₀.heap.FunFrames X.base X.outer
  frf : ∀ b ∈ X.fs, X.H₀ b = none

structure Inv (X : Cx) (pins : List (Addr × Obj)) (σ : List (Option V)) (H : Hp) (s : Shared) : Prop where
  ok : X.Ok
  os : s.os = X.s₀.os
  bare : AllBare s.gens
  base : Un X.fs X.ex X.H₀ H X.s₀.heap s.heap
  loc : ∃ m, s.heap.Ns X.env.locals m ∧ ∀ (i : Nat) (x : Str) (v : V), X.N[i]? = some x → σ[i]? = some (some v) → Vis X.env.scope x → ∃ u, RelV v u ∧ Look X.env s.heap m x u
  cell : ∀ x c, X.env.cells.lookup x = some c → ∃ v, s.heap.IsCell c v
  free : H X.env.locals = none
  freeC : ∀ x c, X.env.cells.lookup x = some c → H c = none
  pin : ∀ p ∈ X.pn ++ pins, s.heap.get? p.1 = some p.2 ∧ H p.1 = none ∧ p.1 ≠ X.env.locals ∧ p.1 ∉ X.fs ∧ ∀ v, p.2.data ≠ .cell v
  hok : HOk X.prog X.w H s.heap
  len : σ.length = X.N.length

section
variable {X : Cx} {pins : List (Addr × Obj)} {σ : List (Option V)} {H H' : Hp} {s : Shared} {h' : Heap}

theorem Cx.Ok.nofr (ok : X.Ok) {b : Addr} {o : Obj} (e : X.base.get? b = some o) : b ∉ X.fs := fun hb => by
  have := (ok.funs.mem hb).1
  rw [e] at this; cases this
theorem Inv.bs (I : Inv X pins σ H s) : ∀ b o, X.base.get? b = some o → s.heap.get? b = some o ∧ H b = none := fun b o e =>
  ⟨I.base.keep b o (I.ok.bs b o e).1 (I.ok.bs b o e).2 (I.ok.nofr e) (I.ok.noex b o e), I.base.free b o (I.ok.bs b o e).1 (I.ok.bs b o e).2 (I.ok.noex b o e)⟩
theorem Inv.bk (I : Inv X pins σ H s) : ∀ b o, X.base.get? b = some o → s.heap.get? b = some o := fun b o e => (I.bs b o e).1
theorem Inv.mod (I : Inv X pins σ H s) : Mod X.K X.mg X.base := I.ok.mod
theorem Inv.kIn (I : Inv X pins σ H s) : X.K.In s.heap := I.ok.mod.kin.keeps I.bk
theorem ChnH.mono {cs : List Addr} (c : ChnH H cs) (k : ∀ b o u, H b = some (.frz o u) → H' b = some (.frz o u)) : ChnH H' cs := ⟨c.1, fun j a hj => by
  obtain ⟨o, u, vs, h, r⟩ := c.2 j a hj
  exact ⟨o, u, vs, k a o u h, r⟩⟩
theorem ChnH.chn {cs : List Addr} {P : Program} {w : World} {h : Heap} (c : ChnH H cs) (k : HOk P w H h) : Chn h cs := ⟨c.1, fun j a hj => by
  obtain ⟨o, u, vs, q, r⟩ := c.2 j a hj
  obtain ⟨z, _⟩ := k a _ q
  exact ⟨o, vs, z, r⟩⟩
theorem ChnH.not_mem {cs : List Addr} {b : Addr} (c : ChnH H cs) (hb : H b = none) : b ∉ cs := fun z => by
  obtain ⟨j, hj⟩ := List.mem_iff_getElem?.mp z
  obtain ⟨o, u, vs, q, _⟩ := c.2 j b hj
  rw [hb] at q; cases q
theorem HdAt.mono {A : Around} (x : HdAt A H) (k : ∀ b o u, H b = some (.frz o u) → H' b = some (.frz o u)) : HdAt A H' := by
  rcases x with e | ⟨a, cs, e, c⟩
  · exact .inl e
  · exact .inr ⟨a, cs, e, c.mono k⟩
theorem Inv.hdAt (I : Inv X pins σ H s) : HdAt X.A H := I.ok.hd.mono I.base.frzs
theorem HdAt.hd {A : Around} {P : Program} {w : World} {h : Heap} (x : HdAt A H) (k : HOk P w H h) : Hd A h := by
  rcases x with e | ⟨a, cs, e, c⟩
  · exact .inl e
  · exact .inr ⟨a, cs, e, c.chn k⟩
theorem HdAt.new {A : Around} {p : Addr} {u : HO} (x : HdAt A H) (hn : H p = none) : HdAt A (upd H p u) := x.mono fun b o v q => by rw [upd_ne (ne_of_none q hn)]; exact q
theorem Inv.hd (I : Inv X pins σ H s) : Hd X.A s.heap := I.hdAt.hd I.hok
theorem Inv.lt (I : Inv X pins σ H s) : X.env.locals < s.heap.objs.size := let ⟨_, hn, _⟩ := I.loc; hn.lt
theorem Inv.sz (I : Inv X pins σ H s) : X.s₀.heap.objs.size ≤ s.heap.objs.size := Nat.le_trans I.ok.above (Nat.le_of_lt I.lt)
theorem Inv.nofs (I : Inv X pins σ H s) {a : Addr} (h : s.heap.objs.size ≤ a) : a ∉ X.fs := fun hb => by
  obtain ⟨_, o, ho, _⟩ := I.ok.funs.mem hb
  exact absurd (Nat.lt_of_lt_of_le (Heap.lt_size ho) (Nat.le_trans I.sz h)) (Nat.lt_irrefl _)
theorem Inv.cne (I : Inv X pins σ H s) : ∀ x c, X.env.cells.lookup x = some c → c ≠ X.env.locals := fun x c e z => by
  obtain ⟨v, o, ho, hd⟩ := I.cell x c e
  obtain ⟨m, ⟨o', es, ep, ho', hd', _⟩, _⟩ := I.loc
  rw [z, ho'] at ho; cases ho; rw [hd'] at hd; cases hd
theorem Inv.funs (I : Inv X pins σ H s) : s.heap.FunFrames X.base X.outer := by
  have all : ∀ (l : List Env), (∀ b ∈ frs l, b ∈ X.fs) → X.s₀.heap.FunFrames X.base l → s.heap.FunFrames X.base l := by
    intro l
    induction l with
    | nil => intro _ _; trivial
    | cons env r ih =>
      intro hs hl
      obtain ⟨hk, ⟨L, o, hf, hn, ho, hd⟩, hr⟩ := hl
      have hL : L ∈ X.fs := hs L (by unfold frs; rw [List.filterMap_cons, hf]; exact List.mem_cons_self)
      obtain ⟨sl, e⟩ := I.base.slot L o ho (I.ok.frf L hL) hL fun z => I.ok.exfs L z hL
      exact ⟨hk, ⟨L, _, hf, hn, e, hd⟩, ih (fun b hb => hs b (by unfold frs; rw [List.filterMap_cons, hf]; exact List.mem_cons_of_mem _ hb)) hr⟩
  exact all X.outer (fun _ hb => hb) I.ok.funs

/-- the frames that run, for a call -/
theorem Inv.stack (I : Inv X pins σ H s) : s.heap.FunFrames X.base X.stack := by
  rcases I.ok.stk with e | ⟨e, hf⟩
  · rw [e]; exact I.funs
  · rw [e]
    obtain ⟨m, hn, _⟩ := I.loc
    refine .cons (by rw [I.ok.kind]; decide) hf hn ?_ I.funs
    exact Heap.get?_none_of_le (Nat.le_trans I.ok.bsz I.ok.above)
theorem Inv.stkSub (I : Inv X pins σ H s) : ∀ b ∈ frs X.stack, b ∈ X.env.locals :: X.fs := fun b hb => by
  rcases I.ok.stk with e | ⟨e, hf⟩
  · rw [e] at hb; exact List.mem_cons_of_mem _ hb
  · rw [e] at hb
    unfold frs at hb
    rw [List.filterMap_cons, hf] at hb
    exact hb
theorem Inv.stkFree (I : Inv X pins σ H s) : ∀ b ∈ frs X.stack, H b = none := fun b hb => by
  rcases List.mem_cons.mp (I.stkSub b hb) with e | hb
  · rw [e]; exact I.free
  · obtain ⟨_, o, ho, _⟩ := I.ok.funs.mem hb
    exact I.base.free b o ho (I.ok.frf b hb) fun z => I.ok.exfs b z hb

/-- THE STEP: the untracked objects but the frame and the records at ch are kept (the callers' frames up to slots), the frame's map is kept, the new abstract heap is held -/
theorem Inv.step {g' : Array GenState} {t' : Nat} {d' : Drawn} {ch : List Addr} (I : Inv X pins σ H s)
    (hch : ∀ b ∈ ch, (b ∈ X.ex ∨ X.s₀.heap.objs.size ≤ b) ∧ b ≠ X.env.locals ∧ (∀ x c, X.env.cells.lookup x = some c → c ≠ b) ∧ ∀ p ∈ X.pn ++ pins, p.1 ≠ b)
    (keep : ∀ b o, b ≠ X.env.locals → b ∉ X.fs → b ∉ ch → s.heap.get? b = some o → H b = none → h'.get? b = some o)
    (slot : ∀ b o, b ≠ X.env.locals → b ∈ X.fs → b ∉ ch → s.heap.get? b = some o → H b = none → ∃ sl, h'.get? b = some { o with slots := sl }) (free : ∀ b o, b ∉ ch → s.heap.get? b = some o → H b = none → H' b = none)
    (there : ∀ b o, b ∉ ch → s.heap.get? b = some o → ∃ o', h'.get? b = some o')
    (tups : ∀ b xs, H b = some (.tup xs) → H' b = some (.tup xs)) (frzs : ∀ b o u, H b = some (.frz o u) → H' b = some (.frz o u)) (tbls : ∀ b ps, H b = some (.tbl ps) → ∃ more, H' b = some (.tbl (ps ++ more)))
    (ns : ∀ m, s.heap.Ns X.env.locals m → h'.Ns X.env.locals m) (hok : HOk X.prog X.w H' h') (hg : AllBare g') :
    Inv X pins σ H' { s with heap := h', gens := g', drawn := d', toks := t' } := by
  have neL : ∀ b o, X.s₀.heap.get? b = some o → b ≠ X.env.locals := fun b o e => Nat.ne_of_lt (Nat.lt_of_lt_of_le (Heap.lt_size e) I.ok.above)
  have neC : ∀ b o, X.s₀.heap.get? b = some o → b ∉ X.ex → b ∉ ch := fun b o e hx hb => by
    rcases (hch b hb).1 with z | z
    · exact hx z
    · exact absurd (Nat.lt_of_lt_of_le (Heap.lt_size e) z) (Nat.lt_irrefl _)
  have cellK : ∀ x c, X.env.cells.lookup x = some c → ∀ v, s.heap.IsCell c v → h'.IsCell c v := fun x c e v ⟨o, ho, hd⟩ => by
    have nch : c ∉ ch := fun z => (hch c z).2.2.1 x c e rfl
    by_cases hc : c ∈ X.fs
    · obtain ⟨sl, q⟩ := slot c o (I.cne x c e) hc nch ho (I.freeC x c e)
      exact ⟨_, q, hd⟩
    · exact ⟨o, keep c o (I.cne x c e) hc nch ho (I.freeC x c e), hd⟩
  refine ⟨I.ok, I.os, hg, ⟨fun b o e n hb hx => ?_, fun b o e n hb hx => ?_, fun b o e n hx => ?_, fun b o e hx => ?_, fun b xs e => tups b xs (I.base.tups b xs e), fun b o xs e => frzs b o xs (I.base.frzs b o xs e), fun b ps e => ?_⟩, ?_, fun x c e => ?_, ?_, fun x c e => ?_, fun p hp => ?_, hok, I.len⟩
  · exact keep b o (neL b o e) hb (neC b o e hx) (I.base.keep b o e n hb hx) (I.base.free b o e n hx)
  · obtain ⟨sl, e1⟩ := I.base.slot b o e n hb hx
    obtain ⟨sl', e2⟩ := slot b _ (neL b o e) hb (neC b o e hx) e1 (I.base.free b o e n hx)
    exact ⟨sl', e2⟩
  · obtain ⟨o', e1⟩ := I.base.there b o e hx
    exact free b o' (neC b o e hx) e1 (I.base.free b o e n hx)
  · obtain ⟨o', e1⟩ := I.base.there b o e hx
    exact there b o' (neC b o e hx) e1
  · obtain ⟨m1, e1⟩ := I.base.tbls b ps e
    obtain ⟨m2, e2⟩ := tbls b _ e1
    exact ⟨m1 ++ m2, by rw [e2, Array.append_assoc]⟩
  · obtain ⟨m, hn, hl⟩ := I.loc
    refine ⟨m, ns m hn, fun i x v e1 e2 e3 => ?_⟩
    obtain ⟨u, r, l⟩ := hl i x v e1 e2 e3
    refine ⟨u, r, ?_⟩
    rcases l with l | ⟨k, c, e, z⟩
    · exact .inl l
    · exact .inr ⟨k, c, e, cellK x c e _ z⟩
  · obtain ⟨v, z⟩ := I.cell x c e
    exact ⟨v, cellK x c e v z⟩
  · obtain ⟨m, ⟨o, _, _, ho, _⟩, _⟩ := I.loc
    exact free _ o (fun z => (hch _ z).2.1 rfl) ho I.free
  · obtain ⟨v, o, ho, hd⟩ := I.cell x c e
    exact free c o (fun z => (hch c z).2.2.1 x c e rfl) ho (I.freeC x c e)
  · obtain ⟨e, n, ne, nf, d⟩ := I.pin p hp
    have nch : p.1 ∉ ch := fun z => (hch p.1 z).2.2.2 p hp rfl
    exact ⟨keep p.1 p.2 ne nf nch e n, free p.1 p.2 nch e n, ne, nf, d⟩
/-- .. where the frame's own object is kept too -/
theorem Inv.un {t' : Nat} (I : Inv X pins σ H s) (u : Un X.fs [] H H' s.heap h') (hok : HOk X.prog X.w H' h') : Inv X pins σ H' { s with heap := h', toks := t' } := by
  obtain ⟨m, ⟨o, es, ep, ho, r⟩, _⟩ := id I.loc
  obtain ⟨sl, hL⟩ := u.any ho I.free (by simp)
  exact I.step (g' := s.gens) (d' := s.drawn) (ch := []) (fun _ z => nomatch z) (fun b o _ hb _ e n => u.keep b o e n hb (by simp)) (fun b o _ hb _ e n => u.slot b o e n hb (by simp)) (fun b o _ e n => u.free b o e n (by simp)) (fun b o _ e => u.there b o e (by simp)) u.tups u.frzs u.tbls (fun m' hm => by
    obtain ⟨o', es', ep', ho', r'⟩ := hm
    rw [ho] at ho'; cases ho'
    exact ⟨_, es', ep', hL, r'⟩) hok I.bare
/-- behind a call (or a comprehension's block): the slots of this frame may have changed too, the records at ch may have turned -/
theorem Inv.call {g' : Array GenState} {t' : Nat} {d' : Drawn} {ch : List Addr} (I : Inv X pins σ H s) (u : Un (frs X.stack) ch H H' s.heap h') (hok : HOk X.prog X.w H' h') (hg : AllBare g')
    (hch : ∀ b ∈ ch, (b ∈ X.ex ∨ X.s₀.heap.objs.size ≤ b) ∧ b ≠ X.env.locals ∧ (∀ x c, X.env.cells.lookup x = some c → c ≠ b) ∧ ∀ p ∈ X.pn ++ pins, p.1 ≠ b) :
    Inv X pins σ H' { s with heap := h', gens := g', drawn := d', toks := t' } := by
  obtain ⟨m, ⟨o, es, ep, ho, r⟩, _⟩ := id I.loc
  obtain ⟨sl, hL⟩ := u.any ho I.free fun z => (hch _ z).2.1 rfl
  exact I.step (ch := ch) hch (fun b o hL hb hc e n => u.keep b o e n (fun z => (List.mem_cons.mp (I.stkSub b z)).elim hL hb) hc) (fun b o _ _ hc e n => u.any e n hc) (fun b o hc e n => u.free b o e n hc) (fun b o hc e => u.there b o e hc) u.tups u.frzs u.tbls (fun m' hm => by
    obtain ⟨o', es', ep', ho', r'⟩ := hm
    rw [ho] at ho'; cases ho'
    exact ⟨_, es', ep', hL, r'⟩) hok hg
/-- an untracked record of ours (an iterator) has turned -/
theorem Inv.turned {t' : Nat} {it : Addr} (I : Inv X pins σ H s) (k : ∀ b o, b ≠ it → s.heap.get? b = some o → h'.get? b = some o) (hn : H it = none) (hL : it ≠ X.env.locals)
    (h1 : it ∈ X.ex ∨ X.s₀.heap.objs.size ≤ it) (h2 : ∀ x c, X.env.cells.lookup x = some c → c ≠ it) (h3 : ∀ p ∈ X.pn ++ pins, p.1 ≠ it) : Inv X pins σ H { s with heap := h', toks := t' } := by
  have nit : ∀ b u, H b = some u → b ≠ it := fun b u e z => by rw [z, hn] at e; cases e
  refine I.step (g' := s.gens) (d' := s.drawn) (ch := [it]) (fun b hb => ?_) (fun b o _ _ hc e _ => k b o (fun z => hc (by simp [z])) e) (fun b o _ _ hc e _ => ⟨o.slots, k b o (fun z => hc (by simp [z])) e⟩) (fun _ _ _ _ n => n)
    (fun b o hc e => ⟨o, k b o (fun z => hc (by simp [z])) e⟩) (fun _ _ e => e) (fun _ _ _ e => e) (fun b ps e => ⟨#[], by rw [e]; simp⟩) (fun m hm => ?_) (fun b u e => ?_) I.bare
  · have e : b = it := by simpa using hb
    subst e
    exact ⟨h1, hL, h2, h3⟩
  · obtain ⟨o, es, ep, ho, r⟩ := hm
    exact ⟨o, es, ep, k _ o (Ne.symm hL) ho, r⟩
  · refine (I.hok b u e).stay (fun c v hc q => k c v ?_ q) (fun _ q => q) fun _ _ q => q
    rcases hc with z | z
    · rw [z]; exact nit b u e
    · exact nit c _ z
theorem Inv.tok (I : Inv X pins σ H s) (t : Nat) : Inv X pins σ H { s with toks := t } := I.un (h' := s.heap) (t' := t) Un.refl I.hok
/-- all objects kept -/
theorem Inv.kept {t' : Nat} (I : Inv X pins σ H s) (k : ∀ b u, s.heap.get? b = some u → h'.get? b = some u) : Inv X pins σ H { s with heap := h', toks := t' } := I.un (Un.kept k) (I.hok.kept k)
/-- a new object laid and tracked -/
theorem Inv.laid {a : Addr} {o : HO} {t' : Nat} (I : Inv X pins σ H s) (k : ∀ b u, s.heap.get? b = some u → h'.get? b = some u) (hp : s.heap.objs.size ≤ a) (new : ObjOk X.prog X.w (upd H a o) h' a o) :
    Inv X pins σ (upd H a o) { s with heap := h', toks := t' } := I.un (Un.laid k hp (I.hok.fresh hp)) (I.hok.laid k hp new)
/-- an object written -/
theorem Inv.write {x e : Addr} {o : HO} {t' : Nat} (I : Inv X pins σ H s) (mu : Mut (H x)) (he : e = x ∨ H e = some (.own x)) (k : ∀ b u, b ≠ e → s.heap.get? b = some u → h'.get? b = some u) (heo : ∃ u, h'.get? e = some u)
    (new : ObjOk X.prog X.w (upd H x o) h' x o) : Inv X pins σ (upd H x o) { s with heap := h', toks := t' } := I.un (Un.write mu he k heo) (I.hok.write mu he k heo new)
theorem Inv.pins_of {pins' : List (Addr × Obj)} (I : Inv X pins σ H s) (h : ∀ p ∈ pins', s.heap.get? p.1 = some p.2 ∧ H p.1 = none ∧ p.1 ≠ X.env.locals ∧ p.1 ∉ X.fs ∧ ∀ v, p.2.data ≠ .cell v) : Inv X pins' σ H s :=
  ⟨I.ok, I.os, I.bare, I.base, I.loc, I.cell, I.free, I.freeC, fun p hp => (List.mem_append.mp hp).elim (fun z => I.pin p (List.mem_append_left _ z)) (h p), I.hok, I.len⟩

theorem nodup_ix {N : List Str} (hN : N.Nodup) {i j : Nat} {x : Str} (a : N[i]? = some x) (b : N[j]? = some x) : i = j := by
  obtain ⟨h1, e1⟩ := List.getElem?_eq_some_iff.mp a
  obtain ⟨h2, e2⟩ := List.getElem?_eq_some_iff.mp b
  exact (List.getElem_inj hN).mp (e1.trans e2.symm)

/-- a name is stored; what changed -/
theorem store_ok2 {M : Model} {A : Around} {E : Value → Shared → Prop} {i : Nat} {x : Str} {v : V} {u : Value} {Q : Unit → Shared → Prop} (I : Inv X pins σ H s) (hN : X.N.Nodup) (hi : X.N[i]? = some x) (hx : Loc X.env.scope x) (r : RelV v u)
    (h : ∀ s', Inv X pins (σ.set i (some v)) H s' → (∃ a, Heap.SameBut a s.heap s'.heap ∧ (a = X.env.locals ∨ X.env.cells.lookup x = some a)) → Q () s') (hf : X.fn x = true ∨ X.env.scope.names.lookup x = some .local := by first | exact .inl rfl | exact .inr rfl | assumption) : wpAny M A (storeName X.env x u) Q E s := by
  obtain ⟨m, hn, hl⟩ := id I.loc
  have hcls : (X.env.scope.kind == .class || (X.env.scope.kind == .module && X.env.locals != X.env.globals)) = false := by rw [I.ok.kind]; rfl
  have hiσ : i < σ.length := by rw [I.len]; exact (List.getElem?_eq_some_iff.mp hi).1
  have cne := I.cne
  have tracked : ∀ {a : Addr} {h' : Heap}, (∃ o, s.heap.get? a = some o ∧ H a = none) → Heap.SameBut a s.heap h' → HOk X.prog X.w H h' := fun {a h'} ha hs b ob e => by
    obtain ⟨_, _, hfree⟩ := ha
    refine (I.hok b ob e).stay (fun c w' hc q => (hs.2 c ?_).trans q) (fun _ q => q) fun _ _ q => q
    rintro rfl
    rcases hc with rfl | hc
    · rw [hfree] at e; cases e
    · rw [hfree] at hc; cases hc
  rcases hx with hk | hk
  · refine wpAny_storeName_local hk hn (fun h' hn' hs => ?_) hcls
    obtain ⟨oL, _, _, hoL, _⟩ := id hn
    refine h _ ⟨I.ok, I.os, I.bare, ⟨fun b o e n hb hx => ?_, fun b o e n hb hx => ?_, I.base.free, fun b o e hx => ?_, I.base.tups, I.base.frzs, I.base.tbls⟩, ⟨_, hn', fun j y v' e1 e2 e3 => ?_⟩, fun y c e => ?_, I.free, I.freeC, fun p hp => ?_, tracked ⟨oL, hoL, I.free⟩ hs, by simpa using I.len⟩ ⟨_, hs, .inl rfl⟩
    · exact (hs.2 b (Nat.ne_of_lt (Nat.lt_of_lt_of_le (Heap.lt_size e) I.ok.above))).trans (I.base.keep b o e n hb hx)
    · obtain ⟨sl, e1⟩ := I.base.slot b o e n hb hx
      exact ⟨sl, (hs.2 b (Nat.ne_of_lt (Nat.lt_of_lt_of_le (Heap.lt_size e) I.ok.above))).trans e1⟩
    · obtain ⟨o', e1⟩ := I.base.there b o e hx
      exact ⟨o', (hs.2 b (Nat.ne_of_lt (Nat.lt_of_lt_of_le (Heap.lt_size e) I.ok.above))).trans e1⟩
    · by_cases hj : j = i
      · subst hj
        rw [hi] at e1; cases e1
        rw [List.getElem?_set_self hiσ] at e2
        cases e2
        exact ⟨u, r, .inl ⟨hk, by simp⟩⟩
      · rw [List.getElem?_set_ne (Ne.symm hj)] at e2
        obtain ⟨u', r', q⟩ := hl j y v' e1 e2 e3
        refine ⟨u', r', ?_⟩
        rcases q with ⟨k, e⟩ | ⟨k, c, e, z⟩
        · refine .inl ⟨k, ?_⟩
          have : y ≠ x := fun e => hj (nodup_ix hN e1 (e ▸ hi))
          simp [this, e]
        · exact .inr ⟨k, c, e, z.sameBut hs (cne y c e)⟩
    · obtain ⟨w', z⟩ := I.cell y c e
      exact ⟨w', z.sameBut hs (cne y c e)⟩
    · obtain ⟨e, n, ne, nf, d⟩ := I.pin p hp
      exact ⟨(hs.2 p.1 ne).trans e, n, ne, nf, d⟩
  · have hfn : X.fn x = true := by
      rcases hf with z | z
      · exact z
      · rw [z] at hk; cases hk
    obtain ⟨c, hc⟩ := I.ok.has x (.inl hk)
    obtain ⟨w', z⟩ := I.cell x c hc
    refine wpAny_storeName_cell I.ok.kind hk hc z (fun h' hc' hs => ?_)
    obtain ⟨oc, hoc, hocd⟩ := id z
    refine h { s with heap := h' } ⟨I.ok, I.os, I.bare, ⟨fun b o e n hb hx => ?_, fun b o e n hb hx => ?_, I.base.free, fun b o e hx => ?_, I.base.tups, I.base.frzs, I.base.tbls⟩, ⟨m, hn.sameBut hs (Ne.symm (cne x c hc)), fun j y v' e1 e2 e3 => ?_⟩, fun y c' e => ?_, I.free, I.freeC, fun p hp => ?_, tracked ⟨oc, hoc, I.freeC x c hc⟩ hs, by simpa using I.len⟩ ⟨c, hs, .inr hc⟩
    · exact (hs.2 b (Nat.ne_of_lt (Nat.lt_of_lt_of_le (Heap.lt_size e) (I.ok.cab x c hfn hc)))).trans (I.base.keep b o e n hb hx)
    · obtain ⟨sl, e1⟩ := I.base.slot b o e n hb hx
      exact ⟨sl, (hs.2 b (Nat.ne_of_lt (Nat.lt_of_lt_of_le (Heap.lt_size e) (I.ok.cab x c hfn hc)))).trans e1⟩
    · obtain ⟨o', e1⟩ := I.base.there b o e hx
      exact ⟨o', (hs.2 b (Nat.ne_of_lt (Nat.lt_of_lt_of_le (Heap.lt_size e) (I.ok.cab x c hfn hc)))).trans e1⟩
    · by_cases hj : j = i
      · subst hj
        rw [hi] at e1; cases e1
        rw [List.getElem?_set_self hiσ] at e2
        cases e2
        exact ⟨u, r, .inr ⟨.inl hk, c, hc, hc'⟩⟩
      · rw [List.getElem?_set_ne (Ne.symm hj)] at e2
        obtain ⟨u', r', q⟩ := hl j y v' e1 e2 e3
        refine ⟨u', r', ?_⟩
        rcases q with q | ⟨k, c', e, z'⟩
        · exact .inl q
        · refine .inr ⟨k, c', e, z'.sameBut hs ?_⟩
          rintro rfl
          exact hj (nodup_ix hN e1 (I.ok.inj _ _ _ e hc ▸ hi))
    · by_cases hcc : c' = c
      · subst hcc; exact ⟨_, hc'⟩
      · obtain ⟨w2, z2⟩ := I.cell y c' e
        exact ⟨w2, z2.sameBut hs hcc⟩
    · obtain ⟨e, n, ne, nf, d⟩ := I.pin p hp
      refine ⟨(hs.2 p.1 ?_).trans e, n, ne, nf, d⟩
      intro q
      rw [q, hoc] at e
      have q' : oc = p.2 := Option.some.inj e
      exact d w' (by rw [← q']; exact hocd)
theorem store_ok {M : Model} {A : Around} {E : Value → Shared → Prop} {i : Nat} {x : Str} {v : V} {u : Value} {Q : Unit → Shared → Prop} (I : Inv X pins σ H s) (hN : X.N.Nodup) (hi : X.N[i]? = some x) (hx : Loc X.env.scope x) (r : RelV v u)
    (h : ∀ s', Inv X pins (σ.set i (some v)) H s' → Q () s') (hf : X.fn x = true ∨ X.env.scope.names.lookup x = some .local := by first | exact .inl rfl | exact .inr rfl | assumption) : wpAny M A (storeName X.env x u) Q E s :=
  store_ok2 I hN hi hx r (fun s' I' _ => h s' I') hf
/-- behind a call or a block, the state as it is -/
theorem Inv.call' {s' : Shared} {ch : List Addr} (I : Inv X pins σ H s) (ho : s'.os = s.os) (u : Un (frs X.stack) ch H H' s.heap s'.heap) (hok : HOk X.prog X.w H' s'.heap) (hg : AllBare s'.gens)
    (hch : ∀ b ∈ ch, (b ∈ X.ex ∨ X.s₀.heap.objs.size ≤ b) ∧ b ≠ X.env.locals ∧ (∀ x c, X.env.cells.lookup x = some c → c ≠ b) ∧ ∀ p ∈ X.pn ++ pins, p.1 ≠ b) : Inv X pins σ H' s' := by
  obtain ⟨h', g', d', t', o'⟩ := s'
  have e : o' = s.os := ho
  subst e
  exact I.call (g' := g') (t' := t') (d' := d') u hok hg hch
end

/-! ### the judgements -/
/-- an exception: its class, its own dict's address (where it has one), the abstract heap behind it -/
abbrev XK := Value → Option Addr → Hp → Prop
abbrev St := List (Option V)
abbrev VK := V → Hp → Prop
/-- an expression's reading; a test's; an argument list's -/
abbrev TE := St → Hp → VK → Prop
abbrev TT := St → Hp → (Bool → Hp → Prop) → Prop
abbrev TA := St → Hp → (List V → Hp → Prop) → Prop
/-- what is wanted behind a statement -/
structure Ends where
  nx : St → Hp → Prop
  rt : VK
  bk : St → Hp → Prop := fun _ _ => False
  ct : St → Hp → Prop := fun _ _ => False
abbrev TS := Ends → St → Hp → Prop

def EP (X : Cx) (pins : List (Addr × Obj)) (σ : St) (Q : VK) (u : Value) (s' : Shared) : Prop := ∃ v H', Inv X pins σ H' s' ∧ RelV v u ∧ Q v H'
def TP (X : Cx) (pins : List (Addr × Obj)) (σ : St) (Q : Bool → Hp → Prop) (b : Bool) (s' : Shared) : Prop := ∃ H', Inv X pins σ H' s' ∧ Q b H'
def AP (X : Cx) (pins : List (Addr × Obj)) (σ : St) (Q : List V → Hp → Prop) (us : List Value) (s' : Shared) : Prop := ∃ vs H', Inv X pins σ H' s' ∧ Vals vs us ∧ Q vs H'
def SP (X : Cx) (pins : List (Addr × Obj)) (D : Ends) (f : Flow) (s' : Shared) : Prop :=
  match f with
  | .next => ∃ σ' H', Inv X pins σ' H' s' ∧ D.nx σ' H'
  | .brk => ∃ σ' H', Inv X pins σ' H' s' ∧ D.bk σ' H'
  | .cont => ∃ σ' H', Inv X pins σ' H' s' ∧ D.ct σ' H'
  | .ret u => ∃ v σ' H', Inv X pins σ' H' s' ∧ RelV v u ∧ D.rt v H'

def PE (X : Cx) (e : Expr) (t : TE) : Prop :=
  ∀ (pins : List (Addr × Obj)) (s : Shared) (σ : St) (H : Hp) (Q : VK), Inv X pins σ H s → t σ H Q → wpAny (model X.prog X.w) X.A (eval e X.env) (EP X pins σ Q) X.xe s
def PT (X : Cx) (e : Expr) (t : TT) : Prop :=
  ∀ (pins : List (Addr × Obj)) (s : Shared) (σ : St) (H : Hp) (Q : Bool → Hp → Prop), Inv X pins σ H s → t σ H Q → wpAny (model X.prog X.w) X.A (isTrue e X.env (eval e X.env)) (TP X pins σ Q) X.xe s
/-- a test whatever its 'whole' is (and, or) -/
def PW (X : Cx) (e : Expr) (t : TT) : Prop :=
  ∀ (whole : Sem Value) (pins : List (Addr × Obj)) (s : Shared) (σ : St) (H : Hp) (Q : Bool → Hp → Prop), Inv X pins σ H s → t σ H Q → wpAny (model X.prog X.w) X.A (isTrue e X.env whole) (TP X pins σ Q) X.xe s
theorem PW.pt {X : Cx} {e : Expr} {t : TT} (h : PW X e t) : PT X e t := h _
/-- an argument list (no star), from the left -/
def PA (X : Cx) (es : List Expr) (t : TA) : Prop :=
  ∀ (pos : Pos) (pins : List (Addr × Obj)) (s : Shared) (σ : St) (H : Hp) (Q : List V → Hp → Prop), Inv X pins σ H s → t σ H Q → wpAny (model X.prog X.w) X.A (spliced (backTo pos (starEach es X.env))) (AP X pins σ Q) X.xe s
def PS (X : Cx) (st : Stmt) (t : TS) : Prop :=
  ∀ (pins : List (Addr × Obj)) (s : Shared) (σ : St) (H : Hp) (D : Ends), Inv X pins σ H s → t D σ H → wpAny (model X.prog X.w) X.A (exec st X.env) (SP X pins D) X.xe s
def PSs (X : Cx) (st : List Stmt) (t : TS) : Prop :=
  ∀ (pins : List (Addr × Obj)) (s : Shared) (σ : St) (H : Hp) (D : Ends), Inv X pins σ H s → t D σ H → wpAny (model X.prog X.w) X.A (execs st X.env) (SP X pins D) X.xe s
/-- weaken the end -/
theorem thn {α : Type} {t : Sem α} {Q Q' : α → Shared → Prop} {M : Model} {A : Around} {E : Value → Shared → Prop} {s : Shared} (h : wpAny M A t Q E s) (hQ : ∀ a s, Q a s → Q' a s) : wpAny M A t Q' E s := wpAny_mono h hQ fun _ _ x => x
end L2

namespace L2
open PySem PySem.Spec PyProof.Rows
section
variable {X : Cx}

/-! ### names and constants -/
def tVar (i : Nat) : TE := fun σ H Q => ∃ v, σ[i]? = some (some v) ∧ Q v H
def tC (v : V) : TE := fun _ H Q => Q v H
theorem pe_var {i : Nat} {x : Str} {pos : Pos} (hN : X.N[i]? = some x) (hv : Vis X.env.scope x) (hd : (x == ("__debug__" : Str)) = false := by decide) (hcd : (x == ("__classdict__" : Str)) = false := by decide) : PE X (.Name x pos) (tVar i) := by
  intro pins s σ H Q I h
  obtain ⟨v, e, h⟩ := h
  obtain ⟨m, hn, hl⟩ := I.loc
  obtain ⟨u, r, l⟩ := hl i x v hN e hv
  have fin : EP X pins σ Q u s := ⟨v, H, I, r, h⟩
  rcases l with ⟨hk, hm⟩ | ⟨hk, c, hc, hcell⟩
  · exact wpAny_Name (wpAny_loadName_local I.ok.kind hk hn hm fin) hd
  · rcases hk with hk | hk
    · exact wpAny_Name (wpAny_loadName_cell I.ok.kind hk hc hcell fin) hd
    · exact wpAny_Name (wpAny_loadName_free I.ok.kind hk hc hcell fin hcd) hd
theorem pe_int {i j pos} : PE X (.Constant (.int i) j pos) (tC (.int i)) := fun _ _ _ H _ I h => wpAny_Constant_int ⟨.int i, H, I.tok _, ⟨_, rfl⟩, h⟩
theorem pe_bl {b j pos} : PE X (.Constant (.bool b) j pos) (tC (.bl b)) := fun _ _ _ H _ I h => Constant_bool ⟨.bl b, H, I, rfl, h⟩
theorem pe_str {x j pos} : PE X (.Constant (.str x) j pos) (tC (.str x)) := fun _ _ _ H _ I h => Calls.Constant_str ⟨.str x, H, I.tok _, ⟨_, rfl⟩, h⟩

/-- a global name of the def -/
def Gl (X : Cx) (x : Str) : Prop := X.env.kindOf x = some .globalImplicit
theorem ld_glob {E : Value → Shared → Prop} {pins : List (Addr × Obj)} {s : Shared} {σ : St} {H : Hp} {x : Str} {u : Value} {pos : Pos} {Q : Value → Shared → Prop} (I : Inv X pins σ H s) (hg : Gl X x) (hm : X.mg x = some u) (h : Q u s)
    (hd : (x == ("__debug__" : Str)) = false := by decide) : wpAny (model X.prog X.w) X.A (eval (.Name x pos) X.env) Q E s :=
  Calls.Name_function_global I.ok.kind hg (Calls.loadGlobal_global (by rw [I.ok.glob]; exact I.mod.glob.keeps I.bk) hm h) hd
theorem ld_blt {E : Value → Shared → Prop} {pins : List (Addr × Obj)} {s : Shared} {σ : St} {H : Hp} {x : Str} {u : Value} {pos : Pos} {Q : Value → Shared → Prop} (I : Inv X pins σ H s) (hg : Gl X x) (hm : X.mg x = none) (hv : bootBuiltins x = some u) (h : Q u s)
    (hn : x ≠ "__name__" := by decide) (hd : (x == ("__debug__" : Str)) = false := by decide) : wpAny (model X.prog X.w) X.A (eval (.Name x pos) X.env) Q E s := by
  obtain ⟨mb, h1, h2⟩ := I.mod.blt
  exact Calls.Name_function_global I.ok.kind hg (Calls.loadGlobal_builtin (by rw [I.ok.glob]; exact I.mod.glob.keeps I.bk) hm (by rw [I.ok.blt]; exact h1.keeps I.bk) ((h2 x hn).trans hv) h) hd
/-- a module's constant, a class, a function, as a value -/
theorem pe_glob {x : Str} {v : V} {u : Value} {pos : Pos} (hg : Gl X x) (hm : X.mg x = some u) (r : RelV v u) (hd : (x == ("__debug__" : Str)) = false := by decide) : PE X (.Name x pos) (tC v) :=
  fun _ _ _ H _ I h => ld_glob I hg hm ⟨v, H, I, r, h⟩ hd
theorem pe_bltn {x : Str} {v : V} {u : Value} {pos : Pos} (hg : Gl X x) (hm : X.mg x = none) (hv : bootBuiltins x = some u) (r : RelV v u) (hn : x ≠ "__name__" := by decide) (hd : (x == ("__debug__" : Str)) = false := by decide) : PE X (.Name x pos) (tC v) :=
  fun _ _ _ H _ I h => ld_blt I hg hm hv ⟨v, H, I, r, h⟩ hn hd

/-! ### arithmetic -/
/-- two ints -/
def t2I (ta tb : TE) (k : Int → Int → Hp → Prop) : St → Hp → Prop := fun σ H => ta σ H fun x H1 => tb σ H1 fun y H2 => ∃ i j, x = .int i ∧ y = .int j ∧ k i j H2
def tAdd (ta tb : TE) : TE := fun σ H Q => t2I ta tb (fun i j H2 => Q (.int (i + j)) H2) σ H
def tSub (ta tb : TE) : TE := fun σ H Q => t2I ta tb (fun i j H2 => Q (.int (i - j)) H2) σ H
/-- the left factor below 2^64 -/
def tMul (ta tb : TE) : TE := fun σ H Q => t2I ta tb (fun i j H2 => (-(2 ^ 64) < i ∧ i < 2 ^ 64) ∧ Q (.int (i * j)) H2) σ H
variable {a b : Expr} {ta tb : TE} {pos : Pos}
/-! ### comparisons -/
def PC (X : Cx) (op : CmpOp) (a b : Expr) (t : TE) : Prop :=
  ∀ (pins : List (Addr × Obj)) (s : Shared) (σ : St) (H : Hp) (Q : VK), Inv X pins σ H s → t σ H Q →
    wpAny (model X.prog X.w) X.A (eval a X.env) (fun v s₁ => wpAny (model X.prog X.w) X.A (eval b X.env) (fun u s₂ => wpAny (model X.prog X.w) X.A (compareOp op v u) (EP X pins σ Q) X.xe s₂) X.xe s₁) X.xe s
theorem nobehind (b : Expr) {op : CmpOp} (h : op ≠ .In) (h2 : op ≠ .NotIn) : behindInMarks op b = false := by
  have e1 : (op == CmpOp.In) = false := by cases op <;> first | rfl | exact absurd rfl h
  have e2 : (op == CmpOp.NotIn) = false := by cases op <;> first | rfl | exact absurd rfl h2
  cases b <;> simp [behindInMarks, e1, e2]
def tCmp (p : Int → Int → Bool) (ta tb : TE) : TE := fun σ H Q => t2I ta tb (fun i j H2 => Q (.bl (p i j)) H2) σ H
abbrev tLt : TE → TE → TE := tCmp fun i j => decide (i < j)
abbrev tLe : TE → TE → TE := tCmp fun i j => decide (i ≤ j)
abbrev tGt : TE → TE → TE := tCmp fun i j => decide (j < i)
abbrev tGe : TE → TE → TE := tCmp fun i j => decide (j ≤ i)
abbrev tEqI : TE → TE → TE := tCmp fun i j => decide (i = j)
abbrev tNeI : TE → TE → TE := tCmp fun i j => !decide (i = j)
/-- is None -/
def tIsN (ta : TE) : TE := fun σ H Q => ta σ H fun x H1 => Q (.bl (decide (x = .non))) H1
def tNotN (ta : TE) : TE := fun σ H Q => ta σ H fun x H1 => Q (.bl (!decide (x = .non))) H1
/-- a comparison as a value, as a test -/
def tB (t : TE) : TT := fun σ H Q => t σ H fun x H1 => ∃ c, x = .bl c ∧ Q c H1
/-- an expression whose value is a bool, as a test -/
theorem pt_val {e : Expr} {t : TE} (h : PE X e t) (he : ∀ whole, isTrue e X.env whole = (do let v ← whole; standAt e.pos; holding [v] (truthy v)) := by intro _; rfl) : PT X e (tB t) := by
  intro pins s σ H Q I hw
  refine isTrue_plain (thn (h pins s σ H _ I hw) fun v s1 => L2.ex5 fun x H1 I1 r1 q1 => ?_) (he _)
  obtain ⟨d, rfl, q⟩ := q1
  cases r1
  exact wpAny_truthy_bool ⟨H1, I1, q⟩

/-! ### and, or, not -/
variable {tA tB' : TT} {rest : List Expr}
def tAnd (t u : TT) : TT := fun σ H Q => t σ H fun c H1 => if c = true then u σ H1 Q else Q false H1
def tOr (t u : TT) : TT := fun σ H Q => t σ H fun c H1 => if c = true then Q true H1 else u σ H1 Q
def tNot (t : TT) : TT := fun σ H Q => t σ H fun c H1 => Q (!c) H1
theorem pw_and1 (ha : PT X a tA) : PW X (.BoolOp .And [a] pos) tA := by
  intro wh pins s σ H Q I h
  refine isTrue_and (thn (ha pins s σ H Q I h) fun c s1 e => ?_)
  cases c with
  | true => exact isTrue_and_nil e
  | false => exact e
theorem pw_or1 (ha : PT X a tA) : PW X (.BoolOp .Or [a] pos) tA := by
  intro wh pins s σ H Q I h
  refine isTrue_or (thn (ha pins s σ H Q I h) fun c s1 e => ?_)
  cases c with
  | false => exact isTrue_or_nil e
  | true => exact e
theorem pw_and (ha : PT X a tA) (hb : PW X (.BoolOp .And (b :: rest) pos) tB') : PW X (.BoolOp .And (a :: b :: rest) pos) (tAnd tA tB') := by
  intro wh pins s σ H Q I h
  refine isTrue_and (thn (ha pins s σ H _ I h) fun c s1 => L2.ex3 fun H1 I1 q1 => ?_)
  cases c with
  | true => exact hb wh pins s1 σ H1 Q I1 q1
  | false => exact ⟨H1, I1, q1⟩
theorem pw_or (ha : PT X a tA) (hb : PW X (.BoolOp .Or (b :: rest) pos) tB') : PW X (.BoolOp .Or (a :: b :: rest) pos) (tOr tA tB') := by
  intro wh pins s σ H Q I h
  refine isTrue_or (thn (ha pins s σ H _ I h) fun c s1 => L2.ex3 fun H1 I1 q1 => ?_)
  cases c with
  | true => exact ⟨H1, I1, q1⟩
  | false => exact hb wh pins s1 σ H1 Q I1 q1
theorem pt_not (ha : PT X a tA) : PT X (.UnaryOp .Not a pos) (tNot tA) := by
  intro pins s σ H Q I h
  exact isTrue_not (ha pins s σ H (fun c H1 => Q (!c) H1) I h)
/-- .. as values (bools) -/
def tAndV (ta tb : TE) : TE := fun σ H Q => ta σ H fun x H1 => ∃ c, x = .bl c ∧ if c = true then tb σ H1 Q else Q (.bl false) H1
def tOrV (ta tb : TE) : TE := fun σ H Q => ta σ H fun x H1 => ∃ c, x = .bl c ∧ if c = true then Q (.bl true) H1 else tb σ H1 Q
def tNotV (ta : TE) : TE := fun σ H Q => ta σ H fun x H1 => ∃ c, x = .bl c ∧ Q (.bl (!c)) H1
theorem pe_one {op} {t : TE} (h : PE X a t) : PE X (.BoolOp op [a] pos) t := fun pins s σ H Q I hw => BoolOp_one (h pins s σ H Q I hw)
theorem pe_and (ha : PE X a ta) (hb : PE X (.BoolOp .And (b :: rest) pos) tb) : PE X (.BoolOp .And (a :: b :: rest) pos) (tAndV ta tb) := by
  intro pins s σ H Q I h
  refine BoolOp_and (thn (ha pins s σ H _ I h) fun v s1 => L2.ex5 fun x H1 I1 r1 q1 => ?_)
  obtain ⟨c, rfl, q1⟩ := q1
  cases r1
  refine wpAny_truthy_bool ?_
  cases c with
  | true => exact hb pins s1 σ H1 Q I1 q1
  | false => exact ⟨.bl false, H1, I1, rfl, q1⟩
theorem pe_not (ha : PE X a ta) : PE X (.UnaryOp .Not a pos) (tNotV ta) := by
  intro pins s σ H Q I h
  refine UnaryOp_ (thn (ha pins s σ H _ I h) fun v s1 => L2.ex5 fun x H1 I1 r1 q1 => ?_)
  obtain ⟨c, rfl, q1⟩ := q1
  cases r1
  exact not_of (wpAny_truthy_bool ⟨.bl (!c), H1, I1, rfl, q1⟩)
/-- a if t else b -/
def tIf (t : TT) (ta tb : TE) : TE := fun σ H Q => t σ H fun c H1 => if c = true then ta σ H1 Q else tb σ H1 Q
end
end L2

namespace L2
open PySem PySem.Spec PyProof.Rows

/-! ### a list, a tuple that is read: tracked, frozen, or an object of the module -/
def SqL (K : PySem.W.Frag) (H : Hp) (a : Addr) (xs : List V) : Prop :=
  Rd H a (.lst xs) ∨
    ∃ (o : Obj) (its : Array Value) (n : Nat), K.lookup a = some o ∧ o.cls = .type "list" ∧ o.dict = none ∧ o.data = .seq its n ∧ its.size ≤ sizeLine ∧ Vals xs its.toList
def SqT (K : PySem.W.Frag) (H : Hp) (a : Addr) (xs : List V) : Prop :=
  Rd H a (.tup xs) ∨
    ∃ (o : Obj) (its : Array Value) (n : Nat), K.lookup a = some o ∧ o.cls = .type "tuple" ∧ o.data = .seq its n ∧ its.size ≤ sizeLine ∧ Vals xs its.toList
def absV : Value → Option V
  | .none => some .non
  | .bool b => some (.bl b)
  | .int i _ => some (.int i)
  | .str x _ => some (.str x)
  | .bytes b _ => some (.byt b)
  | .float b _ => some (.flt b)
  | .ref a => some (.ref a)
  | .type n => some (.ty n)
  | _ => none
theorem RelV.abs {x : V} {u : Value} (r : RelV x u) : absV u = some x := by
  cases x with
  | non => cases r; rfl
  | bl _ => cases r; rfl
  | int _ => obtain ⟨t, rfl⟩ := r; rfl
  | str _ => obtain ⟨t, rfl⟩ := r; rfl
  | byt _ => obtain ⟨t, rfl⟩ := r; rfl
  | flt _ => obtain ⟨t, rfl⟩ := r; rfl
  | ref _ => cases r; rfl
  | ty _ => cases r; rfl
theorem RelV.inj {x y : V} {u : Value} (r : RelV x u) (q : RelV y u) : x = y := Option.some.inj (r.abs.symm.trans q.abs)
theorem Vals.inj : ∀ {xs ys : List V} {us : List Value}, Vals xs us → Vals ys us → xs = ys
  | _, _, _, .nil, .nil => rfl
  | _, _, _, .cons r t, .cons r' t' => by rw [r.inj r', Vals.inj t t']
section
variable {X : Cx} {pins : List (Addr × Obj)} {σ : St} {H : Hp} {s : Shared} {a : Addr} {xs ys : List V}
theorem SqL.of {K : PySem.W.Frag} (h : H a = some (.lst xs)) : SqL K H a xs := .inl (.inl h)
theorem SqT.of {K : PySem.W.Frag} (h : H a = some (.tup xs)) : SqT K H a xs := .inl (.inl h)
theorem Inv.list (I : Inv X pins σ H s) (h : SqL X.K H a xs) : ∃ its : List Value, Vals xs its ∧ PlainL s.heap a its.toArray ∧ xs.length ≤ sizeLine := by
  rcases h with h | ⟨o, its, n, hk, hc, hd, hs, hz, r⟩
  · obtain ⟨z, its, n, r, e⟩ := h.ok I.hok
    exact ⟨its, r, ⟨_, n, e, rfl, rfl, rfl⟩, z⟩
  · refine ⟨its.toList, r, ⟨o, n, I.kIn a o hk, hc, hd, by simpa using hs⟩, ?_⟩
    have e := r.length
    simp only [Array.length_toList] at e
    omega
theorem Inv.tuple (I : Inv X pins σ H s) (h : SqT X.K H a xs) : ∃ its : List Value, Vals xs its ∧ IsTup s.heap a its.toArray ∧ xs.length ≤ sizeLine := by
  rcases h with h | ⟨o, its, n, hk, hc, hs, hz, r⟩
  · obtain ⟨z, its, r, p⟩ := h.ok I.hok
    exact ⟨its, r, p, z⟩
  · refine ⟨its.toList, r, ⟨o, I.kIn a o hk, hc, n, by simpa using hs⟩, ?_⟩
    have e := r.length
    simp only [Array.length_toList] at e
    omega
theorem Inv.list_inj (I : Inv X pins σ H s) (h : SqL X.K H a xs) (h' : SqL X.K H a ys) : xs = ys := by
  obtain ⟨its, r, ⟨o, n, e, _, _, d⟩, _⟩ := I.list h
  obtain ⟨its', r', ⟨o', n', e', _, _, d'⟩, _⟩ := I.list h'
  rw [e] at e'; cases e'
  rw [d] at d'
  injection d' with d1 _
  have : its = its' := by simpa using congrArg Array.toList d1
  subst this
  exact r.inj r'
theorem Inv.tuple_inj (I : Inv X pins σ H s) (h : SqT X.K H a xs) (h' : SqT X.K H a ys) : xs = ys := by
  obtain ⟨its, r, ⟨o, e, _, n, d⟩, _⟩ := I.tuple h
  obtain ⟨its', r', ⟨o', e', _, n', d'⟩, _⟩ := I.tuple h'
  rw [e] at e'; cases e'
  rw [d] at d'
  injection d' with d1 _
  have : its = its' := by simpa using congrArg Array.toList d1
  subst this
  exact r.inj r'
end

/-! ### another wish about exceptions -/
abbrev Cx.wish (X : Cx) (E : Value → Shared → Prop) : Cx := { X with xe := E }
/-- no exception leaves -/
abbrev Cx.nox (X : Cx) : Cx := X.wish fun _ _ => False
theorem Cx.Ok.wish {X : Cx} (ok : X.Ok) (E : Value → Shared → Prop) : (X.wish E).Ok :=
  ⟨ok.mod, ok.kind, ok.glob, ok.blt, ok.above, ok.inj, ok.has, ok.cab, ok.hd, ok.frames, ok.stk, ok.exf, ok.bs, ok.bsz, ok.noex, ok.exfs, ok.funs, ok.frf⟩
theorem Cx.Ok.unwish {X : Cx} {E : Value → Shared → Prop} (ok : (X.wish E).Ok) : X.Ok :=
  ⟨ok.mod, ok.kind, ok.glob, ok.blt, ok.above, ok.inj, ok.has, ok.cab, ok.hd, ok.frames, ok.stk, ok.exf, ok.bs, ok.bsz, ok.noex, ok.exfs, ok.funs, ok.frf⟩
section
variable {X : Cx} {pins : List (Addr × Obj)} {σ : St} {H : Hp} {s : Shared} {E : Value → Shared → Prop}
theorem Inv.wish (I : Inv X pins σ H s) (E : Value → Shared → Prop) : Inv (X.wish E) pins σ H s := ⟨I.ok.wish E, I.os, I.bare, I.base, I.loc, I.cell, I.free, I.freeC, I.pin, I.hok, I.len⟩
theorem Inv.unwish (I : Inv (X.wish E) pins σ H s) : Inv X pins σ H s := ⟨I.ok.unwish, I.os, I.bare, I.base, I.loc, I.cell, I.free, I.freeC, I.pin, I.hok, I.len⟩
theorem SP.unwish {D : Ends} {f : Flow} {s' : Shared} (h : SP (X.wish E) pins D f s') : SP X pins D f s' := by
  cases f with
  | next => obtain ⟨σ', H', I, q⟩ := h; exact ⟨σ', H', I.unwish, q⟩
  | brk => obtain ⟨σ', H', I, q⟩ := h; exact ⟨σ', H', I.unwish, q⟩
  | cont => obtain ⟨σ', H', I, q⟩ := h; exact ⟨σ', H', I.unwish, q⟩
  | ret u => obtain ⟨v, σ', H', I, r, q⟩ := h; exact ⟨v, σ', H', I.unwish, r, q⟩
theorem PSs.nox {st : List Stmt} {t : TS} (h : PSs X.nox st t) : PSs X st t := fun pins s σ H D I hw =>
  wpAny_mono (h pins s σ H D (I.wish _) hw) (fun _ _ q => q.unwish) fun _ _ z => False.elim z
end

/-! ### blocks and small statements -/
section
variable {X : Cx} {st : Stmt} {rest : List Stmt} {t u : TS} {e : Expr} {te : TE} {pos : Pos}
def tNext : TS := fun D σ H => D.nx σ H
def tSeq (t u : TS) : TS := fun D σ H => t { D with nx := u D } σ H
theorem pss_nil : PSs X [] tNext := fun _ _ σ H _ I h => wpAny_execs_nil ⟨σ, H, I, h⟩
theorem pss_cons (h1 : PS X st t) (h2 : PSs X rest u) : PSs X (st :: rest) (tSeq t u) := by
  intro pins s σ H D I h
  refine wpAny_execs_cons (thn (h1 pins s σ H { D with nx := u D } I h) fun f s1 q => ?_)
  cases f with
  | next =>
    obtain ⟨σ', H', I', q⟩ := q
    exact h2 pins s1 σ' H' D I' q
  | ret v => exact q
  | brk => exact q
  | cont => exact q
theorem pss_one (h1 : PS X st t) : PSs X [st] t := by
  intro pins s σ H D I h
  refine wpAny_execs_cons (thn (h1 pins s σ H D I h) fun f s1 q => ?_)
  cases f with
  | next => exact wpAny_execs_nil q
  | ret v => exact q
  | brk => exact q
  | cont => exact q
def tBreak : TS := fun D σ H => D.bk σ H
def tCont : TS := fun D σ H => D.ct σ H
/-- in a def's body nothing is shown -/
theorem Inv.quiet {pins : List (Addr × Obj)} {σ : St} {H : Hp} {s : Shared} (I : Inv X pins σ H s) : interactive X.env = false := by simp [interactive, I.ok.kind]
/-- an expression whose value is dropped -/
def tDrop (te : TE) : TS := fun D σ H => te σ H fun _ H1 => D.nx σ H1
theorem ps_expr (he : PE X e te) (hs : swapsWith e none pos.line X.env = pure false := by rfl) : PS X (.Expr e pos) (tDrop te) := by
  intro pins s σ H D I h
  exact wpAny_Expr_any (thn (he pins s σ H _ I h) fun v s1 => L2.ex5 fun x H1 I1 r1 q1 => ⟨σ, H1, I1, q1⟩) I.quiet hs
def tRet (te : TE) : TS := fun D σ H => te σ H D.rt
theorem ps_ret (he : PE X e te) : PS X (.Return (some e) pos) (tRet te) := by
  intro pins s σ H D I h
  exact wpAny_Return_some (thn (he pins s σ H _ I h) fun v s1 => L2.ex5 fun x H1 I1 r1 q1 => ⟨x, σ, H1, I1, r1, q1⟩)
def tRetN : TS := fun D _ H => D.rt .non H
def tIfS (c : TT) (t u : TS) : TS := fun D σ H => c σ H fun b H1 => if b = true then t D σ H1 else u D σ H1
theorem ps_if {c : Expr} {a b : List Stmt} {tc : TT} (hc : PT X c tc) (ha : PSs X a t) (hb : PSs X b u) : PS X (.If c a b pos) (tIfS tc t u) := by
  intro pins s σ H D I h
  refine wpAny_If (thn (hc pins s σ H _ I h) fun d s1 => L2.ex3 fun H1 I1 q1 => ?_)
  cases d with
  | true => exact ha pins s1 σ H1 D I1 q1
  | false => exact hb pins s1 σ H1 D I1 q1
/-- code that the proof never comes to -/
def tNever : TS := fun _ _ _ => False
end

/-! ### targets -/
abbrev TG := V → St → Hp → (St → Hp → Prop) → Prop
abbrev TGs := List V → St → Hp → (St → Hp → Prop) → Prop
def PG (X : Cx) (target : Expr) (t : TG) : Prop :=
  ∀ (pins : List (Addr × Obj)) (s : Shared) (σ : St) (H : Hp) (v : V) (u : Value) (Q : St → Hp → Prop), Inv X pins σ H s → RelV v u → t v σ H Q →
    wpAny (model X.prog X.w) X.A (assign target X.env u) (fun _ s' => ∃ σ' H', Inv X pins σ' H' s' ∧ Q σ' H') X.xe s
/-- several targets, one after another -/
def PGs (X : Cx) (ts : List Expr) (t : TGs) : Prop :=
  ∀ (pins : List (Addr × Obj)) (s : Shared) (σ : St) (H : Hp) (vs : List V) (us : List Value) (Q : St → Hp → Prop), Inv X pins σ H s → Vals vs us → t vs σ H Q →
    wpAny (model X.prog X.w) X.A (assignInOrder ((assignEach ts X.env).map (·.2)) us) (fun _ s' => ∃ σ' H', Inv X pins σ' H' s' ∧ Q σ' H') X.xe s
/-- o[i] = v, by values -/
abbrev TSet := V → V → V → Hp → (Hp → Prop) → Prop
def PSet (X : Cx) (t : TSet) : Prop :=
  ∀ (pins : List (Addr × Obj)) (s : Shared) (σ : St) (H : Hp) (o i v : V) (ov iv u : Value) (Q : Hp → Prop), Inv X pins σ H s → RelV o ov → RelV i iv → RelV v u → t o i v H Q →
    wpAny (model X.prog X.w) X.A (setItem ov iv u) (fun _ s' => ∃ H', Inv X pins σ H' s' ∧ Q H') X.xe s
/-- a op= b, by values -/
abbrev TIp := V → V → Hp → VK → Prop
def PIp (X : Cx) (op : Operator) (t : TIp) : Prop :=
  ∀ (pins : List (Addr × Obj)) (s : Shared) (σ : St) (H : Hp) (x y : V) (v u : Value) (Q : VK), Inv X pins σ H s → RelV x v → RelV y u → t x y H Q →
    wpAny (model X.prog X.w) X.A (inplaceOp op v u) (EP X pins σ Q) X.xe s
section
variable {X : Cx} {pos : Pos}
def gName (i : Nat) : TG := fun v σ H Q => Q (σ.set i (some v)) H
theorem pg_name {i : Nat} {x : Str} (hN : X.N.Nodup) (hi : X.N[i]? = some x) (hx : Loc X.env.scope x) (hf : X.fn x = true ∨ X.env.scope.names.lookup x = some .local := by first | exact .inl rfl | exact .inr rfl | assumption) : PG X (.Name x pos) (gName i) := by
  intro pins s σ H v u Q I r h
  exact wpAny_assign_Name (store_ok I hN hi hx r (fun s' I' => ⟨_, H, I', h⟩) hf)
def gNil : TGs := fun vs σ H Q => vs = [] ∧ Q σ H
def gCons (t : TG) (u : TGs) : TGs := fun vs σ H Q => ∃ v r, vs = v :: r ∧ t v σ H fun σ' H' => u r σ' H' Q
theorem pgs_nil : PGs X [] gNil := by
  intro pins s σ H vs us Q I r h
  obtain ⟨e, h⟩ := h
  subst e
  cases r
  exact assignInOrder_nil ⟨σ, H, I, h⟩
theorem pgs_cons {e : Expr} {es : List Expr} {t : TG} {u : TGs} (h1 : PG X e t) (h2 : PGs X es u)
    (hs : (assignEach (e :: es) X.env).map (·.2) = assign e X.env :: (assignEach es X.env).map (·.2) := by rfl) : PGs X (e :: es) (gCons t u) := by
  intro pins s σ H vs us Q I r h
  obtain ⟨v, vr, e1, h⟩ := h
  subst e1
  cases r with
  | cons r rr =>
    rw [hs]
    refine assignInOrder_cons (thn (h1 pins s σ H _ _ _ I r h) fun _ s1 => L2.ex4 fun σ1 H1 I1 q1 => ?_)
    exact h2 pins s1 σ1 H1 _ _ Q I1 rr q1
/-- (a, b, ..) = a tuple of that length -/
def gTup (K : PySem.W.Frag) (n : Nat) (t : TGs) : TG := fun v σ H Q => ∃ a xs, v = .ref a ∧ SqT K H a xs ∧ xs.length = n ∧ t xs σ H Q
theorem pg_tup {es : List Expr} {k : Nat} {t : TGs} {n : Nat} (hc : X.calm = true) (h : PGs X es t)
    (hn : (assignEach es X.env).length = n := by rfl) (hst : (assignEach es X.env).findIdx? (·.1) = none := by rfl) : PG X (.Tuple es k pos) (gTup X.K n t) := by
  intro pins s σ H v u Q I r hw
  obtain ⟨a, xs, e1, hq, hl, hw⟩ := hw
  subst e1
  cases r
  obtain ⟨its, rv, ht, hz⟩ := I.tuple hq
  refine assign_tupH I.hd ht (by simp [hn, ← hl, rv.length]) hst fun h' hx => ?_
  have I1 : Inv X pins σ H { s with heap := h' } := I.kept (t' := s.toks) fun b o e => hx b o (Nat.ne_of_lt (Heap.lt_size e)) e
  exact h pins _ σ H xs _ Q I1 (by simpa using rv) hw
/-- o[i] = .. -/
def gSub (to ti : TE) (t : TSet) : TG := fun v σ H Q => to σ H fun o H1 => ti σ H1 fun i H2 => t o i v H2 fun H3 => Q σ H3
/-- target = value -/
def tAsg (te : TE) (g : TG) : TS := fun D σ H => te σ H fun x H1 => g x σ H1 D.nx
theorem ps_asg {tg e : Expr} {te : TE} {g : TG} (he : PE X e te) (hg : PG X tg g) (hs : swapsWithSole [tg] e pos.line X.env = pure false := by rfl) (hw : swappedStores [tg] e X.env = pure none := by rfl)
    (h1 : (assignEach [tg] X.env).map (·.2) = [assign tg X.env] := by rfl) : PS X (.Assign [tg] e pos) (tAsg te g) := by
  intro pins s σ H D I h
  refine wpAny_Assign_stores (thn (he pins s σ H _ I h) fun v s1 => L2.ex5 fun x H1 I1 r1 q1 => ?_) hs hw
  rw [h1]
  exact thn (hg pins s1 σ H1 x v _ I1 r1 q1) fun _ s2 q => q
/-- name = value -/
theorem ps_set {i : Nat} {x : Str} {e : Expr} {te : TE} {pos' : Pos} (hN : X.N.Nodup) (hi : X.N[i]? = some x) (hx : Loc X.env.scope x) (he : PE X e te) (hs : swapsWith e (some (.Name x pos')) pos.line X.env = pure false := by rfl) (hf : X.fn x = true ∨ X.env.scope.names.lookup x = some .local := by first | exact .inl rfl | exact .inr rfl | assumption) :
    PS X (.Assign [.Name x pos'] e pos) (tAsg te (gName i)) := by
  intro pins s σ H D I h
  refine wpAny_Assign_Name (thn (he pins s σ H _ I h) fun v s1 => L2.ex5 fun y H1 I1 r1 q1 => ?_) hs
  exact store_ok I1 hN hi hx r1 (fun s2 I2 => ⟨_, H1, I2, q1⟩) hf
/-- a, b = x, y with plain local names: stored from the right; the pair itself is not tracked (the opening rows as in PyProof/Rows/TupAssign.lean:23) -/
def tPar (i j : Nat) (ta : TA) : TS := fun D σ H => ta σ H fun vs H1 => ∃ v w, vs = [v, w] ∧ D.nx ((σ.set i (some v)).set j (some w)) H1
/-- name op= e -/
def tAug (i : Nat) (te : TE) (ti : TIp) : TS := fun D σ H => ∃ x, σ[i]? = some (some x) ∧ te σ H fun y H1 => ti x y H1 fun z H2 => D.nx (σ.set i (some z)) H2
/-- o[i] op= e -/
def tAugS (to ti te : TE) (tget : V → V → Hp → VK → Prop) (tip : TIp) (tset : TSet) : TS := fun D σ H => to σ H fun o H1 => ti σ H1 fun i H2 => tget o i H2 fun x H3 => te σ H3 fun y H4 => tip x y H4 fun z H5 => tset o i z H5 fun H6 => D.nx σ H6
/-- o[i], by values -/
def PGet (X : Cx) (t : V → V → Hp → VK → Prop) : Prop :=
  ∀ (pins : List (Addr × Obj)) (s : Shared) (σ : St) (H : Hp) (o i : V) (ov iv : Value) (Q : VK), Inv X pins σ H s → RelV o ov → RelV i iv → t o i H Q →
    wpAny (model X.prog X.w) X.A (getItem ov iv) (EP X pins σ Q) X.xe s
/-- ints -/
def ipI (f : Int → Int → Int) : TIp := fun x y H Q => ∃ i j, x = .int i ∧ y = .int j ∧ Q (.int (f i j)) H
end

/-! ### while -/
section
variable {X : Cx} {pos : Pos}
/-- the invariant W with its measure -/
def tWhile (c : TT) (tb : TS) : TS := fun D σ H => ∃ W : Nat → St → Hp → Prop, (∃ m, W m σ H) ∧ ∀ m σ H, W m σ H →
  c σ H fun b H1 => if b = true then ∃ N : St → Hp → Prop, (∀ σ' H', N σ' H' → ∃ m', m' < m ∧ W m' σ' H') ∧ tb { D with nx := N, ct := N, bk := D.nx } σ H1 else D.nx σ H1
theorem ps_while {c : Expr} {body : List Stmt} {tc : TT} {tb : TS} (hp : PassesOwn (model X.prog X.w) X.A X.env X.xe) (hc : PT X c tc) (hb : PSs X body tb) : PS X (.While c body [] pos) (tWhile tc tb) := by
  intro pins s σ H D I h
  obtain ⟨W, ⟨m0, w0⟩, turn⟩ := h
  refine wpAny_While (codeAny_whileLoop (fun n s' => ∃ σ' H', Inv X pins σ' H' s' ∧ W n σ' H') ?_ m0 ⟨σ, H, I, w0⟩)
  rintro n s1 ⟨σ1, H1, I1, w1⟩
  refine wpAny_passesOwn hp (thn (hc pins s1 σ1 H1 _ I1 (turn n σ1 H1 w1)) fun b s2 => L2.ex3 fun H2 I2 q2 => ?_)
  cases b with
  | true =>
    obtain ⟨N, hN, q2⟩ := q2
    rw [if_pos rfl]
    refine wpAny_passesOwn hp (thn (hb pins s2 σ1 H2 _ I2 q2) fun f s3 q3 => ?_)
    cases f with
    | next =>
      obtain ⟨σ3, H3, I3, n3⟩ := q3
      obtain ⟨m', hm, w3⟩ := hN σ3 H3 n3
      exact ⟨m', hm, σ3, H3, I3, w3⟩
    | cont =>
      obtain ⟨σ3, H3, I3, n3⟩ := q3
      obtain ⟨m', hm, w3⟩ := hN σ3 H3 n3
      exact ⟨m', hm, σ3, H3, I3, w3⟩
    | brk => exact q3
    | ret v => exact q3
  | false =>
    rw [if_neg Bool.false_ne_true]
    exact wpAny_execs_nil ⟨σ1, H2, I2, q2⟩
end

/-! ### what a loop or a comprehension walks -/
/-- at turn i: it yields x (the heap may grow), or it stops -/
structure It where
  go : Nat → Hp → Prop
  yld : Nat → Hp → V → Hp → Prop
  stop : Nat → Hp → Prop
/-- the iterator's own objects may turn: they are not the frame's, not pinned, younger than the entry (or a comprehension's own) -/
def FpOk (X : Cx) (pins : List (Addr × Obj)) (H : Hp) (b : Addr) : Prop :=
  H b = none ∧ b ≠ X.env.locals ∧ b ∉ X.fs ∧ (b ∈ X.ex ∨ X.s₀.heap.objs.size ≤ b) ∧ (∀ x c, X.env.cells.lookup x = some c → c ≠ b) ∧ ∀ p ∈ X.pn ++ pins, p.1 ≠ b
theorem Inv.fpOk {X : Cx} {pins : List (Addr × Obj)} {σ : St} {H H' : Hp} {s : Shared} {b : Addr} (I : Inv X pins σ H s) (hb : s.heap.objs.size ≤ b) (hn : H' b = none) : FpOk X pins H' b := by
  refine ⟨hn, Nat.ne_of_gt (Nat.lt_of_lt_of_le I.lt hb), I.nofs hb, .inr (Nat.le_trans I.sz hb), fun x c e z => ?_, fun p hp z => ?_⟩
  · obtain ⟨v, q⟩ := I.cell x c e
    exact absurd (Nat.lt_of_lt_of_le q.lt (by rw [z]; exact hb)) (Nat.lt_irrefl _)
  · exact absurd (Nat.lt_of_lt_of_le (Heap.lt_size (I.pin p hp).1) (by rw [z]; exact hb)) (Nat.lt_irrefl _)
structure Turn (P : Program) (w : World) (K : PySem.W.Frag) (tg : Expr) (J : It) (fp : List Addr) (it : Addr) (tn : Nat → Heap → Prop) : Prop where
  mem : it ∈ fp
  obj : ∀ i h, tn i h → ∀ b ∈ fp, ∃ o, h.get? b = some o ∧ ∀ v, o.data ≠ .cell v
  keep : ∀ i h h', tn i h → (∀ b ∈ fp, ∀ o, h.get? b = some o → h'.get? b = some o) → tn i h'
  item : ∀ (X : Cx), X.prog = P → X.w = w → X.K = K → X.calm = true → ∀ (i : Nat) (pins : List (Addr × Obj)) (s : Shared) (σ : St) (H : Hp) (E : Value → Shared → Prop), Inv X pins σ H s → (∀ b ∈ fp, FpOk X pins H b) → tn i s.heap → J.go i H →
    wpAny (model P w) X.A (pyNext (.ref it)) (fun r s1 => ∃ u, r = some u ∧
      wpAny (model P w) X.A (letOwnedTupleGo tg (.ref it) u) (fun _ s2 => ∃ x H', Inv X pins σ H' s2 ∧ RelV x u ∧ J.yld i H x H' ∧ tn (i + 1) s2.heap ∧ ∀ b ∈ fp, H' b = none) E s1) E s
  done : ∀ (X : Cx), X.prog = P → X.w = w → X.K = K → X.calm = true → ∀ (i : Nat) (pins : List (Addr × Obj)) (s : Shared) (σ : St) (H : Hp) (E : Value → Shared → Prop), Inv X pins σ H s → (∀ b ∈ fp, FpOk X pins H b) → tn i s.heap → J.stop i H →
    wpAny (model P w) X.A (pyNext (.ref it)) (fun r s1 => r = none ∧ Inv X pins σ H s1) E s
  self : ∀ (A : Around) (i : Nat) (s : Shared) (Q : Value → Shared → Prop) (E : Value → Shared → Prop), tn i s.heap → Q (.ref it) s → wpAny (model P w) A (pyIter (.ref it)) Q E s
abbrev TI := St → Hp → (It → Hp → Prop) → Prop
/-- an iterator has come -/
def PIE (X : Cx) (pins : List (Addr × Obj)) (σ : St) (tg : Expr) (R : It → Hp → Prop) (itv : Value) (s2 : Shared) : Prop :=
  ∃ (it : Addr) (fp : List Addr) (tn : Nat → Heap → Prop) (J : It) (H' : Hp), itv = .ref it ∧ Inv X pins σ H' s2 ∧ Turn X.prog X.w X.K tg J fp it tn ∧ tn 0 s2.heap ∧ (∀ b ∈ fp, FpOk X pins H' b) ∧ R J H'
def PI (X : Cx) (tg iter : Expr) (wi : TI) : Prop :=
  ∀ (pins : List (Addr × Obj)) (s : Shared) (σ : St) (H : Hp) (R : It → Hp → Prop), Inv X pins σ H s → wi σ H R →
    wpAny (model X.prog X.w) X.A (eval iter X.env) (fun v s1 => wpAny (model X.prog X.w) X.A (pyIter v) (PIE X pins σ tg R) X.xe s1) X.xe s

/-- the step ahead of the store is nothing for an iterator that keeps no tuple -/
theorem go_of {M : Model} {A : Around} {E : Value → Shared → Prop} {s : Shared} {tg : Expr} {it : Addr} {u : Value} {o : Obj} {n : String} {vs : Array Value} {Q : Unit → Shared → Prop} (ho : s.heap.get? it = some o) (hc : o.cls = .type n) (hd : o.data = .fields vs)
    (hn : ["enumerate", "zip", "dict_itemiterator", "dict_reverseitemiterator", "odict_iterator", "itertools.zip_longest", "itertools.pairwise"].contains n = false) (hQ : Q () s) : wpAny M A (letOwnedTupleGo tg (.ref it) u) Q E s := by
  unfold letOwnedTupleGo
  cases tg <;> first
    | exact wpAny_pure hQ
    | (cases u <;> first
        | exact wpAny_pure hQ
        | (refine wpAny_bind (wpAny_load ho ?_)
           rw [hc, hd]
           show wpAny M A (if (["enumerate", "zip", "dict_itemiterator", "dict_reverseitemiterator", "odict_iterator", "itertools.zip_longest", "itertools.pairwise"].contains n && vs[0]? == some (rawInt _)) = true then _ else _) Q E s
           rw [if_neg (by intro h; rw [hn, Bool.false_and] at h; cases h)]
           exact wpAny_pure hQ))

/-- the list at a, as it stands at each turn (a loop may append to it) -/
def Itl (K : PySem.W.Frag) (a : Addr) : It :=
  ⟨fun i H => ∃ xs x, SqL K H a xs ∧ xs[i]? = some x, fun i H x H' => H' = H ∧ ∀ xs, SqL K H a xs → xs[i]? = some x, fun i H => ∃ xs, SqL K H a xs ∧ xs.length ≤ i⟩
def Itt (K : PySem.W.Frag) (a : Addr) : It :=
  ⟨fun i H => ∃ xs x, SqT K H a xs ∧ xs[i]? = some x, fun i H x H' => H' = H ∧ ∀ xs, SqT K H a xs → xs[i]? = some x, fun i H => ∃ xs, SqT K H a xs ∧ xs.length ≤ i⟩
/-- lo, lo + 1, .. (n of them) -/
def Itr (lo : Int) (n : Nat) : It := ⟨fun i _ => i < n, fun i H x H' => H' = H ∧ x = .int (lo + i), fun i _ => n ≤ i⟩
theorem turn_list {P : Program} {w : World} {K : PySem.W.Frag} {tg : Expr} (a it : Addr) : Turn P w K tg (Itl K a) [it] it (fun i h => h.IsListIter it a i) where
  mem := by simp
  obj := fun i h st b hb => by
    have e : b = it := by simpa using hb
    subst e
    obtain ⟨o, e, c, d⟩ := st
    exact ⟨o, e, fun v z => by rw [d] at z; cases z⟩
  keep := fun i h h' st k => st.at fun o e => k it (by simp) o e
  item := by
    intro X hP hw hK hc i pins s σ H E I hf st hg
    subst hP hw hK
    obtain ⟨xs, x, hq, hx⟩ := hg
    obtain ⟨its, rv, p, hz⟩ := I.list hq
    obtain ⟨u, hu, ru⟩ := rv.get hx
    obtain ⟨f0, f1, f2, f3, f4, f5⟩ := hf it (by simp)
    refine wpAny_pyNext_list_item st p.isList (x := u) (by simpa using hu) fun h' st' sb => ?_
    have I1 : Inv X pins σ H { s with heap := h' } := I.turned (t' := s.toks) (fun b o hb e => (sb.2 b hb).trans e) f0 f1 f3 f4 f5
    obtain ⟨o, e, c, d⟩ := id st'
    exact ⟨u, rfl, go_of (s := { s with heap := h' }) e c d (by decide) ⟨x, H, I1, ru, ⟨rfl, fun ys hy => by rw [I.list_inj hy hq]; exact hx⟩, st', fun b hb => (hf b hb).1⟩⟩
  done := by
    intro X hP hw hK hc i pins s σ H E I hf st hg
    subst hP hw hK
    obtain ⟨xs, hq, hx⟩ := hg
    obtain ⟨its, rv, p, hz⟩ := I.list hq
    obtain ⟨f0, f1, f2, f3, f4, f5⟩ := hf it (by simp)
    have hl := rv.length
    exact list_endH I.hd st p.isList (by simp; omega) fun h' eb => ⟨rfl, I.turned (t' := s.toks) (fun b o hb e => eb b o hb e) f0 f1 f3 f4 f5⟩
  self := fun _ _ _ _ _ st h => wpAny_pyIter_listiter st h
theorem turn_tuple {P : Program} {w : World} {K : PySem.W.Frag} {tg : Expr} (a it : Addr) : Turn P w K tg (Itt K a) [it] it (fun i h => h.IsTupleIter it a i) where
  mem := by simp
  obj := fun i h st b hb => by
    have e : b = it := by simpa using hb
    subst e
    obtain ⟨o, e, c, d⟩ := st
    exact ⟨o, e, fun v z => by rw [d] at z; cases z⟩
  keep := fun i h h' st k => st.at fun o e => k it (by simp) o e
  item := by
    intro X hP hw hK hc i pins s σ H E I hf st hg
    subst hP hw hK
    obtain ⟨xs, x, hq, hx⟩ := hg
    obtain ⟨its, rv, p, hz⟩ := I.tuple hq
    obtain ⟨u, hu, ru⟩ := rv.get hx
    obtain ⟨f0, f1, f2, f3, f4, f5⟩ := hf it (by simp)
    refine wpAny_pyNext_tuple_item st (show s.heap.IsTuple a its.toArray from p) (x := u) (by simpa using hu) fun h' st' sb => ?_
    have I1 : Inv X pins σ H { s with heap := h' } := I.turned (t' := s.toks) (fun b o hb e => (sb.2 b hb).trans e) f0 f1 f3 f4 f5
    obtain ⟨o, e, c, d⟩ := id st'
    exact ⟨u, rfl, go_of (s := { s with heap := h' }) e c d (by decide) ⟨x, H, I1, ru, ⟨rfl, fun ys hy => by rw [I.tuple_inj hy hq]; exact hx⟩, st', fun b hb => (hf b hb).1⟩⟩
  done := by
    intro X hP hw hK hc i pins s σ H E I hf st hg
    subst hP hw hK
    obtain ⟨xs, hq, hx⟩ := hg
    obtain ⟨its, rv, p, hz⟩ := I.tuple hq
    obtain ⟨f0, f1, f2, f3, f4, f5⟩ := hf it (by simp)
    have hl := rv.length
    exact tup_endH I.hd st (show s.heap.IsTuple a its.toArray from p) (by simp; omega) fun h' eb => ⟨rfl, I.turned (t' := s.toks) (fun b o hb e => eb b o hb e) f0 f1 f3 f4 f5⟩
  self := fun _ _ _ _ _ st h => wpAny_pyIter_tupleiter st h
theorem turn_range {P : Program} {w : World} {K : PySem.W.Frag} {tg : Expr} (it : Addr) (lo : Int) (n : Nat) : Turn P w K tg (Itr lo n) [it] it (fun i h => IsRangeIter h it (lo + (i : Nat) * 1) ((n : Int) - (i : Nat)) 1) where
  mem := by simp
  obj := fun i h st b hb => by
    have e : b = it := by simpa using hb
    subst e
    exact ⟨_, st, fun v z => by
      have z' : Data.fields _ = Data.cell v := z
      cases z'⟩
  keep := fun i h h' st k => k it (by simp) _ st
  item := by
    intro X hP hw hK hc i pins s σ H E I hf st hg
    subst hP hw hK
    obtain ⟨f0, f1, f2, f3, f4, f5⟩ := hf it (by simp)
    refine wpAny_pyNext_range_item st (by have : i < n := hg; omega) fun h' st0 sb => ?_
    have st' : IsRangeIter h' it (lo + ((i + 1 : Nat) : Int) * 1) ((n : Int) - ((i + 1 : Nat) : Int)) 1 := by
      rw [show lo + ((i + 1 : Nat) : Int) * 1 = lo + (i : Int) * 1 + 1 by omega, show (n : Int) - ((i + 1 : Nat) : Int) = (n : Int) - (i : Int) - 1 by omega]
      exact st0
    have I1 : Inv X pins σ H { s with heap := h', toks := s.toks + 1 } := I.turned (fun b o hb e => sb.extBut b o hb e) f0 f1 f3 f4 f5
    exact ⟨_, rfl, go_of (s := { s with heap := h', toks := s.toks + 1 }) (n := "range_iterator") st' rfl rfl (by decide) ⟨.int (lo + i), H, I1, ⟨_, by rw [Int.mul_one]⟩, ⟨rfl, rfl⟩, st', fun b hb => (hf b hb).1⟩⟩
  done := by
    intro X hP hw hK hc i pins s σ H E I hf st hg
    subst hP hw hK
    obtain ⟨f0, f1, f2, f3, f4, f5⟩ := hf it (by simp)
    exact range_endH I.hd st (by have : n ≤ i := hg; omega) fun h' eb => ⟨rfl, I.turned (t' := s.toks) (fun b o hb e => eb b o hb e) f0 f1 f3 f4 f5⟩
  self := fun _ _ _ _ _ st h => wpAny_pyIter_rangeiter st h
end L2

namespace L2
open PySem PySem.Spec PyProof.Rows
section
variable {X : Cx} {tg : Expr}
def iList (K : PySem.W.Frag) (tl : TE) : TI := fun σ H R => tl σ H fun x H1 => ∃ a, x = .ref a ∧ (∃ xs, SqL K H1 a xs) ∧ R (Itl K a) H1
def iTup (K : PySem.W.Frag) (tl : TE) : TI := fun σ H R => tl σ H fun x H1 => ∃ a, x = .ref a ∧ (∃ xs, SqT K H1 a xs) ∧ R (Itt K a) H1
theorem pi_list {l : Expr} {tl : TE} (hl : PE X l tl) : PI X tg l (iList X.K tl) := by
  intro pins s σ H R I h
  refine thn (hl pins s σ H _ I h) fun v s1 => L2.ex5 fun x H1 I1 r1 q1 => ?_
  obtain ⟨a, e, ⟨xs, hq⟩, q⟩ := q1
  subst e
  cases r1
  obtain ⟨its, rv, p, hz⟩ := I1.list hq
  refine wpAny_pyIter_list p.isList ?_
  refine ⟨s1.heap.objs.size, [s1.heap.objs.size], _, _, H1, rfl, I1.kept (t' := s1.toks) fun b o e => Heap.get?_push_of_some _ e, turn_list a _, ⟨_, Heap.get?_push_size _ rfl, rfl, rfl⟩, fun b hb => ?_, q⟩
  have e : b = s1.heap.objs.size := by simpa using hb
  subst e
  exact I1.fpOk (Nat.le_refl _) (I1.hok.fresh (Nat.le_refl _))
theorem pi_tup {l : Expr} {tl : TE} (hl : PE X l tl) : PI X tg l (iTup X.K tl) := by
  intro pins s σ H R I h
  refine thn (hl pins s σ H _ I h) fun v s1 => L2.ex5 fun x H1 I1 r1 q1 => ?_
  obtain ⟨a, e, ⟨xs, hq⟩, q⟩ := q1
  subst e
  cases r1
  obtain ⟨its, rv, p, hz⟩ := I1.tuple hq
  refine wpAny_pyIter_tuple (show s1.heap.IsTuple a its.toArray from p) ?_
  refine ⟨s1.heap.objs.size, [s1.heap.objs.size], _, _, H1, rfl, I1.kept (t' := s1.toks) fun b o e => Heap.get?_push_of_some _ e, turn_tuple a _, ⟨_, Heap.get?_push_size _ rfl, rfl, rfl⟩, fun b hb => ?_, q⟩
  have e : b = s1.heap.objs.size := by simpa using hb
  subst e
  exact I1.fpOk (Nat.le_refl _) (I1.hok.fresh (Nat.le_refl _))
/-- a range object just made, walked -/
theorem range_it {pins : List (Addr × Obj)} {σ : St} {H : Hp} {s : Shared} {R : It → Hp → Prop} {E : Value → Shared → Prop} {lo hi : Int} {t u v : Tok} {tk : Nat} (I : Inv X pins σ H s) (h1 : -(2 ^ 62) ≤ lo) (h2 : lo < 2 ^ 62) (h3 : -(2 ^ 62) ≤ hi) (h4 : hi < 2 ^ 62)
    (q : R (Itr lo (hi - lo).toNat) H) : wpAny (model X.prog X.w) X.A (pyIter (.ref s.heap.objs.size)) (PIE X pins σ tg R) E { s with heap := s.heap.push { cls := .type "range", data := .fields #[.int lo t, .int hi u, .int 1 v] }, toks := tk } := by
  refine wpAny_pyIter_range (IsRange.new ..) (small_one h1 h2 h3 h4) ?_
  have I1 : Inv X pins σ H { s with heap := s.heap.push { cls := .type "range", data := .fields #[.int lo t, .int hi u, .int 1 v] }, toks := tk } := I.kept fun b o e => Heap.get?_push_of_some _ e
  refine ⟨(s.heap.push { cls := .type "range", data := .fields #[.int lo t, .int hi u, .int 1 v] }).objs.size, [(s.heap.push { cls := .type "range", data := .fields #[.int lo t, .int hi u, .int 1 v] }).objs.size], _, _, H, rfl,
    I1.kept (t' := tk) fun b o e => Heap.get?_push_of_some _ e, turn_range _ lo (hi - lo).toNat, ?_, fun b hb => ?_, q⟩
  · have e1 : lo + ((0 : Nat) : Int) * 1 = lo := by simp
    have e2 : (((hi - lo).toNat : Nat) : Int) - ((0 : Nat) : Int) = Builtin.Range.rangeSize lo hi 1 := by rw [rangeSize_one]; split <;> omega
    show IsRangeIter _ _ (lo + ((0 : Nat) : Int) * 1) ((((hi - lo).toNat : Nat) : Int) - ((0 : Nat) : Int)) 1
    rw [e1, e2]
    exact Heap.get?_push_size _ rfl
  · have e : b = (s.heap.push { cls := .type "range", data := .fields #[.int lo t, .int hi u, .int 1 v] }).objs.size := by simpa using hb
    subst e
    exact I1.fpOk (Nat.le_refl _) (I1.hok.fresh (Nat.le_refl _))
def iRng1 (ta : TA) : TI := fun σ H R => ta σ H fun vs H1 => ∃ j : Int, vs = [.int j] ∧ -(2 ^ 62) ≤ j ∧ j < 2 ^ 62 ∧ R (Itr 0 j.toNat) H1
def iRng2 (ta : TA) : TI := fun σ H R => ta σ H fun vs H1 => ∃ i j : Int, vs = [.int i, .int j] ∧ (-(2 ^ 62) ≤ i ∧ i < 2 ^ 62 ∧ -(2 ^ 62) ≤ j ∧ j < 2 ^ 62) ∧ R (Itr i (j - i).toNat) H1
theorem pi_range1 {a : Expr} {ta : TA} {p pos : Pos} (hg : Gl X "range") (hm : X.mg "range" = none) (ha : PA X [a] ta) (hs : starEach [a] X.env = [(false, eval a X.env)] := by rfl) : PI X tg (.Call (.Name "range" p) [a] [] pos) (iRng1 ta) := by
  intro pins s σ H R I h
  refine Call_ (ld_blt I hg hm boot_range (PyProof.Rows.callWith_type1 (thn (ha pos pins s σ H _ I h) fun us s1 => L2.ex5 fun vs H1 I1 r1 q1 => ?_) hs rfl))
  obtain ⟨j, e, q1, q2, q⟩ := q1
  subst e
  cases r1 with
  | cons r rr =>
    cases rr
    obtain ⟨t, rfl⟩ := r
    exact call_range_1 (range_it I1 (by omega) (by omega) q1 q2 (by simpa using q))
/-! ### for -/
/-- W: the invariant by the turn and a measure; N: what the body is to reach -/
def tFor (wi : TI) (g : TG) (tb : TS) : TS := fun D σ H => wi σ H fun J H1 => ∃ W : Nat → Nat → St → Hp → Prop, (∃ m, W 0 m σ H1) ∧ ∀ i m σ H, W i m σ H →
  (J.stop i H ∧ D.nx σ H) ∨ (J.go i H ∧ ∃ N : St → Hp → Prop, (∀ σ' H', N σ' H' → ∃ m', m' < m ∧ W (i + 1) m' σ' H') ∧ ∀ x H', J.yld i H x H' → g x σ H' fun σ2 H2 => tb { D with nx := N, ct := N, bk := D.nx } σ2 H2)
/-- the records at fp as they stand -/
def pinsAt (fp : List Addr) (h : Heap) : List (Addr × Obj) := fp.filterMap fun b => (h.get? b).map fun o => (b, o)
theorem mem_pinsAt {fp : List Addr} {h : Heap} {b : Addr} {o : Obj} (hb : b ∈ fp) (e : h.get? b = some o) : (b, o) ∈ pinsAt fp h := List.mem_filterMap.mpr ⟨b, hb, by rw [e]; rfl⟩
theorem of_pinsAt {fp : List Addr} {h : Heap} {p : Addr × Obj} (hp : p ∈ pinsAt fp h) : p.1 ∈ fp ∧ h.get? p.1 = some p.2 := by
  obtain ⟨b, hb, e⟩ := List.mem_filterMap.mp hp
  cases q : h.get? b with
  | none => rw [q] at e; cases e
  | some o =>
    rw [q] at e
    have e' : (b, o) = p := Option.some.inj e
    subst e'
    exact ⟨hb, q⟩
theorem Inv.pinned {pins : List (Addr × Obj)} {σ : St} {H : Hp} {s : Shared} {fp : List Addr} (I : Inv X pins σ H s) (hf : ∀ b ∈ fp, FpOk X pins H b) (ho : ∀ b ∈ fp, ∃ o, s.heap.get? b = some o ∧ ∀ v, o.data ≠ .cell v) : Inv X (pins ++ pinsAt fp s.heap) σ H s :=
  I.pins_of fun p hp => (List.mem_append.mp hp).elim (fun z => I.pin p (List.mem_append_right _ z)) fun z => by
    obtain ⟨hb, e⟩ := of_pinsAt z
    obtain ⟨f0, f1, f2, _⟩ := hf p.1 hb
    obtain ⟨o, e', d⟩ := ho p.1 hb
    rw [e] at e'; cases e'
    exact ⟨e, f0, f1, f2, d⟩
theorem Inv.unpinned {pins pl : List (Addr × Obj)} {σ : St} {H : Hp} {s : Shared} (I : Inv X (pins ++ pl) σ H s) : Inv X pins σ H s := I.pins_of fun p hp => I.pin p (List.mem_append_right _ (List.mem_append_left _ hp))
theorem ps_for {iter : Expr} {body : List Stmt} {wi : TI} {g : TG} {tb : TS} {pos : Pos} (hp : PassesOwn (model X.prog X.w) X.A X.env X.xe) (hc : X.calm = true) (hi : PI X tg iter wi) (hg : PG X tg g) (hb : PSs X body tb)
    (hs : ∀ x, foldedSetIterable iter X.env x = pure x := by intro _; rfl) : PS X (.For tg iter body [] pos) (tFor wi g tb) := by
  intro pins s σ H D I h
  refine wpAny_For (thn (hi pins s σ H _ I h) fun v s1 h1 => thn h1 fun itv s2 h2 => ?_) hs
  obtain ⟨it, fp, tn, J, H2, e, I2, T, st2, f2, W, ⟨m0, w0⟩, turn⟩ := h2
  subst e
  -- what stays true of the iterator's objects through the loop
  have stat : ∀ {H' : Hp}, (∀ b ∈ fp, H' b = none) → ∀ b ∈ fp, FpOk X pins H' b := fun hn b hb => ⟨hn b hb, (f2 b hb).2⟩
  refine codeAny_forLoop_any (fun n s' => ∃ i σ' H', Inv X pins σ' H' s' ∧ tn i s'.heap ∧ (∀ b ∈ fp, H' b = none) ∧ W i n σ' H') ?_ m0 ⟨0, σ, H2, I2, st2, fun b hb => (f2 b hb).1, w0⟩
  rintro n s3 ⟨i, σ3, H3, I3, st3, fr3, w3⟩
  rcases turn i n σ3 H3 w3 with ⟨stop, qn⟩ | ⟨go, N, hN, step⟩
  · refine wpAny_passesOwn hp (thn (T.done X rfl rfl rfl hc i pins s3 σ3 H3 X.xe I3 (stat fr3) st3 stop) fun r s4 ⟨hr, I4⟩ => ?_)
    subst hr
    exact wpAny_execs_nil ⟨σ3, H3, I4, qn⟩
  · refine wpAny_passesOwn hp (thn (T.item X rfl rfl rfl hc i pins s3 σ3 H3 X.xe I3 (stat fr3) st3 go) fun r s4 ⟨u, hr, h4⟩ => ?_)
    subst hr
    refine wpAny_passesOwn hp (thn h4 fun _ s5 => L2.ex5 fun x H5 I5 r5 hq_ => ?_)
    obtain ⟨y5, st5, fr5⟩ := hq_
    have I5' := I5.pinned (stat fr5) (T.obj _ _ st5)
    refine wpAny_passesOwn hp (thn (hg _ s5 σ3 H5 x u _ I5' r5 (step x H5 y5)) fun _ s6 => L2.ex4 fun σ6 H6 I6 q6 => ?_)
    refine wpAny_passesOwn hp (thn (hb _ s6 σ6 H6 _ I6 q6) fun f s7 q7 => ?_)
    have again : ∀ {σ7 : St} {H7 : Hp}, Inv X (pins ++ pinsAt fp s5.heap) σ7 H7 s7 → N σ7 H7 → ∃ m, m < n ∧ ∃ i σ' H', Inv X pins σ' H' s7 ∧ tn i s7.heap ∧ (∀ b ∈ fp, H' b = none) ∧ W i m σ' H' := fun {σ7 H7} I7 n7 => by
      obtain ⟨m', hm, w7⟩ := hN σ7 H7 n7
      refine ⟨m', hm, i + 1, σ7, H7, I7.unpinned, T.keep _ _ _ st5 fun b hb o e => (I7.pin (b, o) (List.mem_append_right _ (List.mem_append_right _ (mem_pinsAt hb e)))).1, fun b hb => ?_, w7⟩
      obtain ⟨o, e, d⟩ := T.obj _ _ st5 b hb
      exact (I7.pin (b, o) (List.mem_append_right _ (List.mem_append_right _ (mem_pinsAt hb e)))).2.1
    cases f with
    | next => obtain ⟨σ7, H7, I7, n7⟩ := q7; exact again I7 n7
    | cont => obtain ⟨σ7, H7, I7, n7⟩ := q7; exact again I7 n7
    | brk => obtain ⟨σ7, H7, I7, q7⟩ := q7; exact ⟨σ7, H7, I7.unpinned, q7⟩
    | ret v => obtain ⟨x7, σ7, H7, I7, r7, q7⟩ := q7; exact ⟨x7, σ7, H7, I7.unpinned, r7, q7⟩
end

/-! ### the forms one uses -/
/-- over a list that the body leaves as it is -/
theorem for_list {K : PySem.W.Frag} {a : Addr} {xs : List V} {g : TG} {tb : TS} {D : Ends} {σ : St} {H : Hp} (Pv : Nat → St → Hp → Prop) (h0 : Pv 0 σ H) (hl : ∀ i σ H, i ≤ xs.length → Pv i σ H → SqL K H a xs)
    (hs : ∀ i x σ H, xs[i]? = some x → Pv i σ H → g x σ H fun σ2 H2 => tb { D with nx := Pv (i + 1), ct := Pv (i + 1), bk := D.nx } σ2 H2) (hd : ∀ σ H, Pv xs.length σ H → D.nx σ H) :
    ∃ W : Nat → Nat → St → Hp → Prop, (∃ m, W 0 m σ H) ∧ ∀ i m σ H, W i m σ H →
      ((Itl K a).stop i H ∧ D.nx σ H) ∨ ((Itl K a).go i H ∧ ∃ N : St → Hp → Prop, (∀ σ' H', N σ' H' → ∃ m', m' < m ∧ W (i + 1) m' σ' H') ∧ ∀ x H', (Itl K a).yld i H x H' → g x σ H' fun σ2 H2 => tb { D with nx := N, ct := N, bk := D.nx } σ2 H2) := by
  refine ⟨fun i m σ H => m = xs.length - i ∧ i ≤ xs.length ∧ Pv i σ H, ⟨xs.length, by simp, Nat.zero_le _, h0⟩, ?_⟩
  rintro i m σ H ⟨rfl, hi, p⟩
  have q := hl i σ H hi p
  by_cases hlt : i < xs.length
  · refine .inr ⟨⟨xs, xs[i], q, by simp [hlt]⟩, Pv (i + 1), fun σ' H' p' => ⟨xs.length - (i + 1), by omega, rfl, hlt, p'⟩, fun x H' y => ?_⟩
    obtain ⟨e, y⟩ := y
    subst e
    exact hs i x σ _ (y xs q) p
  · have e : i = xs.length := by omega
    subst e
    exact .inl ⟨⟨xs, q, Nat.le_refl _⟩, hd σ H p⟩
theorem for_tup {K : PySem.W.Frag} {a : Addr} {xs : List V} {g : TG} {tb : TS} {D : Ends} {σ : St} {H : Hp} (Pv : Nat → St → Hp → Prop) (h0 : Pv 0 σ H) (hl : ∀ i σ H, i ≤ xs.length → Pv i σ H → SqT K H a xs)
    (hs : ∀ i x σ H, xs[i]? = some x → Pv i σ H → g x σ H fun σ2 H2 => tb { D with nx := Pv (i + 1), ct := Pv (i + 1), bk := D.nx } σ2 H2) (hd : ∀ σ H, Pv xs.length σ H → D.nx σ H) :
    ∃ W : Nat → Nat → St → Hp → Prop, (∃ m, W 0 m σ H) ∧ ∀ i m σ H, W i m σ H →
      ((Itt K a).stop i H ∧ D.nx σ H) ∨ ((Itt K a).go i H ∧ ∃ N : St → Hp → Prop, (∀ σ' H', N σ' H' → ∃ m', m' < m ∧ W (i + 1) m' σ' H') ∧ ∀ x H', (Itt K a).yld i H x H' → g x σ H' fun σ2 H2 => tb { D with nx := N, ct := N, bk := D.nx } σ2 H2) := by
  refine ⟨fun i m σ H => m = xs.length - i ∧ i ≤ xs.length ∧ Pv i σ H, ⟨xs.length, by simp, Nat.zero_le _, h0⟩, ?_⟩
  rintro i m σ H ⟨rfl, hi, p⟩
  have q := hl i σ H hi p
  by_cases hlt : i < xs.length
  · refine .inr ⟨⟨xs, xs[i], q, by simp [hlt]⟩, Pv (i + 1), fun σ' H' p' => ⟨xs.length - (i + 1), by omega, rfl, hlt, p'⟩, fun x H' y => ?_⟩
    obtain ⟨e, y⟩ := y
    subst e
    exact hs i x σ _ (y xs q) p
  · have e : i = xs.length := by omega
    subst e
    exact .inl ⟨⟨xs, q, Nat.le_refl _⟩, hd σ H p⟩
theorem for_range {lo : Int} {n : Nat} {g : TG} {tb : TS} {D : Ends} {σ : St} {H : Hp} (Pv : Nat → St → Hp → Prop) (h0 : Pv 0 σ H)
    (hs : ∀ i σ H, i < n → Pv i σ H → g (.int (lo + i)) σ H fun σ2 H2 => tb { D with nx := Pv (i + 1), ct := Pv (i + 1), bk := D.nx } σ2 H2) (hd : ∀ σ H, Pv n σ H → D.nx σ H) :
    ∃ W : Nat → Nat → St → Hp → Prop, (∃ m, W 0 m σ H) ∧ ∀ i m σ H, W i m σ H →
      ((Itr lo n).stop i H ∧ D.nx σ H) ∨ ((Itr lo n).go i H ∧ ∃ N : St → Hp → Prop, (∀ σ' H', N σ' H' → ∃ m', m' < m ∧ W (i + 1) m' σ' H') ∧ ∀ x H', (Itr lo n).yld i H x H' → g x σ H' fun σ2 H2 => tb { D with nx := N, ct := N, bk := D.nx } σ2 H2) := by
  refine ⟨fun i m σ H => m = n - i ∧ i ≤ n ∧ Pv i σ H, ⟨n, by simp, Nat.zero_le _, h0⟩, ?_⟩
  rintro i m σ H ⟨rfl, hi, p⟩
  by_cases hlt : i < n
  · refine .inr ⟨hlt, Pv (i + 1), fun σ' H' p' => ⟨n - (i + 1), by omega, rfl, hlt, p'⟩, fun x H' y => ?_⟩
    obtain ⟨e, y⟩ := y
    subst e y
    exact hs i σ _ hlt p
  · have e : i = n := by omega
    subst e
    exact .inl ⟨Nat.le_refl _, hd σ H p⟩
end L2

namespace L2
open PySem PySem.Spec PyProof.Rows

abbrev R2 := V → V → Hp → VK → Prop
/-- a two-place operation on values: f is binaryOp op, inplaceOp op or compareOp op -/
def OpR (X : Cx) (f : Value → Value → Sem Value) (r : R2) : Prop :=
  ∀ (pins : List (Addr × Obj)) (s : Shared) (σ : St) (H : Hp) (x y : V) (v u : Value) (Q : VK), Inv X pins σ H s → RelV x v → RelV y u → r x y H Q →
    wpAny (model X.prog X.w) X.A (f v u) (EP X pins σ Q) X.xe s
/-- a one-place operation -/
def UnR (X : Cx) (f : Value → Sem Value) (r : V → Hp → VK → Prop) : Prop :=
  ∀ (pins : List (Addr × Obj)) (s : Shared) (σ : St) (H : Hp) (x : V) (v : Value) (Q : VK), Inv X pins σ H s → RelV x v → r x H Q →
    wpAny (model X.prog X.w) X.A (f v) (EP X pins σ Q) X.xe s
/-- a call of a value that is known (a builtin, a type) with values -/
def CallR (X : Cx) (f : Value) (r : List V → Hp → VK → Prop) : Prop :=
  ∀ (pins : List (Addr × Obj)) (s : Shared) (σ : St) (H : Hp) (xs : List V) (us : List Value) (Q : VK), Inv X pins σ H s → Vals xs us → r xs H Q →
    wpAny (model X.prog X.w) X.A (call f us) (EP X pins σ Q) X.xe s
/-- a value's truth -/
def TruR (X : Cx) (r : V → Hp → (Bool → Hp → Prop) → Prop) : Prop :=
  ∀ (pins : List (Addr × Obj)) (s : Shared) (σ : St) (H : Hp) (x : V) (v : Value) (Q : Bool → Hp → Prop), Inv X pins σ H s → RelV x v → r x H Q →
    wpAny (model X.prog X.w) X.A (truthy v) (TP X pins σ Q) X.xe s

def tOp (r : R2) (ta tb : TE) : TE := fun σ H Q => ta σ H fun x H1 => tb σ H1 fun y H2 => r x y H2 Q
def tUn (r : V → Hp → VK → Prop) (ta : TE) : TE := fun σ H Q => ta σ H fun x H1 => r x H1 Q
/-- ints in, under C, and a value out -/
def rI (C : Int → Int → Prop) (g : Int → Int → V) : R2 := fun x y H Q => ∃ i j, x = .int i ∧ y = .int j ∧ C i j ∧ Q (g i j) H
def rI0 (g : Int → Int → V) : R2 := fun x y H Q => ∃ i j, x = .int i ∧ y = .int j ∧ Q (g i j) H
def rU (g : Int → V) : V → Hp → VK → Prop := fun x H Q => ∃ i, x = .int i ∧ Q (g i) H

section
variable {X : Cx} {a b c : Expr} {ta tb tc : TE} {pos : Pos}

theorem binT (ha : PE X a ta) (hb : PE X b tb) {pins : List (Addr × Obj)} {s : Shared} {σ : St} {H : Hp} {R : V → V → Hp → Prop} (I : Inv X pins σ H s)
    (h : ta σ H fun x H1 => tb σ H1 fun y H2 => R x y H2) {Q : Value → Shared → Prop} {f : Value → Value → Sem Value}
    (hf : ∀ v u s2 x y H2, Inv X pins σ H2 s2 → RelV x v → RelV y u → R x y H2 → wpAny (model X.prog X.w) X.A (f v u) Q X.xe s2) :
    wpAny (model X.prog X.w) X.A (eval a X.env) (fun v s₁ => wpAny (model X.prog X.w) X.A (eval b X.env) (fun u s₂ => wpAny (model X.prog X.w) X.A (f v u) Q X.xe s₂) X.xe s₁) X.xe s := by
  refine thn (ha pins s σ H _ I h) fun v s1 => L2.ex5 fun x H1 I1 r1 q1 => ?_
  refine thn (hb pins s1 σ H1 _ I1 q1) fun u s2 => L2.ex5 fun y H2 I2 r2 q2 => ?_
  exact hf v u s2 x y H2 I2 r1 r2 q2

theorem pe_op {op : Operator} {r : R2} (ho : OpR X (binaryOp op) r) (ha : PE X a ta) (hb : PE X b tb) : PE X (.BinOp a op b pos) (tOp r ta tb) := by
  intro pins s σ H Q I h
  exact wpAny_BinOp (binT ha hb I h fun v u s2 x y H2 I2 rx ry q => ho pins s2 σ H2 x y v u Q I2 rx ry q)
/-! ### ints -/
theorem opI {f : Value → Value → Sem Value} {C : Int → Int → Prop} {g : Int → Int → Int}
    (rule : ∀ (i j : Int) (t u : Tok) (s : Shared) (Q : Value → Shared → Prop) (E : Value → Shared → Prop), C i j → Q (.int (g i j) s.toks) { s with toks := s.toks + 1 } → wpAny (model X.prog X.w) X.A (f (.int i t) (.int j u)) Q E s) :
    OpR X f (rI C fun i j => .int (g i j)) := by
  intro pins s σ H x y v u Q I rx ry h
  obtain ⟨i, j, rfl, rfl, hc, q⟩ := h
  obtain ⟨t, rfl⟩ := rx
  obtain ⟨t', rfl⟩ := ry
  exact rule i j t t' s _ _ hc ⟨.int (g i j), H, I.tok _, ⟨_, rfl⟩, q⟩
theorem opI0 {f : Value → Value → Sem Value} {g : Int → Int → Int}
    (rule : ∀ (i j : Int) (t u : Tok) (s : Shared) (Q : Value → Shared → Prop) (E : Value → Shared → Prop), Q (.int (g i j) s.toks) { s with toks := s.toks + 1 } → wpAny (model X.prog X.w) X.A (f (.int i t) (.int j u)) Q E s) :
    OpR X f (rI0 fun i j => .int (g i j)) := by
  intro pins s σ H x y v u Q I rx ry h
  obtain ⟨i, j, rfl, rfl, q⟩ := h
  obtain ⟨t, rfl⟩ := rx
  obtain ⟨t', rfl⟩ := ry
  exact rule i j t t' s _ _ ⟨.int (g i j), H, I.tok _, ⟨_, rfl⟩, q⟩
theorem opB0 {f : Value → Value → Sem Value} {g : Int → Int → Bool}
    (rule : ∀ (i j : Int) (t u : Tok) (s : Shared) (Q : Value → Shared → Prop) (E : Value → Shared → Prop), Q (.bool (g i j)) s → wpAny (model X.prog X.w) X.A (f (.int i t) (.int j u)) Q E s) :
    OpR X f (rI0 fun i j => .bl (g i j)) := by
  intro pins s σ H x y v u Q I rx ry h
  obtain ⟨i, j, rfl, rfl, q⟩ := h
  obtain ⟨t, rfl⟩ := rx
  obtain ⟨t', rfl⟩ := ry
  exact rule i j t t' s _ _ ⟨.bl (g i j), H, I, rfl, q⟩

def CDiv (i j : Int) : Prop := 0 < j ∧ j < 1073741824
def CDivN (i j : Int) : Prop := j ≠ 0 ∧ j.natAbs < 1073741824
def CPow (i j : Int) : Prop := 0 ≤ j ∧ j ≤ 1000000 ∧ i.natAbs < 2 ^ 64
def CMul (i j : Int) : Prop := (-(2 ^ 64) < i ∧ i < 2 ^ 64) ∨ (-(2 ^ 64) < j ∧ j < 2 ^ 64)
theorem CMul.ok {i j : Int} (h : CMul i j) : IntMulOk i j := by
  rcases h with ⟨h1, h2⟩ | ⟨h1, h2⟩
  · exact .of_left (intBits_le_64 h1 h2)
  · exact .of_right (intBits_le_64 h1 h2)
theorem op_add : OpR X (binaryOp .Add) (rI0 fun i j => .int (i + j)) := opI0 fun _ _ _ _ _ _ _ q => add_int q
theorem op_sub : OpR X (binaryOp .Sub) (rI0 fun i j => .int (i - j)) := opI0 fun _ _ _ _ _ _ _ q => sub_int q
theorem op_mul : OpR X (binaryOp .Mult) (rI CMul fun i j => .int (i * j)) := opI fun _ _ _ _ _ _ _ hc q => mul_int q hc.ok
/-- // by a positive divisor -/
theorem op_fdiv : OpR X (binaryOp .FloorDiv) (rI CDiv fun i j => .int (i / j)) := opI fun i j _ _ _ _ _ hc q => by
  have h1 : (0 : Int) < j := hc.1
  have h2 : j < 1073741824 := hc.2
  exact floordiv_int (by omega) (by rw [Int.fdiv_eq_ediv_of_nonneg i (by omega)]; exact q) (.inl (PyProof.noPylong_small (by omega)))
/-- % by a positive divisor of any size -/
theorem op_mod : OpR X (binaryOp .Mod) (rI (fun _ j => 0 < j) fun i j => .int (i % j)) := opI fun i j _ _ _ _ _ hc q => by
  have h1 : (0 : Int) < j := hc
  exact mod_int' (by omega) (by rw [Int.fmod_eq_emod_of_nonneg i (by omega)]; exact q)
theorem op_pow : OpR X (binaryOp .Pow) (rI CPow fun i j => .int (i ^ j.toNat)) := opI fun _ _ _ _ _ _ _ hc q => pow_int_small hc.1 hc.2.1 hc.2.2 q
/-! ### bools among ints: n += (a < b) -/
end

/-! ### comparisons -/
/-- the scalars that == tells apart as data does -/
def scal : V → V → Bool
  | .non, .non => true | .non, .int _ => true | .int _, .non => true | .non, .bl _ => true | .bl _, .non => true | .non, .str _ => true | .str _, .non => true
  | .int _, .int _ => true | .bl _, .bl _ => true | .str _, .str _ => true | .byt _, .byt _ => true
  | .int _, .str _ => true | .str _, .int _ => true | .bl _, .str _ => true | .str _, .bl _ => true
  | _, _ => false
def rEq : R2 := fun x y H Q => scal x y = true ∧ Q (.bl (decide (x = y))) H
def rNe : R2 := fun x y H Q => scal x y = true ∧ Q (.bl (!decide (x = y))) H

theorem dec_int {i j : Int} : decide (V.int i = V.int j) = (i == j) := by
  rw [Bool.eq_iff_iff]
  simp
theorem dec_bl {i j : Bool} : decide (V.bl i = V.bl j) = (i == j) := by
  rw [Bool.eq_iff_iff]
  simp
theorem dec_str {i j : Str} : decide (V.str i = V.str j) = (i == j) := by
  rw [Bool.eq_iff_iff]
  simp
theorem dec_byt {i j : Array UInt8} : decide (V.byt i = V.byt j) = (i.toList == j.toList) := by
  rw [Bool.eq_iff_iff]
  cases i
  cases j
  simp

section
variable {X : Cx} {a b c : Expr} {ta tb tc : TE} {pos : Pos}
theorem fin_bl {pins : List (Addr × Obj)} {σ : St} {H : Hp} {s : Shared} {Q : VK} {k k' : Bool} (I : Inv X pins σ H s) (q : Q (.bl k) H) (e : k = k') : EP X pins σ Q (.bool k') s := by
  subst e
  exact ⟨.bl k, H, I, rfl, q⟩
theorem op_eq : OpR X (compareOp .Eq) rEq := by
  intro pins s σ H x y v u Q I rx ry h
  obtain ⟨hs, q⟩ := h
  cases x with
  | non =>
    cases rx
    cases y with
    | non => cases ry; exact PySem.EqNone.eq_none_none (fin_bl I q (by simp))
    | bl j => cases ry; exact PySem.EqNone.eq_none_bool (fin_bl I q (by simp))
    | int j => obtain ⟨t', rfl⟩ := ry; exact PySem.EqNone.eq_none_int (fin_bl I q (by simp))
    | str j => obtain ⟨t', rfl⟩ := ry; exact PySem.EqNone.eq_none_str (fin_bl I q (by simp))
    | _ => exact absurd (show false = true from hs) Bool.false_ne_true
  | bl i =>
    cases rx
    cases y with
    | non => cases ry; exact PySem.EqNone.eq_bool_none (fin_bl I q (by simp))
    | bl j => cases ry; exact eq_bool (fin_bl I q dec_bl)
    | str j => obtain ⟨t', rfl⟩ := ry; exact PySem.EqMixed.eq_bool_str (fin_bl I q (by simp))
    | _ => exact absurd (show false = true from hs) Bool.false_ne_true
  | int i =>
    obtain ⟨t, rfl⟩ := rx
    cases y with
    | non => cases ry; exact PySem.EqNone.eq_int_none (fin_bl I q (by simp))
    | int j => obtain ⟨t', rfl⟩ := ry; exact eq_int (fin_bl I q dec_int)
    | str j => obtain ⟨t', rfl⟩ := ry; exact PySem.EqMixed.eq_int_str (fin_bl I q (by simp))
    | _ => exact absurd (show false = true from hs) Bool.false_ne_true
  | str i =>
    obtain ⟨t, rfl⟩ := rx
    cases y with
    | non => cases ry; exact PySem.EqNone.eq_str_none (fin_bl I q (by simp))
    | bl j => cases ry; exact PySem.EqMixed.eq_str_bool (fin_bl I q (by simp))
    | int j => obtain ⟨t', rfl⟩ := ry; exact PySem.EqMixed.eq_str_int (fin_bl I q (by simp))
    | str j => obtain ⟨t', rfl⟩ := ry; exact eq_str (fin_bl I q dec_str)
    | _ => exact absurd (show false = true from hs) Bool.false_ne_true
  | byt i =>
    obtain ⟨t, rfl⟩ := rx
    cases y with
    | byt j => obtain ⟨t', rfl⟩ := ry; exact PySem.W.eq_bytes (fin_bl I q dec_byt)
    | _ => exact absurd (show false = true from hs) Bool.false_ne_true
  | _ => cases y <;> exact absurd (show false = true from hs) Bool.false_ne_true
theorem op_lt : OpR X (compareOp .Lt) (rI0 fun i j => .bl (decide (i < j))) := opB0 fun _ _ _ _ _ _ _ q => lt_int q
theorem op_gt : OpR X (compareOp .Gt) (rI0 fun i j => .bl (decide (j < i))) := opB0 fun _ _ _ _ _ _ _ q => gt_int q
/-- is, is not of two objects that are tracked lists or instances -/
def isObj : HO → Bool
  | .lst _ => true
  | .ins _ _ _ => true
  | _ => false
theorem nomark (b : Expr) {op : CmpOp} (h : op ≠ .In := by decide) (h2 : op ≠ .NotIn := by decide) : behindInMarks op b = false := by
  have e1 : (op == CmpOp.In) = false := by cases op <;> first | rfl | exact absurd rfl h
  have e2 : (op == CmpOp.NotIn) = false := by cases op <;> first | rfl | exact absurd rfl h2
  cases b <;> simp [behindInMarks, e1, e2]
/-- a comparison as a value; hm: nomark b, or (for in, not in) by with_unfolding_all rfl -/
theorem pe_cmpR {op : CmpOp} {r : R2} (ho : OpR X (compareOp op) r) (ha : PE X a ta) (hb : PE X b tb) (hm : behindInMarks op b = false) : PE X (.Compare a [op] [b] pos) (tOp r ta tb) := by
  intro pins s σ H Q I h
  exact wpAny_Compare1 (binT ha hb I h fun v u s2 x y H2 I2 rx ry q => ho pins s2 σ H2 x y v u Q I2 rx ry q) hm
/-- a reading of a value as a test -/
def tTest (t : TE) : TT := fun σ H Q => t σ H fun x H' => ∃ k, x = .bl k ∧ Q k H'
theorem pt_cmpR {op : CmpOp} {r : R2} (ho : OpR X (compareOp op) r) (ha : PE X a ta) (hb : PE X b tb) (hm : behindInMarks op b = false) : PT X (.Compare a [op] [b] pos) (tTest (tOp r ta tb)) := by
  intro pins s σ H Q I h
  refine wpAny_isTrue_Compare1 (thn (ha pins s σ H _ I h) fun v s1 => L2.ex5 fun x H1 I1 r1 q1 => thn (hb pins s1 σ H1 _ I1 q1) fun u s2 => L2.ex5 fun y H2 I2 r2 q2 =>
    thn (ho pins s2 σ H2 x y v u _ I2 r1 r2 q2) fun c s3 ⟨z, H3, I3, r3, k, e, q3⟩ => ?_) hm
  subst e
  cases r3
  exact wpAny_truthy_bool ⟨H3, I3, q3⟩
/-- a op1 b op2 c -/
def tChain (r r' : R2) (ta tb tc : TE) : TE := fun σ H Q => ta σ H fun x H1 => tb σ H1 fun y H2 => r x y H2 fun z H3 => ∃ k, z = .bl k ∧
  (if k = true then tc σ H3 fun w' H4 => r' y w' H4 Q else Q (.bl false) H3)
/-! ### truth -/
/-- a value's truth by the abstract heap -/
def TruV (K : PySem.W.Frag) (x : V) (H : Hp) (k : Bool) : Prop :=
  match x with
  | .non => k = false
  | .bl b => k = b
  | .int i => k = (i != 0)
  | .str y => y.length ≤ sizeLine ∧ k = ((y.length : Int) != 0)
  | .byt y => y.size ≤ sizeLine ∧ k = ((y.size : Int) != 0)
  | .ref p => (∃ xs, SqL K H p xs ∧ k = !xs.isEmpty) ∨ (∃ xs, SqT K H p xs ∧ k = !xs.isEmpty) ∨ ∃ kvs, H p = some (.dK kvs) ∧ k = !kvs.isEmpty
  | _ => False
theorem line63 : (sizeLine : Nat) < 2 ^ 63 := by rw [sizeLine_eq]; decide
/-! ### strs and bytes -/
theorem op_add_str : OpR X (binaryOp .Add) (fun x y H Q => ∃ i j, x = .str i ∧ y = .str j ∧ i.length + j.length ≤ sizeLine ∧ Q (.str (i ++ j)) H) := by
  intro pins s σ H x y v u Q I rx ry h
  obtain ⟨i, j, rfl, rfl, hz, q⟩ := h
  obtain ⟨t, rfl⟩ := rx
  obtain ⟨t', rfl⟩ := ry
  exact add_str (fun t' tk => ⟨.str (i ++ j), H, I.tok _, ⟨_, rfl⟩, q⟩) hz
def PlainIxT (b : Expr) : Prop := ∀ o i, subscripted b false o i = operate [o, i] (getItem o i)
/-! ### scalar builtins, by CallR -/
theorem vals1 {x : V} {us : List Value} (r : Vals [x] us) : ∃ u, us = [u] ∧ RelV x u := by
  cases r with
  | cons r1 r2 => cases r2; exact ⟨_, rfl, r1⟩
theorem vals2 {x y : V} {us : List Value} (r : Vals [x, y] us) : ∃ u w', us = [u, w'] ∧ RelV x u ∧ RelV y w' := by
  cases r with
  | cons r1 r2 =>
    cases r2 with
    | cons r3 r4 => cases r4; exact ⟨_, _, rfl, r1, r3⟩
theorem call_str_int : CallR X (.type "str") (fun xs H Q => ∃ i, xs = [.int i] ∧ i.natAbs.log2 < 1920 ∧ Q (.str (toString i)) H) := by
  intro pins s σ H xs us Q I r h
  obtain ⟨i, rfl, hz, q⟩ := h
  obtain ⟨u, rfl, t, rfl⟩ := vals1 r
  exact PySem.P.str_of_int hz ⟨.str _, H, I.tok _, ⟨_, rfl⟩, q⟩
/-- len of a str, a bytes, a list, a tuple -/
def LenV (K : PySem.W.Frag) (x : V) (H : Hp) (n : Nat) : Prop :=
  match x with
  | .str y => y.length ≤ sizeLine ∧ n = y.length
  | .byt y => y.size ≤ sizeLine ∧ n = y.size
  | .ref p => (∃ xs, SqL K H p xs ∧ n = xs.length) ∨ ∃ xs, SqT K H p xs ∧ n = xs.length
  | _ => False
end
end L2

namespace L2
open PySem PySem.Spec PyProof.Rows

/-! ### an instance, its attributes a map -/
structure ObjM (h : Heap) (x dx C : Addr) (mA : Str → Option Value) : Prop where
  obj : h.get? x = some (PySem.W.instObj C dx)
  ns : h.Ns1 dx mA
  ne : dx ≠ x

theorem lookIn_ns {h : Heap} {dx : Addr} {mA : Str → Option Value} (n : h.Ns1 dx mA) : ∃ od, h.get? dx = some od ∧ ∀ name, PySem.W.lookIn name od = some (mA name) := by
  obtain ⟨o, es, ep, ho, hd, hk, _, hm⟩ := n
  refine ⟨o, ho, fun name => ?_⟩
  have e := hm name
  unfold nsFind findBy at e
  rw [← Array.find?_toList] at e
  unfold PySem.W.lookIn
  rw [hd]
  dsimp only
  split
  · rename_i y q
    rw [q] at e
    exact congrArg some e
  · rename_i q
    rw [q] at e
    have a : es.toList.any (·.refKey) = false := by
      rw [List.any_eq_false]
      intro y hy
      obtain ⟨z, t, hkey⟩ := hk y (Array.mem_toList_iff.mp hy)
      simp [DictEntry.refKey, hkey]
    have a' : ¬ es.toList.any (·.refKey) = true := by rw [a]; exact Bool.false_ne_true
    rw [if_neg a']
    exact congrArg some e

theorem ObjM.look {h : Heap} {x dx C : Addr} {mA : Str → Option Value} (I : ObjM h x dx C mA) : ∃ od, PySem.W.InstAt h x (PySem.W.instObj C dx) C (some od) ∧ ∀ name, PySem.W.lookIn name od = some (mA name) :=
  let ⟨od, ho, hl⟩ := lookIn_ns I.ns
  ⟨od, ⟨I.obj, rfl, rfl, ho⟩, hl⟩

section
variable {prog : Program} {w : World} {A : Around} {E : Value → Shared → Prop} {s : Shared} {K : PySem.W.Frag} {x dx C f : Addr} {mA : Str → Option Value} {name : Str} {v : Value}

end

/-! ### the attributes as a list of pairs -/
def putF (f : Str) (v : V) : List (Str × V) → List (Str × V)
  | [] => [(f, v)]
  | (g, x) :: r => if g = f then (g, v) :: r else (g, x) :: putF f v r
theorem RelO.some_of {v : V} {o : Option Value} (r : RelO (some v) o) : ∃ u, o = some u ∧ RelV v u := by
  cases o with
  | none => exact (show False from r).elim
  | some u => exact ⟨u, rfl, r⟩
section
variable {P : Program} {w : World} {H H' : Hp} {h h' : Heap} {a C dx : Addr} {fs fs' : List (Str × V)}
theorem ins_get (hok : HOk P w H h) (e : H a = some (.ins C dx fs)) : ∃ mA, ObjM h a dx C mA ∧ (∀ f, RelO (fs.lookup f) (mA f)) ∧ PySem.Within mA (fs.map (·.1)) ∧ fs.length ≤ 1000 ∧ H dx = some (.own a) := by
  obtain ⟨d, z, ne, ob, mA, n, r, q⟩ := (show ObjOk P w H h a (.ins C dx fs) from hok a _ e)
  exact ⟨mA, ⟨ob, n, ne⟩, r, q, z, d⟩
end

/-! ### what of the text a class must have -/
structure Cls (K : PySem.W.Frag) (C : Addr) : Prop where
  pg : PySem.W.plainGet K C Str.empty = true
  hd : PySem.W.hasDictIn K C = true
  po : PySem.W.plainOver K C = true
  sa : PySem.W.findIn K (.ref C) "__setattr__" = some (some (.builtin "object.__setattr__"))
theorem Cls.get {K : PySem.W.Frag} {C : Addr} (c : Cls K C) (f : Str) : PySem.W.plainGet K C f = true := c.pg
/-- no class of it has the name -/
def NoAttr (K : PySem.W.Frag) (C : Addr) (f : Str) : Prop := PySem.W.findIn K (.ref C) f = some none
/-- a constant of the class -/
structure Con (K : PySem.W.Frag) (C : Addr) (f : Str) (v : V) (u : Value) : Prop where
  at_ : PySem.W.findIn K (.ref C) f = some (some u)
  rel : RelV v u
  get : PySem.W.specialIn K u "__get__" = some none
  cp : PySem.W.copiedNames.contains f = false
/-- a method: a plain def of the class or of one above it -/
structure Meth (K : PySem.W.Frag) (C : Addr) (m : Str) (f : Addr) : Prop where
  at_ : PySem.W.findIn K (.ref C) m = some (some (.ref f))
  fn : PySem.W.isFn K (.ref f) = true
  kp : PySem.W.keepIn K (.ref f) = true

section
variable {X : Cx} {pins : List (Addr × Obj)} {σ : St} {H : Hp} {s : Shared} {a C dx : Addr} {fs : List (Str × V)} {f : Str} {v : V} {A : Around} {E : Value → Shared → Prop}

end

/-! ### readings and rules -/
/-- e.f, an attribute of the instance -/
def tFld (K : PySem.W.Frag) (ta : TE) (f : Str) : TE := fun σ H Q => ta σ H fun x H1 => ∃ a C dx fs v, x = .ref a ∧ H1 a = some (.ins C dx fs) ∧ Cls K C ∧ NoAttr K C f ∧ fs.lookup f = some v ∧ Q v H1
/-- e.f, a constant of the class -/
def tCon (K : PySem.W.Frag) (ta : TE) (f : Str) : TE := fun σ H Q => ta σ H fun x H1 => ∃ a C dx fs v u, x = .ref a ∧ H1 a = some (.ins C dx fs) ∧ Cls K C ∧ Con K C f v u ∧ fs.lookup f = none ∧ Q v H1
/-- e.f = value -/
def sFld (K : PySem.W.Frag) (ta tv : TE) (f : Str) : TS := fun D σ H => tv σ H fun y H1 => ta σ H1 fun x H2 => ∃ a C dx fs, x = .ref a ∧ H2 a = some (.ins C dx fs) ∧ Cls K C ∧ NoAttr K C f ∧ fs.length < 1000 ∧
  D.nx σ (upd H2 a (.ins C dx (putF f y fs)))
/-- an augmented operator on two values -/
def InOp (X : Cx) (op : Operator) (rd : V → V → Hp → VK → Prop) : Prop :=
  ∀ (pins : List (Addr × Obj)) (s : Shared) (σ : St) (H : Hp) (x y : V) (u v : Value) (Q : VK), Inv X pins σ H s → RelV x u → RelV y v → rd x y H Q → wpAny (model X.prog X.w) X.A (inplaceOp op u v) (EP X pins σ Q) X.xe s
/-- e.f op= value -/
def sFldAug (K : PySem.W.Frag) (ta tv : TE) (rd : V → V → Hp → VK → Prop) (f : Str) : TS := fun D σ H => ta σ H fun x H1 => ∃ a C dx fs v, x = .ref a ∧ H1 a = some (.ins C dx fs) ∧ Cls K C ∧ NoAttr K C f ∧ fs.lookup f = some v ∧
  tv σ H1 fun y H2 => rd v y H2 fun z H3 => ∃ dx' fs', H3 a = some (.ins C dx' fs') ∧ fs'.length < 1000 ∧ D.nx σ (upd H3 a (.ins C dx' (putF f z fs')))

section
variable {X : Cx} {o e value : Expr} {f : Str} {pos pos' tpos : Pos} {ta tv : TE}
def rAdd : V → V → Hp → VK → Prop := fun x y H Q => ∃ i j, x = .int i ∧ y = .int j ∧ Q (.int (i + j)) H
def rSub : V → V → Hp → VK → Prop := fun x y H Q => ∃ i j, x = .int i ∧ y = .int j ∧ Q (.int (i - j)) H
end

/-! ### isinstance -/
section
variable {X : Cx} {pins : List (Addr × Obj)} {σ : St} {H : Hp} {s : Shared} {A : Around} {E : Value → Shared → Prop} {Q : Value → Shared → Prop} {c : Value} {b : Bool}
/-- the type of a value, as the fragment's deciders take it; for an instance its class -/
inductive TyOf (K : PySem.W.Frag) (H : Hp) : V → Value → Prop where
  | non : TyOf K H .non (.type "NoneType")
  | bl (x : Bool) : TyOf K H (.bl x) (.type "bool")
  | int (i : Int) : TyOf K H (.int i) (.type "int")
  | str (x : Str) : TyOf K H (.str x) (.type "str")
  | flt (x : UInt64) : TyOf K H (.flt x) (.type "float")
  | lst {a : Addr} {xs : List V} (e : H a = some (.lst xs)) : TyOf K H (.ref a) (.type "list")
  | frz {a : Addr} {o : Obj} {xs : List V} (e : H a = some (.frz o (.lst xs))) : TyOf K H (.ref a) (.type "list")
  | tup {a : Addr} {xs : List V} (e : H a = some (.tup xs)) : TyOf K H (.ref a) (.type "tuple")
  | dK {a : Addr} {kvs : List (Key × V)} (e : H a = some (.dK kvs)) : TyOf K H (.ref a) (.type "dict")
  | dT {a : Addr} {kvs : List (List Key × V)} (e : H a = some (.dT kvs)) : TyOf K H (.ref a) (.type "dict")
  | ins {a C dx : Addr} {fs : List (Str × V)} (e : H a = some (.ins C dx fs)) (cl : Cls K C) (ha : PySem.W.findIn K (.ref C) "__class__" = some (some (.builtin "object.__class__")))
      (hn : PySem.W.specialIn K (.builtin "object.__class__") "__get__" = some (some (.builtin "getset_descriptor.__get__"))) (htk : PySem.W.takesIn K (.builtin "object.__class__") = some true)
      (hm : PySem.W.mroIn K C (.type "object") = some true) : TyOf K H (.ref a) (.ref C)
/-- isinstance(x, c) for one class c, a built-in or an own one: kitOne's answer -/
theorem isinst_ok {x : V} {u t : Value} (I : Inv X pins σ H s) (rx : RelV x u) (ty : TyOf X.K H x t) (e : PySem.W.kitOne X.K t c = some b) (h : ∀ tk, Q (.bool b) { s with toks := tk }) :
    wpAny (model X.prog X.w) A (call (.builtin "isinstance") [u, c]) Q E s := by
  cases ty with
  | non => cases (show u = Value.none from rx); exact PySem.W.kia_one PySem.W.kitx_none I.kIn True.intro e (fun z => nomatch z) h
  | bl y => cases (show u = Value.bool y from rx); exact PySem.W.kia_one PySem.W.kitx_bool I.kIn True.intro e (fun z => nomatch z) h
  | int i => obtain ⟨t, q⟩ := (show ∃ t, u = Value.int i t from rx); cases q; exact PySem.W.kia_one PySem.W.kitx_int I.kIn True.intro e (fun z => nomatch z) h
  | str y => obtain ⟨t, q⟩ := (show ∃ t, u = Value.str y t from rx); cases q; exact PySem.W.kia_one PySem.W.kitx_str I.kIn True.intro e (fun z => nomatch z) h
  | flt y => obtain ⟨t, q⟩ := (show ∃ t, u = Value.float y t from rx); cases q; exact PySem.W.kia_one PySem.W.kitx_float I.kIn True.intro e (fun z => nomatch z) h
  | @lst a xs ea =>
    cases (show u = Value.ref a from rx)
    obtain ⟨_, _, n, _, h1⟩ := (show ObjOk X.prog X.w H s.heap a (.lst xs) from I.hok a _ ea)
    exact PySem.W.kia_one PySem.W.kitx_list I.kIn ⟨_, h1, rfl⟩ e (fun z => nomatch z) h
  | @frz a ob xs ea =>
    cases (show u = Value.ref a from rx)
    obtain ⟨_, _, _, n, _, h1⟩ := (show ObjOk X.prog X.w H s.heap a (.frz ob (.lst xs)) from I.hok a _ ea)
    exact PySem.W.kia_one PySem.W.kitx_list I.kIn ⟨_, h1, rfl⟩ e (fun z => nomatch z) h
  | @tup a xs ea =>
    cases (show u = Value.ref a from rx)
    obtain ⟨_, _, _, p⟩ := (show ObjOk X.prog X.w H s.heap a (.tup xs) from I.hok a _ ea)
    obtain ⟨o, h1, h2, _⟩ := p
    exact PySem.W.kia_one PySem.W.kitx_tuple I.kIn ⟨o, h1, h2⟩ e (fun z => nomatch z) h
  | @dK a kvs ea =>
    cases (show u = Value.ref a from rx)
    obtain ⟨_, _, vs, _, p⟩ := (show ObjOk X.prog X.w H s.heap a (.dK kvs) from I.hok a _ ea)
    obtain ⟨o, es, ep, h1, h2, _⟩ := p
    exact PySem.W.kia_one PySem.W.kitx_dict I.kIn ⟨o, h1, h2.1⟩ e (fun z => nomatch z) h
  | @dT a kvs ea =>
    cases (show u = Value.ref a from rx)
    obtain ⟨_, _, xs, _, o, es, ep, h1, h2, _⟩ := (show ObjOk X.prog X.w H s.heap a (.dT kvs) from I.hok a _ ea)
    exact PySem.W.kia_one PySem.W.kitx_dict I.kIn ⟨o, h1, h2.1⟩ e (fun z => nomatch z) h
  | @ins a C dx fs ea cl ha hn htk hm =>
    cases (show u = Value.ref a from rx)
    obtain ⟨mA, O, _⟩ := ins_get I.hok ea
    obtain ⟨od, J, _⟩ := O.look
    exact PySem.W.kia_one (PySem.W.kitx_own (cl.get _) cl.hd ha hn htk hm) I.kIn J e (fun z => nomatch z) h
end
end L2

namespace L2
open PySem PySem.Spec PyProof.Rows

/-! ### room -/
structure Room (k : Nat) (A : Around) : Prop where
  dp : A.depth + 3 * k + 5 < recursionLimit
  un : A.units + 16 * k + 200 < cLine
theorem Room.mono {j k : Nat} {A : Around} (r : Room k A) (h : j ≤ k) : Room j A := ⟨by have := r.dp; omega, by have := r.un; omega⟩
theorem Room.deeper {k : Nat} {A : Around} (r : Room (k + 1) A) (env : Env) : Room k (A.deeper env) :=
  ⟨by have := r.dp; show A.depth + 1 + 3 * k + 5 < _; omega, by have := r.un; show A.units + 3 + 16 * k + 200 < _; omega⟩
theorem Room.depth {k : Nat} {A : Around} (r : Room k A) : A.depth < recursionLimit := by have := r.dp; omega
theorem Room.units {k : Nat} {A : Around} (r : Room k A) : A.units + 64 < cLine := by have := r.un; omega
/-! ### argument lists and displays -/
def tNil : TA := fun _ H Q => Q [] H
def tCons (ta : TE) (tr : TA) : TA := fun σ H Q => ta σ H fun x H1 => tr σ H1 fun xs H2 => Q (x :: xs) H2
section
variable {X : Cx} {e : Expr} {es : List Expr} {te : TE} {t : TA} {pos : Pos}
theorem pa_nil : PA X [] tNil := fun _ _ _ _ H Q I h => Calls.spliced_nil ⟨[], H, I, .nil, h⟩
theorem pa_cons (ha : PE X e te) (hr : PA X es t) (hs : starEach (e :: es) X.env = (false, eval e X.env) :: starEach es X.env := by rfl) : PA X (e :: es) (tCons te t) := by
  intro pos pins s σ H Q I h
  rw [hs]
  show wpAny _ _ (spliced ((false, eval e X.env) :: backTo pos (starEach es X.env))) _ _ s
  refine Calls.spliced_cons (thn (ha pins s σ H _ I h) fun u s1 => L2.ex5 fun x H1 I1 r1 q1 => ?_)
  exact thn (hr pos pins s1 σ H1 _ I1 q1) fun us s2 ⟨xs, H2, I2, r2, q2⟩ => ⟨x :: xs, H2, I2, .cons r1 r2, q2⟩

/-- a tuple, a list of written items -/
def tTup (t : TA) : TE := fun σ H Q => t σ H fun xs H1 => xs.length ≤ sizeLine ∧ ∀ p, H1 p = none → Q (.ref p) (upd H1 p (.tup xs))
def tLst (t : TA) : TE := fun σ H Q => t σ H fun xs H1 => xs.length ≤ sizeLine ∧ ∀ p, H1 p = none → Q (.ref p) (upd H1 p (.lst xs))
theorem pe_tup {x1} (h : PA X es t) : PE X (.Tuple es x1 pos) (tTup t) := by
  intro pins s σ H Q I hq
  refine wpAny_Tuple_spliced (thn (h pos pins s σ H _ I hq) fun us s1 ⟨xs, H1, I1, r, z, q⟩ => ⟨by rw [← r.length]; exact z, ?_⟩)
  have hf : H1 s1.heap.objs.size = none := I1.hok.fresh (Nat.le_refl _)
  refine ⟨.ref s1.heap.objs.size, upd H1 s1.heap.objs.size (.tup xs), I1.laid (t' := s1.toks) (fun b u e => Heap.get?_push_of_some _ e) (Nat.le_refl _) ?_, rfl, q _ hf⟩
  exact ⟨z, us, r, ⟨_, Heap.get?_push_size _ rfl, rfl, _, rfl⟩⟩
theorem pe_lst (h : PA X es t) : PE X (.List es pos) (tLst t) := by
  intro pins s σ H Q I hq
  refine wpAny_List_spliced (thn (h pos pins s σ H _ I hq) fun us s1 ⟨xs, H1, I1, r, z, q⟩ => ⟨by rw [← r.length]; exact z, ?_⟩)
  have hf : H1 s1.heap.objs.size = none := I1.hok.fresh (Nat.le_refl _)
  refine ⟨.ref s1.heap.objs.size, upd H1 s1.heap.objs.size (.lst xs), I1.laid (t' := s1.toks) (fun b u e => Heap.get?_push_of_some _ e) (Nat.le_refl _) ?_, rfl, q _ hf⟩
  exact ⟨z, us, 0, r, Heap.get?_push_size _ rfl⟩
end

/-! ### what a def promises -/
/-- a def's promise: the bound arguments in the parameters' order, the heap, the wanted end, the wanted exception -/
abbrev Sp := List V → Hp → VK → XK → Prop
/-- how an exception lies behind a call (file 08 gives it): the callers' frames, abstract heap and state ahead of the call, the wish, the exception, the state -/
abbrev CXT := List Env → Hp → Shared → XK → Value → Shared → Prop

/-- the state at a call -/
structure Env0 (P : Program) (w : World) (K : PySem.W.Frag) (mg : Str → Option Value) (base : Heap) (A : Around) (outer : List Env) (s : Shared) (H : Hp) : Prop where
  frames : A.frames = some outer
  mod : Mod K mg base
  bs : ∀ b o, base.get? b = some o → s.heap.get? b = some o ∧ H b = none
  bsz : base.objs.size ≤ s.heap.objs.size
  funs : s.heap.FunFrames base outer
  frf : ∀ b ∈ frs outer, H b = none
  hok : HOk P w H s.heap
  bare : AllBare s.gens
  hd : HdAt A H
/-- a call's end -/
def CE (outer : List Env) (P : Program) (w : World) (H : Hp) (s : Shared) (Q : VK) (u : Value) (s' : Shared) : Prop :=
  ∃ v H', s'.os = s.os ∧ AllBare s'.gens ∧ Un (frs outer) [] H H' s.heap s'.heap ∧ HOk P w H' s'.heap ∧ RelV v u ∧ Q v H'
def CR (CX : CXT) (outer : List Env) (P : Program) (w : World) (H : Hp) (s : Shared) (Q : VK) (E : XK) (r : Result) (s' : Shared) : Prop :=
  match r with
  | .ok (.ret u) => CE outer P w H s Q u s'
  | .ok _ => False
  | .error e => CX outer H s E e s'
structure FnOk (P : Program) (w : World) (K : PySem.W.Frag) (mg : Str → Option Value) (base : Heap) (CX : CXT) (k : Nat) (f : Addr) (fd : FuncData) (ps : List Str) (sp : Sp) : Prop where
  len : ∀ vs H Q E, sp vs H Q E → vs.length = ps.length
  run : ∀ (A : Around) (outer : List Env) (s : Shared) (H : Hp) (args : Args) (us : List Value) (vs : List V) (Q : VK) (E : XK), Room k A → Env0 P w K mg base A outer s H → BindsTo s fd args (ps.zip us) → Vals vs us → sp vs H Q E →
    codeAny (model P w) A (.call (.ref f) args) (CR CX outer P w H s Q E) s
section
variable {X : Cx} {pins : List (Addr × Obj)} {σ : St} {H : Hp} {s s' : Shared}
/-- from a body: what a callee wants -/
theorem Inv.env0 (I : Inv X pins σ H s) : Env0 X.prog X.w X.K X.mg X.base X.A X.stack s H :=
  ⟨I.ok.frames, I.ok.mod, I.bs, Nat.le_trans I.ok.bsz I.sz, I.stack, I.stkFree, I.hok, I.bare, I.hdAt⟩
/-- behind a call -/
theorem Inv.after {Q : VK} {u : Value} (I : Inv X pins σ H s) (h : CE X.stack X.prog X.w H s Q u s') : EP X pins σ Q u s' := by
  obtain ⟨v, H', os, bare, un, hok, r, q⟩ := h
  obtain ⟨hh, g, d, t, os'⟩ := s'
  obtain rfl : os' = s.os := os
  exact ⟨v, H', I.call (h' := hh) (g' := g) (d' := d) (t' := t) (ch := []) un hok bare (fun b z => absurd z (by simp)), r, q⟩
end

/-! ### calls -/
/-- f(..): the written arguments, then the defaults dvs; E: what is wanted of an exception -/
def tCall (sp : Sp) (dvs : List V) (E : XK) (t : TA) : TE := fun σ H Q => t σ H fun vs H1 => sp (vs ++ dvs) H1 Q E
/-- o.m(..) of an instance of the class at C -/
def tMeth (C : Addr) (m : Str) (sp : Sp) (dvs : List V) (E : XK) (ta : TE) (t : TA) : TE := fun σ H Q => ta σ H fun x H1 => ∃ a dx fs, x = .ref a ∧ H1 a = some (.ins C dx fs) ∧ fs.lookup m = none ∧
  t σ H1 fun vs H2 => sp (x :: (vs ++ dvs)) H2 Q E
/-- C(..): a new instance and its dict, then __init__ -/
def tMake (C : Addr) (sp : Sp) (dvs : List V) (E : XK) (t : TA) : TE := fun σ H Q => t σ H fun vs H1 => ∀ x dx, H1 x = none → H1 dx = none → dx ≠ x →
  sp (.ref x :: (vs ++ dvs)) (upd (upd H1 dx (.own x)) x (.ins C dx [])) (fun v H2 => v = .non ∧ Q (.ref x) H2) E

/-- how the parameters are bound: us the positional arguments, kw the keywords' values by name, ds the defaults that fill up -/
def Binds (K : PySem.W.Frag) (fd : FuncData) (ps : List Str) (ds : List Value) : Prop :=
  ∀ (s : Shared) (us : List Value), K.In s.heap → (us ++ ds).length = ps.length → BindsTo s fd ⟨us, []⟩ (ps.zip (us ++ ds))
/-- every parameter is given -/
theorem Binds.all {K : PySem.W.Frag} {fd : FuncData} {ps : List Str} (h : ∀ us : List Value, us.length = ps.length → bindArgs fd ⟨us, []⟩ = pure (ps.zip us)) : Binds K fd ps [] := fun s us _ hl => by
  rw [List.append_nil] at hl ⊢
  exact .of_eq (h us hl)

/-- an exception of a callee reaches what this body wants of exceptions -/
def Passes (CX : CXT) (X : Cx) (E : XK) : Prop := ∀ (pins : List (Addr × Obj)) (σ : St) (H : Hp) (s : Shared) (e : Value) (s' : Shared), Inv X pins σ H s → CX X.stack H s E e s' → X.xe e s'

section
variable {X : Cx} {CX : CXT} {k : Nat} {f C : Addr} {fd : FuncData} {ps : List Str} {sp : Sp} {dvs : List V} {ds : List Value} {E : XK} {x m : Str} {p pos apos : Pos} {e o : Expr} {es : List Expr} {ta : TE} {t : TA}

/-- the callee runs -/
theorem run_fn {pins : List (Addr × Obj)} {σ : St} {H : Hp} {s : Shared} {Q : VK} {us : List Value} {vs : List V} (F : FnOk X.prog X.w X.K X.mg X.base CX k f fd ps sp) (hr : Room k X.A) (hb : Binds X.K fd ps ds) (hd : Vals dvs ds) (hx : Passes CX X E)
    (I : Inv X pins σ H s) (r : Vals vs us) (h : sp (vs ++ dvs) H Q E) : wpAny (model X.prog X.w) X.A (call (.ref f) us) (EP X pins σ Q) X.xe s := by
  have r2 : Vals (vs ++ dvs) (us ++ ds) := r.append hd
  have hl : (us ++ ds).length = ps.length := by rw [← r2.length]; exact F.len _ _ _ _ h
  refine wpAny_call (codeAny_mono (F.run X.A X.stack s H ⟨us, []⟩ (us ++ ds) (vs ++ dvs) Q E hr I.env0 (hb s us I.kIn hl) r2 h) fun r s' hq => ?_)
  cases r with
  | error e => exact hx pins σ H s e s' I hq
  | ok fl =>
    cases fl with
    | ret u => exact I.after hq
    | next => exact False.elim hq
    | brk => exact False.elim hq
    | cont => exact False.elim hq

theorem pe_call (F : FnOk X.prog X.w X.K X.mg X.base CX k f fd ps sp) (hr : Room k X.A) (hg : Gl X x) (hm : X.mg x = some (.ref f)) (hk : PySem.W.keepIn X.K (.ref f) = true) (hb : Binds X.K fd ps ds) (hd : Vals dvs ds) (hx : Passes CX X E)
    (ha : PA X (e :: es) t) (hdb : (x == ("__debug__" : Str)) = false := by decide) (he : starEach (e :: es) X.env = (false, eval e X.env) :: starEach es X.env := by rfl) (hpl : (backTo pos (starEach es X.env)).any (·.1) = false := by rfl) :
    PE X (.Call (.Name x p) (e :: es) [] pos) (tCall sp dvs E t) := by
  intro pins s σ H Q I h
  refine wpAny_Call_Name_kw (ld_glob I hg hm ?_ hdb)
  refine PySem.W.callWith_K (h₀ := X.base) I.ok.mod.kin hk (thn (ha pos pins s σ H _ I h) fun us s1 => L2.ex5 fun vs H1 I1 r q => ⟨I1.kIn, ?_⟩) he hpl
  exact run_fn F hr hb hd hx I1 r q
/-- what a class must have to be made -/
structure Mk (K : PySem.W.Frag) (C f : Addr) : Prop where
  makes : PySem.W.makesIn K C = true
  init : PySem.W.findIn K (.ref C) "__init__" = some (some (.ref f))
  fn : PySem.W.isFn K (.ref f) = true
  kp : PySem.W.keepIn K (.ref C) = true

end

/-! ### keywords -/
/-- the values of the keywords, from the left -/
def PK (X : Cx) (kws : List Keyword) (t : TA) : Prop :=
  ∀ (pos : Pos) (pins : List (Addr × Obj)) (s : Shared) (σ : St) (H : Hp) (Q : List V → Hp → Prop), Inv X pins σ H s → t σ H Q → wpAny (model X.prog X.w) X.A (evalAll ((backToKw pos (keywordEach kws X.env)).map (·.2))) (AP X pins σ Q) X.xe s
section
variable {X : Cx} {CX : CXT} {k : Nat} {f C : Addr} {fd : FuncData} {ps ks : List Str} {sp : Sp} {E : XK} {x m : Str} {p pos apos kpos : Pos} {e o : Expr} {es : List Expr} {kws : List Keyword} {te ta : TE} {t tk : TA} {nm : Option Str}
/-- how a call with keywords binds: g puts the positional values us and the keywords' values ws (names ks) in the parameters' order, defaults among them -/
structure KBinds (K : PySem.W.Frag) (fd : FuncData) (ps ks : List Str) (g : List Value → List Value → List Value) (gV : List V → List V → List V) : Prop where
  to : ∀ (s : Shared) (us ws : List Value), K.In s.heap → (g us ws).length = ps.length → BindsTo s fd ⟨us, ks.zip ws⟩ (ps.zip (g us ws))
  rel : ∀ {vs : List V} {us : List Value} {zs : List V} {ws : List Value}, Vals vs us → Vals zs ws → Vals (gV vs zs) (g us ws)
def tCallK (sp : Sp) (gV : List V → List V → List V) (E : XK) (t tk : TA) : TE := fun σ H Q => t σ H fun vs H1 => tk σ H1 fun zs H2 => sp (gV vs zs) H2 Q E
variable {g : List Value → List Value → List Value} {gV : List V → List V → List V}
end

/-! ### a def's body keeps its promise -/
/-- names: the parameters first -/
structure FnScope (N P : List Str) (sc : Scope) : Prop where
  kind : sc.kind = .function
  co : sc.isCoroutine = false
  gen : sc.isGenerator = false
  nd : N.Nodup
  pre : N.take P.length = P
  par : ∀ x ∈ P, sc.names.lookup x = some .local ∨ sc.names.lookup x = some .cell
  nofree : ∀ y ∈ sc.names, y.2 ≠ .free

theorem bindL_out {kindOf : Str → Option NameKind} {x : Str} : ∀ {binds : List (Str × Value)} {m : Str → Option Value}, (∀ v, (x, v) ∉ binds) → bindL kindOf binds m x = m x
  | [], _, _ => rfl
  | (n, v) :: r, m, h => by
    unfold bindL
    rw [bindL_out fun w hw => h w (List.mem_cons_of_mem _ hw)]
    split
    · have : x ≠ n := by rintro rfl; exact h v List.mem_cons_self
      simp [this]
    · rfl
theorem bindC_out {kindOf : Str → Option NameKind} {x : Str} : ∀ {binds : List (Str × Value)} {m : Str → Option Value}, (∀ v, (x, v) ∉ binds) → bindC kindOf binds m x = m x
  | [], _, _ => rfl
  | (n, v) :: r, m, h => by
    unfold bindC
    rw [bindC_out fun w hw => h w (List.mem_cons_of_mem _ hw)]
    split
    · rfl
    · have : x ≠ n := by rintro rfl; exact h v List.mem_cons_self
      simp [this]
theorem bindL_get {kindOf : Str → Option NameKind} {x : Str} {v : Value} : ∀ {P : List Str} {vs : List Value} {i : Nat} {m : Str → Option Value}, P.Nodup → P[i]? = some x → vs[i]? = some v → kindOf x = some .local →
    bindL kindOf (P.zip vs) m x = some v
  | [], _, _, _, _, h, _, _ => by simp at h
  | _ :: _, [], _, _, _, _, h, _ => by simp at h
  | p :: P, w :: vs, 0, m, nd, h1, h2, hk => by
    simp at h1 h2; subst h1; subst h2
    show bindL kindOf ((p, w) :: P.zip vs) m p = _
    unfold bindL
    rw [bindL_out fun v hv => (List.nodup_cons.mp nd).1 (List.of_mem_zip hv).1, if_pos hk]
    simp
  | p :: P, w :: vs, i + 1, m, nd, h1, h2, hk => by
    show bindL kindOf ((p, w) :: P.zip vs) m x = _
    unfold bindL
    exact bindL_get (i := i) (List.nodup_cons.mp nd).2 (by simpa using h1) (by simpa using h2) hk
theorem bindC_get {kindOf : Str → Option NameKind} {x : Str} {v : Value} : ∀ {P : List Str} {vs : List Value} {i : Nat} {m : Str → Option Value}, P.Nodup → P[i]? = some x → vs[i]? = some v → kindOf x ≠ some .local →
    bindC kindOf (P.zip vs) m x = some v
  | [], _, _, _, _, h, _, _ => by simp at h
  | _ :: _, [], _, _, _, _, h, _ => by simp at h
  | p :: P, w :: vs, 0, m, nd, h1, h2, hk => by
    simp at h1 h2; subst h1; subst h2
    show bindC kindOf ((p, w) :: P.zip vs) m p = _
    unfold bindC
    rw [bindC_out fun v hv => (List.nodup_cons.mp nd).1 (List.of_mem_zip hv).1, if_neg hk]
    simp
  | p :: P, w :: vs, i + 1, m, nd, h1, h2, hk => by
    show bindC kindOf ((p, w) :: P.zip vs) m x = _
    unfold bindC
    exact bindC_get (i := i) (List.nodup_cons.mp nd).2 (by simpa using h1) (by simpa using h2) hk

/-- the names' values at the entry -/
def start (N : List Str) (vs : List V) : St := vs.map some ++ List.replicate (N.length - vs.length) none

/-- the context of a def's body, at its entry; an exception leaves the frame, then lies as CX says -/
def cxOf (CX : CXT) (P : Program) (w : World) (K : PySem.W.Frag) (mg : Str → Option Value) (base : Heap) (N : List Str) (qual : Str) (scope : Scope) (f : Addr) (cd : Value) (A : Around) (outer : List Env) (s : Shared) (H : Hp) (E : XK) : Cx where
  prog := P
  w := w
  K := K
  mg := mg
  base := base
  A := A.deeper (envOfC qual scope s.heap.objs.size f cd)
  N := N
  s₀ := s
  H₀ := H
  env := envOfC qual scope s.heap.objs.size f cd
  outer := outer
  stack := envOfC qual scope s.heap.objs.size f cd :: outer
  ex := []
  calm := true
  fn := fun _ => true
  pn := []
  xe := fun e s' => wpAny (model P w) (A.deeper (envOfC qual scope s.heap.objs.size f cd)) (leaving (envOfC qual scope s.heap.objs.size f cd) e) (fun _ s'' => CX outer H s E e s'') (fun e' s'' => CX outer H s E e' s'') s'

theorem cell_has {sc : Scope} {n : Nat} {x : Str} (h : sc.names.lookup x = some .cell) : ∃ c, (cellsFrom n sc.names []).lookup x = some c := by
  have q := PySem.W.cellsFrom_some sc.names n [] (.inl h)
  exact Option.isSome_iff_exists.mp q

theorem inv_start {CX : CXT} {P : Program} {w : World} {K : PySem.W.Frag} {mg : Str → Option Value} {base : Heap} {N ps : List Str} {qual : Str} {scope : Scope} {f : Addr} {cd : Value} {A : Around} {outer : List Env} {s s1 : Shared} {H : Hp} {E : XK} {us : List Value} {vs : List V}
    (S : FnScope N ps scope) (e0 : Env0 P w K mg base A outer s H) (hl : vs.length = ps.length) (r : Vals vs us)
    (x : InCallC s s.heap.objs.size (bindL (envOfC qual scope s.heap.objs.size f cd).kindOf (ps.zip us) fun _ => none) (cellsFrom (s.heap.objs.size + 1) scope.names []) (bindC (envOfC qual scope s.heap.objs.size f cd).kindOf (ps.zip us) fun _ => none) s1) :
    Inv (cxOf CX P w K mg base N qual scope f cd A outer s H E) [] (start N vs) H s1 := by
  have hpl : ps.length ≤ N.length := by have := congrArg List.length S.pre; rw [List.length_take] at this; omega
  obtain ⟨h1, tk, rfl, hk⟩ := x.done
  have noA : ∀ b : Addr, b ∉ (cxOf CX P w K mg base N qual scope f cd A outer s H E).ex := fun b z => absurd (show b ∈ ([] : List Addr) from z) (by simp)
  refine ⟨⟨e0.mod, S.kind, rfl, rfl, Nat.le_refl _, fun y z c h1 h2 => ?_, fun y hy => ?_, fun y c _ h => ?_, e0.hd, Around.frames_deeper e0.frames, .inr ⟨rfl, rfl⟩, fun b z => absurd z (noA b), e0.bs, e0.bsz, fun b _ _ => noA b, fun b z => absurd z (noA b), e0.funs, e0.frf⟩,
    rfl, e0.bare, Un.kept hk, ⟨_, x.toInCall.ns, fun i y v h1 h2 h3 => ?_⟩, fun y c h => ⟨_, x.cell y c h⟩, e0.hok.fresh (Nat.le_refl _), fun y c h => ?_, fun p hp => absurd (show p ∈ ([] : List (Addr × Obj)) from hp) (by simp), e0.hok.kept hk, ?_⟩
  · exact name_of_addr x.apart (PySem.mem_of_lookup h1) (PySem.mem_of_lookup h2)
  · have hy : scope.names.lookup y = some .cell ∨ scope.names.lookup y = some .free := hy
    rcases hy with hy | hy
    · exact cell_has hy
    · exact absurd rfl (S.nofree _ (PySem.mem_of_lookup hy))
  · exact Nat.le_of_lt (x.above y c (PySem.mem_of_lookup h))
  · have hi : i < vs.length := by
      unfold start at h2
      by_cases hi : i < vs.length
      · exact hi
      · rw [List.getElem?_append_right (by simpa using hi)] at h2
        rw [List.getElem?_replicate] at h2
        split at h2 <;> cases h2
    have ha : vs[i]? = some v := by
      unfold start at h2
      rw [List.getElem?_append_left (by simpa using hi), List.getElem?_map] at h2
      cases e : vs[i]? with
      | none => rw [e] at h2; cases h2
      | some a => rw [e] at h2; cases h2; rfl
    obtain ⟨u, hu, rv⟩ := r.get ha
    have hp : ps[i]? = some y := by
      rw [← S.pre, List.getElem?_take_of_lt (by omega)]; exact h1
    have ndP : ps.Nodup := by rw [← S.pre]; exact S.nd.sublist (List.take_sublist _ _)
    refine ⟨u, rv, ?_⟩
    rcases S.par y (List.mem_of_getElem? hp) with k | k
    · exact .inl ⟨k, bindL_get ndP hp hu k⟩
    · obtain ⟨c, e⟩ := cell_has (n := s.heap.objs.size + 1) k
      refine .inr ⟨.inl k, c, e, ?_⟩
      have q := x.cell y c e
      rw [bindC_get ndP hp hu (by show scope.names.lookup y ≠ _; rw [k]; decide)] at q
      exact q
  · exact e0.hok.fresh (Nat.le_of_lt (x.above y c (PySem.mem_of_lookup h)))
  · unfold start
    show _ = N.length
    rw [List.length_append, List.length_map, List.length_replicate]
    omega

/-- THE RULE: a def (or a method) of the text, by its body. The body's reading t is chosen for each entry; it is run at the parameters' values -/
theorem fn_of {CX : CXT} {P : Program} {w : World} {K : PySem.W.Frag} {mg : Str → Option Value} {base : Heap} {k : Nat} {f : Addr} {name qual : Str} {params : Arguments} {body : List Stmt} {scope : Scope} {dV kV doc pm cdv ct oc : Value} {an od : Option Addr}
    {osl : Array (Option Value)} {N ps : List Str} {sp : Sp} (lk : K.lookup f = some ⟨oc, od, .func (PySem.W.fnOf name qual params body scope dV kV doc pm an cdv ct), osl⟩) (hcd : PySem.W.codeIn K cdv qual = true) (S : FnScope N ps scope)
    (len : ∀ vs H Q E, sp vs H Q E → vs.length = ps.length)
    (hbody : ∀ (A : Around) (outer : List Env) (s : Shared) (H : Hp) (vs : List V) (Q : VK) (E : XK), Room k (A.deeper (envOfC qual scope s.heap.objs.size f cdv)) → sp vs H Q E →
      ∃ t, PSs (cxOf CX P w K mg base N qual scope f cdv A outer s H E) body t ∧ t { nx := fun _ H' => Q .non H', rt := Q } (start N vs) H) :
    FnOk P w K mg base CX (k + 1) f (PySem.W.fnOf name qual params body scope dV kV doc pm an cdv ct) ps sp := by
  refine ⟨len, fun A outer s H args us vs Q E hr e0 hb r hsp => ?_⟩
  have hl := len _ _ _ _ hsp
  have KX : K.In s.heap := e0.mod.kin.keeps fun b o e => (e0.bs b o e).1
  have lim : s.heap.NoLimit := e0.mod.nolimit.keeps fun b o e => (e0.bs b o e).1
  have hkind : ∀ y ∈ ps.zip us, scope.names.lookup y.1 = some .local ∨ (scope.names.lookup y.1 = some .cell ∧ ((cellsFrom (s.heap.objs.size + 1) scope.names []).lookup y.1).isSome = true) := fun ⟨n, v⟩ hy => by
    rcases S.par n (List.of_mem_zip hy).1 with q | q
    · exact .inl q
    · exact .inr ⟨q, PySem.W.cellsFrom_some _ _ _ (.inl q)⟩
  refine codeAny_call_function hr.depth (KX _ _ lk) rfl S.co S.gen rfl (PySem.W.codeRec_of KX hcd) (hb _ _ _ _ ?_)
  refine wpAny_newFunctionEnv_cells S.kind hkind fun env he s1 x => ?_
  subst he
  refine ⟨lim.keeps x.toInCall.keep, codeAny_func ?_⟩
  obtain ⟨t, ht, hq⟩ := hbody A outer s H vs Q E (hr.deeper _) hsp
  have I : Inv (cxOf CX P w K mg base N qual scope f cdv A outer s H E) [] (start N vs) H s1 := inv_start S e0 hl r x
  refine wpAny_mono (ht [] s1 (start N vs) H _ I hq) (fun fl s' hs => ?_) fun e s' hs => hs
  have fin : ∀ {σ' : St} {H' : Hp} {v : V} {u : Value}, Inv (cxOf CX P w K mg base N qual scope f cdv A outer s H E) [] σ' H' s' → RelV v u → Q v H' → CE outer P w H s Q u s' :=
    fun {σ' H' v u} J rv q => ⟨v, H', J.os, J.bare, J.base, J.hok, rv, q⟩
  cases fl with
  | ret u =>
    obtain ⟨v, σ', H', J, rv, q⟩ := hs
    exact fin J rv q
  | next =>
    obtain ⟨σ', H', J, q⟩ := hs
    exact fin (v := V.non) (u := Value.none) J rfl q
  | brk =>
    obtain ⟨_, _, _, q⟩ := hs
    exact False.elim q
  | cont =>
    obtain ⟨_, _, _, q⟩ := hs
    exact False.elim q
end L2

namespace L2
open PySem PySem.Spec PyProof.Rows
section
variable {X : Cx} {x : Str} {p pos : Pos} {e : Expr} {es : List Expr} {t : TA} {id T : String} {r : List V → Hp → VK → Prop}

def tCB (r : List V → Hp → VK → Prop) (t : TA) : TE := fun σ H Q => t σ H fun vs H1 => r vs H1 Q
/-- f(e, ..), f a built-in function -/
theorem pe_callB (hc : CallR X (.builtin id) r) (hg : Gl X x) (hm : X.mg x = none) (hv : bootBuiltins x = some (.builtin id)) (ha : PA X (e :: es) t) (hn : x ≠ "__name__" := by decide) (hdb : (x == ("__debug__" : Str)) = false := by decide)
    (he : starEach (e :: es) X.env = (false, eval e X.env) :: starEach es X.env := by rfl) (hpl : (backTo pos (starEach es X.env)).any (·.1) = false := by rfl) : PE X (.Call (.Name x p) (e :: es) [] pos) (tCB r t) := by
  intro pins s σ H Q I h
  refine wpAny_Call_Name_kw (ld_blt I hg hm hv ?_ hn hdb)
  exact PyProof.Rows.callWith_builtin1 (thn (ha pos pins s σ H _ I h) fun us s1 => L2.ex5 fun vs H1 I1 r1 q1 => hc pins s1 σ H1 vs us Q I1 r1 q1) he hpl
/-- T(e, ..), T a built-in type -/
theorem pe_callTy (hc : CallR X (.type T) r) (hg : Gl X x) (hm : X.mg x = none) (hv : bootBuiltins x = some (.type T)) (ha : PA X (e :: es) t) (hn : x ≠ "__name__" := by decide) (hdb : (x == ("__debug__" : Str)) = false := by decide)
    (he : starEach (e :: es) X.env = (false, eval e X.env) :: starEach es X.env := by rfl) (hpl : (backTo pos (starEach es X.env)).any (·.1) = false := by rfl) : PE X (.Call (.Name x p) (e :: es) [] pos) (tCB r t) := by
  intro pins s σ H Q I h
  refine wpAny_Call_Name_kw (ld_blt I hg hm hv ?_ hn hdb)
  exact PyProof.Rows.callWith_type1 (thn (ha pos pins s σ H _ I h) fun us s1 => L2.ex5 fun vs H1 I1 r1 q1 => hc pins s1 σ H1 vs us Q I1 r1 q1) he hpl
end
end L2

namespace HT
open PySem PyProof.Rows

/-- t < u of tuples of ints -/
def lexLt : List Int → List Int → Bool
  | [], [] => false
  | [], _ :: _ => true
  | _ :: _, [] => false
  | x :: xs, y :: ys => if x = y then lexLt xs ys else decide (x < y)
section
open PySem.SeqAt
open PySem.AutoSeq1 (wpAny_loadPart')
open PySem.MeetsSeq PySem.MeetsSeq2 PySem.MeetsSeq3

end

section
variable {prog : Program} {w : World} {A : Around} {E : Value → Shared → Prop} {s : Shared}

/-! ### t[a:b], not the whole -/
/-- a slice's bound as a place among n (d where it is left out) -/
def sIx (n d : Nat) : Option Int → Nat
  | none => d
  | some v => if v < 0 then (v + (n : Int)).toNat else min v.toNat n
theorem sIx_none (n d : Nat) : sIx n d none = d := rfl
theorem sIx_le (n d : Nat) (hd : d ≤ n) (o : Option Int) : sIx n d o ≤ n := by
  cases o with
  | none => exact hd
  | some v =>
    show (if v < 0 then (v + (n : Int)).toNat else min v.toNat n) ≤ n
    by_cases hv : v < 0
    · rw [if_pos hv]; omega
    · rw [if_neg hv]; exact Nat.min_le_right _ _
theorem clip_eq (v : Int) (n d : Nat) : (if v < 0 then max (v + (n : Int)) 0 else min v (n : Int)) = ((sIx n d (some v) : Nat) : Int) := by
  show (if v < 0 then max (v + (n : Int)) 0 else min v (n : Int)) = (((if v < 0 then (v + (n : Int)).toNat else min v.toNat n) : Nat) : Int)
  by_cases hv : v < 0
  · simp only [if_pos hv]; omega
  · simp only [if_neg hv]; omega
theorem adjust_gen (lo hi : Option Int) (n : Nat) : Builtin.Slice.sliceAdjust lo hi 1 (n : Int) = (((sIx n 0 lo : Nat) : Int), ((sIx n n hi : Nat) : Int)) := by
  have h1 : ¬ ((1 : Int) < 0) := by omega
  unfold Builtin.Slice.sliceAdjust
  simp only [h1, if_false]
  refine Prod.ext ?_ ?_
  · cases lo with
    | none => rfl
    | some v => exact clip_eq v n 0
  · cases hi with
    | none => rfl
    | some v => exact clip_eq v n n
theorem places_gen (i j : Nat) : Builtin.Slice.slicePlaces (i : Int) (j : Int) 1 = j - i := by
  unfold Builtin.Slice.slicePlaces
  have h1 : (1 : Int) > 0 := by omega
  simp only [h1, if_true, Int.ediv_one]
  split <;> omega
theorem slicePart_ {v : Value} {o : Option Int} {Q : Option Int → Shared → Prop} (p : IsPart v o) (h : Q o s) : wpAny (model prog w) A (Builtin.Slice.slicePartIndex v) Q E s := by
  cases p with
  | none => exact slicePart_none h
  | int i t => exact slicePart_int h
theorem sliceApplied_gen {sl : Addr} {vl vu : Value} {lo hi : Option Int} {n : Nat} {Q : Int × Int × Nat → Shared → Prop} (hs : s.heap.IsSliceOf sl vl vu .none) (pl : IsPart vl lo) (pu : IsPart vu hi)
    (h : Q (((sIx n 0 lo : Nat) : Int), 1, sIx n n hi - sIx n 0 lo) s) : wpAny (model prog w) A (Builtin.Slice.sliceApplied (.ref sl) (pure (n : Int))) Q E s := by
  obtain ⟨os, hos, hcs, hds⟩ := id hs
  unfold Builtin.Slice.sliceApplied Builtin.Slice.sliceFields
  refine wpAny_bind (wpAny_bind (wpAny_field hos hds (x := vl) rfl (wpAny_bind (wpAny_field hos hds (x := vu) rfl (wpAny_bind (wpAny_field hos hds (x := .none) rfl (wpAny_pure ?_)))))))
  refine wpAny_bind (slicePart_none ?_)
  show wpAny _ _ (if ((1 : Int) == 0) = true then _ else _) _ _ s
  rw [if_neg (by decide)]
  refine wpAny_bind (slicePart_ pl (wpAny_bind (slicePart_ pu (wpAny_bind (wpAny_pure ?_)))))
  show wpAny _ _ (match Builtin.Slice.sliceAdjust lo hi 1 (n : Int) with | (lo, hi) => pure (lo, (1 : Int), Builtin.Slice.slicePlaces lo hi 1)) _ _ s
  rw [adjust_gen lo hi n]
  show wpAny _ _ (pure (((sIx n 0 lo : Nat) : Int), (1 : Int), Builtin.Slice.slicePlaces ((sIx n 0 lo : Nat) : Int) ((sIx n n hi : Nat) : Int) 1)) _ _ s
  rw [places_gen]
  exact wpAny_pure h
theorem pick_gen (xs : Array Value) (i k : Nat) : ((List.range k).filterMap fun (m : Nat) => xs[((i : Int) + (m : Int) * 1).toNat]?).toArray = ((xs.toList.drop i).take k).toArray := by
  have e : (fun (m : Nat) => xs[((i : Int) + (m : Int) * 1).toNat]?) = fun m => xs[i + m]? := by
    funext m
    have : ((i : Int) + (m : Int) * 1).toNat = i + m := by omega
    rw [this]
  rw [e]
  have := pick_run xs i k
  rw [List.filterMap_map] at this
  have e2 : ((fun x => xs[x]?) ∘ fun x => i + x) = fun m => xs[i + m]? := rfl
  rw [e2] at this
  rw [this]

theorem getItem_tuple_cut {t sl : Addr} {items : Array Value} {vl vu : Value} {lo hi : Option Int} {Q : Value → Shared → Prop} (ht : IsTup s.heap t items) (hs : s.heap.IsSliceOf sl vl vu .none) (pl : IsPart vl lo) (pu : IsPart vu hi)
    (hw : ¬ (sIx items.size 0 lo = 0 ∧ sIx items.size items.size hi = items.size))
    (h : Q (.ref s.heap.objs.size) { s with heap := s.heap.push { cls := .type "tuple", data := .seq ((items.toList.drop (sIx items.size 0 lo)).take (sIx items.size items.size hi - sIx items.size 0 lo)).toArray } })
    (hsz : items.size ≤ sizeLine) : wpAny (model prog w) A (getItem (.ref t) (.ref sl)) Q E s := by
  have htake : sizeOk (.seq ((items.toList.drop (sIx items.size 0 lo)).take (sIx items.size items.size hi - sIx items.size 0 lo)).toArray) := by
    show ((items.toList.drop (sIx items.size 0 lo)).take (sIx items.size items.size hi - sIx items.size 0 lo)).toArray.size ≤ sizeLine
    rw [List.size_toArray, List.length_take, List.length_drop, Array.length_toList]
    omega
  have hj : sIx items.size items.size hi ≤ items.size := sIx_le _ _ (Nat.le_refl _) hi
  obtain ⟨os, hos, hcs, hds⟩ := id hs
  have hTs : s.TypeIs (.ref sl) "slice" := ⟨os, hos, hcs⟩
  unfold getItem
  try with_reducible refine wpAny_holding ?_
  first | refine wpAny_bind (wpAny_pure ?_) | skip
  refine wpAny_bind (wpAny_sequenceKey ht.typeIs (by decide) ?_)
  refine wpAny_bind (wpAny_callSpecial?_slot (name := Str.ofString "__getitem__") ht.typeIs PyProof.Rows.slot_tuple_getitem
    (wpAny_call_entry PyProof.Rows.slot_tuple_getitem ht.typeIs entry_tuple_getitem ?_ (args_tuple_getitem _ _)))
  show wpAny _ _ (Builtin.Tuple.tupleItemsOf (.ref t) >>= _) _ _ s
  refine wpAny_bind (tupleItemsOf_ ht ?_)
  refine wpAny_bind (wpAny_typeOf hTs ?_)
  rw [if_pos (by decide)]
  refine wpAny_bind (sliceApplied_gen hs pl pu ?_)
  have hno : ¬ ((((sIx items.size 0 lo : Nat) : Int) == 0 && (1 : Int) == 1 && (sIx items.size items.size hi - sIx items.size 0 lo) == items.size) = true) := by
    intro q
    rw [Bool.and_eq_true, Bool.and_eq_true] at q
    have q1 : ((sIx items.size 0 lo : Nat) : Int) = 0 := eq_of_beq q.1.1
    have q2 : sIx items.size items.size hi - sIx items.size 0 lo = items.size := eq_of_beq q.2
    exact hw ⟨by omega, by omega⟩
  show wpAny _ _ (if (((sIx items.size 0 lo : Nat) : Int) == 0 && (1 : Int) == 1 && (sIx items.size items.size hi - sIx items.size 0 lo) == items.size) = true then _ else _) _ _ s
  rw [if_neg hno, pick_gen]
  first
    | exact wpAny_bind (m := Builtin.Tuple.tupleExact _) (wpAny_newObj_type (wpAny_pure ⟨_, rfl, wpAny_pure h⟩) htake)
    | exact wpAny_bind (m := Builtin.Tuple.tupleExact _) (wpAny_newObj_type (wpAny_bind (wpAny_pure (wpAny_pure ⟨_, rfl, wpAny_pure h⟩))) htake)
    | exact wpAny_bind (wpAny_bind (m := Builtin.Tuple.tupleExact _) (wpAny_newObj_type (wpAny_pure (wpAny_pure ⟨_, rfl, wpAny_pure h⟩)) htake))
    | exact wpAny_bind (wpAny_bind (m := Builtin.Tuple.tupleExact _) (wpAny_newObj_type (wpAny_pure ⟨_, rfl, wpAny_pure h⟩) htake))
end
end HT

namespace L2
open PySem PySem.Spec PyProof.Rows

/-! ### the parts of a slice -/
abbrev TO := St → Hp → (Option Int → Hp → Prop) → Prop
/-- a slice's part (left out, or an int) -/
def PO (X : Cx) (e : Option Expr) (t : TO) : Prop :=
  ∀ (pins : List (Addr × Obj)) (s : Shared) (σ : St) (H : Hp) (Q : Option Int → Hp → Prop), Inv X pins σ H s → t σ H Q →
    wpAny (model X.prog X.w) X.A (evalPart e X.env) (fun u s' => ∃ o H', Inv X pins σ H' s' ∧ IsPart u o ∧ Q o H') X.xe s
def tNoPart : TO := fun _ H Q => Q none H
def tPart (t : TE) : TO := fun σ H Q => t σ H fun x H1 => ∃ i, x = .int i ∧ Q (some i) H1

section
variable {X : Cx} {e : Expr} {te : TE} {lo hi : Option Expr} {tl th : TO} {pos p2 : Pos}

theorem po_none : PO X none tNoPart := by
  intro pins s σ H Q I h
  rw [evalPart_none]
  exact wpAny_pure ⟨none, H, I, .none, h⟩
theorem po_some (h : PE X e te) : PO X (some e) (tPart te) := by
  intro pins s σ H Q I hw
  rw [evalPart_some]
  refine thn (h pins s σ H _ I hw) fun u s1 => L2.ex5 fun x H1 I1 r1 q1 => ?_
  obtain ⟨i, rfl, q⟩ := q1
  obtain ⟨t, rfl⟩ := r1
  exact ⟨some i, H1, I1, .int i t, q⟩

/-- what a slice of a value is, by values: the slice object stands at sl -/
def SlR (X : Cx) (r : V → Option Int → Option Int → Hp → VK → Prop) : Prop :=
  ∀ (pins : List (Addr × Obj)) (s : Shared) (σ : St) (H : Hp) (x : V) (v vl vu : Value) (lo hi : Option Int) (sl : Addr) (Q : VK), Inv X pins σ H s → RelV x v → s.heap.IsSliceOf sl vl vu .none → IsPart vl lo → IsPart vu hi → r x lo hi H Q →
    ∃ T id, typeLookup (.type T) "__getitem__" = pure (some (.builtin id)) ∧ s.TypeIs v T ∧ wpAny (model X.prog X.w) X.A (getItem v (.ref sl)) (EP X pins σ Q) X.xe s
def tSl (r : V → Option Int → Option Int → Hp → VK → Prop) (te : TE) (tl th : TO) : TE := fun σ H Q => te σ H fun x H1 => tl σ H1 fun l H2 => th σ H2 fun u H3 => r x l u H3 Q
/-- a[lo:hi], any a -/
theorem pe_slice {r : V → Option Int → Option Int → Hp → VK → Prop} (hr : SlR X r) (he : PE X e te) (hl : PO X lo tl) (hu : PO X hi th) : PE X (.Subscript e (.Slice lo hi none p2) pos) (tSl r te tl th) := by
  intro pins s σ H Q I h
  refine Subscript_ (thn (he pins s σ H _ I h) fun v s1 => L2.ex5 fun x H1 I1 r1 q1 => ?_)
  refine wpAny_Slice (thn (hl pins s1 σ H1 _ I1 q1) fun vl s2 ⟨l, H2, I2, pl, q2⟩ => thn (hu pins s2 σ H2 _ I2 q2) fun vu s3 => L2.ex5 fun u H3 I3 pu q3 => ?_)
  rw [evalPart_none]
  refine wpAny_pure ?_
  have I4 : Inv X pins σ H3 { s3 with heap := s3.heap.push { cls := .type "slice", data := .fields #[vl, vu, .none] } } := I3.kept (t' := s3.toks) fun b ob q => Heap.get?_push_of_some _ q
  obtain ⟨T, id, hT, ht, hg⟩ := hr pins { s3 with heap := s3.heap.push { cls := .type "slice", data := .fields #[vl, vu, .none] } } σ H3 x v vl vu l u s3.heap.objs.size Q I4 r1 (Heap.IsSliceOf.new ..) pl pu q3
  show wpAny (model X.prog X.w) X.A (subscriptTail e (.Slice lo hi none p2) v (.ref s3.heap.objs.size)) (EP X pins σ Q) X.xe { s3 with heap := s3.heap.push { cls := .type "slice", data := .fields #[vl, vu, .none] } }
  exact tail_any (ops := [.ref s3.heap.objs.size, v]) ht hT hg (by with_unfolding_all rfl)

/-- the items of xs[lo:hi] -/
def cutV (xs : List V) (lo hi : Option Int) : List V := (xs.drop (HT.sIx xs.length 0 lo)).take (HT.sIx xs.length xs.length hi - HT.sIx xs.length 0 lo)
theorem cutV_length (xs : List V) (lo hi : Option Int) : (cutV xs lo hi).length ≤ xs.length := by
  unfold cutV
  rw [List.length_take, List.length_drop]
  omega
/-- t[lo:hi], not the whole of it (the whole would be t itself) -/
def rSlT (K : PySem.W.Frag) : V → Option Int → Option Int → Hp → VK → Prop := fun x lo hi H Q => ∃ a xs, x = .ref a ∧ SqT K H a xs ∧
  ¬ (HT.sIx xs.length 0 lo = 0 ∧ HT.sIx xs.length xs.length hi = xs.length) ∧ ∀ p, H p = none → Q (.ref p) (upd H p (.tup (cutV xs lo hi)))
theorem sl_tup : SlR X (rSlT X.K) := by
  intro pins s σ H x v vl vu lo hi sl Q I rx hs pl pu h
  obtain ⟨a, xs, rfl, hx, hw, q⟩ := h
  cases rx
  obtain ⟨its, r, ht, hz⟩ := I.tuple hx
  have hlen : its.toArray.size = xs.length := by rw [List.size_toArray]; exact r.length.symm
  refine ⟨"tuple", _, PyProof.Rows.slot_tuple_getitem.lookup, ht.typeIs, ?_⟩
  refine HT.getItem_tuple_cut ht hs pl pu (by rw [hlen]; exact hw) ?_ (by rw [hlen]; exact hz)
  rw [hlen]
  refine ⟨.ref s.heap.objs.size, _, I.laid (t' := s.toks) (o := .tup (cutV xs lo hi)) (fun b ob q => Heap.get?_push_of_some _ q) (Nat.le_refl _) ?_, rfl, q _ (I.hok.fresh (Nat.le_refl _))⟩
  exact ⟨Nat.le_trans (cutV_length xs lo hi) hz, _, (r.drop (HT.sIx xs.length 0 lo)).take (HT.sIx xs.length xs.length hi - HT.sIx xs.length 0 lo), IsTup.new _ _⟩

/-! ### t < u, t + u -/
def rLtT (K : PySem.W.Frag) : R2 := fun x y H Q => ∃ a b ns ms, x = .ref a ∧ y = .ref b ∧ SqT K H a (ns.map V.int) ∧ SqT K H b (ms.map V.int) ∧ Q (.bl (HT.lexLt ns ms)) H
/-- t + u, t not empty: u empty gives t itself -/
def rCatT (K : PySem.W.Frag) : R2 := fun x y H Q => ∃ a b xs ys, x = .ref a ∧ y = .ref b ∧ SqT K H a xs ∧ SqT K H b ys ∧ xs ≠ [] ∧ xs.length + ys.length ≤ sizeLine ∧
  (ys = [] → Q (.ref a) H) ∧ (ys ≠ [] → ∀ p, H p = none → Q (.ref p) (upd H p (.tup (xs ++ ys))))
end
end L2

namespace L2
open PySem PySem.Spec PyProof.Rows

/-! ### places -/
/-- the place that an index of any sign means -/
def ixN (n : Nat) (i : Int) : Option Nat := if 0 ≤ i then (if i < n then some i.toNat else none) else if -(n : Int) ≤ i then some (i + n).toNat else none
def atI {α : Type} (xs : List α) (i : Int) : Option α := (ixN xs.length i).bind fun j => xs[j]?
theorem ixN_seq {n : Nat} {i : Int} {j : Nat} (h : ixN n i = some j) : seqIndex? i n = some j ∧ j < n ∧ -(n : Int) ≤ i ∧ i < n := by
  unfold ixN at h
  by_cases h0 : 0 ≤ i
  · rw [if_pos h0] at h
    by_cases h1 : i < n
    · rw [if_pos h1] at h
      have e : i.toNat = j := Option.some.inj h
      exact ⟨by rw [seqIndex_of h0 h1, e], by omega, by omega, h1⟩
    · rw [if_neg h1] at h; cases h
  · rw [if_neg h0] at h
    by_cases h1 : -(n : Int) ≤ i
    · rw [if_pos h1] at h
      have e : (i + n).toNat = j := Option.some.inj h
      exact ⟨by rw [seqIndex_neg (by omega) h1, e], by omega, h1, by omega⟩
    · rw [if_neg h1] at h; cases h
theorem atI_get {α : Type} {xs : List α} {i : Int} {v : α} (h : atI xs i = some v) : ∃ j, seqIndex? i xs.length = some j ∧ xs[j]? = some v ∧ j < xs.length ∧ -(xs.length : Int) ≤ i ∧ i < xs.length := by
  unfold atI at h
  cases e : ixN xs.length i with
  | none => rw [e] at h; cases h
  | some j =>
    rw [e] at h
    obtain ⟨h1, h2, h3, h4⟩ := ixN_seq e
    exact ⟨j, h1, h, h2, h3, h4⟩
/-! ### what may be subscripted -/
/-- what stands as an index of a plain subscript -/
def PlainIx (b : Expr) : Prop := ∀ o i, subscripted b false o i = operate [o, i] (getItem o i)
/-- a subscript by values -/
def IxR (X : Cx) (r : R2) : Prop :=
  ∀ (value slice : Expr) (pins : List (Addr × Obj)) (s : Shared) (σ : St) (H : Hp) (x y : V) (v u : Value) (Q : VK), Inv X pins σ H s → RelV x v → RelV y u → r x y H Q →
    subscripted slice false v u = operate [v, u] (getItem v u) → wpAny (model X.prog X.w) X.A (subscriptTail value slice v u) (EP X pins σ Q) X.xe s
/-- a call of a builtin's method by values: the receiver, the arguments -/
def MtR (X : Cx) (id : String) (r : V → List V → Hp → VK → Prop) : Prop :=
  ∀ (pins : List (Addr × Obj)) (s : Shared) (σ : St) (H : Hp) (x : V) (xs : List V) (v : Value) (us : List Value) (Q : VK), Inv X pins σ H s → RelV x v → Vals xs us → r x xs H Q →
    wpAny (model X.prog X.w) X.A (call (.builtin id) (v :: us)) (EP X pins σ Q) X.xe s
section
variable {X : Cx} {a b : Expr} {ta tb : TE} {pos : Pos}
/-- a[b] -/
theorem pe_ix {r : R2} (hr : IxR X r) (ha : PE X a ta) (hb : PE X b tb) (hs : PlainIx b) : PE X (.Subscript a b pos) (tOp r ta tb) := by
  intro pins s σ H Q I h
  exact Subscript_ (binT ha hb I h fun v u s2 x y H2 I2 rx ry q => hr a b pins s2 σ H2 x y v u Q I2 rx ry q (hs _ _))

def rIxL (K : PySem.W.Frag) : R2 := fun x y H Q => ∃ p xs i v, x = .ref p ∧ y = .int i ∧ SqL K H p xs ∧ atI xs i = some v ∧ Q v H
def rIxT (K : PySem.W.Frag) : R2 := fun x y H Q => ∃ p xs i v, x = .ref p ∧ y = .int i ∧ SqT K H p xs ∧ atI xs i = some v ∧ Q v H
def rIxS : R2 := fun x y H Q => ∃ z i c, x = .str z ∧ y = .int i ∧ z.length ≤ sizeLine ∧ atI z.cps.toList i = some c ∧ Q (.str ⟨#[c]⟩) H
theorem ix_list : IxR X (rIxL X.K) := by
  intro value slice pins s σ H x y v u Q I rx ry h hs
  obtain ⟨p, xs, i, z, rfl, rfl, hq, he, q⟩ := h
  cases rx
  obtain ⟨t, rfl⟩ := ry
  obtain ⟨its, r, pl, hz⟩ := I.list hq
  obtain ⟨j, h1, h2, h3, h4, h5⟩ := atI_get he
  obtain ⟨w, ew, rw'⟩ := r.get h2
  have hl := r.length
  have hn := line63
  have fin : EP X pins σ Q w s := ⟨z, H, I, rw', q⟩
  by_cases h0 : 0 ≤ i
  · have hj : i.toNat = j := by
      rw [seqIndex_of h0 h5] at h1
      exact Option.some.inj h1
    exact item_listR pl.isList h0 (by omega) (by rw [hj]; simpa using ew) fin hs
  · have hj : (i + (its.toArray.size : Int)).toNat = j := by
      rw [seqIndex_neg (by omega) h4] at h1
      rw [List.size_toArray, ← hl]
      exact Option.some.inj h1
    exact subscriptTail_builtinR (x := w) pl.isList.typeIs slot_list_getitem.lookup
      (wpAny_getItem_list_neg (Q := fun r s' => r = w ∧ EP X pins σ Q r s') pl.isList (by omega) (by rw [List.size_toArray] <;> omega) (by omega) (by rw [hj]; simpa using ew) ⟨rfl, fin⟩) hs
theorem ix_tup : IxR X (rIxT X.K) := by
  intro value slice pins s σ H x y v u Q I rx ry h hs
  obtain ⟨p, xs, i, z, rfl, rfl, hq, he, q⟩ := h
  cases rx
  obtain ⟨t, rfl⟩ := ry
  obtain ⟨its, r, pl, hz⟩ := I.tuple hq
  obtain ⟨j, h1, h2, h3, h4, h5⟩ := atI_get he
  obtain ⟨w, ew, rw'⟩ := r.get h2
  have hl := r.length
  have hn := line63
  have fin : EP X pins σ Q w s := ⟨z, H, I, rw', q⟩
  exact subscriptTail_builtinR (x := w) pl.typeIs slot_tuple_getitem.lookup
    (getItem_tuple (j := j) (Q := fun r s' => r = w ∧ EP X pins σ Q r s') pl (by omega) (by omega) (by rw [List.size_toArray, ← hl]; exact h1) (by simpa using ew) ⟨rfl, fin⟩) hs
/-- list, tuple or str -/
def rIx (K : PySem.W.Frag) : R2 := fun x y H Q => rIxL K x y H Q ∨ rIxT K x y H Q ∨ rIxS x y H Q
/-! ### xs[i] = v, any sign -/
def rSetL : V → V → V → Hp → (Hp → Prop) → Prop := fun o i v H Q => ∃ p xs k j, o = .ref p ∧ i = .int k ∧ H p = some (.lst xs) ∧ ixN xs.length k = some j ∧ Q (upd H p (.lst (xs.set j v)))
/-! ### slices -/
theorem slice_bounds (lo hi : Option Int) (n : Nat) : (sliceBounds lo hi none n).1 = ((HT.sIx n 0 lo : Nat) : Int) ∧ (sliceBounds lo hi none n).2.1 = ((HT.sIx n n hi : Nat) : Int) ∧ (sliceBounds lo hi none n).2.2 = 1 := by
  refine ⟨?_, ?_, rfl⟩
  · cases lo with
    | none => simp [sliceBounds, HT.sIx]
    | some i =>
      simp only [sliceBounds, HT.sIx, Option.getD_none, show (1 : Int) > 0 by decide, if_true]
      by_cases h : i < 0
      · simp only [h, if_true] <;> omega
      · simp only [h, if_false] <;> omega
  · cases hi with
    | none => simp [sliceBounds, HT.sIx]
    | some i =>
      simp only [sliceBounds, HT.sIx, Option.getD_none, show (1 : Int) > 0 by decide, if_true]
      by_cases h : i < 0
      · simp only [h, if_true] <;> omega
      · simp only [h, if_false] <;> omega
theorem slicePick_cut (its : List Value) (lo hi : Option Int) : slicePick its.toArray lo hi none = ((its.drop (HT.sIx its.length 0 lo)).take (HT.sIx its.length its.length hi - HT.sIx its.length 0 lo)).toArray := by
  obtain ⟨h1, h2, h3⟩ := slice_bounds lo hi its.toArray.size
  unfold slicePick
  rw [h1, h2, h3]
  simp only [sliceRange_one, pick_run, List.size_toArray] <;> rfl
/-- xs[lo:hi] of a list: a new list -/
def rSlL (K : PySem.W.Frag) : V → Option Int → Option Int → Hp → VK → Prop := fun x lo hi H Q => ∃ a xs, x = .ref a ∧ SqL K H a xs ∧ ∀ p, H p = none → Q (.ref p) (upd H p (.lst (cutV xs lo hi)))
theorem sl_list : SlR X (rSlL X.K) := by
  intro pins s σ H x v vl vu lo hi sl Q I rx hs pl pu h
  obtain ⟨a, xs, rfl, hx, q⟩ := h
  cases rx
  obtain ⟨its, r, ht, hz⟩ := I.list hx
  have hlen := r.length
  refine ⟨"list", _, slot_list_getitem.lookup, ht.isList.typeIs, ?_⟩
  refine wpAny_getItem_list_slice ht.isList hs pl pu .none (by simp) ?_ (by rw [List.size_toArray] <;> omega)
  rw [slicePick_cut, ← hlen]
  refine ⟨.ref s.heap.objs.size, _, I.laid (t' := s.toks) (o := .lst (cutV xs lo hi)) (fun b ob q => Heap.get?_push_of_some _ q) (Nat.le_refl _) ?_, rfl, q _ (I.hok.fresh (Nat.le_refl _))⟩
  exact ⟨Nat.le_trans (cutV_length xs lo hi) hz, _, 0, (r.drop (HT.sIx xs.length 0 lo)).take (HT.sIx xs.length xs.length hi - HT.sIx xs.length 0 lo), Heap.get?_push_size _ rfl⟩

/-! ### in, not in: flat items -/
def flatV : V → Bool
  | .non => true
  | .bl _ => true
  | .int _ => true
  | .str _ => true
  | _ => false
/-- == of flat values -/
def eqV : V → V → Bool
  | .non, .non => true
  | .bl a, .bl b => a == b
  | .bl a, .int b => (if a then 1 else 0) == b
  | .int a, .bl b => a == (if b then 1 else 0)
  | .int a, .int b => a == b
  | .str a, .str b => a == b
  | _, _ => false
theorem eqAt_V {A : Around} {s : Shared} {y x : V} {u v : Value} (ry : RelV y u) (rx : RelV x v) (fy : flatV y = true) (fx : flatV x = true) : SeqAt.EqAt A s u v (eqV y x) := by
  cases y with
  | non =>
    cases ry
    cases x with
    | non => cases rx; exact SeqAt.EqAt.same _
    | bl b => cases rx; exact SeqAt.EqAt.none_bool b
    | int b => obtain ⟨t, rfl⟩ := rx; exact SeqAt.EqAt.none_int b t
    | str b => obtain ⟨t, rfl⟩ := rx; exact SeqAt.EqAt.none_str b t
    | _ => exact absurd (show false = true from fx) Bool.false_ne_true
  | bl a =>
    cases ry
    cases x with
    | non => cases rx; exact SeqAt.EqAt.bool_none a
    | bl b => cases rx; exact SeqAt.EqAt.bool_bool a b
    | int b => obtain ⟨t, rfl⟩ := rx; exact SeqAt.EqAt.bool_int a b t
    | str b => obtain ⟨t, rfl⟩ := rx; exact SeqAt.EqAt.bool_str a b t
    | _ => exact absurd (show false = true from fx) Bool.false_ne_true
  | int a =>
    obtain ⟨t', rfl⟩ := ry
    cases x with
    | non => cases rx; exact SeqAt.EqAt.int_none a t'
    | bl b => cases rx; exact SeqAt.EqAt.int_bool a t' b
    | int b => obtain ⟨t, rfl⟩ := rx; exact SeqAt.EqAt.int_int a t' b t
    | str b => obtain ⟨t, rfl⟩ := rx; exact SeqAt.EqAt.int_str a t' b t
    | _ => exact absurd (show false = true from fx) Bool.false_ne_true
  | str a =>
    obtain ⟨t', rfl⟩ := ry
    cases x with
    | non => cases rx; exact SeqAt.EqAt.str_none a t'
    | bl b => cases rx; exact SeqAt.EqAt.str_bool a t' b
    | int b => obtain ⟨t, rfl⟩ := rx; exact SeqAt.EqAt.str_int a t' b t
    | str b => obtain ⟨t, rfl⟩ := rx; exact SeqAt.EqAt.str_str a t' b t
    | _ => exact absurd (show false = true from fx) Bool.false_ne_true
  | _ => exact absurd (show false = true from fy) Bool.false_ne_true
/-- the items' answers, read off the values (a value's own answer does not lean on its token) -/
def eqU (x : V) (u : Value) : Bool := match u with
  | .none => eqV .non x
  | .bool b => eqV (.bl b) x
  | .int i _ => eqV (.int i) x
  | .str z _ => eqV (.str z) x
  | _ => false
def inV (x : V) (xs : List V) : Bool := xs.any fun y => eqV y x
/-- x in a list or tuple of flat items -/
def rIn (K : PySem.W.Frag) (neg : Bool) : R2 := fun x y H Q => ∃ p xs, y = .ref p ∧ (SqL K H p xs ∨ SqT K H p xs) ∧ flatV x = true ∧ xs.all flatV = true ∧ Q (.bl (if neg then !inV x xs else inV x xs)) H
/-! ### len, list(x), tuple(x) of any list or tuple that is read -/
theorem call_len_seq : CallR X (.builtin "len") (fun xs H Q => ∃ p ys, xs = [.ref p] ∧ (SqL X.K H p ys ∨ SqT X.K H p ys) ∧ Q (.int ys.length) H) := by
  intro pins s σ H xs us Q I r h
  obtain ⟨p, ys, rfl, hq, q⟩ := h
  obtain ⟨u, rfl, rx⟩ := vals1 r
  cases rx
  have hn := line63
  rcases hq with hq | hq
  · obtain ⟨its, r', pl, hz⟩ := I.list hq
    have hlen := r'.length
    exact Calls.call_len_list pl.isList (by simp only [List.size_toArray] <;> omega) ⟨.int ys.length, H, I.tok _, ⟨s.toks + 1, by rw [List.size_toArray, hlen]⟩, q⟩
  · obtain ⟨its, r', pl, hz⟩ := I.tuple hq
    have hlen := r'.length
    exact len_tuple pl (by simp only [List.size_toArray] <;> omega) ⟨.int ys.length, H, I.tok _, ⟨s.toks + 1, by rw [List.size_toArray, hlen]⟩, q⟩
theorem call_list_of : CallR X (.type "list") (fun xs H Q => ∃ p ys, xs = [.ref p] ∧ (SqL X.K H p ys ∨ SqT X.K H p ys) ∧ ∀ l, H l = none → Q (.ref l) (upd H l (.lst ys))) := by
  intro pins s σ H xs us Q I r h
  obtain ⟨p, ys, rfl, hq, q⟩ := h
  obtain ⟨u, rfl, rx⟩ := vals1 r
  cases rx
  have fin : ∀ (its : List Value), Vals ys its → ys.length ≤ sizeLine → ∀ (h' : Heap) (c' : Nat), (∀ b o', s.heap.get? b = some o' → h'.get? b = some o') →
      h'.get? s.heap.objs.size = some { cls := .type "list", dict := none, data := .seq its.toArray c', slots := #[] } → EP X pins σ Q (.ref s.heap.objs.size) { s with heap := h' } := fun its r' hz h' c' kp e =>
    ⟨.ref s.heap.objs.size, _, I.laid (t' := s.toks) kp (Nat.le_refl _) (show ObjOk X.prog X.w _ h' _ (.lst ys) from ⟨hz, its, c', r', e⟩), rfl, q _ (I.hok.fresh (Nat.le_refl _))⟩
  rcases hq with hq | hq
  · obtain ⟨its, r', pl, hz⟩ := I.list hq
    have hlen := r'.length
    obtain ⟨o, ho, hc, n, hd⟩ := pl.isList
    exact call_list_seq p (.inl rfl) ho hc hd (fun h' c' kp e => fin its r' hz h' c' kp e) (by simp only [List.size_toArray] <;> omega)
  · obtain ⟨its, r', pl, hz⟩ := I.tuple hq
    have hlen := r'.length
    obtain ⟨o, ho, hc, n, hd⟩ := pl
    exact call_list_seq p (.inr rfl) ho hc hd (fun h' c' kp e => fin its r' hz h' c' kp e) (by simp only [List.size_toArray] <;> omega)
/-! ### the call of a builtin's method: o.m(..) -/
/-- the value is of that builtin type -/
def tyV (K : PySem.W.Frag) (T : String) (x : V) (H : Hp) : Prop := match x with
  | .str _ => T = "str"
  | .int _ => T = "int"
  | .ref p => (T = "list" ∧ ∃ xs, SqL K H p xs) ∨ (T = "tuple" ∧ ∃ o, K.lookup p = some o ∧ o.cls = .type "tuple" ∧ o.dict = none) ∨
      (T = "dict" ∧ ((∃ kvs, H p = some (.dK kvs)) ∨ ∃ kvs, H p = some (.dT kvs))) ∨ (T = "set" ∧ ∃ S n, H p = some (.set S n))
  | _ => False
theorem tyV_is {pins : List (Addr × Obj)} {σ : St} {H : Hp} {s : Shared} {T : String} {x : V} {v : Value} (I : Inv X pins σ H s) (r : RelV x v) (ty : tyV X.K T x H) :
    s.TypeIs v T ∧ ∀ a, v = .ref a → ∃ ob, s.heap.get? a = some ob ∧ ob.dict = none := by
  cases x with
  | str z =>
    obtain ⟨t, rfl⟩ := r
    cases (show T = "str" from ty)
    exact ⟨typeIs_str s z t, fun _ e => nomatch e⟩
  | int i =>
    obtain ⟨t, rfl⟩ := r
    cases (show T = "int" from ty)
    exact ⟨typeIs_int s i t, fun _ e => nomatch e⟩
  | ref p =>
    cases r
    rcases ty with ⟨rfl, xs, hq⟩ | ⟨rfl, o, hk, hc, hd⟩ | ⟨rfl, hk⟩ | ⟨rfl, S, n, hk⟩
    · obtain ⟨its, _, pl, _⟩ := I.list hq
      refine ⟨pl.isList.typeIs, fun a e => ?_⟩
      cases e
      obtain ⟨o, n, e, c, hd, _⟩ := pl
      exact ⟨o, e, hd⟩
    · refine ⟨⟨o, I.kIn p o hk, hc⟩, fun a e => ?_⟩
      cases e
      exact ⟨o, I.kIn _ o hk, hd⟩
    · have z : ∃ o, s.heap.get? p = some o ∧ o.ExactDict := by
        rcases hk with ⟨kvs, hk⟩ | ⟨kvs, hk⟩
        · obtain ⟨_, _, _, _, o, _, _, e, ex, _⟩ := I.hok p _ hk
          exact ⟨o, e, ex⟩
        · obtain ⟨_, _, _, _, o, _, _, e, ex, _⟩ := I.hok p _ hk
          exact ⟨o, e, ex⟩
      obtain ⟨o, e, ex⟩ := z
      refine ⟨⟨o, e, ex.1⟩, fun a e2 => ?_⟩
      cases e2
      exact ⟨o, e, ex.2.1⟩
    · obtain ⟨o, _, _, _, e, ex, _⟩ := I.hok p _ hk
      refine ⟨⟨o, e, ex.1⟩, fun a e2 => ?_⟩
      cases e2
      exact ⟨o, e, ex.2.1⟩
  | _ => exact False.elim ty
def tBM0 (K : PySem.W.Frag) (T : String) (r : V → List V → Hp → VK → Prop) (to : TE) : TE := fun σ H Q => to σ H fun x H1 => tyV K T x H1 ∧ r x [] H1 Q
def tBM (K : PySem.W.Frag) (T : String) (r : V → List V → Hp → VK → Prop) (to : TE) (t : TA) : TE := fun σ H Q => to σ H fun x H1 => tyV K T x H1 ∧ t σ H1 fun xs H2 => r x xs H2 Q
variable {o e : Expr} {es : List Expr} {to : TE} {t : TA} {name : Str} {apos cpos : Pos} {T id : String} {r : V → List V → Hp → VK → Prop}
theorem pe_bm (pa : PlainAttrs T) (slot : Slot T name id) (hty : typeOf (.builtin id) = pure (.type "method_descriptor")) (hm : MtR X id r) (ho : PE X o to) (ha : PA X (e :: es) t)
    (hbase : attributeBase o name X.env (eval o X.env) = eval o X.env := by rfl)
    (hfew : ((backTo cpos (starEach (e :: es) X.env)).all (fun x => !x.1) && (backToKw cpos (keywordEach [] X.env)).all (fun x => x.1.isSome)
      && decide ((e :: es).length + ([] : List Keyword).length + (if ([] : List Keyword).isEmpty then 0 else 1) < 30)) = true := by rfl)
    (hline : (apos.endLine == cpos.line) = true := by rfl) (hs : starEach (e :: es) X.env = (false, eval e X.env) :: starEach es X.env := by rfl) (hplain : (backTo cpos (starEach es X.env)).any (·.1) = false := by rfl) :
    PE X (.Call (.Attribute o name apos) (e :: es) [] cpos) (tBM X.K T r to t) := by
  intro pins s σ H Q I h
  refine wpAny_Call_method_late hbase hfew hline rfl (thn (ho pins s σ H _ I h) fun v s1 => L2.ex5 fun x H1 I1 r1 hq_ => ?_)
  obtain ⟨ty, q1⟩ := hq_
  obtain ⟨h1, h2⟩ := tyV_is I1 r1 ty
  refine ⟨T, id, pa, slot, hty, h1, h2, ?_⟩
  have hA := ha cpos pins s1 σ H1 _ I1 q1
  rw [hs] at hA ⊢
  refine Calls.callWith_builtin (by show (false || (backTo cpos (starEach es X.env)).any (·.1)) = false; rw [hplain] <;> rfl) (Calls.evalArgs_plain ?_)
  exact thn hA fun us s2 => L2.ex5 fun vs H2 I2 r2 q2 => hm pins s2 σ H2 x vs v us Q I2 r1 r2 q2
/- xs.append(e), list.index on a module's tuple .. are MtR facts of 06m -/
end
end L2

namespace L2
open PySem PySem.Spec PyProof.Rows

def MtM (X : Cx) (id : String) (r : V → List V → Hp → VK → Prop) : Prop :=
  ∀ (pins : List (Addr × Obj)) (s : Shared) (σ : St) (H : Hp) (x : V) (xs : List V) (v : Value) (us : List Value) (Q : VK), Inv X pins σ H s → RelV x v → Vals xs us → r x xs H Q →
    wpAny (model X.prog X.w) X.A (call (.builtin id) (v :: us)) (EP X pins σ Q) X.xe s

/-! ### lists of values -/
theorem Vals.one : ∀ {x : V} {us : List Value}, Vals [x] us → ∃ u, us = [u] ∧ RelV x u
  | _, _, .cons r .nil => ⟨_, rfl, r⟩
section
variable {X : Cx} {pins : List (Addr × Obj)} {σ : St} {H : Hp} {s : Shared} {l b : Addr} {xs ys zs : List V}

/-! ### the two steps: a tracked list is rewritten, a new list is laid -/
theorem Inv.lset {its its' : List Value} {n : Nat} {f : Array Value → Array Value} {t' : Nat} (I : Inv X pins σ H s) (hH : H l = some (.lst xs))
    (e : s.heap.get? l = some { cls := .type "list", data := .seq its.toArray n }) (hf : f its.toArray = its'.toArray) (hv : Vals ys its') (hz : ys.length ≤ sizeLine) :
    Inv X pins σ (upd H l (.lst ys)) { s with heap := s.heap.update l (Obj.mapSeq f), toks := t' } := by
  have q := PySem.IsL.update e f
  rw [hf] at q
  refine I.write (x := l) (e := l) (by rw [hH]; exact trivial) (.inl rfl) (fun b' u hb hu => (Heap.get?_update_other s.heap (Obj.mapSeq f) (Ne.symm hb)).trans hu) ⟨_, q⟩ ?_
  exact ⟨hz, its', _, hv, q⟩
theorem Inv.lstM (I : Inv X pins σ H s) (hH : H l = some (.lst xs)) : xs.length ≤ sizeLine ∧ ∃ (its : List Value) (n : Nat), Vals xs its ∧ xs.length = its.length ∧ s.heap.get? l = some { cls := .type "list", data := .seq its.toArray n } := by
  obtain ⟨z, its, n, r, e⟩ := I.hok l _ hH
  exact ⟨z, its, n, r, r.length, e⟩

theorem notLongL {n : Nat} (h : n ≤ sizeLine) : Builtin.List.listTooLong n = false := by
  unfold Builtin.List.listTooLong
  exact decide_eq_false (by omega)
end

section
variable {X : Cx}

/-! ### methods -/
def rAppend : V → List V → Hp → VK → Prop := fun x vs H Q => ∃ l xs y, x = .ref l ∧ vs = [y] ∧ H l = some (.lst xs) ∧ xs.length < sizeLine ∧ Q .non (upd H l (.lst (xs ++ [y])))
theorem mt_append : MtM X "list.append" rAppend := by
  intro pins s σ H x vs v us Q I rx rv h
  obtain ⟨l, xs, y, rfl, rfl, hH, hz, q⟩ := h
  cases rx
  obtain ⟨u, rfl, ru⟩ := rv.one
  obtain ⟨z, its, n, r, hl, e⟩ := I.lstM hH
  refine call_meets F.slot_list_append ⟨_, e, rfl⟩ F.entry_list_append (F.args_list_append_2 _ _) (PySem.list_append l its.toArray n u (by rw [List.size_toArray]; omega)) ⟨e, ?_⟩
  refine ⟨.non, _, I.lset (its' := its ++ [u]) hH e (by simp) (r.append (.cons ru .nil)) ?_, rfl, q⟩
  rw [List.length_append, List.length_singleton]
  omega

def rExtend : V → List V → Hp → VK → Prop := fun x vs H Q => ∃ l b xs zs, x = .ref l ∧ vs = [.ref b] ∧ H l = some (.lst xs) ∧ H b = some (.lst zs) ∧ xs.length + zs.length ≤ sizeLine ∧ Q .non (upd H l (.lst (xs ++ zs)))
theorem mt_extend : MtM X "list.extend" rExtend := by
  intro pins s σ H x vs v us Q I rx rv h
  obtain ⟨l, b, xs, zs, rfl, rfl, hH, hB, hz, q⟩ := h
  cases rx
  obtain ⟨u, rfl, ru⟩ := rv.one
  cases ru
  obtain ⟨z, its, n, r, hl, e⟩ := I.lstM hH
  obtain ⟨z2, its2, n2, r2, hl2, e2⟩ := I.lstM hB
  have hsz : its.toArray.size + its2.toArray.size ≤ sizeLine := by rw [List.size_toArray, List.size_toArray]; omega
  have hlong : ¬ (!its.toArray.isEmpty && Builtin.List.listTooLong (its.toArray.size + its2.toArray.size)) = true := by
    rw [notLongL hsz, Bool.and_false]
    exact Bool.false_ne_true
  refine call_meets F.slot_list_extend ⟨_, e, rfl⟩ F.entry_list_extend (F.args_list_extend_2 _ _)
    (AutoSeq1.list_extend_list_list_0 l its.toArray n b its2.toArray n2 hlong (by rw [List.size_toArray]; omega) (by omega)) ⟨e, e2, ?_⟩
  refine ⟨.non, _, I.lset (its' := its ++ its2) hH e (by simp) (r.append r2) ?_, rfl, q⟩
  rw [List.length_append]
  omega

def rPop : V → List V → Hp → VK → Prop := fun x vs H Q => ∃ l xs y, x = .ref l ∧ vs = [] ∧ H l = some (.lst xs) ∧ xs[xs.length - 1]? = some y ∧ Q y (upd H l (.lst xs.dropLast))
def rPopAt : V → List V → Hp → VK → Prop := fun x vs H Q => ∃ l xs i k y, x = .ref l ∧ vs = [.int i] ∧ H l = some (.lst xs) ∧ -(2 ^ 63) ≤ i ∧ i < 2 ^ 63 ∧ seqIndex? i xs.length = some k ∧ xs[k]? = some y ∧ Q y (upd H l (.lst (xs.eraseIdx k)))
def rReverse : V → List V → Hp → VK → Prop := fun x vs H Q => ∃ l xs, x = .ref l ∧ vs = [] ∧ H l = some (.lst xs) ∧ Q .non (upd H l (.lst xs.reverse))
def rClear : V → List V → Hp → VK → Prop := fun x vs H Q => ∃ l xs, x = .ref l ∧ vs = [] ∧ H l = some (.lst xs) ∧ Q .non (upd H l (.lst []))
/-! ### list + list, list += list, list * int -/
def rCat : R2 := fun x y H Q => ∃ l b xs zs, x = .ref l ∧ y = .ref b ∧ H l = some (.lst xs) ∧ H b = some (.lst zs) ∧ xs.length + zs.length ≤ sizeLine ∧ ∀ p, H p = none → Q (.ref p) (upd H p (.lst (xs ++ zs)))
/-- a list times an int (a negative one is nothing) -/
def rRep : R2 := fun x y H Q => ∃ l k xs, x = .ref l ∧ y = .int k ∧ H l = some (.lst xs) ∧ -(2 ^ 63) ≤ k ∧ k < 2 ^ 63 ∧ xs.length * k.toNat ≤ sizeLine ∧
  ∀ p, H p = none → Q (.ref p) (upd H p (.lst (List.replicate k.toNat xs).flatten))
/-! ### del xs[i] -/
end

/-! ### xs[a:b] = ys -/
section
variable {prog : Program} {w : World} {A : Around} {E : Value → Shared → Prop} {s : Shared}
end

section
variable {X : Cx}
end
end L2

namespace L2
open PySem PySem.Spec PyProof.Rows

/-! ### lists of pairs as tables -/
section
variable {κ : Type} [DecidableEq κ]
def valV (kvs : List (κ × V)) (k : κ) : Option V := (kvs.find? fun kv => decide (kv.1 = k)).map (·.2)
/-- in its place, or at the end -/
def putK (kvs : List (κ × V)) (k : κ) (v : V) : List (κ × V) :=
  if (kvs.any fun kv => decide (kv.1 = k)) = true then kvs.map (fun kv => if kv.1 = k then (kv.1, v) else kv) else kvs ++ [(k, v)]
def dropK (kvs : List (κ × V)) (k : κ) : List (κ × V) := kvs.filter fun kv => decide (kv.1 ≠ k)

theorem valV_pos {p : κ × V} {r : List (κ × V)} {k : κ} (e : p.1 = k) : valV (p :: r) k = some p.2 := by simp [valV, List.find?_cons, e]
theorem valV_neg {p : κ × V} {r : List (κ × V)} {k : κ} (e : ¬ p.1 = k) : valV (p :: r) k = valV r k := by simp [valV, List.find?_cons, e]
theorem valV_any (k : κ) : ∀ kvs : List (κ × V), (kvs.any fun kv => decide (kv.1 = k)) = (valV kvs k).isSome
  | [] => rfl
  | p :: r => by
    rw [List.any_cons]
    by_cases e : p.1 = k
    · simp only [valV_pos e, decide_eq_true e, Bool.true_or, Option.isSome_some]
    · rw [valV_neg e, decide_eq_false e, Bool.false_or]; exact valV_any k r
theorem valV_map (k j : κ) (y : V) : ∀ kvs : List (κ × V), valV (kvs.map fun kv => if kv.1 = k then (kv.1, y) else kv) j = (valV kvs j).map fun x => if j = k then y else x
  | [] => rfl
  | p :: r => by
    have ih := valV_map k j y r
    rw [List.map_cons]
    by_cases h : p.1 = k
    · rw [if_pos h]
      by_cases e : p.1 = j
      · rw [valV_pos (p := (p.1, y)) e, valV_pos e, Option.map_some, if_pos (e.symm.trans h)]
      · rw [valV_neg (p := (p.1, y)) e, valV_neg e, ih]
    · rw [if_neg h]
      by_cases e : p.1 = j
      · rw [valV_pos (p := p) e, valV_pos e, Option.map_some, if_neg (fun z => h (e.trans z))]
      · rw [valV_neg (p := p) e, valV_neg e, ih]
theorem valV_snoc (k j : κ) (y : V) : ∀ kvs : List (κ × V), valV kvs k = none → valV (kvs ++ [(k, y)]) j = if j = k then some y else valV kvs j
  | [], _ => by
    by_cases e : k = j
    · rw [if_pos e.symm]; exact valV_pos (p := (k, y)) e
    · rw [if_neg (fun z => e z.symm)]; exact valV_neg (p := (k, y)) e
  | p :: r, hn => by
    rw [List.cons_append]
    have hk : ¬ p.1 = k := fun z => by rw [valV_pos z] at hn; cases hn
    rw [valV_neg hk] at hn
    have ih := valV_snoc k j y r hn
    by_cases e : p.1 = j
    · rw [valV_pos e, valV_pos e, if_neg (fun z => hk (e.trans z))]
    · rw [valV_neg e, valV_neg e, ih]
theorem valV_put (kvs : List (κ × V)) (k j : κ) (y : V) : valV (putK kvs k y) j = if j = k then some y else valV kvs j := by
  unfold putK
  by_cases a : (kvs.any fun kv => decide (kv.1 = k)) = true
  · rw [if_pos a, valV_map]
    rw [valV_any] at a
    by_cases e : j = k
    · obtain ⟨x, hx⟩ := Option.isSome_iff_exists.mp a
      rw [if_pos e, e, hx, Option.map_some, if_pos rfl]
    · rw [if_neg e]
      cases valV kvs j with
      | none => rfl
      | some x => rw [Option.map_some, if_neg e]
  · rw [if_neg a]
    refine valV_snoc k j y kvs ?_
    rw [valV_any] at a
    cases q : valV kvs k with
    | none => rfl
    | some x => rw [q] at a; exact (a rfl).elim
theorem length_putK (kvs : List (κ × V)) (k : κ) (v : V) : (putK kvs k v).length ≤ kvs.length + 1 := by
  unfold putK
  split
  · rw [List.length_map]; omega
  · rw [List.length_append, List.length_cons, List.length_nil]; omega
theorem RelO.isSome_eq {o : Option V} {u : Option Value} (r : RelO o u) : o.isSome = u.isSome := by
  cases o with
  | none => cases u with
    | none => rfl
    | some _ => exact (show False from r).elim
  | some _ => cases u with
    | none => exact (show False from r).elim
    | some _ => rfl
/-- raw tables of the same keys -/
theorem KV.val {kvs : List (κ × V)} {vs : List (κ × Value)} (r : KV kvs vs) (k : κ) : RelO (valV kvs k) (valueAt vs k) := by
  unfold KV at r
  induction r with
  | nil => exact True.intro
  | @cons p q ps qs h t ih =>
    obtain ⟨h1, h2⟩ := h
    by_cases e : p.1 = k
    · have e' : q.1 = k := h1.symm.trans e
      have b : valueAt (q :: qs) k = some q.2 := by simp [valueAt, List.find?_cons, e']
      rw [valV_pos e, b]; exact h2
    · have e' : ¬ q.1 = k := fun z => e (h1.trans z)
      have b : valueAt (q :: qs) k = valueAt qs k := by simp [valueAt, List.find?_cons, e']
      rw [valV_neg e, b]; exact ih
theorem KV.any {kvs : List (κ × V)} {vs : List (κ × Value)} (r : KV kvs vs) (k : κ) : (kvs.any fun kv => decide (kv.1 = k)) = vs.any fun kv => decide (kv.1 = k) := by
  unfold KV at r
  induction r with
  | nil => rfl
  | cons h t ih => rw [List.any_cons, List.any_cons, ih, h.1]
theorem KV.repl {kvs : List (κ × V)} {vs : List (κ × Value)} (r : KV kvs vs) (k : κ) {y : V} {u : Value} (ry : RelV y u) :
    KV (kvs.map fun kv => if kv.1 = k then (kv.1, y) else kv) (vs.map fun kv => if kv.1 = k then (kv.1, u) else kv) := by
  unfold KV at r ⊢
  induction r with
  | nil => exact .nil
  | @cons p q ps qs h t ih =>
    rw [List.map_cons, List.map_cons]
    refine .cons ?_ ih
    obtain ⟨h1, h2⟩ := h
    by_cases e : p.1 = k
    · rw [if_pos e, if_pos (h1.symm.trans e)]; exact ⟨h1, ry⟩
    · rw [if_neg e, if_neg (fun z => e (h1.trans z))]; exact ⟨h1, h2⟩
theorem KV.put {kvs : List (κ × V)} {vs : List (κ × Value)} (r : KV kvs vs) (k : κ) {y : V} {u : Value} (ry : RelV y u) : KV (putK kvs k y) (stored vs k u) := by
  unfold putK stored
  rw [r.any k]
  by_cases e : (vs.any fun kv => decide (kv.1 = k)) = true
  · rw [if_pos e, if_pos e]; exact r.repl k ry
  · rw [if_neg e, if_neg e]; exact Paired.snoc r ⟨rfl, ry⟩
theorem KV.keys {kvs : List (κ × V)} {vs : List (κ × Value)} (r : KV kvs vs) : kvs.map (·.1) = vs.map (·.1) := by
  unfold KV at r
  induction r with
  | nil => rfl
  | cons h t ih => rw [List.map_cons, List.map_cons, ih, h.1]
theorem KV.length {kvs : List (κ × V)} {vs : List (κ × Value)} (r : KV kvs vs) : kvs.length = vs.length := Paired.length r
end


/-! ### a tracked dict, its keys ints and texts or tuples of these -/
theorem kV_is {P : Program} {w : World} {k : Key} {u : Value} (r : RelV (kV k) u) : (mixKind P w).is k u = true := by
  cases k with
  | inl i => obtain ⟨t, e⟩ := (show ∃ t, u = Value.int i t from r); subst e; exact mixKind_int P w i t
  | inr x => obtain ⟨t, e⟩ := (show ∃ t, u = Value.str x t from r); subst e; exact mixKind_str P w x t
theorem items_are {P : Program} {w : World} : ∀ {ks : List Key} {us : List Value}, Vals (ks.map kV) us → ItemsAre (mixKind P w) ks us
  | [], _, r => by rw [List.map_nil] at r; cases r; exact .nil
  | k :: ks, _, r => by
    rw [List.map_cons] at r
    cases r with
    | cons h t => exact .cons (kV_is h) (items_are t)

/-- raw entries of a dict with tuple keys -/
abbrev KT (H : Hp) : List (List Key × V) → List (List Key × Addr × Value) → Prop := Paired fun p q => p.1 = q.1 ∧ H q.2.1 = some (.tup (p.1.map kV)) ∧ RelV p.2 q.2.2
theorem KT.val {H : Hp} {kvs : List (List Key × V)} {xs : List (List Key × Addr × Value)} (r : KT H kvs xs) (k : List Key) : RelO (valV kvs k) ((atKey xs k).map (·.2)) := by
  induction r with
  | nil => exact True.intro
  | @cons p q ps qs h t ih =>
    obtain ⟨h1, _, h2⟩ := h
    by_cases e : p.1 = k
    · have e' : q.1 = k := h1.symm.trans e
      have b : atKey (q :: qs) k = some q.2 := by simp [atKey, List.find?_cons, e']
      rw [valV_pos e, b]; exact h2
    · have e' : ¬ q.1 = k := fun z => e (h1.trans z)
      have b : atKey (q :: qs) k = atKey qs k := by simp [atKey, List.find?_cons, e']
      rw [valV_neg e, b]; exact ih
theorem KT.repl {H : Hp} {kvs : List (List Key × V)} {xs : List (List Key × Addr × Value)} (r : KT H kvs xs) (k : List Key) {y : V} {u : Value} (ry : RelV y u) :
    KT H (kvs.map fun kv => if kv.1 = k then (kv.1, y) else kv) (xs.map (putAt k u)) := by
  induction r with
  | nil => exact .nil
  | @cons p q ps qs h t ih =>
    rw [List.map_cons, List.map_cons]
    refine .cons ?_ ih
    obtain ⟨h1, h2, h3⟩ := h
    unfold putAt
    by_cases e : p.1 = k
    · rw [if_pos e, if_pos (h1.symm.trans e)]; exact ⟨h1, h2, ry⟩
    · rw [if_neg e, if_neg (fun z => e (h1.trans z))]; exact ⟨h1, h2, h3⟩
theorem KT.put {H : Hp} {kvs : List (List Key × V)} {xs : List (List Key × Addr × Value)} (r : KT H kvs xs) (k : List Key) {b : Addr} {y : V} {u : Value} (hb : H b = some (.tup (k.map kV))) (ry : RelV y u) :
    KT H (putK kvs k y) (storedH xs k b u) := by
  have e : (kvs.any fun kv => decide (kv.1 = k)) = (atKey xs k).isSome := by
    rw [valV_any, (r.val k).isSome_eq, Option.isSome_map]
  unfold putK storedH
  rw [e]
  by_cases q : (atKey xs k).isSome = true
  · rw [if_pos q, if_pos q]; exact r.repl k ry
  · rw [if_neg q, if_neg q]; exact Paired.snoc r ⟨rfl, hb, ry⟩
theorem KT.keeps {H H' : Hp} {kvs : List (List Key × V)} {xs : List (List Key × Addr × Value)} (r : KT H kvs xs) (ht : ∀ b ys, H b = some (.tup ys) → H' b = some (.tup ys)) : KT H' kvs xs :=
  Paired.mapP r fun _ _ z => ⟨z.1, ht _ _ z.2.1, z.2.2⟩

section
variable {P : Program} {w : World} {H : Hp} {h : Heap} {a : Addr}
theorem rd_of {u : HO} (ok : HOk P w H h) (e : Rd H a u) : ObjOk P w H h a u := e.ok ok
theorem dk_rd {kvs : List (Key × V)} (ok : HOk P w H h) (e : Rd H a (.dK kvs)) : kvs.length ≤ sizeLine ∧ (a == sysModules) = false ∧ ∃ vs, KV kvs vs ∧ h.DictOf (mixKind P w) a vs :=
  show ObjOk P w H h a (.dK kvs) from rd_of ok e
theorem dk_of {kvs : List (Key × V)} (ok : HOk P w H h) (e : H a = some (.dK kvs)) : kvs.length ≤ sizeLine ∧ (a == sysModules) = false ∧ ∃ vs, KV kvs vs ∧ h.DictOf (mixKind P w) a vs := dk_rd ok (.inl e)
/-- a tracked tuple of ints and texts is a key -/
theorem key_of {ks : List Key} (ok : HOk P w H h) (e : H a = some (.tup (ks.map kV))) : (tupleKind (mixKind P w)).is h ks a := by
  obtain ⟨_, its, r, o, h1, h2, n, h3⟩ := (show ObjOk P w H h a (.tup (ks.map kV)) from ok a _ e)
  exact ⟨o, its.toArray, n, h1, h2, h3, by simpa using items_are r⟩
theorem dt_rd {kvs : List (List Key × V)} (ok : HOk P w H h) (e : Rd H a (.dT kvs)) : kvs.length ≤ sizeLine ∧ (a == sysModules) = false ∧
    ∃ xs, KT H kvs xs ∧ h.DictOfH (tupleKind (mixKind P w)) a xs := by
  obtain ⟨z, y, xs, r, o, es, ep, h1, h2, h3, h4, h5⟩ := (show ObjOk P w H h a (.dT kvs) from rd_of ok e)
  refine ⟨z, y, xs, r, o, es, ep, h1, h2, h3, h4, fun x hx => ?_, h5⟩
  have all : ∀ {l : List (List Key × V)} {m : List (List Key × Addr × Value)}, KT H l m → ∀ x ∈ m, (tupleKind (mixKind P w)).is h x.1 x.2.1 := by
    intro l m q
    induction q with
    | nil => intro x hx; exact nomatch hx
    | @cons p q ps qs hq t ih =>
      intro x hx
      rcases List.mem_cons.mp hx with e | hx
      · subst e
        exact key_of ok (by rw [← hq.1]; exact hq.2.1)
      · exact ih x hx
  exact all r x hx
theorem dt_of {kvs : List (List Key × V)} (ok : HOk P w H h) (e : H a = some (.dT kvs)) : kvs.length ≤ sizeLine ∧ (a == sysModules) = false ∧
    ∃ xs, KT H kvs xs ∧ h.DictOfH (tupleKind (mixKind P w)) a xs := dt_rd ok (.inl e)
end

/-- what the dict at a holds at the key y -/
def DGet (H : Hp) (a : Addr) (y : V) (r : Option V) : Prop :=
  (∃ kvs k, Rd H a (.dK kvs) ∧ y = kV k ∧ r = valV kvs k) ∨ ∃ kvs k b, Rd H a (.dT kvs) ∧ y = .ref b ∧ H b = some (.tup (k.map kV)) ∧ r = valV kvs k
/-- the heap behind a[y] = v -/
def DPut (H : Hp) (a : Addr) (y v : V) (H' : Hp) : Prop :=
  (∃ kvs k, H a = some (.dK kvs) ∧ y = kV k ∧ kvs.length < sizeLine ∧ H' = upd H a (.dK (putK kvs k v))) ∨
  ∃ kvs k b, H a = some (.dT kvs) ∧ y = .ref b ∧ H b = some (.tup (k.map kV)) ∧ kvs.length < sizeLine ∧ H' = upd H a (.dT (putK kvs k v))
theorem DGet.k {H : Hp} {a : Addr} {kvs : List (Key × V)} {k : Key} (e : H a = some (.dK kvs)) : DGet H a (kV k) (valV kvs k) := .inl ⟨kvs, k, .inl e, rfl, rfl⟩
theorem DPut.k {H : Hp} {a : Addr} {kvs : List (Key × V)} {k : Key} {v : V} (e : H a = some (.dK kvs)) (hl : kvs.length < sizeLine) : DPut H a (kV k) v (upd H a (.dK (putK kvs k v))) := .inl ⟨kvs, k, e, rfl, hl, rfl⟩
section
variable {X : Cx} {pins : List (Addr × Obj)} {σ : St} {H : Hp} {s : Shared} {a : Addr} {y v : V} {u r : Value} {o : Option V} {A : Around} {E : Value → Shared → Prop}

theorem Inv.big (I : Inv X pins σ H s) : sysModules < s.heap.objs.size := by
  have h : mainGlobals < s.heap.objs.size := (I.mod.glob.keeps I.bk).lt
  exact Nat.lt_trans (by decide) h

/-- d[y], there -/
theorem d_getItem {Q : Value → Shared → Prop} (hu : A.units + 1 < cLine) (I : Inv X pins σ H s) (g : DGet H a y (some v)) (ry : RelV y u) (h : ∀ w' s', Inv X pins σ H s' → RelV v w' → Q w' s') :
    wpAny (model X.prog X.w) A (getItem (.ref a) u) Q E s := by
  rcases g with ⟨kvs, k, e, ey, l⟩ | ⟨kvs, k, b, e, ey, eb, l⟩
  · subst ey
    obtain ⟨z, hd, vs, rel, dd⟩ := dk_rd I.hok e
    obtain ⟨w', hw, rw'⟩ := RelO.some_of (v := v) (o := valueAt vs k) (by rw [l]; exact rel.val k)
    exact wpAny_getItem_of (kV_is ry) dd.mapOf hw (h w' _ (I.tok _) rw')
  · subst ey
    cases (show u = Value.ref b from ry)
    obtain ⟨z, hd, xs, rel, dd⟩ := dt_rd I.hok e
    obtain ⟨w', hw, rw'⟩ := RelO.some_of (v := v) (o := (atKey xs k).map (·.2)) (by rw [l]; exact rel.val k)
    obtain ⟨p, hp, hp2⟩ := Option.map_eq_some_iff.mp hw
    refine wpAny_getItem_heap (tupleKind_room_in1 hu) (key_of I.hok eb) dd hp ?_
    rw [hp2]
    exact h w' _ (I.tok _) rw'
/-- a dict's object is replaced -/
theorem d_write {h' : Heap} {t' : Nat} {ob : HO} (I : Inv X pins σ H s) (mu : Mut (H a)) (hs : Heap.SameBut a s.heap h') (he : ∃ q, h'.get? a = some q) (new : ObjOk X.prog X.w (upd H a ob) h' a ob) :
    Inv X pins σ (upd H a ob) { s with heap := h', toks := t' } :=
  I.write (x := a) (e := a) mu (.inl rfl) (fun b q hb z => (hs.2 b hb).trans z) he new
theorem dk_new {P : Program} {w : World} {H' : Hp} {h' : Heap} {kvs : List (Key × V)} {vs : List (Key × Value)} (z : kvs.length ≤ sizeLine) (hd : (a == sysModules) = false) (rel : KV kvs vs) (dd : h'.DictOf (mixKind P w) a vs) :
    ObjOk P w H' h' a (.dK kvs) := ⟨z, hd, vs, rel, dd⟩
/-- d[y] = v -/
theorem d_setItem {H' : Hp} {Q : Unit → Shared → Prop} (hu : A.units + 1 < cLine) (I : Inv X pins σ H s) (g : DPut H a y v H') (ry : RelV y u) (rv : RelV v r) (h : ∀ s', Inv X pins σ H' s' → Q () s') :
    wpAny (model X.prog X.w) A (setItem (.ref a) u r) Q E s := by
  rcases g with ⟨kvs, k, e, ey, l, eH⟩ | ⟨kvs, k, b, e, ey, eb, l, eH⟩
  · subst ey eH
    obtain ⟨z, hd, vs, rel, dd⟩ := dk_of I.hok e
    have hz : vs.length ≤ sizeLine := by rw [← rel.length]; exact z
    have hl : (putK kvs k v).length ≤ sizeLine := by have := length_putK kvs k v; omega
    refine wpAny_setItem_pairs (hsz := hz) (kV_is ry) dd fun h' dd' hs => h _ ?_
    have he : ∃ q, h'.get? a = some q := let ⟨q, _, _, hq, _⟩ := dd'; ⟨q, hq⟩
    exact d_write I (by rw [e]; exact True.intro) hs he (dk_new hl hd (rel.put k rv) dd')
  · subst ey eH
    cases (show u = Value.ref b from ry)
    obtain ⟨z, hd, xs, rel, dd⟩ := dt_of I.hok e
    have hz : xs.length ≤ sizeLine := by rw [← Paired.length rel]; exact z
    have hl : (putK kvs k v).length ≤ sizeLine := by have := length_putK kvs k v; omega
    refine wpAny_setItem_heap (hsz := hz) (tupleKind_room_in1 hu) (key_of I.hok eb) dd fun h' dd' hs => h _ ?_
    obtain ⟨q, es, ep, hq, h2, h3, h4, _, h5⟩ := dd'
    refine d_write I (by rw [e]; exact True.intro) hs ⟨q, hq⟩ ⟨hl, hd, _, (rel.put k eb rv).keeps fun c ys ec => ?_, q, es, ep, hq, h2, h3, h4, h5⟩
    rw [upd_ne (ne_of ec e (fun z => nomatch z))]
    exact ec
end

section
variable {X : Cx} {pins : List (Addr × Obj)} {σ : St} {H : Hp} {s : Shared} {a : Addr} {kvs : List (Key × V)} {k : Key} {u : Value} {A : Around} {E : Value → Shared → Prop}
/-- len(d) -/
theorem d_len {Q : Value → Shared → Prop} (I : Inv X pins σ H s) (e : Rd H a (.dK kvs)) (h : ∀ t s', Inv X pins σ H s' → Q (.int kvs.length t) s') : wpAny (model X.prog X.w) A (call (.builtin "len") [.ref a]) Q E s := by
  obtain ⟨z, hd, vs, rel, dd⟩ := dk_rd I.hok e
  refine call_len_dict hd dd (by rw [← rel.length]; rw [sizeLine_eq] at z; omega) ?_
  rw [← rel.length]
  exact h _ _ (I.tok _)
end


/-! ### readings and rules -/
/-- the element of a subscription, not a slice -/
def NoSl (i : Expr) : Prop := ∀ ov iv, subscripted i false ov iv = operate [ov, iv] (getItem ov iv)
theorem subD_of {prog : Program} {w : World} {A : Around} {E : Value → Shared → Prop} {s : Shared} {env : Env} {value slice : Expr} {pos : Pos} {T id : String} {Q : Value → Shared → Prop}
    (hl : typeLookup (.type T) "__getitem__" = pure (some (.builtin id))) (hs : NoSl slice)
    (h : wpAny (model prog w) A (eval value env) (fun o s₁ => wpAny (model prog w) A (eval slice env) (fun i s₂ => s₂.TypeIs o T ∧ wpAny (model prog w) A (getItem o i) Q E s₂) E s₁) E s) :
    wpAny (model prog w) A (eval (.Subscript value slice pos) env) Q E s := by
  refine Subscript_ (wpAny_mono h (fun o s₁ h₁ => wpAny_mono h₁ (fun i s₂ h₂ => ?_) fun _ _ x => x) fun _ _ x => x)
  obtain ⟨hT, h₂⟩ := h₂
  unfold subscriptTail
  refine wpAny_bind ?_
  rw [getitemInPython_of_ne hT.not_modules]
  refine wpAny_bind (wpAny_specialOf hT hl ?_)
  have fin : wpAny (model prog w) A (subscripted slice false o i) (fun r s₃ => wpAny (model prog w) A (letTemporaryGo value o r >>= fun _ => pure r) Q E s₃) E s₂ := by
    rw [hs o i]
    exact wpAny_operating (wpAny_mono h₂ (fun r s₃ h₃ => wpAny_bind (wpAny_letTemporaryGo (wpAny_pure h₃))) fun _ _ x => x)
  first
    | exact wpAny_pure (wpAny_bind fin)
    | exact wpAny_bind (wpAny_pure (wpAny_bind fin))
    | exact wpAny_bind fin

theorem dict_typeIs {X : Cx} {pins : List (Addr × Obj)} {σ : St} {H : Hp} {s : Shared} {a : Addr} {y : V} {o : Option V} (I : Inv X pins σ H s) (g : DGet H a y o) : s.TypeIs (.ref a) "dict" := by
  rcases g with ⟨kvs, k, e, _, _⟩ | ⟨kvs, k, b, e, _, _, _⟩
  · obtain ⟨_, _, vs, _, dd⟩ := dk_rd I.hok e
    exact dd.typeIs
  · obtain ⟨_, _, xs, _, dd⟩ := dt_rd I.hok e
    exact dd.typeIs
/-- d[y] -/
def tDGet (td ty : TE) : TE := fun σ H Q => td σ H fun x H1 => ty σ H1 fun y H2 => ∃ a v, x = .ref a ∧ DGet H2 a y (some v) ∧ Q v H2
/-- y in d, y not in d -/
def tDIn (ty td : TE) : TE := fun σ H Q => ty σ H fun y H1 => td σ H1 fun x H2 => ∃ a o, x = .ref a ∧ DGet H2 a y o ∧ Q (.bl o.isSome) H2
def tDNotIn (ty td : TE) : TE := fun σ H Q => ty σ H fun y H1 => td σ H1 fun x H2 => ∃ a o, x = .ref a ∧ DGet H2 a y o ∧ Q (.bl (!o.isSome)) H2
/-- d[y] = v -/
def sDPut (td ty tv : TE) : TS := fun D σ H => tv σ H fun v H1 => td σ H1 fun x H2 => ty σ H2 fun y H3 => ∃ a H4, x = .ref a ∧ DPut H3 a y v H4 ∧ D.nx σ H4
/-- d[y] op= v -/
def sDAug (td ty tv : TE) (rd : V → V → Hp → VK → Prop) : TS := fun D σ H => td σ H fun x H1 => ty σ H1 fun y H2 => ∃ a v, x = .ref a ∧ DGet H2 a y (some v) ∧
  tv σ H2 fun y2 H3 => rd v y2 H3 fun z H4 => ∃ H5, DPut H4 a y z H5 ∧ D.nx σ H5
/-- del d[y] -/
def sDDel (td ty : TE) : TS := fun D σ H => td σ H fun x H1 => ty σ H1 fun y H2 => ∃ a kvs k, x = .ref a ∧ H2 a = some (.dK kvs) ∧ y = kV k ∧ (valV kvs k).isSome = true ∧ D.nx σ (upd H2 a (.dK (dropK kvs k)))

section
variable {X : Cx} {o i e value : Expr} {pos pos' tpos : Pos} {td ty tv : TE}
theorem pe_dget (hu : X.A.units + 1 < cLine) (ho : PE X o td) (hi : PE X i ty) (hs : NoSl i) : PE X (.Subscript o i pos) (tDGet td ty) := by
  intro pins s σ H Q I h
  refine subD_of PySem.F.slot_dict_getitem.lookup hs (thn (ho pins s σ H _ I h) fun u s1 => L2.ex5 fun x H1 I1 rx q1 => thn (hi pins s1 σ H1 _ I1 q1) fun iv s2 => L2.ex5 fun y H2 I2 ry hq_ => ?_)
  obtain ⟨a, v, ex, g, q2⟩ := hq_
  subst ex
  obtain rfl : u = Value.ref a := rx
  exact ⟨dict_typeIs I2 g, d_getItem hu I2 g ry fun w' s3 I3 rw' => ⟨v, H2, I3, rw', q2⟩⟩
theorem ps_dput (hu : X.A.units + 1 < cLine) (ho : PE X o td) (hi : PE X i ty) (hv : PE X value tv) (hs : swapsWith value (some (.Subscript o i pos')) pos.line X.env = pure false) :
    PS X (.Assign [.Subscript o i pos'] value pos) (sDPut td ty tv) := by
  intro pins s σ H D I h
  refine wpAny_Assign_Subscript (thn (hv pins s σ H _ I h) fun r s1 => L2.ex5 fun v H1 I1 rv q1 => thn (ho pins s1 σ H1 _ I1 q1) fun u s2 => L2.ex5 fun x H2 I2 rx q2 => thn (hi pins s2 σ H2 _ I2 q2) fun iv s3 => L2.ex5 fun y H3 I3 ry hq_ => ?_) hs
  obtain ⟨a, H4, ex, g, q3⟩ := hq_
  subst ex
  obtain rfl : u = Value.ref a := rx
  exact d_setItem hu I3 g ry rv fun s4 I4 => ⟨σ, H4, I4, q3⟩
end


/-! ### displays -/
theorem dk_empty {P : Program} {w : World} {H : Hp} (h : Heap) (hb : sysModules < h.objs.size) : ObjOk P w H (h.push { cls := .type "dict", data := .dict #[] }) h.objs.size (.dK []) :=
  ⟨Nat.zero_le _, beq_eq_false_iff_ne.mpr (Ne.symm (Nat.ne_of_lt hb)), [], .nil, Heap.DictOf.new h⟩
/-- {}, to be a dict of the kind that is wanted -/
def tDNewK : TE := fun _ H Q => ∀ p, H p = none → Q (.ref p) (upd H p (.dK []))
def tDNewT : TE := fun _ H Q => ∀ p, H p = none → Q (.ref p) (upd H p (.dT []))
section
variable {X : Cx} {pos : Pos}
theorem pe_dnewK : PE X (.Dict [] [] pos) tDNewK := fun pins s σ H Q I h =>
  wpAny_Dict_empty ⟨.ref s.heap.objs.size, _, I.laid (a := s.heap.objs.size) (o := .dK []) (t' := s.toks) (fun _ _ q => Heap.get?_push_of_some _ q) (Nat.le_refl _) (dk_empty s.heap I.big), rfl, h _ (I.hok.fresh (Nat.le_refl _))⟩
end

/-- the pairs of a display, from the left -/
def tPairs : List (TE × TE) → St → Hp → (List (V × V) → Hp → Prop) → Prop
  | [], _, H, Q => Q [] H
  | (tk, tv) :: r, σ, H, Q => tk σ H fun x H1 => tv σ H1 fun y H2 => tPairs r σ H2 fun ps H3 => Q ((x, y) :: ps) H3
abbrev VV : List (V × V) → List (Value × Value) → Prop := Paired fun p q => RelV p.1 q.1 ∧ RelV p.2 q.2
def PPs (X : Cx) (pos : Pos) (keys : List (Option Expr)) (values : List Expr) (trs : List (TE × TE)) : Prop :=
  ∀ (pins : List (Addr × Obj)) (s : Shared) (σ : St) (H : Hp) (Q : List (V × V) → Hp → Prop), Inv X pins σ H s → tPairs trs σ H Q →
    wpAny (model X.prog X.w) X.A (evalPairs (pairTrees keys values X.env pos)) (fun vs s' => ∃ ps H', Inv X pins σ H' s' ∧ VV ps vs ∧ Q ps H') X.xe s
def mergeK (kvs more : List (Key × V)) : List (Key × V) := more.foldl (fun acc kv => putK acc kv.1 kv.2) kvs
/-- {k: v, ..} with keys ints and texts; the new dict stands empty while the pairs are made -/
def tDisp (trs : List (TE × TE)) : TE := fun σ H Q => ∀ p, H p = none → tPairs trs σ (upd H p (.dK [])) fun ps H2 => H2 p = some (.dK []) ∧ ∃ kvs : List (Key × V), ps = kvs.map (fun kv => (kV kv.1, kv.2)) ∧ kvs.length ≤ 15 ∧ Q (.ref p) (upd H2 p (.dK (mergeK [] kvs)))
/-! ### methods -/
/-- a method call o.m(e) of a built-in, with one argument: what must be seen of the text -/
structure M1 (X : Cx) (o : Expr) (m : Str) (apos : Pos) (e : Expr) (cpos : Pos) : Prop where
  base : attributeBase o m X.env (eval o X.env) = eval o X.env
  few : ((backTo cpos (starEach [e] X.env)).all (fun x => !x.1) && (backToKw cpos (keywordEach [] X.env)).all (fun x => x.1.isSome)
    && decide (([e] : List Expr).length + ([] : List Keyword).length + (if ([] : List Keyword).isEmpty then 0 else 1) < 30)) = true
  line : (apos.endLine == cpos.line) = true
  trees : backTo cpos (starEach [e] X.env) = [(false, eval e X.env)]
structure M2 (X : Cx) (o : Expr) (m : Str) (apos : Pos) (e f : Expr) (cpos : Pos) : Prop where
  base : attributeBase o m X.env (eval o X.env) = eval o X.env
  few : ((backTo cpos (starEach [e, f] X.env)).all (fun x => !x.1) && (backToKw cpos (keywordEach [] X.env)).all (fun x => x.1.isSome)
    && decide (([e, f] : List Expr).length + ([] : List Keyword).length + (if ([] : List Keyword).isEmpty then 0 else 1) < 30)) = true
  line : (apos.endLine == cpos.line) = true
  trees : backTo cpos (starEach [e, f] X.env) = [(false, eval e X.env), (false, eval f X.env)]

/-- a is a dict, whatever its keys -/
def IsD (H : Hp) (a : Addr) : Prop := (∃ kvs, Rd H a (.dK kvs)) ∨ ∃ kvs, Rd H a (.dT kvs)
section
variable {X : Cx} {pins : List (Addr × Obj)} {σ : St} {H : Hp} {s : Shared} {a : Addr} {y d : V} {u r : Value} {o : Option V} {A : Around} {E : Value → Shared → Prop}
end

def tDGet1 (td ty : TE) : TE := fun σ H Q => td σ H fun x H1 => ∃ a, x = .ref a ∧ IsD H1 a ∧ ty σ H1 fun y H2 => ∃ o, DGet H2 a y o ∧ Q (o.getD .non) H2
def tDGet2 (td ty tx : TE) : TE := fun σ H Q => td σ H fun x H1 => ∃ a, x = .ref a ∧ IsD H1 a ∧ ty σ H1 fun y H2 => tx σ H2 fun z H3 => ∃ o, DGet H3 a y o ∧ Q (o.getD z) H3
/-- d.pop(k): there; d.pop(k, x): there or not -/
def tDPop1 (td ty : TE) : TE := fun σ H Q => td σ H fun x H1 => ∃ a, x = .ref a ∧ IsD H1 a ∧ ty σ H1 fun y H2 => ∃ kvs k v, H2 a = some (.dK kvs) ∧ y = kV k ∧ valV kvs k = some v ∧ Q v (upd H2 a (.dK (dropK kvs k)))
def tDPop2 (td ty tx : TE) : TE := fun σ H Q => td σ H fun x H1 => ∃ a, x = .ref a ∧ IsD H1 a ∧ ty σ H1 fun y H2 => tx σ H2 fun z H3 => ∃ kvs k, H3 a = some (.dK kvs) ∧ y = kV k ∧
  (∀ v, valV kvs k = some v → Q v (upd H3 a (.dK (dropK kvs k)))) ∧ (valV kvs k = none → Q z H3)
section
variable {X : Cx} {o e f : Expr} {apos cpos : Pos} {td ty tx : TE}
end

/-! ### dict(d): a copy -/
section
variable {X : Cx} {pins : List (Addr × Obj)} {σ : St} {H : Hp} {s : Shared} {a : Addr} {kvs : List (Key × V)} {A : Around} {E : Value → Shared → Prop}
end


section
variable {X : Cx} {pins : List (Addr × Obj)} {σ : St} {H : Hp} {s : Shared} {a : Addr} {y : V} {u : Value} {A : Around} {E : Value → Shared → Prop}
end
end L2

namespace Att
open PySem PySem.W PySem.Calls PyProof.Rows

/-! ### the script -/
theorem ints_of_wellAll {P : Params} {h : Heap} : ∀ (ns : List Int) (vs : List Value), WellAll P h vs (ns.map WData.int) → IntsAre vs ns := by
  intro ns
  induction ns with
  | nil =>
    intro vs w
    rw [List.map_nil] at w
    cases w
    exact .nil
  | cons n ns ih =>
    intro vs w
    rw [List.map_cons] at w
    cases w with
    | cons a b =>
      cases a
      exact .cons _ _ (ih _ b)

theorem script_of {l : OpenLaw} {n : Nat} (hn : l.most = some n) {P : Params} {h : Heap} {args : List WData} {vals : List Value}
    (hpre : l.row.toRowW.claim.pre args = true) (hwl : WellAll P h vals args) :
    ∃ a vs ns, vals = [Value.ref a] ∧ args = [WData.list (ns.map WData.int)] ∧ h.get? a = some { cls := .type "list", data := .seq vs.toArray } ∧ IntsAre vs ns ∧ ns.length ≤ n := by
  have hsh : WShape.hasAll [] args [.list .int] = true := (pre_splitW hpre).1
  have hc : l.pre.holds [] { args := args } = true := (pre_splitW hpre).2
  obtain ⟨d, r, rfl, h1, h2⟩ := hasAllW_cons hsh
  obtain rfl := hasAllW_nil h2
  obtain ⟨xs, rfl, h3⟩ := hasW_list h1
  obtain ⟨ns, rfl⟩ := items_int h3
  have hlen : ns.length ≤ n := by
    unfold OpenLaw.pre at hc
    have h4 : (WTm.not (.lt (.lit (.int (n : Int))) (.len (.arg 0)))).holds [] { args := [.list (ns.map .int)] } = true := by
      have h4 := (holds_andW hc).1
      rw [hn] at h4
      exact h4
    have h5 := condW_of h4 (w_not (w_lt w_lit (w_len_list (w_arg rfl))))
    rw [List.length_map] at h5
    refine Nat.le_of_not_lt fun q => ?_
    have q' : (n : Int) < ((ns.length : Nat) : Int) := by omega
    first
      | (rw [decide_eq_true q'] at h5; exact absurd h5 (by decide))
      | (simp at h5; omega)
  cases hwl with
  | cons w1 w2 =>
    cases w2
    cases w1 with
    | list ho hall => exact ⟨_, _, ns, rfl, rfl, ho, ints_of_wellAll ns _ hall, hlen⟩

theorem post_true (l : OpenLaw) (args : List WData) : l.row.toRowW.claim.post args (.bool true) args = true :=
  postW_of (r := l.row.toRowW) (X := (true == true))
    (show WShape.has [] (.bool true) .bool = true by first | rfl | decide | simp [WShape.has, WShape.arms, WShape.armsAll])
    (show (WTm.eq .res (.lit (.bool true))).value [] { args := args, res := some (.bool true), after := args } = some (.bool (true == true)) from w_eq_bool (w_res rfl) w_lit) rfl

/-! ### the attachment: holds_open's last premise (the goal 'hc' behind k_head) from a wpAny of the law's body -/
/-- the same from a codeAny of the CALL (for a layer whose function contracts speak of calls) -/
theorem attach_call {l : OpenLaw} {n : Nat} {q : Program} {loose : List Str} {XP : (Str → Option Value) → Heap → Prop} {YP : World → Heap → Prop} {d : DefRec}
    (hn : l.most = some n) (hdf : d.params.defaults = [])
    (call : ∀ (w : World) (s₀ s₁ : Shared) (mg mb : Str → Option Value) (fa : Addr) (o : Obj) (pm cd doc : Value) (a : Addr) (vs : List Value) (ns : List Int),
      Ground q loose [] XP w s₀ mg mb s₁.heap → YP w s₁.heap →
      s₁.heap.get? fa = some o → o.data = .func (docDef d.name d.params d.body d.scope pm cd doc) → s₁.heap.CodeRec cd d.name → mg d.name = some (.ref fa) →
      s₁.heap.get? a = some { cls := .type "list", data := .seq vs.toArray } → IntsAre vs ns → ns.length ≤ n → s₁.gens = #[] →
      codeAny (model l.prog w) callerA (.call (.ref fa) ⟨[.ref a], []⟩) (fun r s' => r = .ok (.ret (.bool true)) ∧ OldK s₁.heap s'.heap ∧ s'.os = s₁.os ∧ AllBare s'.gens) s₁) :
    WalkO q loose XP YP l.row.toRowW d [] (fun f vs => PySem.call f vs) := by
  intro w s₀ s₁ mg mb G Y fa o pm cd doc dV kV ho hd hcd hD hmg hg args vals as hpre hlay hrd hwl hlo
  obtain rfl : dV = .none := Dflts.none hD hdf
  obtain rfl : kV = .none := Dflts.noKw hD
  obtain ⟨a, vs, ns, rfl, rfl, hobj, hints, hlen⟩ := script_of hn hpre hwl
  refine enter_call (codeAny_mono (call w s₀ s₁ mg mb fa o pm cd doc a vs ns G Y ho (fd_plain hd) hcd hmg hobj hints hlen hg) fun r s' hq => ?_)
  obtain ⟨rfl, h2, h3, h4⟩ := hq
  exact ⟨.inl ⟨.bool true, .bool true, [], rfl, fun _ => rfl, .bool true, post_true l _, fun _ => ⟨List.Pairwise.nil, fun _ hm => (nomatch hm)⟩⟩, h2, h3, h4⟩

/-! ### rules over ANY heap (no ledger) from facts about the written part K: the library's own take a ledger (News) for what they write -/
section
variable {prog : Program} {w : World} {A : Around} {E : Value → Shared → Prop} {s : Shared} {K : Frag}

/-! the whole heap as the ledger: makes every rule that writes through a ledger a rule over any heap -/
def noObjs (h : Heap) : Heap := { h with objs := #[] }
def ledger (h : Heap) (L d : Addr) : List (Addr × Obj) := (List.range h.objs.size).filterMap fun a => if a = L ∨ a = d then none else (h.get? a).map fun o => (a, o)
end
end Att

namespace L2
open PySem PySem.Spec PyProof.Rows

theorem vals_ints : ∀ {vs : List Value} {ns : List Int}, IntsAre vs ns → Vals (ns.map V.int) vs
  | _, _, .nil => .nil
  | _, _, .cons n t h => .cons ⟨t, rfl⟩ (vals_ints h)

/-- nothing is tracked but the script, known to the object (or it is an object of the module) -/
def Only (H : Hp) : Prop := ∀ b, H b = none ∨ ∃ o xs, H b = some (.frz o (.lst xs))

/-- THE HEAD: the law's promise, at the heap behind the top. F, the promise of the law's def, may use that base is part of the heap (so K.In base, base.Ns mainGlobals mg stand in Mod) -/
theorem law_call {P : Program} {w : World} {K : PySem.W.Frag} {mg mb : Str → Option Value} {CX : CXT} {k : Nat} {fa a : Addr} {fd : FuncData} {x : Str} {sp : Sp} {s₁ : Shared} {vs : List Value} {ns : List Int}
    (KX : K.In s₁.heap) (hns : s₁.heap.Ns mainGlobals mg) (hb : s₁.heap.Ns builtinsNs mb) (hbb : ∀ x : Str, x ≠ "__name__" → mb x = bootBuiltins x) (hlim : s₁.heap.NoLimit) (hg : s₁.gens = #[])
    (ha : s₁.heap.get? a = some { cls := .type "list", data := .seq vs.toArray }) (hi : IntsAre vs ns) (hl : ns.length ≤ sizeLine) (hr : Room k callerA)
    (F : ∀ base : Heap, K.In base → base.Ns mainGlobals mg → FnOk P w K mg base CX k fa fd [x] sp) (hbind : ∀ (s : Shared) (u : Value), BindsTo s fd ⟨[u], []⟩ [(x, u)])
    (hsp : ∀ H : Hp, Only H → SqL K H a (ns.map V.int) → sp [.ref a] H (fun v _ => v = .bl true) fun _ _ _ => False)
    (hCX : ∀ H e s', CX [] H s₁ (fun _ _ _ => False) e s' → False) :
    codeAny (model P w) callerA (.call (.ref fa) ⟨[.ref a], []⟩) (fun r s' => r = .ok (.ret (.bool true)) ∧ OldK s₁.heap s'.heap ∧ s'.os = s₁.os ∧ AllBare s'.gens) s₁ := by
  have rv := vals_ints hi
  have lenV := hi.length
  -- from an abstract heap in which nothing but the script may be tracked
  have core : ∀ H : Hp, Only H → SqL K H a (ns.map V.int) → HOk P w H s₁.heap → (∀ b, H b ≠ none → b = a) → (H a ≠ none → K.lookup a = none) →
      codeAny (model P w) callerA (.call (.ref fa) ⟨[.ref a], []⟩) (fun r s' => r = .ok (.ret (.bool true)) ∧ OldK s₁.heap s'.heap ∧ s'.os = s₁.os ∧ AllBare s'.gens) s₁ := by
    intro H hO hS hok hA hK
    have base_of : ∀ {b : Addr} {o : Obj}, s₁.heap.get? b = some o → H b = none → (hidT s₁.heap H).get? b = some o := fun e n => hidT_get e n
    have noA : ∀ {b : Addr} {o : Obj} {es : Array DictEntry} {ep : Nat}, s₁.heap.get? b = some o → o.data = .dict es ep → H b = none := fun {b o es ep} e d => by
      cases q : H b with
      | none => rfl
      | some u =>
        have e' : b = a := hA b (by rw [q]; simp)
        subst e'
        rw [ha] at e; cases e
        have d' : Data.seq vs.toArray _ = Data.dict es ep := d
        cases d'
    have nsK : ∀ {b : Addr} {m : Str → Option Value}, s₁.heap.Ns b m → (hidT s₁.heap H).Ns b m := fun {b m} ⟨o, es, ep, e, d, r⟩ => ⟨o, es, ep, base_of e (noA e d), d, r⟩
    have hKb : K.In (hidT s₁.heap H) := fun b o e => base_of (KX b o e) (by
      cases q : H b with
      | none => rfl
      | some u =>
        have e' : b = a := hA b (by rw [q]; simp)
        subst e'
        rw [hK (by rw [q]; simp)] at e; cases e)
    have hM : Mod K mg (hidT s₁.heap H) := ⟨hKb, nsK hns, ⟨mb, nsK hb, hbb⟩, let ⟨mc, h1, h2⟩ := hlim; ⟨mc, nsK h1, h2⟩⟩
    have e0 : Env0 P w K mg (hidT s₁.heap H) callerA [] s₁ H := ⟨rfl, hM, fun b o e => of_hidT e, Nat.le_of_eq (hidT_size _ _), trivial, fun b hb => absurd (show b ∈ ([] : List Addr) from hb) (by simp), hok, .of_eq hg, .inl rfl⟩
    refine codeAny_mono ((F _ hKb (nsK hns)).run callerA [] s₁ H ⟨[.ref a], []⟩ [.ref a] [.ref a] _ _ hr e0 (hbind s₁ (.ref a)) (.cons rfl .nil) (hsp H hO hS)) fun r s' h => ?_
    cases r with
    | error e => exact (hCX H e s' h).elim
    | ok fl =>
      cases fl with
      | next => exact False.elim h
      | brk => exact False.elim h
      | cont => exact False.elim h
      | ret u =>
        obtain ⟨v, H', os, bare, un, hok', r', q⟩ := h
        have q' : v = .bl true := q
        subst q'
        obtain rfl : u = Value.bool true := r'
        refine ⟨rfl, OldK.of_keep fun b o e => ?_, os, bare⟩
        cases q : H b with
        | none => exact un.keep b o e q (by intro z; exact absurd (show b ∈ ([] : List Addr) from z) (by simp)) (by simp)
        | some u =>
          rcases hO b with z | ⟨ob, xs, z⟩
          · rw [q] at z; cases z
          · have z2 := un.frzs b ob _ z
            obtain ⟨e1, _⟩ := hok b _ z
            obtain ⟨e2, _⟩ := hok' b _ z2
            rw [e] at e1; cases e1
            exact e2
  cases hk : K.lookup a with
  | some o =>
    -- the script is one of the module's own objects
    have e := KX a o hk
    rw [ha] at e
    cases e
    refine core (fun _ => none) (fun _ => .inl rfl) (.inr ⟨_, vs.toArray, _, hk, rfl, rfl, rfl, by rw [List.size_toArray, lenV]; exact hl, by simpa using rv⟩) (fun b u z => by have z' : (none : Option HO) = some u := z; cases z') (fun b z => absurd rfl z) fun z => absurd rfl z
  | none =>
    refine core (fun b => if b = a then some (.frz { cls := .type "list", data := .seq vs.toArray } (.lst (ns.map V.int))) else none) (fun b => ?_) (.inl (.inr ⟨{ cls := .type "list", data := .seq vs.toArray }, if_pos rfl⟩)) (fun b u z => ?_) (fun b z => ?_) fun _ => hk
    · by_cases hb : b = a
      · exact .inr ⟨_, _, if_pos hb⟩
      · exact .inl (if_neg hb)
    · by_cases hb : b = a
      · have z' := (if_pos hb).symm.trans z
        cases z'
        subst hb
        exact ⟨ha, by rw [List.length_map]; exact hl, vs, _, rv, ha⟩
      · have z' := (if_neg hb).symm.trans z
        cases z'
    · by_cases hb : b = a
      · exact hb
      · exact absurd (if_neg hb) z
end L2

namespace L2
open PySem PySem.Spec PyProof.Rows

abbrev KOf {K : PySem.W.Frag} {h : Heap} (_ : K.In h) : PySem.W.Frag := K

/-- the goal that k_head leaves (case hc), from the law's promise. F gives the function object fd (K's own) once, then the promise over every base -/
theorem walk_of {l : PySem.W.OpenLaw} {n k : Nat} {q : Program} {loose : List Str} {XP : (Str → Option Value) → Heap → Prop} {YP : World → Heap → Prop} {d : DefRec} {K : Params → PySem.W.Frag} {CX : World → CXT} {sp : World → Sp} {x : Str}
    (hn : l.most = some n) (hn2 : n ≤ sizeLine) (hdf : d.params.defaults = []) (hr : Room k callerA)
    (hY : ∀ (w : World) (h : Heap), YP w h → (K w.params).In h)
    (F : ∀ (w : World) (mg : Str → Option Value) (fa : Addr) (h : Heap), (K w.params).In h → h.Ns mainGlobals mg → mg d.name = some (.ref fa) →
      ∃ fd : FuncData, (∀ (s : Shared) (u : Value), BindsTo s fd ⟨[u], []⟩ [(x, u)]) ∧
        ∀ base : Heap, (K w.params).In base → base.Ns mainGlobals mg → FnOk l.prog w (K w.params) mg base (CX w) k fa fd [x] (sp w))
    (hsp : ∀ (w : World) (H : Hp) (a : Addr) (ns : List Int), ns.length ≤ n → Only H → SqL (K w.params) H a (ns.map V.int) → sp w [.ref a] H (fun v _ => v = .bl true) fun _ _ _ => False)
    (hCX : ∀ (w : World) (H : Hp) (s : Shared) (e : Value) (s' : Shared), CX w [] H s (fun _ _ _ => False) e s' → False) :
    PySem.W.WalkO q loose XP YP l.row.toRowW d [] (fun f vs => PySem.call f vs) := by
  refine Att.attach_call hn hdf fun w s₀ s₁ mg mb fa o pm cd doc a vs ns G Y ho hd hcd hmg hobj hints hlen hg => ?_
  have KX := hY w _ Y
  obtain ⟨fd, hb, hF⟩ := F w mg fa _ KX G.T.g hmg
  exact law_call KX G.T.g G.T.b G.T.builtins G.T.nolimit hg hobj hints (Nat.le_trans hlen hn2) hr hF hb (fun H hO hS => hsp w H a ns hlen hO hS) fun H e s' => hCX w H s₁ e s'
end L2

/- THE LAST THEOREM (shape; LID, My.* are yours):
   My.Adr: a structure of the addresses that your layer names (classes, functions); My.Txt K t: a structure (Prop) of the equations over K;
   My.txt_mk : {K} {implicit addresses ..} (e1 : nsIn K mainGlobals "law" = some (some (.ref f))) (e2 : K.lookup f = some ⟨oc, od, .func (fnOf "law" "law" params body scope dV kV doc pm an cdv ct), sl⟩) (e3 : codeIn K cdv "law" = true) .. : ∃ t, My.Txt K t

set_option maxRecDepth 100000 in
set_option maxHeartbeats 0 in
theorem PySem.Challenge.cw_LID_holds : PySem.Challenge.rw_LID.Holds := by
  w_on; o_law; k_head; (case hw => w_witness2)
  k_fill
  refine L2.walk_of (l := PySem.Challenge.rw_LID) (n := 63) (k := 40) (x := "script") (CX := fun w => ..) (sp := fun _ => My.sp_law) rfl (by decide) rfl ⟨rfl, by decide, by decide⟩ (fun w h Y => PySem.W.kIn_of Y) ?F ?S ?C
  case F =>
    intro w mg fa h KX G hmg
    have T : ∃ t, My.Txt (L2.KOf KX) t := by
      dsimp only [L2.KOf]                          -- K must stand as «<heap const> w.params» for k_is
      refine' My.txt_mk ?e1 ?e2 ?e3 ..
      (case e1 => PySem.W.k_is)                    -- in the order: a name -> its address -> its object -> its parts
      (case e2 => PySem.W.k_is)
      ..
    obtain ⟨t, T⟩ := T
    have e0 := hmg.symm.trans (PySem.W.mg_of KX G T.law)
    cases e0                                       -- fa is the law's own address
    exact ⟨_, fun s u => .of_eq rfl, fun base kb nb => My.law_fn T kb nb⟩     -- if «.of_eq rfl» comes too early: refine' ⟨_, ?b, fun base kb nb => My.law_fn T kb nb⟩; exact fun s u => .of_eq rfl
  case S => exact fun w H a ns hl hO hS => ..
  case C => exact ..
(the tactic k_is has no namespace: write k_is) -/

/-! SHORT WORDS over the layer: a def of the text, its body, what a loop and a test want. -/
namespace L2
open PySem PySem.Spec PyProof.Rows

/-! ### the text by places -/
/-- the j-th statement of a class's body -/
def inClass (s : Stmt) (j : Nat) : Stmt := match s with
  | .ClassDef _ _ _ body _ _ _ _ _ _ _ => body.getD j (.Pass ⟨0, 0, 0, 0⟩)
  | _ => .Pass ⟨0, 0, 0, 0⟩
def defArgs (s : Stmt) : Arguments := match s with
  | .FunctionDef _ a _ _ _ _ _ _ _ _ => a
  | _ => { posonlyargs := [], args := [], vararg := none, kwonlyargs := [], kw_defaults := [], kwarg := none, defaults := [] }
def defBody (s : Stmt) : List Stmt := match s with
  | .FunctionDef _ _ b _ _ _ _ _ _ _ => b
  | _ => []
def defScope (s : Stmt) : Scope := match s with
  | .FunctionDef _ _ _ _ _ _ sc _ _ _ => sc
  | _ => { kind := .function, names := [], isGenerator := false, isCoroutine := false }

/-! ### no exception leaves a def -/
abbrev CX0 : CXT := fun _ _ _ _ _ _ => False
abbrev E0 : XK := fun _ _ _ => False
theorem pass0 {X : Cx} : Passes CX0 X E0 := fun _ _ _ _ _ _ _ h => h.elim

/-! ### a def (or method) of the text as it stands behind the top -/
structure Fun (K : PySem.W.Frag) (x qual : Str) (st : Stmt) (f : Addr) (fd : FuncData) : Prop where
  ex : ∃ (oc : Value) (od : Option Addr) (kV doc pm : Value) (an : Option Addr) (cdv ct : Value) (osl : Array (Option Value)),
    fd = PySem.W.fnOf x qual (defArgs st) (defBody st) (defScope st) .none kV doc pm an cdv ct ∧ K.lookup f = some ⟨oc, od, .func fd, osl⟩ ∧ PySem.W.codeIn K cdv qual = true
  kp : PySem.W.keepIn K (.ref f) = true
section
variable {P : Program} {w : World} {K : PySem.W.Frag} {mg : Str → Option Value} {base : Heap}
end
theorem hu_of {A : Around} {k : Nat} (hr : Room k A) : A.units + 1 < cLine := Nat.lt_of_le_of_lt (Nat.add_le_add_left (by decide : 1 ≤ 64) _) hr.units
/-! ### expressions in short: the name that stands in the i-th slot -/
section
variable {X : Cx}
theorem pv (i : Nat) {x : Str} {pos : Pos} (hN : X.N[i]? = some x := by rfl) (hv : Vis X.env.scope x := by first | exact Or.inl rfl | exact Or.inr (Or.inl rfl) | exact Or.inr (Or.inr rfl)) (hd : (x == ("__debug__" : Str)) = false := by decide)
    (hcd : (x == ("__classdict__" : Str)) = false := by decide) : PE X (.Name x pos) (tVar i) := pe_var hN hv hd hcd
/-- len of a dict -/
theorem call_lenD : CallR X (.builtin "len") (fun xs H Q => ∃ a kvs, xs = [V.ref a] ∧ H a = some (.dK kvs) ∧ Q (.int kvs.length) H) := by
  intro pins s σ H xs us Q I r h
  obtain ⟨a, kvs, rfl, ha, q⟩ := h
  obtain ⟨u, rfl, ru⟩ := vals1 r
  cases ru
  exact d_len I (.inl ha) fun t s' I' => ⟨.int kvs.length, H, I', ⟨t, rfl⟩, q⟩
end

/-! ### tests -/
theorem iteF {A B : Prop} (h : B) : if false = true then A else B := by
  rw [if_neg Bool.false_ne_true]
  exact h
theorem iteT {A B : Prop} (h : A) : if true = true then A else B := by
  rw [if_pos rfl]
  exact h
/-! ### heaps -/
/-- all that was tracked is as it was -/
def Same (H H' : Hp) : Prop := ∀ b o, H b = some o → H' b = some o
theorem Same.refl (H : Hp) : Same H H := fun _ _ h => h
theorem Same.trans {H H1 H2 : Hp} (a : Same H H1) (b : Same H1 H2) : Same H H2 := fun c o h => b c o (a c o h)
theorem Same.seq {K : PySem.W.Frag} {H H' : Hp} {a : Addr} {xs : List V} (e : Same H H') (h : SqL K H a xs) : SqL K H' a xs := by
  rcases h with (h | ⟨o, h⟩) | h
  · exact .inl (.inl (e _ _ h))
  · exact .inl (.inr ⟨o, e _ _ h⟩)
  · exact .inr h

/-! ### a dict's pairs: keys that differ -/
section
variable {κ : Type} [DecidableEq κ]
end
end L2

/-! ### list comprehensions: the block's own context, its entry, the loop -/
namespace L2
open PySem PySem.Spec PyProof.Rows

/-- the cells that the block is handed -/
def closL (cells : List (Str × Addr)) : List (Str × NameKind) → List (Str × Addr) → List (Str × Addr)
  | [], acc => acc
  | (n, k) :: r, acc => closL cells r (if (k == NameKind.free) = true then (n, (cells.lookup n).getD 0) :: acc else acc)
theorem closureFor_clos {scope : Scope} {env : Env} (h : ∀ y ∈ scope.names, y.2 = .free → (env.cells.lookup y.1).isSome = true) :
    closureFor scope env = pure (closL env.cells scope.names []) := by
  simp only [closureFor]
  generalize scope.names = l at h ⊢
  generalize ([] : List (Str × Addr)) = acc
  induction l generalizing acc with
  | nil => rfl
  | cons x r ih =>
    obtain ⟨n, k⟩ := x
    have hr := fun y hy => h y (List.mem_cons_of_mem _ hy)
    by_cases hk : k = .free
    · subst hk
      obtain ⟨c, hc⟩ := Option.isSome_iff_exists.mp (h (n, .free) List.mem_cons_self rfl)
      have ih' := ih hr ((n, c) :: acc)
      simp only [List.forIn_cons, cellOf, hc, closL, beq_self_eq_true, if_true, Option.getD_some] at ih' ⊢
      exact ih'
    · have hb : (k == NameKind.free) = false := by simpa using hk
      have ih' := ih hr acc
      simp only [List.forIn_cons, closL, hb, Bool.false_eq_true, if_false] at ih' ⊢
      exact ih'
theorem closL_in {cells : List (Str × Addr)} {x : Str} {c : Addr} : ∀ {l : List (Str × NameKind)} {acc : List (Str × Addr)}, (∀ y ∈ l, y.2 = .free → (cells.lookup y.1).isSome = true) →
    (closL cells l acc).lookup x = some c → acc.lookup x = some c ∨ cells.lookup x = some c
  | [], _, _, h => .inl h
  | (n, k) :: r, acc, hf, h => by
    have hr : ∀ y ∈ r, y.2 = .free → (cells.lookup y.1).isSome = true := fun y hy => hf y (List.mem_cons_of_mem _ hy)
    by_cases hk : k = .free
    · subst hk
      rcases closL_in (l := r) hr (show (closL cells r ((n, (cells.lookup n).getD 0) :: acc)).lookup x = some c from h) with q | q
      · rw [List.lookup_cons] at q
        by_cases hx : x = n
        · subst hx
          rw [beq_self_eq_true] at q
          obtain ⟨c', hc⟩ := Option.isSome_iff_exists.mp (hf (x, .free) List.mem_cons_self rfl)
          have hc : cells.lookup x = some c' := hc
          rw [hc] at q ⊢
          exact .inr q
        · rw [beq_eq_false_iff_ne.mpr hx] at q
          exact .inl q
      · exact .inr q
    · have hb : ¬ (k == NameKind.free) = true := by simpa using hk
      have h' : (closL cells r (if (k == NameKind.free) = true then (n, (cells.lookup n).getD 0) :: acc else acc)).lookup x = some c := h
      rw [if_neg hb] at h'
      exact closL_in hr h'
theorem closL_has {cells : List (Str × Addr)} {x : Str} : ∀ {l : List (Str × NameKind)} {acc : List (Str × Addr)}, ((x, NameKind.free) ∈ l ∨ (acc.lookup x).isSome = true) → ((closL cells l acc).lookup x).isSome = true
  | [], _, h => by
    rcases h with h | h
    · cases h
    · exact h
  | (n, k) :: r, acc, h => by
    show ((closL cells r (if (k == NameKind.free) = true then (n, (cells.lookup n).getD 0) :: acc else acc)).lookup x).isSome = true
    refine closL_has ?_
    rcases h with h | h
    · rcases List.mem_cons.mp h with e | e
      · cases e
        right
        rw [if_pos (by rfl), List.lookup_cons, beq_self_eq_true]
        rfl
      · exact .inl e
    · right
      by_cases hb : (k == NameKind.free) = true
      · rw [if_pos hb, List.lookup_cons]
        cases hx : x == n with
        | true => rfl
        | false => exact h
      · rw [if_neg hb]
        exact h

/-- what a name of the block is behind the new labels -/
theorem head_lookup (c : Bool) {n x : Str} {k : NameKind} {r : List (Str × NameKind)} (hx : (x == n) = true) : ((if c = true then (n, NameKind.cell) else (n, k)) :: r).lookup x = some (if c = true then .cell else k) := by
  cases c <;> simp [List.lookup_cons, hx]
theorem head_skip (c : Bool) {n x : Str} {k : NameKind} {r : List (Str × NameKind)} (hx : (x == n) = false) : ((if c = true then (n, NameKind.cell) else (n, k)) :: r).lookup x = r.lookup x := by
  cases c <;> simp [List.lookup_cons, hx]
theorem relabel_free {env : Env} : ∀ {names : List (Str × NameKind)} {x : Str}, names.lookup x = some .free →
    (names.map fun (n, k) => if (k == NameKind.free && env.scope.kind == .function && env.kindOf n == some .cell) then (n, NameKind.cell) else (n, k)).lookup x = some .cell ∨
    (names.map fun (n, k) => if (k == NameKind.free && env.scope.kind == .function && env.kindOf n == some .cell) then (n, NameKind.cell) else (n, k)).lookup x = some .free
  | [], _, h => by simp at h
  | (n, k) :: r, x, h => by
    have ih := @relabel_free env r x
    rw [List.lookup_cons] at h
    rw [List.map_cons]
    cases hx : x == n with
    | true =>
      rw [hx] at h
      cases h
      dsimp only
      rw [head_lookup _ hx]
      cases (NameKind.free == NameKind.free && env.scope.kind == .function && env.kindOf n == some .cell) with
      | true => exact .inl rfl
      | false => exact .inr rfl
    | false =>
      rw [hx] at h
      dsimp only
      rw [head_skip _ hx]
      exact ih h
theorem relabel_back {env : Env} : ∀ {names : List (Str × NameKind)} {x : Str} {k' : NameKind}, (k' = .cell ∨ k' = .free) →
    (names.map fun (n, k) => if (k == NameKind.free && env.scope.kind == .function && env.kindOf n == some .cell) then (n, NameKind.cell) else (n, k)).lookup x = some k' →
    ∃ k, (k = .free ∨ k = .cell) ∧ (x, k) ∈ names
  | [], _, _, _, h => by simp at h
  | (n, k) :: r, x, k', hk, h => by
    have ih := @relabel_back env r x k' hk
    rw [List.map_cons] at h
    dsimp only at h
    cases hx : x == n with
    | true =>
      have e : x = n := eq_of_beq hx
      subst e
      rw [head_lookup _ hx] at h
      cases hc : (k == NameKind.free && env.scope.kind == .function && env.kindOf x == some .cell) with
      | true =>
        simp only [Bool.and_eq_true, beq_iff_eq] at hc
        obtain ⟨⟨rfl, _⟩, _⟩ := hc
        exact ⟨.free, .inl rfl, List.mem_cons_self⟩
      | false =>
        rw [hc] at h
        have h : some k = some k' := h
        cases h
        rcases hk with rfl | rfl
        · exact ⟨_, .inr rfl, List.mem_cons_self⟩
        · exact ⟨_, .inl rfl, List.mem_cons_self⟩
    | false =>
      rw [head_skip _ hx] at h
      obtain ⟨k2, h1, h2⟩ := ih h
      exact ⟨k2, h1, List.mem_cons_of_mem _ h2⟩

/-- the block's context: its names N, its frame at C, handed the cells cl; entered at s with H; the iterators fp -/
def compCx (X : Cx) (scope : Scope) (cl : List (Str × Addr)) (C : Addr) (N : List Str) (s : Shared) (H : Hp) (fp : List Addr) (pins : List (Addr × Obj)) : Cx :=
  { X with N := N, s₀ := s, H₀ := H, env := compEnvC scope cl C X.env, outer := X.stack, stack := X.stack, ex := fp, fn := fun _ => false, pn := X.pn ++ pins, xe := fun _ _ => False }
/-- the values at the block's entry: cap tells, name by name, the slot it is taken from -/
def capS (cap : List (Option Nat)) (σ : St) : St := cap.map fun o => o.bind fun j => (σ[j]?).join
def isCF : Option NameKind → Bool
  | some .cell => true
  | some .free => true
  | _ => false
def capAt (sc : Scope) (XN : List Str) : List (Option Nat) → List Str → Bool
  | [], [] => true
  | some j :: r, x :: xs => (XN[j]? == some x) && (sc.names.lookup x == some NameKind.free) && capAt sc XN r xs
  | none :: r, _ :: xs => capAt sc XN r xs
  | _, _ => false
/-- osc, XN: the scope and the names around; sc, N: the block's -/
def capOk (osc sc : Scope) (XN N : List Str) (cap : List (Option Nat)) : Bool :=
  (sc.kind == ScopeKind.function) && sc.names.all (fun y => y.2 != NameKind.cell) && sc.names.all (fun y => y.2 != NameKind.local || sc.names.lookup y.1 == some NameKind.local) &&
  sc.names.all (fun y => y.2 != NameKind.free || isCF (osc.names.lookup y.1)) && capAt sc XN cap N
theorem capAt_len {sc : Scope} {XN : List Str} : ∀ {cap : List (Option Nat)} {N : List Str}, capAt sc XN cap N = true → cap.length = N.length
  | [], [], _ => rfl
  | some _ :: r, _ :: xs, h => by
    simp only [capAt, Bool.and_eq_true] at h
    simp [capAt_len h.2]
  | none :: r, _ :: xs, h => by
    simp only [capAt] at h
    simp [capAt_len h]
  | [], _ :: _, h => by simp [capAt] at h
  | some _ :: _, [], h => by simp [capAt] at h
  | none :: _, [], h => by simp [capAt] at h
theorem capAt_get {sc : Scope} {XN : List Str} : ∀ {cap : List (Option Nat)} {N : List Str} {i j : Nat} {x : Str}, capAt sc XN cap N = true → cap[i]? = some (some j) → N[i]? = some x → XN[j]? = some x ∧ sc.names.lookup x = some .free
  | [], _, i, _, _, _, h, _ => by simp at h
  | some _ :: r, y :: xs, 0, j, x, h, h1, h2 => by
    simp only [capAt, Bool.and_eq_true, beq_iff_eq] at h
    simp at h1 h2
    subst h1; subst h2
    exact ⟨h.1.1, h.1.2⟩
  | some _ :: r, y :: xs, i + 1, j, x, h, h1, h2 => by
    simp only [capAt, Bool.and_eq_true] at h
    exact capAt_get (i := i) h.2 (by simpa using h1) (by simpa using h2)
  | none :: r, y :: xs, 0, j, x, h, h1, h2 => by simp at h1
  | none :: r, y :: xs, i + 1, j, x, h, h1, h2 => by
    simp only [capAt] at h
    exact capAt_get (i := i) h (by simpa using h1) (by simpa using h2)
  | some _ :: _, [], _, _, _, h, _, _ => by simp [capAt] at h
  | none :: _, [], _, _, _, h, _, _ => by simp [capAt] at h

section
variable {X : Cx} {pins : List (Addr × Obj)} {σ : St} {H : Hp} {s : Shared} {scope : Scope} {N : List Str} {cap : List (Option Nat)} {fp : List Addr}
theorem Inv.clos (I : Inv X pins σ H s) (ok : capOk X.env.scope scope X.N N cap = true) : ∀ y ∈ scope.names, y.2 = .free → (X.env.cells.lookup y.1).isSome = true := fun y hy hf => by
  simp only [capOk, Bool.and_eq_true, List.all_eq_true] at ok
  have h := ok.1.2 y hy
  rw [hf] at h
  have h' : isCF (X.env.scope.names.lookup y.1) = true := by simpa using h
  have hk : X.env.kindOf y.1 = some .cell ∨ X.env.kindOf y.1 = some .free := by
    show X.env.scope.names.lookup y.1 = _ ∨ X.env.scope.names.lookup y.1 = _
    cases e : X.env.scope.names.lookup y.1 with
    | none => rw [e] at h'; cases h'
    | some k =>
      rw [e] at h'
      cases k <;> first | exact .inl rfl | exact .inr rfl | cases h'
  obtain ⟨c, e⟩ := I.ok.has y.1 hk
  rw [e]
  rfl
/-- the block is entered: the list at D is laid, its frame at C -/
theorem Inv.comp (I : Inv X pins σ H s) (ok : capOk X.env.scope scope X.N N cap = true) (f : ∀ b ∈ fp, FpOk X pins H b) (fo : ∀ b ∈ fp, ∃ o, s.heap.get? b = some o) {h₁ : Heap} {tk : Nat} {fo' : Obj}
    (hn : h₁.Ns (s.heap.push { cls := .type "list", data := .seq #[] }).objs.size (fun _ => none))
    (hs : Heap.SameBut (s.heap.push { cls := .type "list", data := .seq #[] }).objs.size ((s.heap.push { cls := .type "list", data := .seq #[] }).push fo') h₁) :
    Inv (compCx X scope (closL X.env.cells scope.names []) (s.heap.push { cls := .type "list", data := .seq #[] }).objs.size N { s with heap := s.heap.push { cls := .type "list", data := .seq #[] } } (upd H s.heap.objs.size (.lst [])) fp pins)
      [] (capS cap σ) (upd H s.heap.objs.size (.lst [])) { s with heap := h₁, toks := tk } := by
  have okC := ok
  simp only [capOk, Bool.and_eq_true, List.all_eq_true, beq_iff_eq] at ok
  obtain ⟨⟨⟨⟨hkind, hcell⟩, _⟩, _⟩, hcap⟩ := ok
  have cl := I.clos okC
  have hC : (s.heap.push { cls := .type "list", data := .seq #[] }).objs.size = s.heap.objs.size + 1 := Heap.size_push ..
  generalize hCC : (s.heap.push { cls := .type "list", data := .seq #[] }).objs.size = C at hn hs hC ⊢
  have below : ∀ b o, s.heap.get? b = some o → b ≠ C ∧ b ≠ s.heap.objs.size := fun b o e => by
    have := Heap.lt_size e
    exact ⟨by rw [hC]; exact Nat.ne_of_lt (Nat.lt_succ_of_lt this), Nat.ne_of_lt this⟩
  have old : ∀ b o, s.heap.get? b = some o → h₁.get? b = some o := fun b o e => hs.extBut b o (below b o e).1 (Heap.get?_push_of_some _ (Heap.get?_push_of_some _ e))
  have up3 : ∀ b o, s.heap.get? b = some o → (s.heap.push { cls := .type "list", data := .seq #[] }).get? b = some o := fun b o e => Heap.get?_push_of_some _ e
  have old3 : ∀ b o, (s.heap.push { cls := .type "list", data := .seq #[] }).get? b = some o → h₁.get? b = some o := fun b o e => by
    have : b < C := by rw [← hCC]; exact Heap.lt_size e
    exact hs.extBut b o (Nat.ne_of_lt this) (Heap.get?_push_of_some _ e)
  have hD : H s.heap.objs.size = none := I.hok.fresh (Nat.le_refl _)
  have free3 : ∀ b o, s.heap.get? b = some o → H b = none → upd H s.heap.objs.size (.lst []) b = none := fun b o e n => by rw [upd_ne (below b o e).2]; exact n
  have hCn : upd H s.heap.objs.size (.lst []) C = none := by
    rw [upd_ne (by rw [hC]; exact Nat.ne_of_gt (Nat.lt_succ_self _))]
    exact I.hok.fresh (by rw [hC]; exact Nat.le_succ _)
  have cellsIn : ∀ x c, (closL X.env.cells scope.names []).lookup x = some c → X.env.cells.lookup x = some c := fun x c e => by
    rcases closL_in cl e with q | q
    · simp at q
    · exact q
  have cellO : ∀ x c, (closL X.env.cells scope.names []).lookup x = some c → ∃ v o, s.heap.IsCell c v ∧ s.heap.get? c = some o := fun x c e => by
    obtain ⟨v, q⟩ := I.cell x c (cellsIn x c e)
    obtain ⟨o, ho, _⟩ := id q
    exact ⟨v, o, q, ho⟩
  have hok3 : HOk X.prog X.w (upd H s.heap.objs.size (.lst [])) h₁ := I.hok.laid old (Nat.le_refl _) (show ObjOk X.prog X.w _ h₁ s.heap.objs.size (.lst []) from ⟨Nat.zero_le _, [], 0, .nil, old3 _ _ (Heap.get?_push_size _ rfl)⟩)
  have stkb : ∀ b ∈ frs X.stack, ∃ o, s.heap.get? b = some o := fun b hb => by
    obtain ⟨_, o, ho, _⟩ := I.stack.mem hb
    exact ⟨o, ho⟩
  refine ⟨⟨I.ok.mod, hkind, I.ok.glob, I.ok.blt, Nat.le_of_eq hCC, fun y z c h1 h2 => I.ok.inj y z c (cellsIn y c h1) (cellsIn z c h2), fun y hy => ?_, fun y c hf _ => Bool.noConfusion hf, I.hdAt.new hD, I.ok.frames, .inl rfl, fun b hb => ?_,
      fun b o e => ⟨up3 b o (I.bs b o e).1, free3 b o (I.bs b o e).1 (I.bs b o e).2⟩, ?_, fun b o e hb => ?_, fun b hb hb2 => ?_, ?_, fun b hb => ?_⟩,
    rfl, I.bare, Un.kept old3, ⟨_, hn, fun i x v h1 h2 h3 => ?_⟩, fun x c e => ?_, hCn, fun x c e => ?_, fun p hp => ?_, hok3, ?_⟩
  · -- has
    have hy : (relabel scope X.env).names.lookup y = some .cell ∨ (relabel scope X.env).names.lookup y = some .free := hy
    have : (y, NameKind.free) ∈ scope.names := by
      rcases hy with q | q
      · obtain ⟨k, hk, hm⟩ := relabel_back (.inl rfl) q
        rcases hk with rfl | rfl
        · exact hm
        · exact absurd (show (NameKind.cell != NameKind.cell) = true from hcell _ hm) (by decide)
      · obtain ⟨k, hk, hm⟩ := relabel_back (.inr rfl) q
        rcases hk with rfl | rfl
        · exact hm
        · exact absurd (show (NameKind.cell != NameKind.cell) = true from hcell _ hm) (by decide)
    exact Option.isSome_iff_exists.mp (closL_has (.inl this))
  · -- exf
    obtain ⟨o, e⟩ := fo b hb
    exact ⟨(below b o e).1, fun x c q => (f b hb).2.2.2.2.1 x c (cellsIn x c q)⟩
  · -- bsz
    show X.base.objs.size ≤ (s.heap.push { cls := .type "list", data := .seq #[] }).objs.size
    rw [Heap.size_push]
    exact Nat.le_succ_of_le (Nat.le_trans I.ok.bsz I.sz)
  · -- noex
    rcases (f b hb).2.2.2.1 with q | q
    · exact I.ok.noex b o e q
    · exact absurd (Nat.lt_of_lt_of_le (Heap.lt_size (I.ok.bs b o e).1) q) (Nat.lt_irrefl _)
  · -- exfs
    rcases List.mem_cons.mp (I.stkSub b hb2) with q | q
    · exact (f b hb).2.1 q
    · exact (f b hb).2.2.1 q
  · -- funs
    exact I.stack.of_keeps fun b o e _ => ⟨o, up3 b o e, rfl⟩
  · -- frf
    obtain ⟨o, e⟩ := stkb b hb
    exact free3 b o e (I.stkFree b hb)
  · -- loc
    have hi : ∃ j, cap[i]? = some (some j) ∧ σ[j]? = some (some v) := by
      unfold capS at h2
      rw [List.getElem?_map] at h2
      cases e : cap[i]? with
      | none => rw [e] at h2; cases h2
      | some o =>
        rw [e] at h2
        cases o with
        | none => cases h2
        | some j =>
          refine ⟨j, rfl, ?_⟩
          have h2' : (σ[j]?).join = some v := Option.some.inj h2
          cases e2 : σ[j]? with
          | none => rw [e2] at h2'; cases h2'
          | some o2 => rw [e2] at h2'; rw [show o2 = some v from h2']
    obtain ⟨j, hj, hv⟩ := hi
    obtain ⟨hX, hfr⟩ := capAt_get hcap hj h1
    have hmem : (x, NameKind.free) ∈ scope.names := PySem.mem_of_lookup hfr
    have hcf := okC
    simp only [capOk, Bool.and_eq_true, List.all_eq_true] at hcf
    have h' : isCF (X.env.scope.names.lookup x) = true := by simpa using hcf.1.2 _ hmem
    have hk : X.env.scope.names.lookup x = some .cell ∨ X.env.scope.names.lookup x = some .free := by
      cases e : X.env.scope.names.lookup x with
      | none => rw [e] at h'; cases h'
      | some k =>
        rw [e] at h'
        cases k <;> first | exact .inl rfl | exact .inr rfl | cases h'
    obtain ⟨m, _, hl⟩ := I.loc
    obtain ⟨u, ru, lk⟩ := hl j x v hX hv (hk.elim (fun q => .inr (.inl q)) fun q => .inr (.inr q))
    refine ⟨u, ru, .inr ⟨relabel_free hfr, ?_⟩⟩
    rcases lk with ⟨q, _⟩ | ⟨_, c, hc, hcell2⟩
    · have q' : X.env.scope.names.lookup x = some .local := q
      rcases hk with z | z
      · rw [z] at q'; cases q'
      · rw [z] at q'; cases q'
    · obtain ⟨c', hc'⟩ := Option.isSome_iff_exists.mp (closL_has (cells := X.env.cells) (acc := []) (.inl hmem))
      have : c' = c := by
        have := cellsIn x c' hc'
        rw [hc] at this
        exact (Option.some.inj this).symm
      subst this
      obtain ⟨o, ho, hd⟩ := hcell2
      exact ⟨c', hc', o, old c' o ho, hd⟩
  · -- cell
    obtain ⟨v, o, ⟨o', ho, hd⟩, _⟩ := cellO x c e
    exact ⟨v, o', old c o' ho, hd⟩
  · -- freeC
    obtain ⟨v, o, _, ho⟩ := cellO x c e
    exact free3 c o ho (I.freeC x c (cellsIn x c e))
  · -- pins
    have hp' : p ∈ X.pn ++ pins := by simpa [compCx] using hp
    obtain ⟨e, n, ne, nf, d⟩ := I.pin p hp'
    refine ⟨old _ _ e, free3 _ _ e n, (below _ _ e).1, fun z => ?_, d⟩
    rcases List.mem_cons.mp (I.stkSub p.1 z) with q | q
    · exact ne q
    · exact nf q
  · -- len
    show (capS cap σ).length = N.length
    unfold capS
    rw [List.length_map]
    exact capAt_len hcap
end

/-! ### the loop of a comprehension -/
section
variable {prog : Program} {w : World} {A : Around} {R : Result → Shared → Prop} {s : Shared}
theorem compLoop_go {elt target iter : Expr} {ifs : List Expr} {scope : Scope} {pos : Pos} {it acc : Value} {env : Env} (J : Nat → Shared → Prop)
    (turn : ∀ n s, J n s → wpAny (model prog w) A (pyNext it) (fun r s₁ => match r with
      | none => R (.ok .next) s₁
      | some v => wpAny (model prog w) A (letOwnedTupleGo target it v) (fun _ s₂ => wpAny (model prog w) A (assign target env v) (fun _ s₃ =>
          wpAny (model prog w) A (forIn ifs true fun c r => if r = true then do let ok ← isTrue c env (eval c env); pure (ForInStep.yield ok) else pure (ForInStep.yield r)) (fun ok s₄ =>
            if ok = true then wpAny (model prog w) A (eval elt env) (fun x s₅ =>
              wpAny (model prog w) A (call (.builtin "list.append") [acc, x]) (fun _ s₆ => ∃ m, m < n ∧ J m s₆) (fun _ _ => False) s₅) (fun _ _ => False) s₄
            else ∃ m, m < n ∧ J m s₄) (fun _ _ => False) s₃) (fun _ _ => False) s₂) (fun _ _ => False) s₁) (fun _ _ => False) s)
    (n : Nat) (h : J n s) : codeAny (model prog w) A (.compLoop (.ListComp elt [⟨target, iter, ifs, 0⟩] scope pos) 0 it acc env) R s := by
  have no : ∀ {E : Value → Shared → Prop} (e : Value) (s' : Shared), (fun (_ : Value) (_ : Shared) => False) e s' → E e s' := fun _ _ z => z.elim
  refine codeAny_loop rfl J (fun n s hI => ?_) n h
  show wpAny _ A ((compTurn (.ListComp elt [⟨target, iter, ifs, 0⟩] scope pos) 0 it acc env).onRaise (fun x => do noteFrame x env; theTreesLotGoes x)) _ _ s
  refine wpAny_noted ?_
  rw [compTurn_list]
  refine wpAny_bind (wpAny_standAt (wpAny_bind (wpAny_mono (turn n s hI) (fun r s₁ h₁ => ?_) no)))
  cases r with
  | none => exact wpAny_pure h₁
  | some v =>
    refine wpAny_bind (wpAny_mono h₁ (fun _ s₂ h₂ => wpAny_bind (wpAny_mono h₂ (fun _ s₃ h₃ => wpAny_bind (wpAny_mono h₃ (fun ok s₄ h₄ => ?_) no)) no)) no)
    cases ok with
    | false => exact wpAny_pure ⟨rfl, h₄⟩
    | true =>
      exact wpAny_bind (wpAny_bind (wpAny_mono h₄ (fun x s₅ h₅ => wpAny_bind (wpAny_mono h₅ (fun _ s₆ h₆ => wpAny_pure (wpAny_pure ⟨rfl, h₆⟩)) no)) no))
end

/-- the tests of a comprehension's clause: none, or one -/
def PIf (X : Cx) (cs : List Expr) (t : TT) : Prop :=
  ∀ (pins : List (Addr × Obj)) (s : Shared) (σ : St) (H : Hp) (Q : Bool → Hp → Prop), Inv X pins σ H s → t σ H Q →
    wpAny (model X.prog X.w) X.A (forIn cs true fun c r => if r = true then do let ok ← isTrue c X.env (eval c X.env); pure (ForInStep.yield ok) else pure (ForInStep.yield r)) (TP X pins σ Q) X.xe s
def tYes : TT := fun _ H Q => Q true H
theorem pif_nil {X : Cx} : PIf X [] tYes := fun _ _ _ H _ I h => wpAny_tests_nil ⟨H, I, h⟩
theorem pif_one {X : Cx} {c : Expr} {t : TT} (h : PT X c t) : PIf X [c] t := fun pins s σ H Q I hq => wpAny_tests_one (h pins s σ H Q I hq)

/-- what a comprehension's walk asks: an invariant W by the turn and a measure, over the block's values and the heap in which the list grows at D -/
def CompW (J : It) (D : Addr) (τ : St) (H : Hp) (g : TG) (tt : TT) (te : TE) (Q : VK) : Prop :=
  ∃ W : Nat → Nat → St → Hp → Prop, (∃ m, W 0 m τ H) ∧ ∀ i m τ H, W i m τ H →
    (J.stop i H ∧ Q (.ref D) H) ∨ (J.go i H ∧ ∃ M : St → Hp → Prop, (∀ τ' H', M τ' H' → ∃ m', m' < m ∧ W (i + 1) m' τ' H') ∧ ∀ x H', J.yld i H x H' → g x τ H' fun τ2 H2 => tt τ2 H2 fun b H3 =>
      if b = true then te τ2 H3 fun y H4 => ∃ ys, H4 D = some (.lst ys) ∧ ys.length < sizeLine ∧ M τ2 (upd H4 D (.lst (ys ++ [y]))) else M τ2 H3)
def tComp (wi : TI) (cap : List (Option Nat)) (g : TG) (tt : TT) (te : TE) : TE := fun σ H Q => wi σ H fun J H1 => ∀ D, H1 D = none → CompW J D (capS cap σ) (upd H1 D (.lst [])) g tt te Q

section
variable {X : Cx} {elt tg iter : Expr} {ifs : List Expr} {scope : Scope} {pos : Pos} {N : List Str} {cap : List (Option Nat)} {wi : TI} {g : TG} {tt : TT} {te : TE}
theorem comp_block {pins : List (Addr × Obj)} {σ : St} {H : Hp} {s : Shared} {J : It} {fp : List Addr} {it : Addr} {tn : Nat → Heap → Prop} {Q : VK} {E : Value → Shared → Prop} {RR : Value → Addr → Result → Shared → Prop}
    (hc : X.calm = true) (ok : capOk X.env.scope scope X.N N cap = true)
    (hg : ∀ cl C s H fp pins, PG (compCx X scope cl C N s H fp pins) tg g) (hf : ∀ cl C s H fp pins, PIf (compCx X scope cl C N s H fp pins) ifs tt) (he : ∀ cl C s H fp pins, PE (compCx X scope cl C N s H fp pins) elt te)
    (I : Inv X pins σ H s) (T : Turn X.prog X.w X.K tg J fp it tn) (st : tn 0 s.heap) (f : ∀ b ∈ fp, FpOk X pins H b)
    (q : ∀ D, H D = none → CompW J D (capS cap σ) (upd H D (.lst [])) g tt te Q)
    (fin : ∀ D C H' s' m, Inv X pins σ H' s' → FpOk X pins H' C → s'.heap.Ns C m → Q (.ref D) H' → RR (.ref D) C (.ok .next) s') :
    wpAny (model X.prog X.w) X.A (newList []) (fun acc s₃ => wpAny (model X.prog X.w) X.A (newFunctionEnv scope X.env.globals (closL X.env.cells scope.names []) [] X.env.qual none .none (some X.env)) (fun cenv s₄ =>
      codeAny (model X.prog X.w) X.A (.compStart (.ListComp elt [⟨tg, iter, ifs, 0⟩] scope pos) 0 (.ref it) acc { cenv with scope := relabel scope X.env }) (RR acc cenv.locals) s₄) E s₃) E s := by
  have ok' := ok
  simp only [capOk, Bool.and_eq_true, List.all_eq_true, beq_iff_eq] at ok'
  obtain ⟨⟨⟨⟨hkind, hcell⟩, _⟩, _⟩, hcap⟩ := ok'
  refine wpAny_newObj_type (wpAny_newFunctionEnv (fun y hy => by simpa using hcell y hy) (by intro y hy; simp at hy) (fun h₁ hns₁ hsb₁ => ?_) hkind)
  dsimp only at hns₁ hsb₁ ⊢
  have fo : ∀ b ∈ fp, ∃ o, s.heap.get? b = some o := fun b hb => let ⟨o, e, _⟩ := T.obj _ _ st b hb; ⟨o, e⟩
  have J0 := I.comp (h₁ := h₁) (tk := s.toks + ([] : List (Str × Value)).length) ok f fo hns₁ hsb₁
  have hDfree : H s.heap.objs.size = none := I.hok.fresh (Nat.le_refl _)
  obtain ⟨W, ⟨m0, w0⟩, turn⟩ := q _ hDfree
  generalize hY : compCx X scope (closL X.env.cells scope.names []) (s.heap.push { cls := .type "list", data := .seq #[] }).objs.size N { s with heap := s.heap.push { cls := .type "list", data := .seq #[] } } (upd H s.heap.objs.size (.lst [])) fp pins = Y at J0
  have below : ∀ b ∈ fp, b < s.heap.objs.size := fun b hb => let ⟨o, e⟩ := fo b hb; Heap.lt_size e
  have cl := I.clos ok
  have stat : ∀ {H' : Hp}, (∀ b ∈ fp, H' b = none) → ∀ b ∈ fp, FpOk Y [] H' b := fun {H'} hn b hb => by
    subst hY
    refine ⟨hn b hb, ?_, fun z => ?_, .inl hb, fun x c e => ?_, fun p hp => ?_⟩
    · show b ≠ (s.heap.push { cls := .type "list", data := .seq #[] }).objs.size
      rw [Heap.size_push]
      exact Nat.ne_of_lt (Nat.lt_succ_of_lt (below b hb))
    · rcases List.mem_cons.mp (I.stkSub b z) with q | q
      · exact (f b hb).2.1 q
      · exact (f b hb).2.2.1 q
    · refine (f b hb).2.2.2.2.1 x c ?_
      rcases closL_in cl e with z | z
      · simp at z
      · exact z
    · exact (f b hb).2.2.2.2.2 p (by simpa [compCx] using hp)
  have hgY : PG Y tg g := hY ▸ hg _ _ _ _ _ _
  have hfY : PIf Y ifs tt := hY ▸ hf _ _ _ _ _ _
  have heY : PE Y elt te := hY ▸ he _ _ _ _ _ _
  have e1 : Y.prog = X.prog := by subst hY; rfl
  have e2 : Y.w = X.w := by subst hY; rfl
  have e3 : Y.K = X.K := by subst hY; rfl
  have e4 : Y.calm = true := by subst hY; exact hc
  have e5 : Y.A = X.A := by subst hY; rfl
  have e6 : Y.env = compEnvC scope (closL X.env.cells scope.names []) (s.heap.push { cls := .type "list", data := .seq #[] }).objs.size X.env := by subst hY; rfl
  have e7 : Y.xe = fun _ _ => False := by subst hY; rfl
  have hfp0 : ∀ b ∈ fp, upd H s.heap.objs.size (.lst []) b = none := fun b hb => by rw [upd_ne (Nat.ne_of_lt (below b hb))]; exact (f b hb).1
  have st0 : tn 0 h₁ := T.keep _ _ _ st fun b hb o e => hsb₁.extBut b o (by
    have := below b hb
    rw [Heap.size_push]
    exact Nat.ne_of_lt (Nat.lt_succ_of_lt this)) (Heap.get?_push_of_some _ (Heap.get?_push_of_some _ e))
  have loop : ∀ s₃ : Shared, s₃ = { s with heap := h₁, toks := s.toks + ([] : List (Str × Value)).length } →
      codeAny (model X.prog X.w) X.A (.compLoop (.ListComp elt [⟨tg, iter, ifs, 0⟩] scope pos) 0 (.ref it) (.ref s.heap.objs.size)
        (compEnvC scope (closL X.env.cells scope.names []) (s.heap.push { cls := .type "list", data := .seq #[] }).objs.size X.env)) (RR (.ref s.heap.objs.size) (s.heap.push { cls := .type "list", data := .seq #[] }).objs.size) s₃ := by
    rintro s₃ rfl
    refine compLoop_go (fun n s' => ∃ i τ H', Inv Y [] τ H' s' ∧ tn i s'.heap ∧ (∀ b ∈ fp, H' b = none) ∧ W i n τ H') ?_ m0 ⟨0, _, _, J0, st0, hfp0, w0⟩
    rintro n s' ⟨i, τ, H', I', st', fr', w'⟩
    rcases turn i n τ H' w' with ⟨stop, qn⟩ | ⟨go, M, hM, step⟩
    · have z := T.done Y e1 e2 e3 e4 i [] s' τ H' (fun _ _ => False) I' (stat fr') st' stop
      rw [e5] at z
      refine thn z fun r s4 ⟨hr, I4⟩ => ?_
      subst hr
      subst hY
      obtain ⟨m, hn4, _⟩ := I4.loc
      have ho : s4.os = s.os := I4.os
      have un : Un (frs X.stack) fp H H' s.heap s4.heap := by
        have u1 : Un (frs X.stack) fp H (upd H s.heap.objs.size (.lst [])) s.heap (s.heap.push { cls := .type "list", data := .seq #[] }) := Un.laid (fun b u e => Heap.get?_push_of_some _ e) (Nat.le_refl _) hDfree
        exact u1.trans I4.base
      have IX : Inv X pins σ H' s4 := I.call' ho un I4.hok I4.bare fun b hb => ⟨(f b hb).2.2.2.1, (f b hb).2.1, (f b hb).2.2.2.2.1, (f b hb).2.2.2.2.2⟩
      exact fin _ _ H' s4 m IX (I.fpOk (by rw [Heap.size_push]; exact Nat.le_succ _) I4.free) hn4 qn
    · have z := T.item Y e1 e2 e3 e4 i [] s' τ H' (fun _ _ => False) I' (stat fr') st' go
      rw [e5] at z
      refine thn z fun r s4 ⟨u, hr, h4⟩ => ?_
      subst hr
      refine thn h4 fun _ s5 => L2.ex5 fun x H5 I5 r5 hq_ => ?_
      obtain ⟨y5, st5, fr5⟩ := hq_
      have I5' := I5.pinned (stat fr5) (T.obj _ _ st5)
      have zg := hgY _ s5 τ H5 x u _ I5' r5 (step x H5 y5)
      rw [e1, e2, e5, e6, e7] at zg
      refine thn zg fun _ s6 ⟨τ6, H6, I6, q6⟩ => ?_
      have zf := hfY _ s6 τ6 H6 _ I6 q6
      rw [e1, e2, e5, e6, e7] at zf
      refine thn zf fun b s7 => L2.ex3 fun H7 I7 q7 => ?_
      have again : ∀ {H8 : Hp} {s8 : Shared}, Inv Y ([] ++ pinsAt fp s5.heap) τ6 H8 s8 → M τ6 H8 → ∃ m, m < n ∧ ∃ i τ H', Inv Y [] τ H' s8 ∧ tn i s8.heap ∧ (∀ b ∈ fp, H' b = none) ∧ W i m τ H' := fun {H8 s8} I8 w8 => by
        obtain ⟨m', hm, w8⟩ := hM _ _ w8
        refine ⟨m', hm, i + 1, τ6, H8, I8.unpinned, T.keep _ _ _ st5 fun b hb o e => (I8.pin (b, o) (List.mem_append_right _ (List.mem_append_right _ (mem_pinsAt hb e)))).1, fun b hb => ?_, w8⟩
        obtain ⟨o, e, d⟩ := T.obj _ _ st5 b hb
        exact (I8.pin (b, o) (List.mem_append_right _ (List.mem_append_right _ (mem_pinsAt hb e)))).2.1
      cases b with
      | false => exact again I7 q7
      | true =>
        have ze := heY _ s7 τ6 H7 _ I7 q7
        rw [e1, e2, e5, e6, e7] at ze
        refine thn ze fun v s8 => L2.ex5 fun y H8 I8 r8 hq_ => ?_
        obtain ⟨ys, hD, hz, q8⟩ := hq_
        have za := mt_append (X := Y) _ s8 τ6 H8 (.ref s.heap.objs.size) [y] (.ref s.heap.objs.size) [v] (fun _ H9 => H9 = upd H8 s.heap.objs.size (.lst (ys ++ [y]))) I8 rfl (.cons r8 .nil) ⟨_, ys, y, rfl, rfl, hD, hz, rfl⟩
        rw [e1, e2, e5, e7] at za
        refine thn za fun _ s9 ⟨_, H9, I9, _, e9⟩ => ?_
        subst e9
        exact again I9 q8
  exact codeAny_compStart_list (loop _ rfl) (T.self X.A 0 _ _ _ st0 (loop _ rfl))

theorem cap_ok {osc : Scope} {XN : List Str} (h1 : X.env.scope = osc) (h2 : X.N = XN) (ok : capOk osc scope XN N cap = true) : capOk X.env.scope scope X.N N cap = true := by
  rw [h1, h2]
  exact ok
theorem pe_comp (hc : X.calm = true) (ok : capOk X.env.scope scope X.N N cap = true) (hi : PI X tg iter wi)
    (hg : ∀ cl C s H fp pins, PG (compCx X scope cl C N s H fp pins) tg g) (hf : ∀ cl C s H fp pins, PIf (compCx X scope cl C N s H fp pins) ifs tt) (he : ∀ cl C s H fp pins, PE (compCx X scope cl C N s H fp pins) elt te)
    (hs : ∀ x, foldedSetIterable iter X.env x = pure x := by intro _; rfl) : PE X (.ListComp elt [⟨tg, iter, ifs, 0⟩] scope pos) (tComp wi cap g tt te) := by
  intro pins s σ H Q I h
  have ok' := ok
  simp only [capOk, Bool.and_eq_true, List.all_eq_true, beq_iff_eq] at ok'
  obtain ⟨⟨⟨⟨hkind, _⟩, hnames⟩, _⟩, _⟩ := ok'
  rw [eval_ListComp]
  refine wpAny_comprehension_free (use := none) rfl hs (closureFor_clos (I.clos ok)) hkind (fun y hy hl => by simpa [hl] using hnames y hy) (thn (hi pins s σ H _ I h) fun xv s1 h1 => thn h1 fun itv s2 h2 => ?_)
  obtain ⟨it, fp, tn, J, H2, e, I2, T, st2, f2, q⟩ := h2
  subst e
  refine comp_block (RR := fun acc C => compPost (model X.prog X.w) X.A X.xe none (EP X pins σ Q) acc C) hc ok hg hf he I2 T st2 f2 q ?_
  intro D C H' s' m I' fC hn qn
  obtain ⟨f0, f1, f2', f3, f4, f5⟩ := fC
  exact ⟨m, hn, fun h' sb => ⟨.ref D, H', I'.turned (t' := s'.toks) (fun b o hb e => sb.extBut b o hb e) f0 f1 f3 f4 f5, rfl, qn⟩⟩

/-- name = [ .. ] on one row, the name a plain local: it is stored ahead of the block's end -/
theorem ps_setC {i : Nat} {x : Str} {pos' spos : Pos} (hN : X.N.Nodup) (hi' : X.N[i]? = some x) (hx : X.env.scope.names.lookup x = some .local) (hc : X.calm = true) (ok : capOk X.env.scope scope X.N N cap = true) (hi : PI X tg iter wi)
    (hg : ∀ cl C s H fp pins, PG (compCx X scope cl C N s H fp pins) tg g) (hf : ∀ cl C s H fp pins, PIf (compCx X scope cl C N s H fp pins) ifs tt) (he : ∀ cl C s H fp pins, PE (compCx X scope cl C N s H fp pins) elt te)
    (hsw : swapsWith (.ListComp elt [⟨tg, iter, ifs, 0⟩] scope pos) (some (.Name x pos')) spos.line X.env = pure true)
    (hs : ∀ x, foldedSetIterable iter X.env x = pure x := by intro _; rfl) :
    PS X (.Assign [.Name x pos'] (.ListComp elt [⟨tg, iter, ifs, 0⟩] scope pos) spos) (tAsg (tComp wi cap g tt te) (gName i)) := by
  intro pins s σ H D I h
  have ok' := ok
  simp only [capOk, Bool.and_eq_true, List.all_eq_true, beq_iff_eq] at ok'
  obtain ⟨⟨⟨⟨hkind, _⟩, hnames⟩, _⟩, _⟩ := ok'
  rw [exec_Assign_Name_used _ _ _ _ hsw]
  refine wpAny_bind (wpAny_standAt (wpAny_bind ?_))
  show wpAny _ X.A (do let _ ← comprehension (.ListComp elt [⟨tg, iter, ifs, 0⟩] scope pos) scope X.env _ (newList []) false (eval iter X.env) (some (assign (.Name x pos') X.env))) _ _ s
  refine wpAny_bind (wpAny_mono (wpAny_comprehension_free (use := some (assign (.Name x pos') X.env)) (Q := fun _ s' => SP X pins D .next s') rfl hs (closureFor_clos (I.clos ok)) hkind (fun y hy hl => by simpa [hl] using hnames y hy)
    (thn (hi pins s σ H _ I h) fun xv s1 h1 => thn h1 fun itv s2 h2 => ?_)) (fun _ s' hq => wpAny_pure (wpAny_pure hq)) fun _ _ e => e)
  obtain ⟨it, fp, tn, J, H2, e, I2, T, st2, f2, q⟩ := h2
  subst e
  refine comp_block (RR := fun acc C => compPost (model X.prog X.w) X.A X.xe (some (assign (.Name x pos') X.env)) (fun _ s' => SP X pins D .next s') acc C) hc ok hg hf he I2 T st2 f2 q ?_
  intro Dd C H' s' m I' fC hn qn
  obtain ⟨f0, f1, f2', f3, f4, f5⟩ := fC
  show wpAny _ X.A (assign (.Name x pos') X.env (.ref Dd)) _ _ _
  refine wpAny_assign_Name (store_ok2 I' hN hi' (.inl hx) (v := .ref Dd) rfl (fun s3 I3 ⟨a, sb, ha⟩ => ?_) (.inr hx))
  have hCa : C ≠ a := by
    rcases ha with z | z
    · rw [z]; exact f1
    · exact fun w => f4 x a z w.symm
  refine ⟨m, hn.sameBut sb hCa, fun h' sb2 => ?_⟩
  exact ⟨_, H', I3.turned (t' := s3.toks) (fun b o hb e => sb2.extBut b o hb e) f0 f1 f3 f4 f5, qn⟩

/-! the forms one uses: over a list, a tuple, a range -/
/-- over a list that the block leaves as it is -/
theorem comp_list {K : PySem.W.Frag} {a D : Addr} {xs : List V} {τ : St} {H : Hp} {Q : VK} (Pv : Nat → St → Hp → Prop) (h0 : Pv 0 τ H) (hl : ∀ i τ H, i ≤ xs.length → Pv i τ H → SqL K H a xs)
    (hs : ∀ i x τ H, xs[i]? = some x → Pv i τ H → g x τ H fun τ2 H2 => tt τ2 H2 fun b H3 =>
      if b = true then te τ2 H3 fun y H4 => ∃ ys, H4 D = some (.lst ys) ∧ ys.length < sizeLine ∧ Pv (i + 1) τ2 (upd H4 D (.lst (ys ++ [y]))) else Pv (i + 1) τ2 H3)
    (hd : ∀ τ H, Pv xs.length τ H → Q (.ref D) H) : CompW (Itl K a) D τ H g tt te Q := by
  refine ⟨fun i m τ H => m = xs.length - i ∧ i ≤ xs.length ∧ Pv i τ H, ⟨xs.length, by simp, Nat.zero_le _, h0⟩, ?_⟩
  rintro i m τ H ⟨rfl, hi, p⟩
  have q := hl i τ H hi p
  by_cases hlt : i < xs.length
  · refine .inr ⟨⟨xs, xs[i], q, by simp [hlt]⟩, Pv (i + 1), fun τ' H' p' => ⟨xs.length - (i + 1), by omega, rfl, hlt, p'⟩, fun x H' y => ?_⟩
    obtain ⟨e, y⟩ := y
    subst e
    exact hs i x τ _ (y xs q) p
  · have e : i = xs.length := by omega
    subst e
    exact .inl ⟨⟨xs, q, Nat.le_refl _⟩, hd τ H p⟩
theorem comp_tup {K : PySem.W.Frag} {a D : Addr} {xs : List V} {τ : St} {H : Hp} {Q : VK} (Pv : Nat → St → Hp → Prop) (h0 : Pv 0 τ H) (hl : ∀ i τ H, i ≤ xs.length → Pv i τ H → SqT K H a xs)
    (hs : ∀ i x τ H, xs[i]? = some x → Pv i τ H → g x τ H fun τ2 H2 => tt τ2 H2 fun b H3 =>
      if b = true then te τ2 H3 fun y H4 => ∃ ys, H4 D = some (.lst ys) ∧ ys.length < sizeLine ∧ Pv (i + 1) τ2 (upd H4 D (.lst (ys ++ [y]))) else Pv (i + 1) τ2 H3)
    (hd : ∀ τ H, Pv xs.length τ H → Q (.ref D) H) : CompW (Itt K a) D τ H g tt te Q := by
  refine ⟨fun i m τ H => m = xs.length - i ∧ i ≤ xs.length ∧ Pv i τ H, ⟨xs.length, by simp, Nat.zero_le _, h0⟩, ?_⟩
  rintro i m τ H ⟨rfl, hi, p⟩
  have q := hl i τ H hi p
  by_cases hlt : i < xs.length
  · refine .inr ⟨⟨xs, xs[i], q, by simp [hlt]⟩, Pv (i + 1), fun τ' H' p' => ⟨xs.length - (i + 1), by omega, rfl, hlt, p'⟩, fun x H' y => ?_⟩
    obtain ⟨e, y⟩ := y
    subst e
    exact hs i x τ _ (y xs q) p
  · have e : i = xs.length := by omega
    subst e
    exact .inl ⟨⟨xs, q, Nat.le_refl _⟩, hd τ H p⟩
theorem comp_range {lo : Int} {n : Nat} {D : Addr} {τ : St} {H : Hp} {Q : VK} (Pv : Nat → St → Hp → Prop) (h0 : Pv 0 τ H)
    (hs : ∀ i τ H, i < n → Pv i τ H → g (.int (lo + i)) τ H fun τ2 H2 => tt τ2 H2 fun b H3 =>
      if b = true then te τ2 H3 fun y H4 => ∃ ys, H4 D = some (.lst ys) ∧ ys.length < sizeLine ∧ Pv (i + 1) τ2 (upd H4 D (.lst (ys ++ [y]))) else Pv (i + 1) τ2 H3)
    (hd : ∀ τ H, Pv n τ H → Q (.ref D) H) : CompW (Itr lo n) D τ H g tt te Q := by
  refine ⟨fun i m τ H => m = n - i ∧ i ≤ n ∧ Pv i τ H, ⟨n, by simp, Nat.zero_le _, h0⟩, ?_⟩
  rintro i m τ H ⟨rfl, hi, p⟩
  by_cases hlt : i < n
  · refine .inr ⟨hlt, Pv (i + 1), fun τ' H' p' => ⟨n - (i + 1), by omega, rfl, hlt, p'⟩, fun x H' y => ?_⟩
    obtain ⟨e, y⟩ := y
    subst e y
    exact hs i τ _ hlt p
  · have e : i = n := by omega
    subst e
    exact .inl ⟨Nat.le_refl _, hd τ H p⟩
end
end L2

/-! ### plain data: None, bools, ints, texts, lists and tuples of these; == and != of them -/
namespace L2
open PySem PySem.Spec PyProof.Rows PySem.SeqAt

inductive Dt where
  | non | bl (b : Bool) | int (i : Int) | str (x : Str) | lst (xs : List Dt) | tup (xs : List Dt)

mutual
/-- the value x stands for the datum -/
def DtV (K : PySem.W.Frag) (H : Hp) : Dt → V → Prop
  | .non, x => x = .non
  | .bl b, x => x = .bl b
  | .int i, x => x = .int i
  | .str z, x => x = .str z
  | .lst ds, x => ∃ a xs, x = .ref a ∧ SqL K H a xs ∧ DtVs K H ds xs
  | .tup ds, x => ∃ a xs, x = .ref a ∧ SqT K H a xs ∧ DtVs K H ds xs
def DtVs (K : PySem.W.Frag) (H : Hp) : List Dt → List V → Prop
  | [], xs => xs = []
  | d :: ds, xs => ∃ y ys, xs = y :: ys ∧ DtV K H d y ∧ DtVs K H ds ys
end
mutual
/-- how deep, at most -/
def DeepLe : Nat → Dt → Prop
  | n + 1, .lst ds => DeepsLe n ds
  | n + 1, .tup ds => DeepsLe n ds
  | 0, .lst _ => False
  | 0, .tup _ => False
  | _, .non => True
  | _, .bl _ => True
  | _, .int _ => True
  | _, .str _ => True
def DeepsLe : Nat → List Dt → Prop
  | _, [] => True
  | n, d :: ds => DeepLe n d ∧ DeepsLe n ds
end
mutual
def eqD : Dt → Dt → Bool
  | .non, .non => true
  | .bl a, .bl b => a == b
  | .bl a, .int b => (if a then 1 else 0) == b
  | .int a, .bl b => a == (if b then 1 else 0)
  | .int a, .int b => a == b
  | .str a, .str b => a == b
  | .lst xs, .lst ys => eqDs xs ys
  | .tup xs, .tup ys => eqDs xs ys
  | _, _ => false
def eqDs : List Dt → List Dt → Bool
  | [], [] => true
  | x :: xs, y :: ys => eqD x y && eqDs xs ys
  | _, _ => false
end
mutual
theorem eqD_refl : ∀ d : Dt, eqD d d = true
  | .non => rfl
  | .bl b => by simp [eqD]
  | .int i => by simp [eqD]
  | .str x => by simp [eqD]
  | .lst xs => by
    rw [eqD]
    exact eqDs_refl xs
  | .tup xs => by
    rw [eqD]
    exact eqDs_refl xs
theorem eqDs_refl : ∀ ds : List Dt, eqDs ds ds = true
  | [] => rfl
  | d :: ds => by rw [eqDs, eqD_refl d, eqDs_refl ds]; rfl
end
theorem DtVs.length {K : PySem.W.Frag} {H : Hp} : ∀ {ds : List Dt} {xs : List V}, DtVs K H ds xs → ds.length = xs.length
  | [], xs, h => by
    have e : xs = [] := h
    subst e
    rfl
  | d :: ds, xs, h => by
    obtain ⟨y, ys, e, _, h2⟩ := h
    subst e
    simp [DtVs.length h2]
theorem DtVs.get {K : PySem.W.Frag} {H : Hp} : ∀ {ds : List Dt} {xs : List V} {j : Nat} {d : Dt}, DtVs K H ds xs → ds[j]? = some d → ∃ x, xs[j]? = some x ∧ DtV K H d x
  | [], _, _, _, _, e => by simp at e
  | d :: ds, xs, j, d', h, e => by
    obtain ⟨y, ys, e2, h1, h2⟩ := h
    subst e2
    cases j with
    | zero =>
      simp at e
      subst e
      exact ⟨y, rfl, h1⟩
    | succ j =>
      obtain ⟨x, hx, hd⟩ := DtVs.get (j := j) h2 (by simpa using e)
      exact ⟨x, by simpa using hx, hd⟩
theorem DtVs.snoc {K : PySem.W.Frag} {H : Hp} {d : Dt} {x : V} (hd : DtV K H d x) : ∀ {ds : List Dt} {xs : List V}, DtVs K H ds xs → DtVs K H (ds ++ [d]) (xs ++ [x])
  | [], xs, h => by
    have e : xs = [] := h
    subst e
    exact ⟨x, [], rfl, hd, rfl⟩
  | e :: ds, xs, h => by
    obtain ⟨y, ys, e2, h1, h2⟩ := h
    subst e2
    exact ⟨y, ys ++ [x], rfl, h1, h2.snoc hd⟩
theorem DtVs.append {K : PySem.W.Frag} {H : Hp} {es : List Dt} {zs : List V} (hd : DtVs K H es zs) : ∀ {ds : List Dt} {xs : List V}, DtVs K H ds xs → DtVs K H (ds ++ es) (xs ++ zs)
  | [], xs, h => by
    have e : xs = [] := h
    subst e
    exact hd
  | e :: ds, xs, h => by
    obtain ⟨y, ys, e2, h1, h2⟩ := h
    subst e2
    exact ⟨y, ys ++ zs, rfl, h1, DtVs.append hd h2⟩
theorem DeepsLe.get {n : Nat} : ∀ {ds : List Dt} {j : Nat} {d : Dt}, DeepsLe n ds → ds[j]? = some d → DeepLe n d
  | [], _, _, _, e => by simp at e
  | d :: ds, j, d', h, e => by
    cases j with
    | zero =>
      simp at e
      subst e
      exact h.1
    | succ j => exact DeepsLe.get (j := j) h.2 (by simpa using e)
theorem DeepsLe.of {n : Nat} : ∀ {ds : List Dt}, (∀ d ∈ ds, DeepLe n d) → DeepsLe n ds
  | [], _ => trivial
  | d :: ds, h => ⟨h d List.mem_cons_self, DeepsLe.of fun e he => h e (List.mem_cons_of_mem _ he)⟩
/-- what was tracked is as it was: the data stand -/
theorem Same.sqL {K : PySem.W.Frag} {H H' : Hp} {a : Addr} {xs : List V} (e : Same H H') (h : SqL K H a xs) : SqL K H' a xs := e.seq h
theorem Same.sqT {K : PySem.W.Frag} {H H' : Hp} {a : Addr} {xs : List V} (e : Same H H') (h : SqT K H a xs) : SqT K H' a xs := by
  rcases h with (h | ⟨o, h⟩) | h
  · exact .inl (.inl (e _ _ h))
  · exact .inl (.inr ⟨o, e _ _ h⟩)
  · exact .inr h
mutual
theorem Same.dt {K : PySem.W.Frag} {H H' : Hp} (e : Same H H') : ∀ {d : Dt} {x : V}, DtV K H d x → DtV K H' d x
  | .non, _, h => h
  | .bl _, _, h => h
  | .int _, _, h => h
  | .str _, _, h => h
  | .lst ds, _, h => by
    obtain ⟨a, xs, e1, h1, h2⟩ := h
    exact ⟨a, xs, e1, e.sqL h1, e.dts h2⟩
  | .tup ds, _, h => by
    obtain ⟨a, xs, e1, h1, h2⟩ := h
    exact ⟨a, xs, e1, e.sqT h1, e.dts h2⟩
theorem Same.dts {K : PySem.W.Frag} {H H' : Hp} (e : Same H H') : ∀ {ds : List Dt} {xs : List V}, DtVs K H ds xs → DtVs K H' ds xs
  | [], _, h => h
  | d :: ds, _, h => by
    obtain ⟨y, ys, e1, h1, h2⟩ := h
    exact ⟨y, ys, e1, e.dt h1, e.dts h2⟩
end
theorem Same.new {H : Hp} {p : Addr} {o : HO} (h : H p = none) : Same H (upd H p o) := fun b u e => by
  rw [upd_ne (ne_of_none e h)]
  exact e

section
variable {X : Cx} {pins : List (Addr × Obj)} {σ : St} {H : Hp} {s : Shared}
theorem Inv.notBoth (I : Inv X pins σ H s) {a : Addr} {xs ys : List V} (h : SqL X.K H a xs) (h' : SqT X.K H a ys) : False := by
  obtain ⟨its, _, pl, _⟩ := I.list h
  obtain ⟨its', _, pt, _⟩ := I.tuple h'
  obtain ⟨o, n, e, c, _⟩ := pl
  obtain ⟨o', e', c', _⟩ := pt
  rw [e] at e'
  cases e'
  rw [c] at c'
  exact absurd c' (by simp)
mutual
theorem Inv.dtUniq (I : Inv X pins σ H s) : ∀ {d e : Dt} {x : V}, DtV X.K H d x → DtV X.K H e x → d = e
  | .non, e, _, h, h' => by
    have h : _ = V.non := h
    subst h
    cases e with
    | non => rfl
    | bl _ => exact nomatch (show V.non = _ from h')
    | int _ => exact nomatch (show V.non = _ from h')
    | str _ => exact nomatch (show V.non = _ from h')
    | lst _ => obtain ⟨_, _, q, _⟩ := h'; cases q
    | tup _ => obtain ⟨_, _, q, _⟩ := h'; cases q
  | .bl b, e, _, h, h' => by
    have h : _ = V.bl b := h
    subst h
    cases e with
    | non => exact nomatch (show V.bl b = _ from h')
    | bl c =>
      have q : V.bl b = V.bl c := h'
      cases q
      rfl
    | int _ => exact nomatch (show V.bl b = _ from h')
    | str _ => exact nomatch (show V.bl b = _ from h')
    | lst _ => obtain ⟨_, _, q, _⟩ := h'; cases q
    | tup _ => obtain ⟨_, _, q, _⟩ := h'; cases q
  | .int b, e, _, h, h' => by
    have h : _ = V.int b := h
    subst h
    cases e with
    | non => exact nomatch (show V.int b = _ from h')
    | bl c => exact nomatch (show V.int b = _ from h')
    | int c =>
      have q : V.int b = V.int c := h'
      cases q
      rfl
    | str _ => exact nomatch (show V.int b = _ from h')
    | lst _ => obtain ⟨_, _, q, _⟩ := h'; cases q
    | tup _ => obtain ⟨_, _, q, _⟩ := h'; cases q
  | .str b, e, _, h, h' => by
    have h : _ = V.str b := h
    subst h
    cases e with
    | non => exact nomatch (show V.str b = _ from h')
    | bl c => exact nomatch (show V.str b = _ from h')
    | int _ => exact nomatch (show V.str b = _ from h')
    | str c =>
      have q : V.str b = V.str c := h'
      cases q
      rfl
    | lst _ => obtain ⟨_, _, q, _⟩ := h'; cases q
    | tup _ => obtain ⟨_, _, q, _⟩ := h'; cases q
  | .lst ds, e, _, h, h' => by
    obtain ⟨a, xs, e1, h1, h2⟩ := h
    subst e1
    cases e with
    | non => exact nomatch (show V.ref a = _ from h')
    | bl c => exact nomatch (show V.ref a = _ from h')
    | int _ => exact nomatch (show V.ref a = _ from h')
    | str _ => exact nomatch (show V.ref a = _ from h')
    | lst es =>
      obtain ⟨b, ys, e2, h3, h4⟩ := h'
      cases e2
      have q := I.list_inj h1 h3
      subst q
      rw [I.dtsUniq h2 h4]
    | tup es =>
      obtain ⟨b, ys, e2, h3, h4⟩ := h'
      cases e2
      exact (I.notBoth h1 h3).elim
  | .tup ds, e, _, h, h' => by
    obtain ⟨a, xs, e1, h1, h2⟩ := h
    subst e1
    cases e with
    | non => exact nomatch (show V.ref a = _ from h')
    | bl c => exact nomatch (show V.ref a = _ from h')
    | int _ => exact nomatch (show V.ref a = _ from h')
    | str _ => exact nomatch (show V.ref a = _ from h')
    | lst es =>
      obtain ⟨b, ys, e2, h3, h4⟩ := h'
      cases e2
      exact (I.notBoth h3 h1).elim
    | tup es =>
      obtain ⟨b, ys, e2, h3, h4⟩ := h'
      cases e2
      have q := I.tuple_inj h1 h3
      subst q
      rw [I.dtsUniq h2 h4]
theorem Inv.dtsUniq (I : Inv X pins σ H s) : ∀ {ds es : List Dt} {xs : List V}, DtVs X.K H ds xs → DtVs X.K H es xs → ds = es
  | [], es, _, h, h' => by
    have h : _ = [] := h
    subst h
    cases es with
    | nil => rfl
    | cons e es => obtain ⟨_, _, q, _⟩ := h'; cases q
  | d :: ds, es, _, h, h' => by
    obtain ⟨y, ys, e1, h1, h2⟩ := h
    subst e1
    cases es with
    | nil => exact nomatch (show y :: ys = [] from h')
    | cons e es =>
      obtain ⟨z, zs, q, h3, h4⟩ := h'
      cases q
      rw [I.dtUniq h1 h3, I.dtsUniq h2 h4]
end
def pairD (ds es : List Dt) (j : Nat) : Bool := eqD (ds.getD j .non) (es.getD j .non)
theorem eqDs_all : ∀ ds es : List Dt, ((List.range (min ds.length es.length)).all (pairD ds es) && ds.length == es.length) = eqDs ds es
  | [], [] => rfl
  | [], _ :: _ => by simp [eqDs]
  | _ :: _, [] => by simp [eqDs]
  | d :: ds, e :: es => by
    have ih := eqDs_all ds es
    have e1 : min (d :: ds).length (e :: es).length = min ds.length es.length + 1 := by simp only [List.length_cons]; omega
    have e2 : ((d :: ds).length == (e :: es).length) = (ds.length == es.length) := by simp
    have e3 : (List.range (min ds.length es.length + 1)).all (pairD (d :: ds) (e :: es)) = (eqD d e && (List.range (min ds.length es.length)).all (pairD ds es)) := by
      rw [List.range_succ_eq_map, List.all_cons, List.all_map]
      rfl
    rw [e1, e2, e3, eqDs, ← ih, Bool.and_assoc]
theorem eqDs_len {ds es : List Dt} (h : ds.length = es.length) : (List.range ds.length).all (pairD ds es) = eqDs ds es := by
  have := eqDs_all ds es
  rw [← h, Nat.min_self] at this
  simpa using this
theorem eqDs_nolen {ds es : List Dt} (h : ds.length ≠ es.length) : eqDs ds es = false := by
  rw [← eqDs_all ds es]
  simp [h]
end
section
variable {X : Cx} {pins : List (Addr × Obj)} {σ : St} {H : Hp} {s : Shared}
theorem Inv.isL (I : Inv X pins σ H s) {a : Addr} {xs : List V} (h : SqL X.K H a xs) : ∃ its : List Value, Vals xs its ∧ s.heap.IsList a its.toArray :=
  let ⟨its, r, pl, _⟩ := I.list h
  ⟨its, r, pl.isList⟩
theorem Inv.isT (I : Inv X pins σ H s) {a : Addr} {xs : List V} (h : SqT X.K H a xs) : ∃ its : List Value, Vals xs its ∧ s.heap.IsTuple a its.toArray :=
  let ⟨its, r, pt, _⟩ := I.tuple h
  ⟨its, r, pt⟩
theorem pairD_get {ds es : List Dt} {j : Nat} {d e : Dt} (h1 : ds[j]? = some d) (h2 : es[j]? = some e) : pairD ds es j = eqD d e := by
  unfold pairD
  rw [List.getD_eq_getElem?_getD, List.getD_eq_getElem?_getD, h1, h2]
  rfl
theorem get_of {α : Type} {l : List α} {j : Nat} (h : j < l.length) : ∃ x, l[j]? = some x := ⟨l[j], by simp [h]⟩
mutual
theorem Inv.eqAt (I : Inv X pins σ H s) : ∀ {d e : Dt} {x y : V} {u v : Value} {n : Nat} {A : Around}, DtV X.K H d x → DtV X.K H e y → RelV x u → RelV y v → DeepLe n d → A.units + n < cLine → EqAt A s u v (eqD d e)
  | .non, e, x, y, u, v, n, A, h, h', rx, ry, _, hu => by
    have hu : A.units < cLine := Nat.lt_of_le_of_lt (Nat.le_add_right _ _) hu
    have h : x = V.non := h
    subst h
    cases e with
    | non =>
      have h' : y = V.non := h'
      subst h'
      exact eqAt_V rx ry rfl rfl
    | bl c =>
      have h' : y = V.bl c := h'
      subst h'
      exact eqAt_V rx ry rfl rfl
    | int c =>
      have h' : y = V.int c := h'
      subst h'
      exact eqAt_V rx ry rfl rfl
    | str c =>
      have h' : y = V.str c := h'
      subst h'
      exact eqAt_V rx ry rfl rfl
    | lst es =>
      obtain ⟨a, ys, rfl, h1, _⟩ := h'
      obtain rfl : v = Value.ref a := ry
      obtain ⟨its, _, hl⟩ := I.isL h1
      obtain rfl : u = Value.none := rx
      exact EqAt.none_list hl hu
    | tup es =>
      obtain ⟨a, ys, rfl, h1, _⟩ := h'
      obtain rfl : v = Value.ref a := ry
      obtain ⟨its, _, hl⟩ := I.isT h1
      obtain rfl : u = Value.none := rx
      exact EqAt.none_tuple hl hu
  | .bl b, e, x, y, u, v, n, A, h, h', rx, ry, _, hu => by
    have hu : A.units < cLine := Nat.lt_of_le_of_lt (Nat.le_add_right _ _) hu
    have h : x = V.bl b := h
    subst h
    cases e with
    | non =>
      have h' : y = V.non := h'
      subst h'
      exact eqAt_V rx ry rfl rfl
    | bl c =>
      have h' : y = V.bl c := h'
      subst h'
      exact eqAt_V rx ry rfl rfl
    | int c =>
      have h' : y = V.int c := h'
      subst h'
      exact eqAt_V rx ry rfl rfl
    | str c =>
      have h' : y = V.str c := h'
      subst h'
      exact eqAt_V rx ry rfl rfl
    | lst es =>
      obtain ⟨a, ys, rfl, h1, _⟩ := h'
      obtain rfl : v = Value.ref a := ry
      obtain ⟨its, _, hl⟩ := I.isL h1
      obtain rfl : u = Value.bool b := rx
      exact EqAt.bool_list b hl hu
    | tup es =>
      obtain ⟨a, ys, rfl, h1, _⟩ := h'
      obtain rfl : v = Value.ref a := ry
      obtain ⟨its, _, hl⟩ := I.isT h1
      obtain rfl : u = Value.bool b := rx
      exact EqAt.bool_tuple b hl hu
  | .int b, e, x, y, u, v, n, A, h, h', rx, ry, _, hu => by
    have hu : A.units < cLine := Nat.lt_of_le_of_lt (Nat.le_add_right _ _) hu
    have h : x = V.int b := h
    subst h
    cases e with
    | non =>
      have h' : y = V.non := h'
      subst h'
      exact eqAt_V rx ry rfl rfl
    | bl c =>
      have h' : y = V.bl c := h'
      subst h'
      exact eqAt_V rx ry rfl rfl
    | int c =>
      have h' : y = V.int c := h'
      subst h'
      exact eqAt_V rx ry rfl rfl
    | str c =>
      have h' : y = V.str c := h'
      subst h'
      exact eqAt_V rx ry rfl rfl
    | lst es =>
      obtain ⟨a, ys, rfl, h1, _⟩ := h'
      obtain rfl : v = Value.ref a := ry
      obtain ⟨its, _, hl⟩ := I.isL h1
      obtain ⟨t, rfl⟩ := rx
      exact EqAt.int_list b t hl hu
    | tup es =>
      obtain ⟨a, ys, rfl, h1, _⟩ := h'
      obtain rfl : v = Value.ref a := ry
      obtain ⟨its, _, hl⟩ := I.isT h1
      obtain ⟨t, rfl⟩ := rx
      exact EqAt.int_tuple b t hl hu
  | .str b, e, x, y, u, v, n, A, h, h', rx, ry, _, hu => by
    have hu : A.units < cLine := Nat.lt_of_le_of_lt (Nat.le_add_right _ _) hu
    have h : x = V.str b := h
    subst h
    cases e with
    | non =>
      have h' : y = V.non := h'
      subst h'
      exact eqAt_V rx ry rfl rfl
    | bl c =>
      have h' : y = V.bl c := h'
      subst h'
      exact eqAt_V rx ry rfl rfl
    | int c =>
      have h' : y = V.int c := h'
      subst h'
      exact eqAt_V rx ry rfl rfl
    | str c =>
      have h' : y = V.str c := h'
      subst h'
      exact eqAt_V rx ry rfl rfl
    | lst es =>
      obtain ⟨a, ys, rfl, h1, _⟩ := h'
      obtain rfl : v = Value.ref a := ry
      obtain ⟨its, _, hl⟩ := I.isL h1
      obtain ⟨t, rfl⟩ := rx
      exact EqAt.str_list b t hl hu
    | tup es =>
      obtain ⟨a, ys, rfl, h1, _⟩ := h'
      obtain rfl : v = Value.ref a := ry
      obtain ⟨its, _, hl⟩ := I.isT h1
      obtain ⟨t, rfl⟩ := rx
      exact EqAt.str_tuple b t hl hu
  | .lst ds, e, x, y, u, v, n, A, h, h', rx, ry, hd, hu => by
    obtain ⟨a, xs, rfl, g1, g2⟩ := h
    obtain rfl : u = Value.ref a := rx
    obtain ⟨its, rv, hl⟩ := I.isL g1
    cases n with
    | zero => exact False.elim hd
    | succ n =>
    have hu0 : A.units < cLine := Nat.lt_of_le_of_lt (Nat.le_add_right _ _) hu
    cases e with
    | non =>
      have h' : y = V.non := h'
      subst h'
      obtain rfl : v = Value.none := ry
      exact EqAt.list_none hl hu0
    | bl c =>
      have h' : y = V.bl c := h'
      subst h'
      obtain rfl : v = Value.bool c := ry
      exact EqAt.list_bool c hl hu0
    | int c =>
      have h' : y = V.int c := h'
      subst h'
      obtain ⟨t, rfl⟩ := ry
      exact EqAt.list_int c t hl hu0
    | str c =>
      have h' : y = V.str c := h'
      subst h'
      obtain ⟨t, rfl⟩ := ry
      exact EqAt.list_str c t hl hu0
    | tup es =>
      obtain ⟨b, ys, rfl, h1, _⟩ := h'
      obtain rfl : v = Value.ref b := ry
      obtain ⟨its', _, hl'⟩ := I.isT h1
      exact EqAt.list_tuple hl hl' hu0
    | lst es =>
      obtain ⟨b, ys, rfl, h1, h2⟩ := h'
      obtain rfl : v = Value.ref b := ry
      obtain ⟨its', rv', hl'⟩ := I.isL h1
      show EqAt A s (.ref a) (.ref b) (eqDs ds es)
      by_cases hab : a = b
      · subst hab
        have e : Dt.lst ds = Dt.lst es := I.dtUniq ⟨a, xs, rfl, g1, g2⟩ ⟨a, ys, rfl, h1, h2⟩
        injection e with e
        subst e
        rw [eqDs_refl]
        exact EqAt.same _
      · have n1 : ds.length = its.length := g2.length.trans rv.length
        have n2 : es.length = its'.length := h2.length.trans rv'.length
        have items : ∀ j (h1 : j < its.toArray.size) (h2 : j < its'.toArray.size), EqAt A.in1 s its.toArray[j] its'.toArray[j] (pairD ds es j) := fun j j1 j2 => by
          have j1 : j < its.length := by simpa using j1
          have j2 : j < its'.length := by simpa using j2
          obtain ⟨d', hd'⟩ := get_of (l := ds) (j := j) (by omega)
          obtain ⟨e', he'⟩ := get_of (l := es) (j := j) (by omega)
          obtain ⟨x', hx', kx⟩ := g2.get hd'
          obtain ⟨y', hy', ky⟩ := h2.get he'
          obtain ⟨u', hu', ru⟩ := rv.get hx'
          obtain ⟨v', hv', rv2⟩ := rv'.get hy'
          have q1 : its.toArray[j] = u' := by
            have := List.getElem?_eq_some_iff.mp hu'
            simpa using this.2
          have q2 : its'.toArray[j] = v' := by
            have := List.getElem?_eq_some_iff.mp hv'
            simpa using this.2
          rw [q1, q2, pairD_get hd' he']
          exact Inv.eqAtI I ds j hd' kx ky ru rv2 (DeepsLe.get hd hd') (show A.units + 1 + n < cLine by omega)
        by_cases hsz : its.toArray.size = its'.toArray.size
        · have hsz' : ds.length = es.length := by simpa [n1, n2] using hsz
          rw [← eqDs_len hsz', n1, ← List.size_toArray]
          exact EqAt.of_refs hab (RcAt.lists hl hl' hsz hu0 items)
        · rw [eqDs_nolen (by simpa [n1, n2] using hsz)]
          exact EqAt.of_refs hab (RcAt.lists_lengths hl hl' (by simpa using hsz) hu0)
  | .tup ds, e, x, y, u, v, n, A, h, h', rx, ry, hd, hu => by
    obtain ⟨a, xs, rfl, g1, g2⟩ := h
    obtain rfl : u = Value.ref a := rx
    obtain ⟨its, rv, hl⟩ := I.isT g1
    cases n with
    | zero => exact False.elim hd
    | succ n =>
    have hu0 : A.units < cLine := Nat.lt_of_le_of_lt (Nat.le_add_right _ _) hu
    cases e with
    | non =>
      have h' : y = V.non := h'
      subst h'
      obtain rfl : v = Value.none := ry
      exact EqAt.tuple_none hl hu0
    | bl c =>
      have h' : y = V.bl c := h'
      subst h'
      obtain rfl : v = Value.bool c := ry
      exact EqAt.tuple_bool c hl hu0
    | int c =>
      have h' : y = V.int c := h'
      subst h'
      obtain ⟨t, rfl⟩ := ry
      exact EqAt.tuple_int c t hl hu0
    | str c =>
      have h' : y = V.str c := h'
      subst h'
      obtain ⟨t, rfl⟩ := ry
      exact EqAt.tuple_str c t hl hu0
    | lst es =>
      obtain ⟨b, ys, rfl, h1, _⟩ := h'
      obtain rfl : v = Value.ref b := ry
      obtain ⟨its', _, hl'⟩ := I.isL h1
      exact EqAt.tuple_list hl hl' hu0
    | tup es =>
      obtain ⟨b, ys, rfl, h1, h2⟩ := h'
      obtain rfl : v = Value.ref b := ry
      obtain ⟨its', rv', hl'⟩ := I.isT h1
      show EqAt A s (.ref a) (.ref b) (eqDs ds es)
      by_cases hab : a = b
      · subst hab
        have e : Dt.tup ds = Dt.tup es := I.dtUniq ⟨a, xs, rfl, g1, g2⟩ ⟨a, ys, rfl, h1, h2⟩
        injection e with e
        subst e
        rw [eqDs_refl]
        exact EqAt.same _
      · have n1 : ds.length = its.length := g2.length.trans rv.length
        have n2 : es.length = its'.length := h2.length.trans rv'.length
        have items : ∀ j (h1 : j < its.toArray.size) (h2 : j < its'.toArray.size), EqAt A.in1 s its.toArray[j] its'.toArray[j] (pairD ds es j) := fun j j1 j2 => by
          have j1 : j < its.length := by simpa using j1
          have j2 : j < its'.length := by simpa using j2
          obtain ⟨d', hd'⟩ := get_of (l := ds) (j := j) (by omega)
          obtain ⟨e', he'⟩ := get_of (l := es) (j := j) (by omega)
          obtain ⟨x', hx', kx⟩ := g2.get hd'
          obtain ⟨y', hy', ky⟩ := h2.get he'
          obtain ⟨u', hu', ru⟩ := rv.get hx'
          obtain ⟨v', hv', rv2⟩ := rv'.get hy'
          have q1 : its.toArray[j] = u' := by
            have := List.getElem?_eq_some_iff.mp hu'
            simpa using this.2
          have q2 : its'.toArray[j] = v' := by
            have := List.getElem?_eq_some_iff.mp hv'
            simpa using this.2
          rw [q1, q2, pairD_get hd' he']
          exact Inv.eqAtI I ds j hd' kx ky ru rv2 (DeepsLe.get hd hd') (show A.units + 1 + n < cLine by omega)
        have q := EqAt.of_refs hab (RcAt.tuples hl hl' hu0 items)
        rw [← eqDs_all ds es, n1, n2]
        simpa using q
theorem Inv.eqAtI (I : Inv X pins σ H s) : ∀ (ds : List Dt) (j : Nat) {d e : Dt} {x y : V} {u v : Value} {n : Nat} {A : Around}, ds[j]? = some d → DtV X.K H d x → DtV X.K H e y → RelV x u → RelV y v → DeepLe n d → A.units + n < cLine → EqAt A s u v (eqD d e)
  | [], j, _, _, _, _, _, _, _, _, h, _, _, _, _, _, _ => by simp at h
  | c :: _, 0, d, e, x, y, u, v, n, A, h, hx, hy, ru, rv, hd, hu => by
    simp at h
    subst h
    exact Inv.eqAt I hx hy ru rv hd hu
  | _ :: cs, j + 1, d, e, x, y, u, v, n, A, h, hx, hy, ru, rv, hd, hu => Inv.eqAtI I cs j (by simpa using h) hx hy ru rv hd hu
end
theorem Inv.items (I : Inv X pins σ H s) {ds es : List Dt} {xs ys : List V} {its its' : List Value} {n : Nat} {A : Around} (g2 : DtVs X.K H ds xs) (h2 : DtVs X.K H es ys) (rv : Vals xs its) (rv' : Vals ys its') (hd : DeepsLe n ds)
    (hu : A.units + 1 + n < cLine) : ∀ j (h1 : j < its.toArray.size) (h2 : j < its'.toArray.size), EqAt A.in1 s its.toArray[j] its'.toArray[j] (pairD ds es j) := fun j j1 j2 => by
  have n1 : ds.length = its.length := g2.length.trans rv.length
  have n2 : es.length = its'.length := h2.length.trans rv'.length
  have j1 : j < its.length := by simpa using j1
  have j2 : j < its'.length := by simpa using j2
  obtain ⟨d', hd'⟩ := get_of (l := ds) (j := j) (by omega)
  obtain ⟨e', he'⟩ := get_of (l := es) (j := j) (by omega)
  obtain ⟨x', hx', kx⟩ := g2.get hd'
  obtain ⟨y', hy', ky⟩ := h2.get he'
  obtain ⟨u', hu', ru⟩ := rv.get hx'
  obtain ⟨v', hv', rv2⟩ := rv'.get hy'
  have q1 : its.toArray[j] = u' := by
    have := List.getElem?_eq_some_iff.mp hu'
    simpa using this.2
  have q2 : its'.toArray[j] = v' := by
    have := List.getElem?_eq_some_iff.mp hv'
    simpa using this.2
  rw [q1, q2, pairD_get hd' he']
  exact I.eqAt kx ky ru rv2 (DeepsLe.get hd hd') hu
/-- lists or tuples -/
def isBox : Dt → Bool
  | .lst _ => true
  | .tup _ => true
  | _ => false
theorem Inv.rcAt (I : Inv X pins σ H s) {d e : Dt} {x y : V} {u v : Value} {n : Nat} {A : Around} (bd : isBox d = true) (be : isBox e = true) (h : DtV X.K H d x) (h' : DtV X.K H e y) (rx : RelV x u) (ry : RelV y v) (hd : DeepLe n d) (hu : A.units + n < cLine) :
    RcAt A s u v (eqD d e) ∧ RcNeAt A s u v (!eqD d e) := by
  cases n with
  | zero => cases d <;> first | exact False.elim hd | cases bd
  | succ n =>
  have hu0 : A.units < cLine := Nat.lt_of_le_of_lt (Nat.le_add_right _ _) hu
  have hu1 : A.units + 1 + n < cLine := by omega
  cases d with
  | lst ds =>
    obtain ⟨a, xs, rfl, g1, g2⟩ := h
    obtain rfl : u = Value.ref a := rx
    obtain ⟨its, rv, hl⟩ := I.isL g1
    cases e with
    | lst es =>
      obtain ⟨b, ys, rfl, h1, h2⟩ := h'
      obtain rfl : v = Value.ref b := ry
      obtain ⟨its', rv', hl'⟩ := I.isL h1
      have n1 : ds.length = its.length := g2.length.trans rv.length
      have n2 : es.length = its'.length := h2.length.trans rv'.length
      show RcAt A s (.ref a) (.ref b) (eqDs ds es) ∧ RcNeAt A s (.ref a) (.ref b) (!eqDs ds es)
      by_cases hsz : its.toArray.size = its'.toArray.size
      · have hsz' : ds.length = es.length := by simpa [n1, n2] using hsz
        rw [← eqDs_len hsz', n1, ← List.size_toArray]
        exact ⟨RcAt.lists hl hl' hsz hu0 (I.items g2 h2 rv rv' hd hu1), RcNeAt.lists hl hl' hsz hu0 (I.items g2 h2 rv rv' hd hu1)⟩
      · rw [eqDs_nolen (by simpa [n1, n2] using hsz)]
        exact ⟨RcAt.lists_lengths hl hl' (by simpa using hsz) hu0, RcNeAt.lists_lengths hl hl' (by simpa using hsz) hu0⟩
    | tup es =>
      obtain ⟨b, ys, rfl, h1, _⟩ := h'
      obtain rfl : v = Value.ref b := ry
      obtain ⟨its', _, hl'⟩ := I.isT h1
      exact ⟨RcAt.list_tuple hl hl' hu0, RcNeAt.list_tuple hl hl' hu0⟩
    | _ => cases be
  | tup ds =>
    obtain ⟨a, xs, rfl, g1, g2⟩ := h
    obtain rfl : u = Value.ref a := rx
    obtain ⟨its, rv, hl⟩ := I.isT g1
    cases e with
    | tup es =>
      obtain ⟨b, ys, rfl, h1, h2⟩ := h'
      obtain rfl : v = Value.ref b := ry
      obtain ⟨its', rv', hl'⟩ := I.isT h1
      have n1 : ds.length = its.length := g2.length.trans rv.length
      have n2 : es.length = its'.length := h2.length.trans rv'.length
      have q := RcAt.tuples hl hl' hu0 (I.items g2 h2 rv rv' hd hu1)
      have q' := RcNeAt.tuples hl hl' hu0 (I.items g2 h2 rv rv' hd hu1)
      show RcAt A s (.ref a) (.ref b) (eqDs ds es) ∧ RcNeAt A s (.ref a) (.ref b) (!eqDs ds es)
      rw [← eqDs_all ds es, n1, n2]
      exact ⟨by simpa using q, by simpa using q'⟩
    | lst es =>
      obtain ⟨b, ys, rfl, h1, _⟩ := h'
      obtain rfl : v = Value.ref b := ry
      obtain ⟨its', _, hl'⟩ := I.isL h1
      exact ⟨RcAt.tuple_list hl hl' hu0, RcNeAt.tuple_list hl hl' hu0⟩
    | _ => cases be
  | _ => cases bd
/-- x == y, x != y of two lists or tuples -/
def rEqD (K : PySem.W.Frag) (neg : Bool) : R2 := fun x y H Q => ∃ d e, isBox d = true ∧ isBox e = true ∧ DtV K H d x ∧ DtV K H e y ∧ DeepLe 60 d ∧ Q (.bl (if neg then !eqD d e else eqD d e)) H
theorem op_eqD (hu : X.A.units + 64 < cLine) : OpR X (compareOp .Eq) (rEqD X.K false) := by
  intro pins s σ H x y v u Q I rx ry h
  obtain ⟨d, e, bd, be, h1, h2, hd, q⟩ := h
  exact (I.rcAt bd be h1 h2 rx ry hd (by omega)).1 X.prog X.w _ _ ⟨.bl _, H, I, rfl, q⟩
theorem op_neD (hu : X.A.units + 64 < cLine) : OpR X (compareOp .NotEq) (rEqD X.K true) := by
  intro pins s σ H x y v u Q I rx ry h
  obtain ⟨d, e, bd, be, h1, h2, hd, q⟩ := h
  exact (I.rcAt bd be h1 h2 rx ry hd (by omega)).2 X.prog X.w _ _ ⟨.bl _, H, I, rfl, q⟩
end
end L2

/-! ### isinstance, join, and their like -/
namespace L2
open PySem PySem.Spec PyProof.Rows
section
variable {X : Cx}
/-- a class or a def of the text, as a value -/
theorem pe_ref {x : Str} {a : Addr} {pos : Pos} (hg : Gl X x) (hm : X.mg x = some (.ref a)) (hd : (x == ("__debug__" : Str)) = false := by decide) : PE X (.Name x pos) (tC (.ref a)) := pe_glob hg hm rfl hd
/-- a class as it is handed to isinstance -/
def clsOf : V → Option Value
  | .ref a => some (.ref a)
  | .ty n => some (.type n)
  | _ => none
theorem clsOf_rel {c : V} {u k : Value} (r : RelV c u) (e : clsOf c = some k) : u = k := by
  cases c with
  | ref a =>
    cases e
    exact r
  | ty n =>
    cases e
    exact r
  | _ => cases e
/-- isinstance(x, c), c one class -/
theorem call_isinst : CallR X (.builtin "isinstance") (fun xs H Q => ∃ x c k t b, xs = [x, c] ∧ clsOf c = some k ∧ TyOf X.K H x t ∧ PySem.W.kitOne X.K t k = some b ∧ Q (.bl b) H) := by
  intro pins s σ H xs us Q I r h
  obtain ⟨x, c, k, t, b, rfl, ec, ty, eb, q⟩ := h
  obtain ⟨u, v, rfl, rx, rc⟩ := vals2 r
  have e := clsOf_rel rc ec
  subst e
  exact isinst_ok I rx ty eb fun tk => ⟨.bl b, H, I.tok tk, rfl, q⟩
def rJoin (K : PySem.W.Frag) : V → List V → Hp → VK → Prop := fun x vs H Q => ∃ z a ys, x = .str z ∧ vs = [.ref a] ∧ SqL K H a (ys.map V.str) ∧ (ys.map (·.length)).sum + ys.length * z.length ≤ 16777216 ∧ Q (.str (Txt.join z ys)) H
end
end L2

/-! ### exceptions: an object that flies, is noted, lands; how it lies behind a call -/
namespace L2
open PySem PySem.Spec PyProof.Rows

/-- what stands at a: an exception of class c, its own dict dd, its contexts; tb: its newest traceback entry and what that says of flight -/
structure ExcAt (H : Hp) (h : Heap) (a : Addr) (c : Value) (dd : Option Addr) (tb : Option (Addr × Value)) : Prop where
  ob : ∃ o vs, h.get? a = some o ∧ o.cls = c ∧ o.dict = dd ∧ o.data = .fields vs ∧ vs.size = 6 ∧ (∃ cs, ChnH H cs ∧ vs[2]? = some (nxt cs 0)) ∧ vs[1]? = some (match tb with | none => .none | some p => .ref p.1)
  tr : ∀ p, tb = some p → p.1 ≠ a ∧ ∃ oT ts, h.get? p.1 = some oT ∧ oT.data = .fields ts ∧ ts[3]? = some p.2
/-- .. and nobody tracks it -/
structure Exc (X : Cx) (pins : List (Addr × Obj)) (H : Hp) (h : Heap) (a : Addr) (c : Value) (dd : Option Addr) (tb : Option (Addr × Value)) : Prop where
  fp : FpOk X pins H a
  fpT : ∀ p, tb = some p → FpOk X pins H p.1
  at_ : ExcAt H h a c dd tb

theorem dict_mapFields (o : Obj) (f : Array Value → Array Value) : (o.mapFields f).dict = o.dict := by
  obtain ⟨c, d, dt, sl⟩ := o
  cases dt <;> rfl
section
variable {X : Cx} {pins : List (Addr × Obj)} {σ : St} {H : Hp} {s : Shared} {a : Addr} {c : Value} {dd : Option Addr}
/-- the frames' slots and the records at ch have turned, all else is as it was -/
theorem Inv.slot0 {h' : Heap} {ch : List Addr} {tk : Nat} (I : Inv X pins σ H s) (hch : ∀ b ∈ ch, FpOk X pins H b) (keep : ∀ b o, b ∉ frs X.stack → b ∉ ch → s.heap.get? b = some o → h'.get? b = some o)
    (slot : ∀ b o, b ∈ frs X.stack → s.heap.get? b = some o → ∃ sl, h'.get? b = some { o with slots := sl }) : Inv X pins σ H { s with heap := h', toks := tk } := by
  have any : ∀ b o, b ∉ ch → s.heap.get? b = some o → ∃ sl, h'.get? b = some { o with slots := sl } := fun b o hc e => by
    by_cases hb : b ∈ frs X.stack
    · exact slot b o hb e
    · exact ⟨o.slots, keep b o hb hc e⟩
  have sub : ∀ b, b ∈ frs X.stack → b = X.env.locals ∨ b ∈ X.fs := fun b hb => List.mem_cons.mp (I.stkSub b hb)
  refine I.step (g' := s.gens) (d' := s.drawn) (ch := ch) (fun b hb => ?_) (fun b o hL hf hc e _ => keep b o (fun z => (sub b z).elim hL hf) hc e) (fun b o _ _ hc e _ => any b o hc e) (fun _ _ _ _ n => n) (fun b o hc e => ?_)
    (fun _ _ e => e) (fun _ _ _ e => e) (fun b ps e => ⟨#[], by rw [e]; simp⟩) (fun m hm => ?_) (fun b u e => ?_) I.bare
  · obtain ⟨_, f1, _, f3, f4, f5⟩ := hch b hb
    exact ⟨f3, f1, f4, f5⟩
  · obtain ⟨sl, q⟩ := any b o hc e
    exact ⟨_, q⟩
  · obtain ⟨o, es, ep, ho, r⟩ := hm
    obtain ⟨sl, q⟩ := any _ o (fun z => (hch _ z).2.1 rfl) ho
    exact ⟨_, es, ep, q, r⟩
  · have nf : ∀ d v, H d = some v → d ∉ frs X.stack ∧ d ∉ ch := fun d v q => ⟨fun z => (by rw [I.stkFree d z] at q; cases q), fun z => (by rw [(hch d z).1] at q; cases q)⟩
    refine (I.hok b u e).stay (fun d v hd q => ?_) (fun _ q => q) fun _ _ q => q
    rcases hd with z | z
    · subst z
      exact keep d v (nf d _ e).1 (nf d _ e).2 q
    · exact keep d v (nf d _ z).1 (nf d _ z).2 q
theorem Inv.slots {h' : Heap} {ch : List Addr} {tk : Nat} (I : Inv X pins σ H s) (hch : ∀ b ∈ ch, FpOk X pins H b) (keep : ∀ b o, b ∉ frs X.stack → b ∉ ch → s.heap.get? b = some o → h'.get? b = some o)
    (slot : ∀ b o, b ∈ frs X.stack → s.heap.get? b = some o → ∃ sl, h'.get? b = some { o with slots := sl }) (_ : ∀ b ∈ ch, ∀ o, s.heap.get? b = some o → ∃ o', h'.get? b = some o') : Inv X pins σ H { s with heap := h', toks := tk } := I.slot0 hch keep slot
/-- a def's own body (not a comprehension's block) -/
def Body (X : Cx) : Prop := X.stack = X.env :: X.outer ∧ X.env.frame = some X.env.locals
theorem note_entry {M : Model} {E : Value → Shared → Prop} {Q : Unit → Shared → Prop} {o : Obj} {vs : Array Value} {head : Value} {hadNext : Bool} (B : Body X) (I : Inv X pins σ H s) (fp : FpOk X pins H a) (he : s.heap.get? a = some o) (hd : o.data = .fields vs) (hz : vs.size = 6)
    (hQ : ∀ s' T, Inv X pins σ H s' → s.heap.objs.size ≤ T → FpOk X pins H T → T ≠ a → s'.heap.get? a = some (o.mapFields (·.setIfInBounds 1 (.ref T))) → (∃ oT ts, s'.heap.get? T = some oT ∧ oT.data = .fields ts ∧ ts[3]? = some (rawInt X.env.locals)) → Q () s') :
    wpAny M X.A (do let f ← frameOf X.env; let pl ← entryPlaceOf X.env.locals hadNext; let b ← EntryCells.newEntry head f .none (rawInt X.env.locals) .none pl; setField (.ref a) 1 b) Q E s := by
  have hl := I.stack
  rw [B.1] at hl
  have hfr : X.A.frames = some (X.env :: X.outer) := by rw [I.ok.frames, B.1]
  have nfr : ∀ b, FpOk X pins H b → b ∉ frs X.stack := fun b f z => (List.mem_cons.mp (I.stkSub b z)).elim f.2.1 f.2.2.1
  refine wpAny_bind (wpAny_frameOf_fun hfr hl B.2 fun h₁ hs₁ => ?_)
  rw [← B.1] at hs₁
  refine wpAny_bind (wpAny_entryPlaceOf fun pl hpl => ?_)
  simp only [EntryCells.newEntry, newFields]
  refine wpAny_bind (wpAny_newObj_type ?_ (hpl.sizeOk5 _ _ _ _ _))
  generalize hoT : ({ cls := .type "traceback", dict := none, data := .fields ([head, .ref X.env.locals, .none, rawInt X.env.locals, .none] ++ (if pl.isEmpty then List.replicate 6 Value.none else pl)).toArray } : Obj) = oT
  have e1 : h₁.get? a = some o := (hs₁.2.1 a (nfr a fp)).trans he
  have e2 : (h₁.push oT).get? a = some o := Heap.get?_push_of_some _ e1
  have hsz : s.heap.objs.size = h₁.objs.size := hs₁.1.symm
  have hTa : h₁.objs.size ≠ a := Nat.ne_of_gt (Heap.lt_size e1)
  have hd3 := Obj.data_mapFields hd (·.setIfInBounds 1 (Value.ref h₁.objs.size))
  have e3 := Heap.get?_update_self (Obj.mapFields (·.setIfInBounds 1 (Value.ref h₁.objs.size))) e2 (Obj.isFreed_of_fields hd3)
  have eT : ((h₁.push oT).update a (Obj.mapFields (·.setIfInBounds 1 (Value.ref h₁.objs.size)))).get? h₁.objs.size = some oT :=
    (Heap.get?_update_other _ _ (Ne.symm hTa)).trans (Heap.get?_push_size h₁ (by rw [← hoT]; rfl))
  have kp : ∀ b q, b ≠ a → h₁.get? b = some q → ((h₁.push oT).update a (Obj.mapFields (·.setIfInBounds 1 (Value.ref h₁.objs.size)))).get? b = some q := fun b q hb e =>
    (Heap.get?_update_other _ _ (Ne.symm hb)).trans (Heap.get?_push_of_some _ e)
  refine wpAny_setField e2 hd (by rw [hz]; decide) ?_
  refine hQ _ h₁.objs.size (I.slots (ch := [a]) (tk := s.toks) (fun b hb => ?_) (fun b q hb hc e => ?_) (fun b q hb e => ?_) (fun b hb q e => ?_)) (Nat.le_of_eq hsz) (I.fpOk (Nat.le_of_eq hsz) (I.hok.fresh (Nat.le_of_eq hsz))) hTa e3 ⟨oT, _, eT, by rw [← hoT], ?_⟩
  · rw [List.mem_singleton.mp hb]; exact fp
  · exact kp b q (fun z => hc (by simp [z])) ((hs₁.2.1 b hb).trans e)
  · obtain ⟨sl, q'⟩ := hs₁.2.2 b q e
    refine ⟨sl, kp b _ (fun z => ?_) q'⟩
    subst z
    exact nfr b fp hb
  · rw [List.mem_singleton.mp hb]; exact ⟨_, e3⟩
  · first | (simp; done) | (rcases hpl with rfl | ⟨_, _, _, _, _, _, _, rfl⟩ <;> simp)
theorem vs_set {vs : Array Value} {v : Value} {H : Hp} (hz : vs.size = 6) (h2 : ∃ cs, ChnH H cs ∧ vs[2]? = some (nxt cs 0)) : (vs.setIfInBounds 1 v).size = 6 ∧ (∃ cs, ChnH H cs ∧ (vs.setIfInBounds 1 v)[2]? = some (nxt cs 0)) ∧ (vs.setIfInBounds 1 v)[1]? = some v := by
  refine ⟨by simpa using hz, ?_, ?_⟩
  · obtain ⟨cs, hc, h2⟩ := h2
    exact ⟨cs, hc, by rw [Array.getElem?_setIfInBounds_ne (by decide)]; exact h2⟩
  · simp [hz]
/-- noteFrame: the entry of this frame is there -/
theorem Inv.note {M : Model} {E : Value → Shared → Prop} {Q : Unit → Shared → Prop} {tb : Option (Addr × Value)} (B : Body X) (I : Inv X pins σ H s) (x : Exc X pins H s.heap a c dd tb) (hfl : ∀ p, tb = some p → p.2 = .none ∨ p.2 = rawInt X.env.locals)
    (hQ : ∀ s' T, Inv X pins σ H s' → Exc X pins H s'.heap a c dd (some (T, rawInt X.env.locals)) → Q () s') : wpAny M X.A (noteFrame (.ref a) X.env) Q E s := by
  obtain ⟨o, vs, h1, hc, hdd, hd, hz, h2, hv1⟩ := x.at_.ob
  have fin : ∀ s' T, Inv X pins σ H s' → FpOk X pins H T → T ≠ a → s'.heap.get? a = some (o.mapFields (·.setIfInBounds 1 (.ref T))) → (∃ oT ts, s'.heap.get? T = some oT ∧ oT.data = .fields ts ∧ ts[3]? = some (rawInt X.env.locals)) → Q () s' := fun s' T I' fT ne e' tr => by
    obtain ⟨z1, z2, z3⟩ := vs_set (v := .ref T) hz h2
    refine hQ s' T I' ⟨x.fp, fun p q => ?_, ⟨_, _, e', (Obj.cls_mapFields _ _).trans hc, (dict_mapFields _ _).trans hdd, Obj.data_mapFields hd _, z1, z2, z3⟩, fun p q => ?_⟩
    · cases q; exact fT
    · cases q; exact ⟨ne, tr⟩
  unfold noteFrame
  simp only [B.2]
  cases tb with
  | none =>
    refine wpAny_bind (wpAny_field h1 hd hv1 ?_)
    rw [if_neg (by decide)]
    exact note_entry B I x.fp h1 hd hz fun s' T I' _ fT ne e' tr => fin s' T I' fT ne e' tr
  | some p =>
    obtain ⟨T, fl⟩ := p
    obtain ⟨ne, oT, ts, hT, hdT, h3⟩ := x.at_.tr _ rfl
    refine wpAny_bind (wpAny_field h1 hd hv1 ?_)
    rw [if_pos (show (Value.ref T != Value.none) = true from by simp)]
    refine wpAny_bind (wpAny_field hT hdT h3 ?_)
    rcases hfl _ rfl with z | z
    · have z : fl = .none := z
      subst z
      rw [if_neg (show ¬ ((Value.none == rawInt X.env.locals) = true) from by simp [rawInt])]
      refine wpAny_bind (wpAny_setField hT hdT (Array.getElem?_eq_some_iff.mp h3).1 ?_)
      have other : ∀ b, b ≠ T → (s.heap.update T (Obj.mapFields (·.setIfInBounds 3 Value.none))).get? b = s.heap.get? b := fun b hb => Heap.get?_update_other _ _ (Ne.symm hb)
      have nfr : T ∉ frs X.stack := fun z => (List.mem_cons.mp (I.stkSub T z)).elim (x.fpT _ rfl).2.1 (x.fpT _ rfl).2.2.1
      have I1 : Inv X pins σ H { s with heap := s.heap.update T (Obj.mapFields (·.setIfInBounds 3 Value.none)) } := I.slots (ch := [T]) (tk := s.toks) (fun b hb => by rw [List.mem_singleton.mp hb]; exact x.fpT _ rfl)
        (fun b q _ hc e => (other b fun z => hc (by simp [z])).trans e) (fun b q hb e => ⟨q.slots, (other b fun z => nfr (z ▸ hb)).trans e⟩)
        (fun b hb q e => (by obtain rfl := List.mem_singleton.mp hb; exact ⟨_, Heap.get?_update_self _ hT (Obj.isFreed_of_fields (Obj.data_mapFields hdT _))⟩))
      exact note_entry B I1 x.fp ((other a (Ne.symm ne)).trans h1) hd hz fun s' T' I' _ fT' ne' e' tr => fin s' T' I' fT' ne' e' tr
    · have z : fl = rawInt X.env.locals := z
      subst z
      rw [if_pos (show (rawInt X.env.locals == rawInt X.env.locals) = true from beq_self_eq_true _)]
      exact wpAny_pure (hQ s T I x)
/-- setFlight .. none: it lands -/
theorem Inv.land {M : Model} {E : Value → Shared → Prop} {Q : Unit → Shared → Prop} {T : Addr} {fl : Value} {A : Around} (I : Inv X pins σ H s) (x : Exc X pins H s.heap a c dd (some (T, fl)))
    (hQ : ∀ s', Inv X pins σ H s' → Exc X pins H s'.heap a c dd (some (T, .none)) → Q () s') : wpAny M A (setFlight (.ref a) none) Q E s := by
  obtain ⟨o, vs, h1, hc, hdd, hd, hz, h2, hv1⟩ := x.at_.ob
  obtain ⟨ne, oT, ts, hT, hdT, h3⟩ := x.at_.tr _ rfl
  have h33 : 3 < ts.size := (Array.getElem?_eq_some_iff.mp h3).1
  unfold setFlight
  refine wpAny_bind (wpAny_field h1 hd hv1 ?_)
  rw [if_pos (show (Value.ref T != Value.none) = true from by simp)]
  refine wpAny_setField hT hdT h33 ?_
  have other : ∀ b, b ≠ T → (s.heap.update T (Obj.mapFields (·.setIfInBounds 3 ((none : Option Addr).elim Value.none fun f => rawInt f)))).get? b = s.heap.get? b := fun b hb => Heap.get?_update_other _ _ (Ne.symm hb)
  have self := Heap.get?_update_self (Obj.mapFields (·.setIfInBounds 3 ((none : Option Addr).elim Value.none fun f => rawInt f))) hT (Obj.isFreed_of_fields (Obj.data_mapFields hdT _))
  have nfr : T ∉ frs X.stack := fun z => (List.mem_cons.mp (I.stkSub T z)).elim (x.fpT _ rfl).2.1 (x.fpT _ rfl).2.2.1
  refine hQ _ (I.slots (ch := [T]) (tk := s.toks) (fun b hb => by rw [List.mem_singleton.mp hb]; exact x.fpT _ rfl) (fun b q _ hc e => (other b fun z => hc (by simp [z])).trans e)
    (fun b q hb e => ⟨q.slots, (other b fun z => nfr (z ▸ hb)).trans e⟩) (fun b hb q e => (by obtain rfl := List.mem_singleton.mp hb; exact ⟨_, self⟩))) ⟨x.fp, fun p q => ?_, ⟨o, vs, (other a (Ne.symm ne)).trans h1, hc, hdd, hd, hz, h2, hv1⟩, fun p q => ?_⟩
  · cases q; exact x.fpT (T, fl) rfl
  · cases q; exact ⟨ne, _, _, self, Obj.data_mapFields hdT _, by simp [h33]⟩
end

/-- an exception behind a call: what it has left; E: what is wanted of its class, its dict and the heap -/
def CXe (P : Program) (w : World) : CXT := fun outer H s E e s' => ∃ a c dd T H', e = .ref a ∧ s'.os = s.os ∧ AllBare s'.gens ∧ Un (frs outer) [] H H' s.heap s'.heap ∧ HOk P w H' s'.heap ∧
  (s.heap.objs.size ≤ a ∧ H' a = none) ∧ (s.heap.objs.size ≤ T ∧ H' T = none) ∧ ExcAt H' s'.heap a c dd (some (T, .none)) ∧ E c dd H'
/-- what is wanted of an exception in this body: R, by the names' values -/
abbrev RK := St → XK
def PX (X : Cx) (R : RK) : Prop := ∀ (pins : List (Addr × Obj)) (σ : St) (H : Hp) (s : Shared) (a : Addr) (c : Value) (dd : Option Addr) (tb : Option Addr), Inv X pins σ H s → Exc X pins H s.heap a c dd (tb.map fun T => (T, Value.none)) → R σ c dd H → X.xe (.ref a) s
theorem map_tb {tb : Option Addr} {v : Value} : ∀ p, (tb.map fun T => (T, Value.none)) = some p → p.2 = Value.none ∨ p.2 = v := fun p e => by
  cases tb with
  | none => cases e
  | some T => cases e; exact .inl rfl
/-- out of a def's body -/
theorem px_body {P : Program} {w : World} {K : PySem.W.Frag} {mg : Str → Option Value} {base : Heap} {N : List Str} {qual : Str} {scope : Scope} {f : Addr} {cd : Value} {A : Around} {outer : List Env} {s : Shared} {H : Hp} {E : XK} :
    PX (cxOf (CXe P w) P w K mg base N qual scope f cd A outer s H E) (fun _ => E) := by
  intro pins σ H' s1 a c dd tb I x hE
  have B : Body (cxOf (CXe P w) P w K mg base N qual scope f cd A outer s H E) := ⟨rfl, rfl⟩
  show wpAny _ _ (leaving _ (.ref a)) _ _ s1
  unfold leaving
  refine wpAny_bind (I.note B x map_tb fun s2 T I2 x2 => ?_)
  refine I2.land x2 fun s3 I3 x3 => ?_
  have sz : ∀ b, FpOk (cxOf (CXe P w) P w K mg base N qual scope f cd A outer s H E) pins H' b → s.heap.objs.size ≤ b ∧ H' b = none := fun b fb => by
    refine ⟨?_, fb.1⟩
    rcases fb.2.2.2.1 with z | z
    · exact absurd (show b ∈ ([] : List Addr) from z) (by simp)
    · exact z
  exact ⟨a, c, dd, T, H', rfl, I3.os, I3.bare, I3.base, I3.hok, sz a x3.fp, sz T (x3.fpT _ rfl), x3.at_, hE⟩
/-- into a caller's body -/
theorem px_call {X : Cx} {R : RK} (hp : PX X R) : ∀ (pins : List (Addr × Obj)) (σ : St) (H : Hp) (s : Shared) (e : Value) (s' : Shared), Inv X pins σ H s → CXe X.prog X.w X.stack H s (R σ) e s' → X.xe e s' := by
  intro pins σ H s e s' I h
  obtain ⟨a, c, dd, T, H', rfl, os, bare, un, hok, ha, hT, x, hE⟩ := h
  have I' : Inv X pins σ H' s' := I.call' os un hok bare fun b z => absurd z (by simp)
  refine hp pins σ H' s' a c dd (some T) I' ⟨I.fpOk ha.1 ha.2, fun p q => ?_, x⟩ hE
  cases q
  exact I.fpOk hT.1 hT.2
end L2

/-! ### exceptions of the program's own classes: made, raised -/
namespace L2
open PySem PySem.Spec PyProof.Rows

section
variable {prog : Program} {w : World} {A : Around} {E : Value → Shared → Prop} {h : Heap} {g : Array GenState} {d : Drawn} {t : Nat} {os : OsState}
variable {nm q : Str} {C N : Addr} {bs bm bmB : List Value} {hdct : Bool} {sn : List Str} {sub : List Value} {ab : Bool} {col : Option Bool} {dd : Option Addr} {k0 k1 k2 k3 k5 : Option Value} {B newId initId : String}
/-- the new exception as __new__ lays it -/
abbrev excNew (C t : Addr) : Obj := { cls := .ref C, data := .fields #[.ref t, .none, .none, .none, .bool false, .none] }
abbrev tupNew (rest : List Value) : Obj := { cls := .type "tuple", data := .seq rest.toArray }
/-- C(..) where no class of the program's own has an __init__ -/
theorem call_exc0 (F : ExcBaseFacts B newId initId bmB) (T : OwnTail h bmB bm) {rest : List Value} {Q : Value → Shared → Prop}
    (oC : h.get? C = some (excClassObj nm q C N bs bm hdct sn sub ab col dd k0 k1 k2 k3 k5 newId)) (lk : PySem.W.Looks (model prog w) h (typeLookup (.ref C) "__init__") (some (.builtin initId))) (few : rest.length ≤ sizeLine)
    (fin : ∀ h', (∀ b o, h.get? b = some o → h'.get? b = some o) → h'.get? (h.objs.size + 1) = some (excNew C (h.objs.size + 2)) → Q (.ref (h.objs.size + 1)) ⟨h', g, d, t, os⟩) :
    wpAny (model prog w) A (call (.ref C) rest) Q E ⟨h, g, d, t, os⟩ := by
  have l1 := tc_lookup
  have l2 := tc_bind (.ref C)
  have tyC : (⟨h, g, d, t, os⟩ : Shared).TypeIs (.ref C) "type" := ⟨_, oC, rfl⟩
  refine wpAny_call (codeAny_of_tree ?_)
  show wpAny _ _ (callAny (.ref C) _) _ _ _
  repeat (any_goals (first | assumption | (with_reducible refine wpAny_loadPart_at oC ?_) | wp_step))
  refine ⟨rfl, codeAny_call_builtin_at (Code.quiet_builtin _ (by decide +kernel)) entry_typeCall (wpAny_check_type_call_sub oC ?_)⟩
  show wpAny _ (A.under (.builtin "type.__call__" ⟨.ref C :: rest, []⟩)) (Builtin.«type.__call__» ⟨.ref C :: rest, []⟩) _ _ _
  repeat (first | (with_reducible refine wpAny_loadPart_at oC ?_) | (with_reducible refine wpAny_madeBy_exc oC ?_) | wp_step)
  refine codeAny_call_builtin_code (Code.quiet_builtin _ F.quiet) (wpAny_check_new_subT F T oC (codeAny_exc_new_subT F T oC ?_ few))
  show wpAny _ _ _ _ _ _
  have kk : ∀ b o, h.get? b = some o → ((h.push (tupNew rest)).push (excNew C h.objs.size)).get? b = some o := fun b o e => Heap.get?_push_of_some _ (Heap.get?_push_of_some _ e)
  have oC1 := kk _ _ oC
  have oX : ((h.push (tupNew rest)).push (excNew C h.objs.size)).get? (h.objs.size + 1) = some { cls := .ref C, data := .fields #[.ref h.objs.size, .none, .none, .none, .bool false, .none] } := by heap_get
  have isC : (Value.ref C :: bm).contains (.ref C) = true := by simp
  have T1 := T.keeps kk
  unfold isInstance
  repeat (first | (with_reducible refine wpAny_loadPart_at oX ?_) | (with_reducible refine wpAny_isSubtype_exc oC1 ?_; rw [isC]) | wp_step)
  show wpAny _ _ (typeLookup (.ref C) _) _ _ _
  refine lk _ _ _ _ kk ?_
  refine wpAny_holding (wpAny_bind (wpAny_of_eq (F.init.bind _) (wpAny_bind (wpAny_call (codeAny_call_builtin F.init.plain F.initEntry (wpAny_check_init_subT F T1 oC1 oX rfl ?_))))))
  wp_walk
  refine fin _ (fun b o hb => ?_) ?_
  · rw [Heap.get?_update_other _ _ (Nat.ne_of_gt (Nat.lt_succ_of_lt (Heap.lt_size hb)))]
    exact Heap.get?_push_of_some _ (kk b o hb)
  · rw [Heap.get?_update_self _ (Heap.get?_push_of_some _ oX) rfl]
    simp only [Heap.size_push]; rfl
/-- raise with an exception just made -/
theorem raise_made {M : Model} {env : Env} {s : Shared} {x : Sem Value} {Q : Flow → Shared → Prop} (hb : bm.contains (.type "BaseException") = true)
    (hx : wpAny M A x (fun v s₁ => ∃ e t dx, v = .ref e ∧ s₁.heap.get? C = some (excClassObj nm q C N bs bm hdct sn sub ab col dd k0 k1 k2 k3 k5 newId) ∧ s₁.heap.get? e = some { cls := .ref C, dict := dx, data := .fields #[.ref t, .none, .none, .none, .bool false, .none] } ∧ wpAny M A (raiseNew (.ref e) : Sem Flow) Q E s₁) E s) :
    wpAny M A (raiseStmt env (some x) none) Q E s := by
  have isB : (Value.ref C :: bm).contains (.type "BaseException") = true := by rw [List.contains_cons, hb, Bool.or_true]
  unfold raiseStmt
  refine wpAny_bind (wpAny_mono hx (fun v s₁ z => ?_) fun _ _ y => y)
  obtain ⟨e, t, dx, rfl, oC, oe, z⟩ := z
  obtain ⟨hp, g, d, tk, os⟩ := s₁
  repeat (first | exact z | (with_reducible refine wpAny_loadPart_at oe ?_) | (with_reducible refine wpAny_loadPart_at oC ?_) | (with_reducible refine wpAny_isSubtype_exc oC ?_; rw [isB]) | wp_step)
end

/-- what the program's part tells of an exception class -/
def excAt (K : PySem.W.Frag) (C : Addr) (bmB : List Value) (newId : String) : Bool := match K.lookup C with
  | some ⟨.type "type", _, .cls cd, sl⟩ => (match cd.mro, sl.toList with
    | .ref C1 :: bm, [_, _, _, _, some (.builtin n), _] => C1 == C && n == newId && !cd.hasDel && PySem.W.tailIn K bmB bm
    | _, _ => false)
  | _ => false
/-- the class stands there -/
structure XCls (h : Heap) (C : Addr) (bmB bm : List Value) (newId : String) : Prop where
  obj : ∃ nm q N bs hdct sn sub ab col dd k0 k1 k2 k3 k5, h.get? C = some (excClassObj nm q C N bs bm hdct sn sub ab col dd k0 k1 k2 k3 k5 newId)
  tail : OwnTail h bmB bm
theorem excAt_of {K : PySem.W.Frag} {h : Heap} {C : Addr} {bmB : List Value} {newId : String} (X : K.In h) (e : excAt K C bmB newId = true) : ∃ bm, XCls h C bmB bm newId := by
  unfold excAt at e
  split at e
  · rename_i d1 c1 s1 at1
    split at e
    · rename_i C1 bm j0 j1 j2 j3 n1 j5 m1 z1
      simp only [Bool.and_eq_true, beq_iff_eq, Bool.not_eq_true'] at e
      obtain ⟨⟨⟨rfl, rfl⟩, nd⟩, tl⟩ := e
      obtain ⟨f1, f2, f3, f4, f5, f6, f7, f8, f9, f10, f11⟩ := c1
      dsimp only at m1 nd
      subst m1 nd
      obtain rfl : s1 = #[j0, j1, j2, j3, some (.builtin n1), j5] := by
        obtain ⟨l1⟩ := s1
        simp only at z1
        rw [z1]
      exact ⟨bm, ⟨f1, f5, f4, f2, f6, f7, f8, f9, f10, d1, j0, j1, j2, j3, j5, X _ _ at1⟩, PySem.W.tail_of_in X tl⟩
    · cases e
  · cases e
end L2

/-! ### an exception's own attributes -/
namespace L2
open PySem PySem.Spec PyProof.Rows PySem.Builtin.ObjectAttr
abbrev bmV : List Value := [.type "ValueError", .type "Exception", .type "BaseException", .type "object"]
/-- the classes of the program's own ahead of ValueError -/
def ownV : List Value → Bool
  | .ref _ :: r => ownV r
  | l => l == bmV
def ownVIn (K : PySem.W.Frag) (C : Addr) : Bool := (PySem.W.clsIn K C).any fun cd => ownV cd.mro
/-- what stores an attribute on an exception asks of its class -/
structure XSet (K : PySem.W.Frag) (C : Addr) (f : Str) : Prop where
  sa : PySem.W.findIn K (.ref C) "__setattr__" = some (some (.builtin "object.__setattr__"))
  ov : ownVIn K C = true
  tk : PySem.W.takerIn K C f = some none
  hd : PySem.W.hasDictIn K C = true
section
variable {prog : Program} {w : World} {A : Around} {E : Value → Shared → Prop} {s : Shared} {K : PySem.W.Frag} {C x : Addr} {name : Str} {v : Value} {vs : Array Value}
end
/-- what reads an attribute of an exception asks of its class -/
structure XGet (K : PySem.W.Frag) (C : Addr) (f : Str) : Prop where
  ga : PySem.W.findIn K (.ref C) "__getattribute__" = some (some (.builtin "BaseException.__getattribute__"))
  gt : PySem.W.findIn K (.ref C) "__getattr__" = some none
  ba : PySem.W.mroIn K C (.type "BaseException") = some true
  na : PySem.W.findIn K (.ref C) f = some none
  hd : PySem.W.hasDictIn K C = true
section
variable {prog : Program} {w : World} {A : Around} {E : Value → Shared → Prop} {s : Shared} {K : PySem.W.Frag} {C x dx : Addr} {name : Str} {v : Value} {o : Obj} {mA : Str → Option Value}
end
end L2

/-! ### raise -/
namespace L2
open PySem PySem.Spec PyProof.Rows
/-- nothing is said of a any more -/
def del (H : Hp) (a : Addr) : Hp := fun b => if b = a then none else H b
/-- an exception that its class is just making -/
def XObj (C t a : Addr) (dx : Option Addr) : HO := .ext fun h => h.get? a = some { cls := .ref C, dict := dx, data := .fields #[.ref t, .none, .none, .none, .bool false, .none] }
section
variable {X : Cx} {pins : List (Addr × Obj)} {σ : St} {H : Hp} {s : Shared}
/-- the exception at a, made just now, is raised -/
theorem raise_new {R : RK} {C t a : Addr} {dx : Option Addr} {Q : Flow → Shared → Prop} (hp : PX X R) (I : Inv X pins σ H s) (fp : FpOk X pins H a)
    (he : s.heap.get? a = some { cls := .ref C, dict := dx, data := .fields #[.ref t, .none, .none, .none, .bool false, .none] }) (hR : R σ (.ref C) dx H) : wpAny (model X.prog X.w) X.A (raiseNew (.ref a) : Sem Flow) Q X.xe s := by
  obtain ⟨f0, f1, f2, f3, f4, f5⟩ := id fp
  refine raise_hd (s := s) ?_ he rfl (by simp) fun h' o' vs' k1 k2 k3 k4 k5 k6 k7 k8 => ?_
  · rcases I.hdAt with z | ⟨b, cs, z, c⟩
    · exact .inl z
    · exact .inr ⟨b, cs, z, c.chn I.hok, c.not_mem f0⟩
  · have I' : Inv X pins σ H { s with heap := h' } := I.turned (t' := s.toks) k1 f0 f1 f3 f4 f5
    refine hp pins σ H _ a (.ref C) dx none I' ⟨fp, fun p q => (by cases q), ⟨⟨o', vs', k2, k3, k4, k5, k6, ?_, ?_⟩, fun p q => (by cases q)⟩⟩ hR
    · rcases I.hdAt with z | ⟨b, cs, z, c⟩
      · rw [z] at k8
        exact ⟨[], ⟨List.nodup_nil, fun j a q => by simp at q⟩, k8⟩
      · rw [z] at k8
        exact ⟨b :: cs, c, k8⟩
    · exact k7
end
/-- an exception class that has no __init__ of its own -/
structure XC0 (K : PySem.W.Frag) (C : Addr) : Prop where
  at_ : excAt K C bmV "ValueError.__new__" = true
  kp : PySem.W.keepIn K (.ref C) = true
  init : PySem.W.findIn K (.ref C) "__init__" = some (some (.builtin "ValueError.__init__"))
/-- .. that has one -/
structure XCI (K : PySem.W.Frag) (C f : Addr) : Prop where
  at_ : excAt K C bmV "ValueError.__new__" = true
  kp : PySem.W.keepIn K (.ref C) = true
  init : PySem.W.findIn K (.ref C) "__init__" = some (some (.ref f))
  fn : PySem.W.isFn K (.ref f) = true
def sRaise0 (C : Addr) (R : RK) (t : TA) : TS := fun _ σ H => t σ H fun vs H1 => vs.length ≤ sizeLine ∧ R σ (.ref C) none H1
def sRaiseI (C : Addr) (sp : Sp) (dvs : List V) (R : RK) (t : TA) : TS := fun _ σ H => t σ H fun vs H1 => vs.length ≤ sizeLine ∧ ∀ a t', H1 a = none →
  sp (.ref a :: (vs ++ dvs)) (upd H1 a (XObj C t' a none)) (fun v H2 => v = .non ∧ ∃ dx, H2 a = some (XObj C t' a dx) ∧ R σ (.ref C) dx (del H2 a)) (R σ)
section
variable {X : Cx} {R : RK} {C : Addr} {x : Str} {np cpos pos : Pos} {e : Expr} {es : List Expr} {t : TA}
theorem raise_at {a : List Expr} {s : Shared} {bm : List Value} {Q : Flow → Shared → Prop} (hx : XCls s.heap C bmV bm "ValueError.__new__")
    (h : wpAny (model X.prog X.w) X.A (eval (.Call (.Name x np) a [] cpos) X.env) (fun v s₁ => ∃ b t dx, v = .ref b ∧ (∀ o, s.heap.get? C = some o → s₁.heap.get? C = some o) ∧ s₁.heap.get? b = some { cls := .ref C, dict := dx, data := .fields #[.ref t, .none, .none, .none, .bool false, .none] } ∧ wpAny (model X.prog X.w) X.A (raiseNew (.ref b) : Sem Flow) Q X.xe s₁) X.xe s) :
    wpAny (model X.prog X.w) X.A (exec (.Raise (some (.Call (.Name x np) a [] cpos)) none pos) X.env) Q X.xe s := by
  obtain ⟨⟨nm, q, N, bs, hdct, sn, sub, ab, col, dd, k0, k1, k2, k3, k5, oC⟩, T⟩ := hx
  rw [arm_exec_Raise]
  refine wpAny_bind (wpAny_standAt (raise_made (C := C) (nm := nm) (q := q) (N := N) (bs := bs) (bm := bm) (hdct := hdct) (sn := sn) (sub := sub) (ab := ab) (col := col) (dd := dd) (k0 := k0) (k1 := k1) (k2 := k2) (k3 := k3) (k5 := k5) (newId := "ValueError.__new__") (T.hasType rfl) (wpAny_bind (wpAny_mono h (fun v s1 z => wpAny_bind (wpAny_standAt (wpAny_pure ?_))) fun _ _ y => y))))
  obtain ⟨b, t, dx, z1, z2, z3, z4⟩ := z
  exact ⟨b, t, dx, z1, z2 _ oC, z3, z4⟩
theorem raise0_end {pins : List (Addr × Obj)} {σ : St} {H : Hp} {s0 s : Shared} {us : List Value} {Q : Flow → Shared → Prop} (hp : PX X R) (c : XC0 X.K C) (I : Inv X pins σ H s) (hz : us.length ≤ sizeLine) (hs : ∀ o, s0.heap.get? C = some o → s.heap.get? C = some o) (hR : R σ (.ref C) none H) :
    wpAny (model X.prog X.w) X.A (call (.ref C) us) (fun v s₁ => ∃ b t dx, v = .ref b ∧ (∀ o, s0.heap.get? C = some o → s₁.heap.get? C = some o) ∧ s₁.heap.get? b = some { cls := .ref C, dict := dx, data := .fields #[.ref t, .none, .none, .none, .bool false, .none] } ∧ wpAny (model X.prog X.w) X.A (raiseNew (.ref b) : Sem Flow) Q X.xe s₁) X.xe s := by
  obtain ⟨bm, ⟨nm, q, N, bs, hdct, sn, sub, ab, col, dd, k0, k1, k2, k3, k5, oC⟩, T⟩ := excAt_of I.kIn c.at_
  have I0 := I
  obtain ⟨h, g, d, tk, os⟩ := s
  refine call_exc0 PySem.F.excBase_ValueError T oC (PySem.W.looks_findIn I.kIn c.init) hz fun h' k' e' => ?_
  have I' : Inv X pins σ H ⟨h', g, d, tk, os⟩ := I0.kept (t' := tk) k'
  refine ⟨_, _, none, rfl, fun o q => k' _ _ (hs o q), e', raise_new hp I' ?_ e' hR⟩
  exact I0.fpOk (s := ⟨h, g, d, tk, os⟩) (Nat.le_succ _) (I0.hok.fresh (Nat.le_succ _))
/-- raise C(..), raise C() -/
theorem ps_raise0 (hp : PX X R) (c : XC0 X.K C) (hg : Gl X x) (hm : X.mg x = some (.ref C)) (hdb : (x == ("__debug__" : Str)) = false := by decide) : PS X (.Raise (some (.Call (.Name x np) [] [] cpos)) none pos) (sRaise0 C R tNil) := by
  intro pins s σ H D I h
  obtain ⟨bm, xc⟩ := excAt_of I.kIn c.at_
  refine raise_at xc (wpAny_Call_Name_kw (ld_glob I hg hm ?_ hdb))
  exact PySem.W.callWith_K0 I.kIn c.kp (raise0_end hp c I h.1 (fun _ q => q) h.2)
variable {CX : CXT} {k : Nat} {f : Addr} {fd : FuncData} {ps : List Str} {sp : Sp} {dvs : List V} {ds : List Value}
/-- self.f = e in an exception's __init__ -/
def sFldX (K : PySem.W.Frag) (ta tv : TE) (f : Str) : TS := fun D σ H => tv σ H fun y H1 => ta σ H1 fun x H2 => ∃ a C t, x = .ref a ∧ H2 a = some (XObj C t a none) ∧ XSet K C f ∧
  ∀ dx, H2 dx = none → D.nx σ (upd (upd H2 dx (.xd [(f, y)])) a (XObj C t a (some dx)))
end
end L2

/-! ### isinstance of exceptions -/
namespace L2
open PySem PySem.Spec PyProof.Rows PySem.Builtin.ObjectAttr
/-- what isinstance asks of an exception's class -/
structure XIs (K : PySem.W.Frag) (C : Addr) : Prop where
  ga : PySem.W.findIn K (.ref C) "__getattribute__" = some (some (.builtin "BaseException.__getattribute__"))
  gt : PySem.W.findIn K (.ref C) "__getattr__" = some none
  ba : PySem.W.mroIn K C (.type "BaseException") = some true
  ob : PySem.W.mroIn K C (.type "object") = some true
  cl : PySem.W.findIn K (.ref C) "__class__" = some (some (.builtin "object.__class__"))
  gs : PySem.W.specialIn K (.builtin "object.__class__") "__get__" = some (some (.builtin "getset_descriptor.__get__"))
  tk : PySem.W.takesIn K (.builtin "object.__class__") = some true
  hd : PySem.W.hasDictIn K C = true
theorem findObj_cls {K : PySem.W.Frag} {C : Addr} {od : Option Obj} (Z : XIs K C) : PySem.W.findObj K C od "__class__" = some (.bind (.builtin "getset_descriptor.__get__") (.builtin "object.__class__")) := by
  obtain ⟨cd, hc, _⟩ := PySem.W.any_some Z.hd
  unfold PySem.W.findObj
  rw [hc, Option.bind_some, Z.cl, Option.bind_some]
  dsimp only
  rw [Z.gs, Option.bind_some]
  dsimp only
  rw [Z.tk, Option.bind_some]
section
variable {prog : Program} {w : World} {A : Around} {E : Value → Shared → Prop} {s : Shared} {K : PySem.W.Frag} {C x : Addr} {ox : Obj} {od : Option Obj}
theorem class_exc {Q : Option Value → Shared → Prop} (Z : XIs K C) (X : K.In s.heap) (J : PySem.W.InstAt s.heap x ox C od) (fin : Q (some (.ref C)) { s with toks := s.toks + 1 }) : wpAny (model prog w) A (getAttr? (.ref x) "__class__") Q E s := by
  have L1 := PySem.W.looks_findIn (M := model prog w) X Z.ga
  have L2 := PySem.W.looks_findIn (M := model prog w) X Z.gt
  have L3 := PySem.W.looks_find (M := model prog w) X J (findObj_cls Z)
  have L0 := J.type (M := model prog w)
  have isB : PySem.W.Looks (model prog w) s.heap (isInstance (.ref x) (.type "BaseException")) true := J.type.andThen (PySem.W.looks_mroIn X Z.ba)
  obtain ⟨hp, g, d, t, os⟩ := s
  unfold getAttr? getAttrBy? getAttrBy
  refine wpAny_bind (wpAny_mkText (wpAny_bind (wpAny_attempt (wpAny_holding (wpAny_bind (L0.at (wpAny_bind (L1.at ?_))))))))
  show wpAny _ _ (if _ then _ else _) _ _ _
  rw [if_neg (by rw [show (Value.builtin "BaseException.__getattribute__" == Value.builtin "object.__getattribute__") = false by decide +kernel, Bool.and_false]; decide)]
  unfold getAttrByItsOwn
  refine wpAny_bind (L2.at (wpAny_bind (wpAny_attempt (wpAny_holding ?_))))
  unfold callGetattribute
  rw [if_neg (by decide)]
  unfold boundAndCalled
  have G := PySem.F.excAttr_ValueError.ga
  refine wpAny_bind ?_
  rw [G.bind]
  refine wpAny_pure (wpAny_call (codeAny_call_builtin G.plain PySem.F.entry_bexc_ga (@PySem.W.check_slot (model prog w) _ _ ⟨hp, g, d, t + 1, os⟩ "BaseException.__getattribute__" "BaseException" "__getattribute__" (.ref x) [.str "__class__" t] [] _ (by decide +kernel) (by decide +kernel) isB (PySem.F.args_bexc_ga (.ref x) (.str "__class__" t)) ?_)))
  refine wpAny_bind (wpAny_pure (wpAny_bind (wpAny_pure (wpAny_bind (L0.at (wpAny_bind (L3.at ?_)))))))
  refine wpAny_bind (wpAny_holding (wpAny_call (PySem.W.class_get (s := ⟨hp, g, d, t + 1, os⟩) (ox := ox) (od := od) X J Z.ob (wpAny_pure ?_))))
  show wpAny _ _ (handedOut (.ref C)) _ _ _
  exact wpAny_pure (wpAny_pure fin)
theorem kitx_exc (Z : XIs K C) : PySem.W.KitX K (.ref x) (.ref C) (fun h => PySem.W.InstAt h x ox C od) where
  ty := fun _ _ _ I => I.type
  it := fun _ _ X _ => by
    obtain ⟨cD, hcD, _⟩ := PySem.W.any_some Z.hd
    unfold PySem.W.clsIn at hcD
    split at hcD
    · rename_i c1 d1 e1 s1 at1
      intro A' Q' E' s' k q
      unfold isType loadHead
      exact wpAny_bind (wpAny_loadPart (k _ _ (X _ _ at1)) (wpAny_pure q))
    · cases hcD
  ne := fun h tp dd its n sl X htp => by
    obtain ⟨cD, hcD, _⟩ := PySem.W.any_some Z.hd
    refine Bool.eq_false_iff.mpr fun q => ?_
    obtain rfl : C = tp := Value.ref.inj (beq_iff_eq.mp q)
    unfold PySem.W.clsIn at hcD
    split at hcD
    · rename_i c1 d1 e1 s1 at1
      have z := (X _ _ at1).symm.trans htp
      cases z
    · cases hcD
  ca := fun X I k => class_exc Z X I k
end
/-- an exception that is held by a name: frozen -/
structure IsX (H : Hp) (a C : Addr) (dd : Option Addr) : Prop where
  at_ : ∃ o u, H a = some (.frz o u) ∧ o.cls = .ref C ∧ o.dict = dd ∧ ∃ vs, o.data = .fields vs
section
variable {X : Cx}
theorem IsX.inst {pins : List (Addr × Obj)} {σ : St} {H : Hp} {s : Shared} {a C : Addr} (I : Inv X pins σ H s) (x : IsX H a C none) : ∃ o, PySem.W.InstAt s.heap a o C none := by
  obtain ⟨o, u, h1, h2, h3, vs, h4⟩ := x.at_
  exact ⟨o, (I.hok _ _ h1).1, h2, by unfold PySem.W.notCls; rw [h4], by rw [h3]; exact True.intro⟩
/-- where the dict is known -/
theorem IsX.instD {pins : List (Addr × Obj)} {σ : St} {H : Hp} {s : Shared} {a C dx : Addr} {fs : List (Str × V)} (I : Inv X pins σ H s) (x : IsX H a C (some dx)) (hd : H dx = some (.xd fs)) : ∃ o od, PySem.W.InstAt s.heap a o C (some od) := by
  obtain ⟨o, u, h1, h2, h3, vs, h4⟩ := x.at_
  obtain ⟨mA, n, _⟩ := I.hok _ _ hd
  obtain ⟨od, hod, _⟩ := lookIn_ns n
  exact ⟨o, od, (I.hok _ _ h1).1, h2, by unfold PySem.W.notCls; rw [h4], by rw [h3]; exact hod⟩
/-- the exception's dict stands, if it has one -/
def XDs (H : Hp) : Option Addr → Prop
  | none => True
  | some dx => ∃ fs, H dx = some (.xd fs)
theorem IsX.any {pins : List (Addr × Obj)} {σ : St} {H : Hp} {s : Shared} {a C : Addr} {dd : Option Addr} (I : Inv X pins σ H s) (x : IsX H a C dd) (hd : XDs H dd) : ∃ o od, PySem.W.InstAt s.heap a o C od := by
  cases dd with
  | none => obtain ⟨o, h⟩ := x.inst I; exact ⟨o, none, h⟩
  | some dx => obtain ⟨fs, hd⟩ := hd; obtain ⟨o, od, h⟩ := x.instD I hd; exact ⟨o, some od, h⟩
/-- isinstance(e, c) -/
theorem call_isinstX : CallR X (.builtin "isinstance") (fun xs H Q => ∃ a C dd vc c b, xs = [.ref a, vc] ∧ IsX H a C dd ∧ XDs H dd ∧ XIs X.K C ∧ (∀ u, RelV vc u → u = c) ∧ PySem.W.kitOne X.K (.ref C) c = some b ∧ Q (.bl b) H) := by
  intro pins s σ H xs us Q I r h
  obtain ⟨a, C, dd, vc, c, b, rfl, x, hd, Z, hc, e, q⟩ := h
  obtain ⟨u, u', rfl, rx, ry⟩ := vals2 r
  obtain rfl : u = Value.ref a := rx
  obtain rfl := hc u' ry
  obtain ⟨o, od, J⟩ := x.any I hd
  exact PySem.W.kia_one (kitx_exc Z) I.kIn J e (fun z => nomatch z) fun tk => ⟨.bl b, H, I.tok _, rfl, q⟩
/-- e.f of an exception -/
def tFldX (K : PySem.W.Frag) (ta : TE) (f : Str) : TE := fun σ H Q => ta σ H fun x H1 => ∃ a C dx fs v, x = .ref a ∧ IsX H1 a C (some dx) ∧ H1 dx = some (.xd fs) ∧ XGet K C f ∧ fs.lookup f = some v ∧ Q v H1
end
end L2

/-! ### try .. except -/
namespace L2
open PySem PySem.Spec PyProof.Rows
/-- the body of a try; the suite of an except -/
abbrev Cx.tr (X : Cx) (pn : List (Addr × Obj)) (E : Value → Shared → Prop) : Cx := { X with pn := pn, xe := E }
abbrev Cx.hnd (X : Cx) (a : Addr) (H₀ : Hp) : Cx := { X with A := X.A.mark (some (.ref a)), H₀ := H₀, xe := fun _ _ => False }
/-- what is frozen in H, else what H₀ has -/
def frzO (H H₀ : Hp) : Hp := fun b => match H b with | some (.frz o u) => some (.frz o u) | _ => H₀ b
theorem frzO_frz {H H₀ : Hp} {b : Addr} {o : Obj} {u : HO} (e : H b = some (.frz o u)) : frzO H H₀ b = some (.frz o u) := by unfold frzO; rw [e]
theorem frzO_not {H H₀ : Hp} {b : Addr} (n : ∀ o u, H b ≠ some (.frz o u)) : frzO H H₀ b = H₀ b := by
  unfold frzO
  split
  · rename_i o u e; exact absurd e (n o u)
  · rfl
section
variable {X : Cx} {pins : List (Addr × Obj)} {σ : St} {H : Hp} {s : Shared} {a : Addr} {c : Value} {dd : Option Addr} {tb : Option (Addr × Value)}
theorem Inv.enter (hex : X.ex = []) (I : Inv X pins σ H s) (x : Exc X pins H s.heap a c dd tb) : ∃ o, o.cls = c ∧ o.dict = dd ∧ (∃ vs, o.data = .fields vs) ∧ Inv (X.hnd a (frzO (upd H a (.frz o (.own a))) X.H₀)) pins σ (upd H a (.frz o (.own a))) s := by
  obtain ⟨o, vs, h1, hc, hdd, hd, hz, ⟨cs, ch, h2⟩, hv1⟩ := x.at_.ob
  obtain ⟨f0, f1, f2, f3, f4, f5⟩ := x.fp
  have f3' : X.s₀.heap.objs.size ≤ a := by
    rcases f3 with z | z
    · rw [hex] at z; cases z
    · exact z
  refine ⟨o, hc, hdd, ⟨vs, hd⟩, ?_⟩
  have na : ∀ b u, H b = some u → b ≠ a := fun b u q => ne_of_none q f0
  have old : ∀ b ob, X.s₀.heap.get? b = some ob → b ≠ a := fun b ob q => Nat.ne_of_lt (Nat.lt_of_lt_of_le (Heap.lt_size q) f3')
  have keepH : ∀ b u, H b = some u → upd H a (.frz o (.own a)) b = some u := fun b u q => by rw [upd_ne (na b u q)]; exact q
  have noneH : ∀ b, b ≠ a → H b = none → upd H a (.frz o (.own a)) b = none := fun b z q => by rw [upd_ne z]; exact q
  have noneO : ∀ b, b ≠ a → H b = none → frzO (upd H a (.frz o (.own a))) X.H₀ b = X.H₀ b := fun b z q => frzO_not fun o' u' q' => by rw [noneH b z q] at q'; cases q'
  have K := I.ok
  refine { I with ok := ?_, base := ?_, free := noneH _ (Ne.symm f1) I.free, freeC := fun y cl q => noneH _ (f4 y cl q) (I.freeC y cl q), pin := fun p hp => ?_, hok := fun b u q => ?_ }
  · refine { mod := K.mod, kind := K.kind, glob := K.glob, blt := K.blt, above := K.above, inj := K.inj, has := K.has, cab := K.cab, hd := ?_, frames := K.frames, stk := K.stk, exf := K.exf, bs := fun b ob q => ?_, bsz := K.bsz, noex := K.noex, exfs := K.exfs, funs := K.funs, frf := fun b hb => ?_ }
    · refine .inr ⟨a, cs, rfl, List.nodup_cons.mpr ⟨ch.not_mem f0, ch.1⟩, fun j b hj => ?_⟩
      cases j with
      | zero =>
        obtain rfl : a = b := by simpa using hj
        exact ⟨o, .own a, vs, frzO_frz upd_same, hd, h2⟩
      | succ j =>
        have hj' : cs[j]? = some b := by simpa using hj
        obtain ⟨o', u', vs', q1, q2, q3⟩ := ch.2 j b hj'
        exact ⟨o', u', vs', frzO_frz (keepH _ _ q1), q2, q3⟩
    · obtain ⟨q1, q2⟩ := K.bs b ob q
      obtain ⟨_, q3⟩ := I.bs b ob q
      exact ⟨q1, (noneO b (old b ob q1) q3).trans q2⟩
    · have hb' : b ∈ X.fs := hb
      have := K.frf b hb'
      have hbn : b ≠ a := fun z => f2 (z ▸ hb')
      have h3 : H b = none := I.stkFree b (by
        rcases K.stk with z | ⟨z, y⟩
        · rw [z]; exact hb'
        · rw [z]; unfold frs; rw [List.filterMap_cons, y]; exact List.mem_cons_of_mem _ hb')
      exact (noneO b hbn h3).trans this
  · obtain ⟨b1, b2, b3, b4, b5, b6, b7⟩ := I.base
    have back : ∀ b ob, X.s₀.heap.get? b = some ob → frzO (upd H a (.frz o (.own a))) X.H₀ b = none → X.H₀ b = none := fun b ob q n => by
      unfold frzO at n
      split at n
      · cases n
      · exact n
    refine ⟨fun b ob q n => b1 b ob q (back b ob q n), fun b ob q n => b2 b ob q (back b ob q n), fun b ob q n z => noneH b (old b ob q) (b3 b ob q (back b ob q n) z), b4, fun b xs q => ?_, fun b ob u q => ?_, fun b ps q => ?_⟩
    · replace q : frzO (upd H a (.frz o (.own a))) X.H₀ b = _ := q
      unfold frzO at q
      split at q
      · cases q
      · exact keepH _ _ (b5 b xs q)
    · replace q : frzO (upd H a (.frz o (.own a))) X.H₀ b = _ := q
      unfold frzO at q
      split at q
      · rename_i e; rw [← q]; exact e
      · exact keepH _ _ (b6 b ob u q)
    · replace q : frzO (upd H a (.frz o (.own a))) X.H₀ b = _ := q
      unfold frzO at q
      split at q
      · cases q
      · obtain ⟨m, e⟩ := b7 b ps q
        exact ⟨m, keepH _ _ e⟩
  · obtain ⟨p1, p2, p3⟩ := I.pin p hp
    exact ⟨p1, noneH _ (f5 p hp) p2, p3⟩
  · by_cases z : b = a
    · subst z
      rw [upd_same] at q; cases q
      exact ⟨h1, ⟨_, h1⟩⟩
    · rw [upd_ne z] at q
      exact (I.hok b u q).stay (fun c' u' _ r => r) (fun c' r => keepH _ _ r) fun c' xs r => keepH _ _ r
theorem Inv.leave {σ' : St} {H' : Hp} {s' : Shared} {o : Obj} (hex : X.ex = []) (I : Inv X pins σ H s) (fp : FpOk X pins H a) (J : Inv (X.hnd a (frzO (upd H a (.frz o (.own a))) X.H₀)) pins σ' H' s') : Inv X pins σ' H' s' := by
  obtain ⟨f0, f1, f2, f3, f4, f5⟩ := fp
  have f3' : X.s₀.heap.objs.size ≤ a := by
    rcases f3 with z | z
    · rw [hex] at z; cases z
    · exact z
  have na : ∀ b u, H b = some u → b ≠ a := fun b u q => ne_of_none q f0
  have old : ∀ b ob, X.s₀.heap.get? b = some ob → b ≠ a := fun b ob q => Nat.ne_of_lt (Nat.lt_of_lt_of_le (Heap.lt_size q) f3')
  have e1 : ∀ b ob, X.s₀.heap.get? b = some ob → X.H₀ b = none → frzO (upd H a (.frz o (.own a))) X.H₀ b = none := fun b ob q n => by
    have hb : H b = none := I.base.free b ob q n (by rw [hex]; simp)
    rw [frzO_not fun o' u' q' => by rw [upd_ne (old b ob q), hb] at q'; cases q']; exact n
  obtain ⟨b1, b2, b3, b4, b5, b6, b7⟩ := J.base
  refine { J with ok := I.ok, base := ⟨fun b ob q n => b1 b ob q (e1 b ob q n), fun b ob q n => b2 b ob q (e1 b ob q n), fun b ob q n => b3 b ob q (e1 b ob q n), b4, fun b xs q => b5 b xs ?_, fun b ob u q => b6 b ob u ?_, fun b ps q => b7 b ps ?_⟩ }
  · have h := I.base.tups b xs q
    show frzO _ _ _ = _
    rw [frzO_not fun o' u' q' => by rw [upd_ne (na _ _ h), h] at q'; cases q']; exact q
  · have h := I.base.frzs b ob u q
    exact frzO_frz (by rw [upd_ne (na _ _ h)]; exact h)
  · obtain ⟨m, h⟩ := I.base.tbls b ps q
    show frzO _ _ _ = _
    rw [frzO_not fun o' u' q' => by rw [upd_ne (na _ _ h), h] at q'; cases q']; exact q
theorem matches_ok {M : Model} {A : Around} {E : Value → Shared → Prop} {Q : Bool → Shared → Prop} {K : PySem.W.Frag} {e C D : Addr} {oe : Obj} {b : Bool} (X : K.In s.heap) (he : s.heap.get? e = some oe) (hc : oe.cls = .ref C) (hb : PySem.W.mroIn K C (.ref D) = some b)
    (hB : PySem.W.mroIn K D (.type "BaseException") = some true) (hT : PySem.W.typeIn K (.ref D) = some (.type "type")) (fin : Q b s) : wpAny M A (excMatches (.ref e) (.ref D)) Q E s := by
  have L1 := PySem.W.looks_typeIn (M := M) X hT
  have L2 := PySem.W.looks_mroIn (M := M) X hB
  have L3 := PySem.W.looks_mroIn (M := M) X hb
  have L4 : PySem.W.Looks M s.heap (isType (.ref D)) true := by
    obtain ⟨cd, h1, _⟩ := Option.bind_eq_some_iff.mp hB
    unfold PySem.W.clsIn at h1
    split at h1
    · rename_i c1 d1 e1 s1 at1
      intro A' Q' E' s' k q
      unfold isType loadHead
      exact wpAny_bind (wpAny_loadPart (k _ _ (X _ _ at1)) (wpAny_pure q))
    · cases h1
  have L5 : PySem.W.Looks M s.heap (isInstance (.ref D) (.type "tuple")) false := L1.andThen (PySem.W.Looks.of_pure tc_notTuple)
  have L6 : PySem.W.Looks M s.heap (typeOf (.ref e)) (.ref C) := (PySem.W.Looks.ld he).andThen (by rw [hc]; exact .now)
  have L7 : PySem.W.Looks M s.heap (isExcClass (.ref D)) true := L4.andThen L2
  unfold excMatches
  refine wpAny_bind (L5.here ?_)
  simp only [Bool.false_eq_true, if_false]
  refine wpAny_bind (wpAny_pure (wpAny_bind ?_))
  simp only [List.forIn_cons, List.forIn_nil]
  refine wpAny_bind (wpAny_bind (L7.here ?_))
  simp only [Bool.not_true, Bool.false_eq_true, if_false]
  refine wpAny_pure (wpAny_pure (wpAny_bind (L6.here (wpAny_bind (wpAny_bind (wpAny_bind (L3.here ?_)))))))
  cases b with
  | true =>
    simp only [if_true]
    exact wpAny_pure (wpAny_pure (wpAny_pure fin))
  | false =>
    simp only [Bool.false_eq_true, if_false]
    exact wpAny_pure (wpAny_pure (wpAny_pure fin))
/-- the name behind `as` goes -/
theorem name_goes {M : Model} {A : Around} {E : Value → Shared → Prop} {i : Nat} {n : Str} {pos : Pos} {Q : Unit → Shared → Prop} (I : Inv X pins σ H s) (hN : X.N.Nodup) (hi : X.N[i]? = some n) (hk : X.env.kindOf n = some .local)
    (fin : ∀ s', Inv X pins (σ.set i none) H s' → Q () s') : wpAny M A (do bindName X.env n .none; unbindBehindTheSuite X.env n pos) Q E s := by
  obtain ⟨m, hn, hl⟩ := id I.loc
  have hcls : (X.env.scope.kind == .class || (X.env.scope.kind == .module && X.env.locals != X.env.globals)) = false := by rw [I.ok.kind]; rfl
  obtain ⟨oL, _, _, hoL, _⟩ := id hn
  refine wpAny_nameGoes_keeps hk hn hcls fun h' v hn' hs => fin _ ?_
  have lo : ∀ b o, X.s₀.heap.get? b = some o → b ≠ X.env.locals := fun b o e => Nat.ne_of_lt (Nat.lt_of_lt_of_le (Heap.lt_size e) I.ok.above)
  refine { ok := I.ok, os := I.os, bare := I.bare, base := ⟨fun b o e n hb hx => (hs.2 b (lo b o e)).trans (I.base.keep b o e n hb hx), fun b o e n hb hx => ?_, I.base.free, fun b o e hx => ?_, I.base.tups, I.base.frzs, I.base.tbls⟩, loc := ⟨_, hn', fun j y v' e1 e2 e3 => ?_⟩, cell := fun y c e => ?_, free := I.free, freeC := I.freeC, pin := fun p hp => ?_, hok := fun b ob e => ?_, len := by simpa using I.len }
  · obtain ⟨sl, e1⟩ := I.base.slot b o e n hb hx
    exact ⟨sl, (hs.2 b (lo b o e)).trans e1⟩
  · obtain ⟨o', e1⟩ := I.base.there b o e hx
    exact ⟨o', (hs.2 b (lo b o e)).trans e1⟩
  · have hj : j ≠ i := fun z => by
      subst z
      have hiσ : j < σ.length := by rw [I.len]; exact (List.getElem?_eq_some_iff.mp hi).1
      rw [List.getElem?_set_self hiσ] at e2
      cases e2
    rw [List.getElem?_set_ne (Ne.symm hj)] at e2
    obtain ⟨u', r', q⟩ := hl j y v' e1 e2 e3
    refine ⟨u', r', ?_⟩
    rcases q with ⟨k, e⟩ | ⟨k, c, e, z⟩
    · refine .inl ⟨k, ?_⟩
      have : y ≠ n := fun e => hj (nodup_ix hN e1 (e ▸ hi))
      simp [this, e]
    · exact .inr ⟨k, c, e, z.sameBut hs (I.cne y c e)⟩
  · obtain ⟨w', z⟩ := I.cell y c e
    exact ⟨w', z.sameBut hs (I.cne y c e)⟩
  · obtain ⟨e, n, ne, nf, d⟩ := I.pin p hp
    exact ⟨(hs.2 p.1 ne).trans e, n, ne, nf, d⟩
  · refine (I.hok b ob e).stay (fun c w' hc q => (hs.2 c ?_).trans q) (fun _ q => q) fun _ _ q => q
    rintro rfl
    rcases hc with hc | hc
    · rw [← hc, I.free] at e; cases e
    · rw [I.free] at hc; cases hc
end
/-- the handlers' readings: the class, the name's slot, the suite -/
abbrev Hd1 := Addr × Option Nat × TS
def Ends.as (D : Ends) (i : Nat) : Ends := ⟨fun σ H => D.nx (σ.set i none) H, D.rt, fun σ H => D.bk (σ.set i none) H, fun σ H => D.ct (σ.set i none) H⟩
def tHand (K : PySem.W.Frag) : List Hd1 → Ends → RK
  | [], _, _, _, _, _ => False
  | (D, i, t) :: r, En, σ, c, dd, H => ∃ C b, c = .ref C ∧ PySem.W.mroIn K C (.ref D) = some b ∧ if b = true then ∀ a o, H a = none → o.cls = c → o.dict = dd → (∃ vs, o.data = .fields vs) →
      (match i with | none => t En σ (upd H a (.frz o (.own a))) | some i => t (En.as i) (σ.set i (some (.ref a))) (upd H a (.frz o (.own a)))) else tHand K r En σ c dd H
/-- the handlers -/
inductive PHs (X : Cx) : List ExceptHandler → List Hd1 → Prop where
  | nil : PHs X [] []
  | one {x : Str} {np pos : Pos} {b₀ : Stmt} {su : List Stmt} {D : Addr} {t : TS} {hs : List ExceptHandler} {ts : List Hd1} (hg : Gl X x) (hm : X.mg x = some (.ref D)) (hB : PySem.W.mroIn X.K D (.type "BaseException") = some true) (hT : PySem.W.typeIn X.K (.ref D) = some (.type "type"))
      (hdb : (x == ("__debug__" : Str)) = false) (hb : ∀ a H₀, PSs (X.hnd a H₀) (b₀ :: su) t) (r : PHs X hs ts) : PHs X (.ExceptHandler (some (.Name x np)) none (b₀ :: su) pos :: hs) ((D, none, t) :: ts)
  | as_ {x n : Str} {i : Nat} {np pos : Pos} {b₀ : Stmt} {su : List Stmt} {D : Addr} {t : TS} {hs : List ExceptHandler} {ts : List Hd1} (hg : Gl X x) (hm : X.mg x = some (.ref D)) (hB : PySem.W.mroIn X.K D (.type "BaseException") = some true) (hT : PySem.W.typeIn X.K (.ref D) = some (.type "type"))
      (hdb : (x == ("__debug__" : Str)) = false) (hN : X.N.Nodup) (hi : X.N[i]? = some n) (hk : X.env.kindOf n = some .local) (hb : ∀ a H₀, PSs (X.hnd a H₀) (b₀ :: su) t) (r : PHs X hs ts) : PHs X (.ExceptHandler (some (.Name x np)) (some n) (b₀ :: su) pos :: hs) ((D, some i, t) :: ts)
section
variable {X : Cx}
theorem ld_globA {A : Around} {E : Value → Shared → Prop} {pins : List (Addr × Obj)} {s : Shared} {σ : St} {H : Hp} {x : Str} {u : Value} {pos : Pos} {Q : Value → Shared → Prop} (I : Inv X pins σ H s) (hg : Gl X x) (hm : X.mg x = some u) (h : Q u s)
    (hd : (x == ("__debug__" : Str)) = false) : wpAny (model X.prog X.w) A (eval (.Name x pos) X.env) Q E s :=
  Calls.Name_function_global I.ok.kind hg (Calls.loadGlobal_global (by rw [I.ok.glob]; exact I.mod.glob.keeps I.bk) hm h) hd
theorem SP.leave {pins : List (Addr × Obj)} {σ : St} {H : Hp} {s s' : Shared} {a : Addr} {o : Obj} {D : Ends} {f : Flow} (hex : X.ex = []) (I : Inv X pins σ H s) (fp : FpOk X pins H a) (h : SP (X.hnd a (frzO (upd H a (.frz o (.own a))) X.H₀)) pins D f s') : SP X pins D f s' := by
  cases f with
  | next => obtain ⟨σ', H', J, q⟩ := h; exact ⟨σ', H', I.leave hex fp J, q⟩
  | brk => obtain ⟨σ', H', J, q⟩ := h; exact ⟨σ', H', I.leave hex fp J, q⟩
  | cont => obtain ⟨σ', H', J, q⟩ := h; exact ⟨σ', H', I.leave hex fp J, q⟩
  | ret u => obtain ⟨v, σ', H', J, q⟩ := h; exact ⟨v, σ', H', I.leave hex fp J, q⟩
theorem SP.as_ {A : Around} {E : Value → Shared → Prop} {pins : List (Addr × Obj)} {s : Shared} {i : Nat} {n : Str} {pos : Pos} {D : Ends} {f : Flow} (hN : X.N.Nodup) (hi : X.N[i]? = some n) (hk : X.env.kindOf n = some .local) (h : SP X pins (D.as i) f s) :
    wpAny (model X.prog X.w) A (do bindName X.env n .none; unbindBehindTheSuite X.env n pos) (fun _ s' => SP X pins D f s') E s := by
  cases f with
  | next => obtain ⟨σ', H', J, q⟩ := h; exact name_goes J hN hi hk fun s' J' => ⟨_, H', J', q⟩
  | brk => obtain ⟨σ', H', J, q⟩ := h; exact name_goes J hN hi hk fun s' J' => ⟨_, H', J', q⟩
  | cont => obtain ⟨σ', H', J, q⟩ := h; exact name_goes J hN hi hk fun s' J' => ⟨_, H', J', q⟩
  | ret u => obtain ⟨v, σ', H', J, q⟩ := h; exact name_goes J hN hi hk fun s' J' => ⟨v, _, H', J', q⟩
theorem handle_ok {hs : List ExceptHandler} {ts : List Hd1} (hex : X.ex = []) (P : PHs X hs ts) : ∀ {pins : List (Addr × Obj)} {σ : St} {H : Hp} {s : Shared} {a : Addr} {c : Value} {dd : Option Addr} {T : Addr} {D : Ends}, Inv X pins σ H s → Exc X pins H s.heap a c dd (some (T, .none)) → tHand X.K ts D σ c dd H →
    wpAny (model X.prog X.w) X.A (handleBy (.ref a) X.env hs) (SP X pins D) X.xe s := by
  induction P with
  | nil => intro pins σ H s a c dd T D I x h; exact h.elim
  | @one x np pos b₀ su Dc t hs ts hg hm hB hT hdb hb r ih =>
    intro pins σ H s a c dd T D I x h
    obtain ⟨C, b, rfl, hmro, h⟩ := h
    obtain ⟨o, vs, h1, hc, _⟩ := x.at_.ob
    refine wpAny_handleBy_cons (codeAny_handlers_test (ld_globA I hg hm (matches_ok I.kIn h1 hc hmro hB hT ?_) hdb)) (by intro q; cases q)
    cases b with
    | false => exact ih I x (by simpa using h)
    | true =>
      refine codeAny_handlers_suite (I.land x fun s1 I1 x1 => ?_)
      obtain ⟨o1, g1, g2, g3, J⟩ := I1.enter hex x1
      rw [if_pos rfl] at h
      refine wpAny_mono (hb a _ pins s1 σ _ D J (h a o1 x1.fp.1 g1 g2 g3)) (fun f s2 z => z.leave hex I1 x1.fp) fun _ _ z => z.elim
  | @as_ x n i np pos b₀ su Dc t hs ts hg hm hB hT hdb hN hi hk hb r ih =>
    intro pins σ H s a c dd T D I x h
    obtain ⟨C, b, rfl, hmro, h⟩ := h
    obtain ⟨o, vs, h1, hc, _⟩ := x.at_.ob
    refine wpAny_handleBy_cons (codeAny_handlers_test (ld_globA I hg hm (matches_ok I.kIn h1 hc hmro hB hT ?_) hdb)) (by intro q; cases q)
    cases b with
    | false => exact ih I x (by simpa using h)
    | true =>
      refine codeAny_handlers_suite_as (I.land x fun s1 I1 x1 => ?_)
      obtain ⟨o1, g1, g2, g3, J⟩ := I1.enter hex x1
      rw [if_pos rfl] at h
      refine store_ok (X := X.hnd a _) J hN hi (.inl hk) (v := .ref a) rfl (fun s2 J2 => ?_) (.inr hk)
      exact wpAny_mono (hb a _ pins s2 _ _ (D.as i) J2 (h a o1 x1.fp.1 g1 g2 g3)) (fun f s3 z => (z.leave hex I1 x1.fp).as_ hN hi hk) fun _ _ z => z.elim
/-- try .. except .. else -/
def tTry (K : PySem.W.Frag) (ts : List Hd1) (tb : RK → TS) (te : TS) : TS := fun D σ H => tb (tHand K ts D) { D with nx := fun σ H => te D σ H } σ H
theorem ps_try {body orelse : List Stmt} {h₀ : ExceptHandler} {hs : List ExceptHandler} {pos : Pos} {ts : List Hd1} {tb : RK → TS} {te : TS} (B : Body X) (hex : X.ex = []) (P : PHs X (h₀ :: hs) ts)
    (hb : ∀ (pn : List (Addr × Obj)) (E : Value → Shared → Prop) (R : RK), PX (X.tr pn E) R → PassesOwn (model X.prog X.w) X.A X.env E → PSs (X.tr pn E) body (tb R)) (he : PSs X orelse te) : PS X (.Try body (h₀ :: hs) orelse [] pos) (tTry X.K ts tb te) := by
  intro pins s σ H D I h
  refine wpAny_Try_except ?_
  have to : ∀ {pins' σ' H' s'}, Inv X pins σ' H' s' → Inv (X.tr (X.pn ++ pins) pins') [] σ' H' s' := fun {pins' σ' H' s'} J => { J with pin := fun p hp => J.pin p (by simpa using hp), ok := { J.ok with } }
  have fro : ∀ {E' pins' σ' H' s'}, Inv (X.tr (X.pn ++ pins) E') pins' σ' H' s' → Inv X pins σ' H' s' := fun {E' pins' σ' H' s'} J => { J with pin := fun p hp => J.pin p (List.mem_append_left _ hp), ok := { J.ok with } }
  refine wpAny_mono (hb (X.pn ++ pins) (fun e s₁ => wpAny (model X.prog X.w) X.A (noteFrame e X.env) (fun _ s₂ => wpAny (model X.prog X.w) X.A (setFlight e none) (fun _ s₃ => wpAny (model X.prog X.w) X.A (handleBy e X.env (h₀ :: hs)) (SP X pins D) X.xe s₃) X.xe s₂) X.xe s₁)
    (tHand X.K ts D) ?_ PassesOwn.looking [] s σ H _ (to I) h) (fun f s1 z => ?_) fun _ _ z => z
  · intro pins' σ' H' s' a c dd tb J x hR
    have J' := fro J
    have x' : Exc X pins H' s'.heap a c dd (tb.map fun T => (T, Value.none)) := ⟨⟨x.fp.1, x.fp.2.1, x.fp.2.2.1, x.fp.2.2.2.1, x.fp.2.2.2.2.1, fun p hp => x.fp.2.2.2.2.2 p (List.mem_append_left _ hp)⟩, fun p q => by
      have y := x.fpT p q
      exact ⟨y.1, y.2.1, y.2.2.1, y.2.2.2.1, y.2.2.2.2.1, fun p hp => y.2.2.2.2.2 p (List.mem_append_left _ hp)⟩, x.at_⟩
    refine J'.note B x' map_tb fun s2 T I2 x2 => ?_
    exact I2.land x2 fun s3 I3 x3 => handle_ok hex P I3 x3 hR
  · cases f with
    | next => obtain ⟨σ', H', J, q⟩ := z; exact he pins s1 σ' H' D (fro J) q
    | brk => obtain ⟨σ', H', J, q⟩ := z; exact ⟨σ', H', fro J, q⟩
    | cont => obtain ⟨σ', H', J, q⟩ := z; exact ⟨σ', H', fro J, q⟩
    | ret u => obtain ⟨v, σ', H', J, q⟩ := z; exact ⟨v, σ', H', fro J, q⟩
end
end L2

/-! ### defs, methods, classes of the text as their callers see them -/
namespace L2
open PySem PySem.Spec PyProof.Rows
/-- a def of the text, with what stands for its defaults -/
structure FunD (K : PySem.W.Frag) (x qual : Str) (st : Stmt) (f : Addr) (fd : FuncData) : Prop where
  ex : ∃ (oc : Value) (od : Option Addr) (dV kV doc pm : Value) (an : Option Addr) (cdv ct : Value) (osl : Array (Option Value)),
    fd = PySem.W.fnOf x qual (defArgs st) (defBody st) (defScope st) dV kV doc pm an cdv ct ∧ K.lookup f = some ⟨oc, od, .func fd, osl⟩ ∧ PySem.W.codeIn K cdv qual = true
theorem funD_mk {K : PySem.W.Frag} {x qual : Str} {st : Stmt} {f : Addr} {oc : Value} {od an : Option Addr} {osl : Array (Option Value)} {dV kV doc pm cdv ct : Value} (l : K.lookup f = some ⟨oc, od, .func (PySem.W.fnOf x qual (defArgs st) (defBody st) (defScope st) dV kV doc pm an cdv ct), osl⟩)
    (c : PySem.W.codeIn K cdv qual = true) : FunD K x qual st f (PySem.W.fnOf x qual (defArgs st) (defBody st) (defScope st) dV kV doc pm an cdv ct) := ⟨⟨oc, od, dV, kV, doc, pm, an, cdv, ct, osl, rfl, l, c⟩⟩
section
variable {P : Program} {w : World} {K : PySem.W.Frag} {mg : Str → Option Value} {base : Heap}
/-- a def that lets no exception out -/
theorem FunD.ok {x qual : Str} {st : Stmt} {f : Addr} {fd : FuncData} {N ps : List Str} {k : Nat} {sp : Sp} (F : FunD K x qual st f fd) (S : FnScope N ps (defScope st)) (len : ∀ vs H Q E, sp vs H Q E → vs.length = ps.length)
    (hbody : ∀ (cdv : Value) (A : Around) (outer : List Env) (s : Shared) (H : Hp) (vs : List V) (Q : VK) (E : XK), Room k (A.deeper (envOfC qual (defScope st) s.heap.objs.size f cdv)) → sp vs H Q E →
      ∃ t, PSs (cxOf CX0 P w K mg base N qual (defScope st) f cdv A outer s H E).nox (defBody st) t ∧ t { nx := fun _ H' => Q .non H', rt := Q } (start N vs) H) : FnOk P w K mg base CX0 (k + 1) f fd ps sp := by
  obtain ⟨oc, od, dV, kV, doc, pm, an, cdv, ct, osl, rfl, lk, hcd⟩ := F.ex
  refine fn_of lk hcd S len fun A outer s H vs Q E hr hsp => ?_
  obtain ⟨t, h, q⟩ := hbody cdv A outer s H vs Q E hr hsp
  exact ⟨t, h.nox, q⟩
/-- a def that may raise -/
theorem FunD.okX {x qual : Str} {st : Stmt} {f : Addr} {fd : FuncData} {N ps : List Str} {k : Nat} {sp : Sp} (F : FunD K x qual st f fd) (S : FnScope N ps (defScope st)) (len : ∀ vs H Q E, sp vs H Q E → vs.length = ps.length)
    (hbody : ∀ (cdv : Value) (A : Around) (outer : List Env) (s : Shared) (H : Hp) (vs : List V) (Q : VK) (E : XK), Room k (A.deeper (envOfC qual (defScope st) s.heap.objs.size f cdv)) → sp vs H Q E →
      ∃ t, PSs (cxOf (CXe P w) P w K mg base N qual (defScope st) f cdv A outer s H E) (defBody st) t ∧ t { nx := fun _ H' => Q .non H', rt := Q } (start N vs) H) : FnOk P w K mg base (CXe P w) (k + 1) f fd ps sp := by
  obtain ⟨oc, od, dV, kV, doc, pm, an, cdv, ct, osl, rfl, lk, hcd⟩ := F.ex
  exact fn_of lk hcd S len fun A outer s H vs Q E hr hsp => hbody cdv A outer s H vs Q E hr hsp
end
/-- a def at the text's top: dvs the defaults that a call leaves to be filled in -/
structure Def (K : PySem.W.Frag) (mg : Str → Option Value) (x : Str) (st : Stmt) (ps : List Str) (dvs : List V) : Prop where
  ex : ∃ f fd ds, FunD K x x st f fd ∧ mg x = some (.ref f) ∧ PySem.W.keepIn K (.ref f) = true ∧ Binds K fd ps ds ∧ Vals dvs ds
/-- a method -/
structure Met (K : PySem.W.Frag) (C : Addr) (m qual : Str) (st : Stmt) (ps : List Str) (dvs : List V) : Prop where
  ex : ∃ f fd ds, FunD K m qual st f fd ∧ Meth K C m f ∧ Binds K fd ps ds ∧ Vals dvs ds
/-- a class that is made by its own __init__ -/
structure Ini (K : PySem.W.Frag) (mg : Str → Option Value) (C : Addr) (x qual : Str) (st : Stmt) (ps : List Str) : Prop where
  ex : ∃ f fd, FunD K "__init__" qual st f fd ∧ Mk K C f ∧ mg x = some (.ref C) ∧ Binds K fd ps []
/-- an exception class with its own __init__ -/
structure XIni (K : PySem.W.Frag) (mg : Str → Option Value) (C : Addr) (x qual : Str) (st : Stmt) (ps : List Str) : Prop where
  ex : ∃ f fd, FunD K "__init__" qual st f fd ∧ XCI K C f ∧ mg x = some (.ref C) ∧ Binds K fd ps []
/-- .. with a promise -/
structure Cal (P : Program) (w : World) (K : PySem.W.Frag) (mg : Str → Option Value) (base : Heap) (CX : CXT) (k : Nat) (x : Str) (ps : List Str) (dvs : List V) (sp : Sp) : Prop where
  ex : ∃ f fd ds, FnOk P w K mg base CX k f fd ps sp ∧ mg x = some (.ref f) ∧ PySem.W.keepIn K (.ref f) = true ∧ Binds K fd ps ds ∧ Vals dvs ds
structure CalM (P : Program) (w : World) (K : PySem.W.Frag) (mg : Str → Option Value) (base : Heap) (CX : CXT) (k : Nat) (C : Addr) (m : Str) (ps : List Str) (dvs : List V) (sp : Sp) : Prop where
  ex : ∃ f fd ds, FnOk P w K mg base CX k f fd ps sp ∧ Meth K C m f ∧ Binds K fd ps ds ∧ Vals dvs ds
structure CalI (P : Program) (w : World) (K : PySem.W.Frag) (mg : Str → Option Value) (base : Heap) (CX : CXT) (k : Nat) (C : Addr) (x : Str) (ps : List Str) (sp : Sp) : Prop where
  ex : ∃ f fd, FnOk P w K mg base CX k f fd ps sp ∧ Mk K C f ∧ mg x = some (.ref C) ∧ Binds K fd ps []
structure CalXI (P : Program) (w : World) (K : PySem.W.Frag) (mg : Str → Option Value) (base : Heap) (CX : CXT) (k : Nat) (C : Addr) (x : Str) (ps : List Str) (sp : Sp) : Prop where
  ex : ∃ f fd, FnOk P w K mg base CX k f fd ps sp ∧ XCI K C f ∧ mg x = some (.ref C) ∧ Binds K fd ps []
section
variable {P : Program} {w : World} {K : PySem.W.Frag} {mg : Str → Option Value} {base : Heap} {CX : CXT} {k : Nat} {C : Addr} {x m qual : Str} {st : Stmt} {ps : List Str} {dvs : List V} {sp : Sp}
theorem Def.cal (D : Def K mg x st ps dvs) (h : ∀ f fd, FunD K x x st f fd → FnOk P w K mg base CX k f fd ps sp) : Cal P w K mg base CX k x ps dvs sp :=
  let ⟨f, fd, ds, F, r⟩ := D.ex; ⟨f, fd, ds, h f fd F, r⟩
end
/-- calls whose exceptions are wanted by R, by the names' values -/
def tCallR (sp : Sp) (dvs : List V) (R : RK) (t : TA) : TE := fun σ H Q => t σ H fun vs H1 => sp (vs ++ dvs) H1 Q (R σ)
def tMethR (C : Addr) (m : Str) (sp : Sp) (dvs : List V) (R : RK) (ta : TE) (t : TA) : TE := fun σ H Q => ta σ H fun x H1 => ∃ a dx fs, x = .ref a ∧ H1 a = some (.ins C dx fs) ∧ fs.lookup m = none ∧
  t σ H1 fun vs H2 => sp (x :: (vs ++ dvs)) H2 Q (R σ)
section
variable {X : Cx} {CX : CXT} {k : Nat} {C : Addr} {ps : List Str} {sp : Sp} {dvs : List V} {R : RK} {x m : Str} {p pos apos : Pos} {e o : Expr} {es : List Expr} {ta : TE} {t : TA}
/-- where no exception may be -/
theorem px_never : PX X (fun _ _ _ _ => False) := fun _ _ _ _ _ _ _ _ _ _ h => h.elim
/-- the callee runs; it may raise -/
theorem run_fnR {f : Addr} {fd : FuncData} {ds : List Value} {pins : List (Addr × Obj)} {σ : St} {H : Hp} {s : Shared} {Q : VK} {us : List Value} {vs : List V} (F : FnOk X.prog X.w X.K X.mg X.base (CXe X.prog X.w) k f fd ps sp) (hp : PX X R) (hr : Room k X.A)
    (hb : Binds X.K fd ps ds) (hd : Vals dvs ds) (I : Inv X pins σ H s) (r : Vals vs us) (h : sp (vs ++ dvs) H Q (R σ)) : wpAny (model X.prog X.w) X.A (call (.ref f) us) (EP X pins σ Q) X.xe s := by
  have r2 : Vals (vs ++ dvs) (us ++ ds) := r.append hd
  have hl : (us ++ ds).length = ps.length := by rw [← r2.length]; exact F.len _ _ _ _ h
  refine wpAny_call (codeAny_mono (F.run X.A X.stack s H ⟨us, []⟩ (us ++ ds) (vs ++ dvs) Q (R σ) hr I.env0 (hb s us I.kIn hl) r2 h) fun r s' hq => ?_)
  cases r with
  | error e => exact px_call hp pins σ H s e s' I hq
  | ok fl => cases fl <;> first | exact I.after hq | exact False.elim hq
/-- f(e, ..), f lets no exception out -/
theorem pe_cal (c : Cal X.prog X.w X.K X.mg X.base CX0 k x ps dvs sp) (hr : Room k X.A) (hg : Gl X x) (ha : PA X (e :: es) t) (hdb : (x == ("__debug__" : Str)) = false := by decide)
    (he : starEach (e :: es) X.env = (false, eval e X.env) :: starEach es X.env := by rfl) (hpl : (backTo pos (starEach es X.env)).any (·.1) = false := by rfl) : PE X (.Call (.Name x p) (e :: es) [] pos) (tCall sp dvs E0 t) := by
  obtain ⟨f, fd, ds, F, hm, hk, hb, hd⟩ := c.ex
  exact pe_call F hr hg hm hk hb hd pass0 ha hdb he hpl
/-- f(e, ..), f may raise -/
theorem pe_calX (c : Cal X.prog X.w X.K X.mg X.base (CXe X.prog X.w) k x ps dvs sp) (hp : PX X R) (hr : Room k X.A) (hg : Gl X x) (ha : PA X (e :: es) t) (hdb : (x == ("__debug__" : Str)) = false := by decide)
    (he : starEach (e :: es) X.env = (false, eval e X.env) :: starEach es X.env := by rfl) (hpl : (backTo pos (starEach es X.env)).any (·.1) = false := by rfl) : PE X (.Call (.Name x p) (e :: es) [] pos) (tCallR sp dvs R t) := by
  obtain ⟨f, fd, ds, F, hm, hk, hb, hd⟩ := c.ex
  intro pins s σ H Q I h
  refine wpAny_Call_Name_kw (ld_glob I hg hm ?_ hdb)
  refine PySem.W.callWith_K (h₀ := X.base) I.ok.mod.kin hk (thn (ha pos pins s σ H _ I h) fun us s1 => L2.ex5 fun vs H1 I1 r q => ⟨I1.kIn, ?_⟩) he hpl
  exact run_fnR F hp hr hb hd I1 r q
/-- a number, a text of the text's top -/
theorem pe_gInt {i : Int} (hg : Gl X x) (hm : ∃ t, X.mg x = some (.int i t)) (hd : (x == ("__debug__" : Str)) = false := by decide) : PE X (.Name x pos) (tC (.int i)) := let ⟨t, h⟩ := hm; pe_glob hg h ⟨t, rfl⟩ hd
/-- a type of Python's own, as a value -/
theorem pe_gTy {n : String} (hg : Gl X x) (hm : X.mg x = none) (hv : bootBuiltins x = some (.type n)) (hn : x ≠ "__name__" := by decide) (hd : (x == ("__debug__" : Str)) = false := by decide) : PE X (.Name x pos) (tC (.ty n)) := pe_bltn hg hm hv rfl hn hd
end
end L2

/-! ### walks while an exception is handled: the chain of contexts is one of the things that stay -/
namespace L2
open PySem PySem.Spec PyProof.Rows
def HdC (A : Around) (cs : List Addr) : Prop := (A.handled = none ∧ cs = []) ∨ ∃ a r, cs = a :: r ∧ A.handled = some (.ref a)
theorem Hd.chain {A : Around} {h : Heap} (x : Hd A h) : ∃ cs, HdC A cs ∧ Chn h cs := by
  rcases x with e | ⟨a, cs, e, c⟩
  · exact ⟨[], .inl ⟨e, rfl⟩, List.nodup_nil, fun j a z => by simp at z⟩
  · exact ⟨a :: cs, .inr ⟨a, cs, rfl, e⟩, c⟩
theorem HdC.hd {A : Around} {h : Heap} {cs : List Addr} (x : HdC A cs) (c : Chn h cs) : Hd A h := by
  rcases x with ⟨e, rfl⟩ | ⟨a, r, rfl, e⟩
  · exact .inl e
  · exact .inr ⟨a, r, e, c⟩
theorem Chn.but {h h' : Heap} {cs : List Addr} {it : Addr} (c : Chn h cs) (hI : it ∉ cs) (k : ∀ b o, b ≠ it → h.get? b = some o → h'.get? b = some o) : Chn h' cs :=
  c.mono fun b o hb e => k b o (fun z => hI (z ▸ hb)) e
section
variable {prog : Program} {w : World} {A : Around} {E : Value → Shared → Prop} {s : Shared} {cs : List Addr}
theorem walks_list (hc : HdC A cs) (I ax : Addr) (hne : ax ≠ I) (hI : I ∉ cs) (items : Array Value) :
    Walks prog w A I (I :: ax :: cs) [I] items.size (fun i v => items[i]? = some v) (fun i h => h.IsListIter I ax i ∧ h.IsList ax items ∧ Chn h cs) where
  sub := fun b hb => by simp at hb; simp [hb]
  frame := fun _ _ _ st hk => ⟨st.1.at fun o e => hk I (by simp) o e, st.2.1.at fun o e => hk ax (by simp) o e, st.2.2.mono fun b o hb e => hk b (by simp [hb]) o e⟩
  item := fun i s Q E hi st hQ => by
    refine wpAny_pyNext_list_item st.1 st.2.1 (x := items[i]) (by simp [hi]) fun h' hit' hs' => ?_
    exact hQ _ h' s.toks (by simp [hi]) ⟨hit', st.2.1.extBut hs'.extBut hne, st.2.2.but hI hs'.extBut⟩ fun b o hb e => hs'.extBut b o (fun h => hb (by simp [h])) e
  done := fun s Q E st hQ => list_endH (hc.hd st.2.2) st.1 st.2.1 (by simp) fun h' he' => hQ h' s.toks fun b o hb e => he' b o (fun h => hb (by simp [h])) e
  self := fun _ _ _ _ st hQ => wpAny_pyIter_listiter st.1 hQ

/-- an iterator over a text, at the i-th sign -/
def StrIt (h : Heap) (I : Addr) (x : Str) (t : Tok) (i : Nat) : Prop := h.IsStrIter I "str_ascii_iterator" x t i ∨ h.IsStrIter I "str_iterator" x t i
/-- zip of two lists: its end -/
theorem next_endH {it l : Addr} {i : Nat} {items} {Q : Value → Shared → Prop} (hd : Hd A s.heap) (hit : s.heap.IsListIter it l i) (hl : s.heap.IsList l items) (hx : items[i]? = none)
    (hE : ∀ h' e, Heap.ExtBut it s.heap h' → (∃ o, h'.get? e = some o ∧ o.cls = .type "StopIteration") → E (.ref e) { s with heap := h' }) : wpAny (model prog w) A (Builtin.SmallTypes.nextOf (.ref it)) Q E s := by
  obtain ⟨o, ho, hc, hdat⟩ := id hit
  obtain ⟨ol, hol, _, nl, hdl⟩ := hl
  unfold Builtin.SmallTypes.nextOf
  refine wpAny_bind (wpAny_callSpecial?_slot (name := Str.ofString "__next__") hit.typeIs slot_listiter_next (wpAny_call_entry slot_listiter_next hit.typeIs entry_listiter_next ?_ (args_listiter_next _)))
  refine (show wpAny _ _ (field (.ref it) 0 >>= _) _ _ s from wpAny_bind (wpAny_field ho hdat (x := .ref l) rfl ?_))
  refine (show wpAny _ _ (if (Value.ref l == Value.none) = true then _ else _) _ _ s from ?_)
  rw [if_neg (show ¬ ((Value.ref l == Value.none) = true) from Bool.false_ne_true)]
  refine (show wpAny _ _ (field (.ref it) 1 >>= _) _ _ s from wpAny_bind (wpAny_field ho hdat (x := .int i 0) rfl ?_))
  refine (show wpAny _ _ (seqItems? (.ref l) >>= _) _ _ s from wpAny_bind (wpAny_seqItems hol hdl ?_))
  simp only [Int.toNat_natCast, hx]
  refine wpAny_bind (wpAny_rule (wpAny_bind (wpAny_setField ho hdat (by simp) ?_)))
  refine stop_hd (A := A.in1) (hd.but ho (fun vs q => .inl (by rw [hdat] at q; cases q; simp)) (Heap.SameBut.update ..).extBut) fun h' e k' x => hE h' e (fun b q hb hq => k' b q ((Heap.SameBut.update ..).extBut b q hb hq)) x
theorem zip_endH {z TI TO i1 i2 l1 l2 : Addr} {k1 k2 : Nat} {xs ys : Array Value} {a b : Value} {Q : Option Value → Shared → Prop} (hc : HdC A cs) (c : Chn s.heap cs) (nz : z ∉ cs) (nT : TO ∉ cs) (n1 : i1 ∉ cs) (n2 : i2 ∉ cs) (D : ZipApart z TI TO i1 i2 l1 l2)
    (hz : IsZip s.heap z TI TO .none) (hTI : IsPair s.heap TI (.ref i1) (.ref i2)) (hTO : IsPair s.heap TO a b) (h1 : s.heap.IsListIter i1 l1 k1) (h2 : s.heap.IsListIter i2 l2 k2) (hl1 : s.heap.IsList l1 xs) (hl2 : s.heap.IsList l2 ys) (hend : xs[k1]? = none ∨ ys[k2]? = none)
    (hQ : ∀ h', (∀ c o, c ≠ z → c ≠ TO → c ≠ i1 → c ≠ i2 → s.heap.get? c = some o → h'.get? c = some o) → Q none { s with heap := h' }) : wpAny (model prog w) A (pyNext (.ref z)) Q E s := by
  have hT : s.TypeIs (.ref z) "zip" := ⟨_, hz, rfl⟩
  have fin : ∀ h' e, (∀ c o, c ≠ z → c ≠ TO → c ≠ i1 → c ≠ i2 → s.heap.get? c = some o → h'.get? c = some o) → (∃ o, h'.get? e = some o ∧ o.cls = .type "StopIteration") →
      wpAny (model prog w) A (do if ← isInstance (.ref e) (.type "StopIteration") then pure none else throw (.ref e)) Q E { s with heap := h' } := fun h' e k ⟨o, ho, hcl⟩ =>
    wpAny_bind (wpAny_isInstance (T := "StopIteration") (b := true) ⟨o, ho, hcl⟩ isSubtype_stop (wpAny_pure (hQ _ k)))
  unfold pyNext
  refine wpAny_bind (wpAny_attempt (wpAny_callSpecial?_slot (name := Str.ofString "__next__") hT F.slot_zip_next (wpAny_call_entry F.slot_zip_next hT F.entry_zip_next ?_ (F.args_zip_next_1 _))))
  refine (show wpAny _ _ (field (.ref z) 2 >>= _) _ _ _ from wpAny_bind (wpAny_field hz rfl (x := .bool false) rfl ?_))
  refine (show wpAny _ _ (field (.ref z) 3 >>= _) _ _ _ from wpAny_bind (wpAny_field hz rfl (x := .ref TI) rfl (wpAny_bind (wpAny_seqItems hTI rfl ?_))))
  refine (show wpAny _ _ (Builtin.SmallTypes.ownedTupleIsFree (.ref z) >>= _) _ _ _ from wpAny_bind ?_)
  unfold Builtin.SmallTypes.ownedTupleIsFree
  refine wpAny_bind (wpAny_field hz rfl (x := .none) rfl (wpAny_pure ?_))
  simp only [if_true]
  refine wpAny_bind (wpAny_rule (wpAny_bind (wpAny_field hz rfl (x := .ref TO) rfl (wpAny_bind (wpAny_setField_rec hz (by simp) fun h₁ hz₁ hs₁ => ?_)))))
  replace hz₁ : IsZip h₁ z TI TO .ellipsis := hz₁
  have c₁ : Chn h₁ cs := c.but nz hs₁.extBut
  refine wpAny_bind ?_
  simp only [List.zipIdx_cons, List.zipIdx_nil, List.forIn_cons, List.forIn_nil]
  refine wpAny_bind (wpAny_bind (wpAny_onRaise ?_))
  cases hx : xs[k1]? with
  | none =>
    refine (show wpAny _ _ (Builtin.SmallTypes.nextOf (.ref i1) >>= _) _ _ _ from wpAny_bind (next_endH (A := A.in1) (HdC.hd (A := A.in1) hc c₁) (h1.extBut hs₁.extBut D.i1z) (hl1.extBut hs₁.extBut D.l1z) hx fun h₂ e hs₂ he => ?_))
    obtain ⟨oe, hoe, hce⟩ := he
    have hz₂ : IsZip h₂ z TI TO .ellipsis := hs₂ _ _ D.i1z.symm hz₁
    have hez : e ≠ z := fun x => by subst x; rw [hz₂] at hoe; cases hoe; simp at hce
    exact wpAny_setField_rec hz₂ (by simp) fun h₃ _ hs₃ => fin h₃ e (fun c o c1 _ c3 _ x => hs₃.extBut _ _ c1 (hs₂ _ _ c3 (hs₁.extBut _ _ c1 x))) ⟨oe, hs₃.extBut _ _ hez hoe, hce⟩
  | some x =>
    have hy : ys[k2]? = none := by rcases hend with h | h; rw [hx] at h; cases h; exact h
    refine (show wpAny _ _ (Builtin.SmallTypes.nextOf (.ref i1) >>= _) _ _ _ from wpAny_bind (wpAny_nextOf_list_item (h1.extBut hs₁.extBut D.i1z) (hl1.extBut hs₁.extBut D.l1z) hx fun h₂ h1₂ hs₂ => wpAny_pure ?_))
    have hTO₂ : IsPair h₂ TO a b := hs₂.extBut _ _ D.TOi1 (hs₁.extBut _ _ D.TOz hTO)
    refine wpAny_bind (wpAny_seqItems hTO₂ rfl (wpAny_bind (wpAny_updateSeq_pair hTO₂ fun h₃ hTO₃ hs₃ => wpAny_bind (wpAny_letGo (wpAny_pure ?_)))))
    refine wpAny_bind (wpAny_bind (wpAny_onRaise ?_))
    have c₃ : Chn h₃ cs := (c₁.but n1 hs₂.extBut).but nT hs₃.extBut
    refine (show wpAny _ _ (Builtin.SmallTypes.nextOf (.ref i2) >>= _) _ _ _ from wpAny_bind (next_endH (A := A.in1) (HdC.hd (A := A.in1) hc c₃) (((h2.extBut hs₁.extBut D.i2z).extBut hs₂.extBut D.i12.symm).extBut hs₃.extBut D.TOi2.symm)
      (((hl2.extBut hs₁.extBut D.l2z).extBut hs₂.extBut D.l2i1).extBut hs₃.extBut D.l2TO) hy fun h₄ e hs₄ he => ?_))
    obtain ⟨oe, hoe, hce⟩ := he
    have hz₄ : IsZip h₄ z TI TO .ellipsis := hs₄ _ _ D.i2z.symm (hs₃.extBut _ _ D.TOz.symm (hs₂.extBut _ _ D.i1z.symm hz₁))
    have hez : e ≠ z := fun x => by subst x; rw [hz₄] at hoe; cases hoe; simp at hce
    exact wpAny_setField_rec hz₄ (by simp) fun h₅ _ hs₅ => fin h₅ e (fun c o c1 c2 c3 c4 x => hs₅.extBut _ _ c1 (hs₄ _ _ c4 (hs₃.extBut _ _ c2 (hs₂.extBut _ _ c3 (hs₁.extBut _ _ c1 x))))) ⟨oe, hs₅.extBut _ _ hez hoe, hce⟩

section
variable {κ : Type} [DecidableEq κ] {knd : KeyKind prog w κ}
end
end
end L2

/-! ### walking texts, two lists at once, a dict's pairs; all, any, list(d), slices of texts -/
namespace L2
open PySem PySem.Spec PyProof.Rows
/-- the signs of a text -/
def Its (x : Str) : It := ⟨fun i _ => i < x.cps.size, fun i H v H' => H' = H ∧ ∃ c, x.cps[i]? = some c ∧ v = .str ⟨#[c]⟩, fun i _ => x.cps.size ≤ i⟩
def iStr (tl : TE) : TI := fun σ H R => tl σ H fun x H1 => ∃ z, x = .str z ∧ R (Its z) H1
section
variable {X : Cx} {tg : Expr}
end
section
variable {g : TG} {tt : TT} {te : TE}
end
/-! zip of two lists -/
def Itz (K : PySem.W.Frag) (l1 l2 : Addr) : It :=
  ⟨fun i H => ∃ xs ys x y, SqL K H l1 xs ∧ SqL K H l2 ys ∧ xs[i]? = some x ∧ ys[i]? = some y,
   fun i H v H' => ∃ T x y, v = .ref T ∧ H T = none ∧ H' = upd H T (.tup [x, y]) ∧ (∀ xs, SqL K H l1 xs → xs[i]? = some x) ∧ ∀ ys, SqL K H l2 ys → ys[i]? = some y,
   fun i H => ∃ xs ys, SqL K H l1 xs ∧ SqL K H l2 ys ∧ (xs.length ≤ i ∨ ys.length ≤ i)⟩
def ZipIt (h : Heap) (z TI TO i1 i2 l1 l2 : Addr) (i : Nat) : Prop := IsZip h z TI TO .none ∧ IsPair h TI (.ref i1) (.ref i2) ∧ (∃ a b, IsPair h TO a b) ∧ h.IsListIter i1 l1 i ∧ h.IsListIter i2 l2 i
theorem turn_zip {P : Program} {w : World} {K : PySem.W.Frag} {es : List Expr} {k : Nat} {pos : Pos} {z TI TO i1 i2 l1 l2 : Addr} (D : ZipApart z TI TO i1 i2 l1 l2) :
    Turn P w K (.Tuple es k pos) (Itz K l1 l2) [z, TI, TO, i1, i2] z (fun i h => ZipIt h z TI TO i1 i2 l1 l2 i) where
  mem := by simp
  obj := fun i h st b hb => by
    obtain ⟨hz, hTI, ⟨a, c, hTO⟩, ⟨o1, e1, c1, d1⟩, ⟨o2, e2, c2, d2⟩⟩ := st
    simp only [List.mem_cons, List.not_mem_nil, or_false] at hb
    rcases hb with rfl | rfl | rfl | rfl | rfl
    · exact ⟨_, hz, fun v q => by simp at q⟩
    · exact ⟨_, hTI, fun v q => by simp at q⟩
    · exact ⟨_, hTO, fun v q => by simp at q⟩
    · exact ⟨_, e1, fun v q => by rw [d1] at q; cases q⟩
    · exact ⟨_, e2, fun v q => by rw [d2] at q; cases q⟩
  keep := fun i h h' st k => by
    obtain ⟨hz, hTI, ⟨a, c, hTO⟩, h1, h2⟩ := st
    exact ⟨k z (by simp) _ hz, k TI (by simp) _ hTI, ⟨a, c, k TO (by simp) _ hTO⟩, h1.at fun o e => k i1 (by simp) o e, h2.at fun o e => k i2 (by simp) o e⟩
  item := by
    intro X hP hw hK hc i pins s σ H E I hf st hg
    subst hP hw hK
    obtain ⟨xs, ys, x, y, q1, q2, hx, hy⟩ := hg
    obtain ⟨hz, hTI, ⟨a, c, hTO⟩, h1, h2⟩ := st
    obtain ⟨its, rv, pl, _⟩ := I.list q1
    obtain ⟨its', rv', pl', _⟩ := I.list q2
    obtain ⟨u, hu, ru⟩ := rv.get hx
    obtain ⟨u', hu', ru'⟩ := rv'.get hy
    have nf : ∀ b ∈ [z, TI, TO, i1, i2], b ∉ frs X.stack := fun b hb q => (List.mem_cons.mp (I.stkSub b q)).elim (hf b hb).2.1 (hf b hb).2.2.1
    refine wpAny_pyNext_zip_item D hz hTI hTO h1 h2 pl.isList pl'.isList (x := u) (y := u') (by simpa using hu) (by simpa using hu') fun h' a1 a2 a3 a4 a5 a6 hk => ⟨_, rfl, ?_⟩
    refine wpAny_letOwnedTupleGo_zip (s := { s with heap := h' }) a1 fun h'' hz' hs' => ?_
    have hTn : H s.heap.objs.size = none := I.hok.fresh (Nat.le_refl _)
    have ltz := Heap.lt_size hz
    have old : ∀ b o, b ≠ z → b ≠ TO → b ≠ i1 → b ≠ i2 → s.heap.get? b = some o → h''.get? b = some o := fun b o n1 n2 n3 n4 e => hs'.extBut b o n1 (hk b o n1 n2 n3 n4 e)
    have I1 : Inv X pins σ (upd H s.heap.objs.size (.tup [x, y])) { s with heap := s.heap.push { cls := .type "tuple", data := .seq #[u, u'] } } :=
      I.laid (t' := s.toks) (fun b o e => Heap.get?_push_of_some _ e) (Nat.le_refl _) ⟨by show 2 ≤ sizeLine; decide, [u, u'], .cons ru (.cons ru' .nil), ⟨_, Heap.get?_push_size _ rfl, rfl, _, rfl⟩⟩
    have fp1 : ∀ b ∈ [z, TI, TO, i1, i2], FpOk X pins (upd H s.heap.objs.size (.tup [x, y])) b := fun b hb => by
      obtain ⟨f0, r⟩ := hf b hb
      refine ⟨?_, r⟩
      have lt : b < s.heap.objs.size := by
        simp only [List.mem_cons, List.not_mem_nil, or_false] at hb
        rcases hb with rfl | rfl | rfl | rfl | rfl
        · exact Heap.lt_size hz
        · exact Heap.lt_size hTI
        · exact Heap.lt_size hTO
        · obtain ⟨o, e, _⟩ := h1; exact Heap.lt_size e
        · obtain ⟨o, e, _⟩ := h2; exact Heap.lt_size e
      rw [upd_ne (Nat.ne_of_lt lt)]; exact f0
    have I2 : Inv X pins σ (upd H s.heap.objs.size (.tup [x, y])) { s with heap := h'' } := by
      have back : ∀ b o, (s.heap.push { cls := .type "tuple", data := .seq #[u, u'] }).get? b = some o → b ≠ z → b ≠ TO → b ≠ i1 → b ≠ i2 → h''.get? b = some o := fun b o e n1 n2 n3 n4 => by
        rcases Heap.get?_push_cases e with ⟨rfl, rfl⟩ | e
        · exact hs'.extBut _ _ n1 a5
        · exact old b o n1 n2 n3 n4 e
      refine I1.slots (ch := [z, TO, i1, i2]) (tk := s.toks) (fun b hb => fp1 b (by simp only [List.mem_cons, List.not_mem_nil, or_false] at hb ⊢; rcases hb with e | e | e | e <;> simp [e])) (fun b o _ hc e => ?_) (fun b o hb e => ⟨o.slots, ?_⟩) (fun b hb o e => ?_)
      · simp only [List.mem_cons, List.not_mem_nil, or_false, not_or] at hc
        exact back b o e hc.1 hc.2.1 hc.2.2.1 hc.2.2.2
      · exact back b o e (fun q => nf z (by simp) (q ▸ hb)) (fun q => nf TO (by simp) (q ▸ hb)) (fun q => nf i1 (by simp) (q ▸ hb)) (fun q => nf i2 (by simp) (q ▸ hb))
      · simp only [List.mem_cons, List.not_mem_nil, or_false] at hb
        rcases hb with rfl | rfl | rfl | rfl
        · exact ⟨_, hz'⟩
        · exact ⟨_, hs'.extBut _ _ D.TOz a2⟩
        · obtain ⟨o, e, _⟩ := a3; exact ⟨_, hs'.extBut _ _ D.i1z e⟩
        · obtain ⟨o, e, _⟩ := a4; exact ⟨_, hs'.extBut _ _ D.i2z e⟩
    refine ⟨.ref s.heap.objs.size, _, I2, rfl, ⟨_, x, y, rfl, hTn, rfl, fun xs' q => by rw [I.list_inj q q1]; exact hx, fun ys' q => by rw [I.list_inj q q2]; exact hy⟩, ?_, fun b hb => (fp1 b hb).1⟩
    exact ⟨hz', old TI _ D.TIz D.TITO D.TIi1 D.TIi2 hTI, ⟨_, _, hs'.extBut _ _ D.TOz a2⟩, a3.extBut hs'.extBut D.i1z, a4.extBut hs'.extBut D.i2z⟩
  done := by
    intro X hP hw hK hc i pins s σ H E I hf st hg
    subst hP hw hK
    obtain ⟨xs, ys, q1, q2, hlen⟩ := hg
    obtain ⟨hz, hTI, ⟨a, c, hTO⟩, h1, h2⟩ := st
    obtain ⟨its, rv, pl, _⟩ := I.list q1
    obtain ⟨its', rv', pl', _⟩ := I.list q2
    have e1 := rv.length
    have e2 := rv'.length
    have nf : ∀ b ∈ [z, TI, TO, i1, i2], b ∉ frs X.stack := fun b hb q => (List.mem_cons.mp (I.stkSub b q)).elim (hf b hb).2.1 (hf b hb).2.2.1
    have nc : ∃ cs, HdC X.A cs ∧ Chn s.heap cs ∧ ∀ b ∈ [z, TI, TO, i1, i2], b ∉ cs := by
      rcases I.hdAt with e | ⟨b, cs, e, c⟩
      · exact ⟨[], .inl ⟨e, rfl⟩, ⟨List.nodup_nil, fun j a q => by simp at q⟩, fun b _ q => by simp at q⟩
      · exact ⟨b :: cs, .inr ⟨b, cs, rfl, e⟩, c.chn I.hok, fun d hd => c.not_mem (hf d hd).1⟩
    obtain ⟨cs, hcs, ch, ncs⟩ := nc
    refine zip_endH hcs ch (ncs z (by simp)) (ncs TO (by simp)) (ncs i1 (by simp)) (ncs i2 (by simp)) D hz hTI hTO h1 h2 pl.isList pl'.isList (by rcases hlen with q | q; (left; simp; omega); (right; simp; omega)) fun h' hk => ⟨rfl, ?_⟩
    refine I.slot0 (ch := [z, TI, TO, i1, i2]) (tk := s.toks) hf (fun b o _ hc e => ?_) (fun b o hb e => ⟨o.slots, ?_⟩)
    · simp only [List.mem_cons, List.not_mem_nil, or_false, not_or] at hc
      exact hk b o hc.1 hc.2.2.1 hc.2.2.2.1 hc.2.2.2.2 e
    · exact hk b o (fun q => nf z (by simp) (q ▸ hb)) (fun q => nf TO (by simp) (q ▸ hb)) (fun q => nf i1 (by simp) (q ▸ hb)) (fun q => nf i2 (by simp) (q ▸ hb)) e
  self := fun _ _ _ _ _ st h => wpAny_pyIter_zip st.1 h
def iZip (K : PySem.W.Frag) (ta : TA) : TI := fun σ H R => ta σ H fun vs H1 => ∃ l1 l2, vs = [.ref l1, .ref l2] ∧ (∃ xs, SqL K H1 l1 xs) ∧ (∃ ys, SqL K H1 l2 ys) ∧ R (Itz K l1 l2) H1
section
variable {X : Cx}
theorem pi_zip {es : List Expr} {k : Nat} {tpos p pos : Pos} {a b : Expr} {ta : TA} (hg : Gl X "zip") (hm : X.mg "zip" = none) (ha : PA X [a, b] ta) (hs : starEach [a, b] X.env = [(false, eval a X.env), (false, eval b X.env)] := by rfl) (hs2 : starEach [b] X.env = [(false, eval b X.env)] := by rfl) :
    PI X (.Tuple es k tpos) (.Call (.Name "zip" p) [a, b] [] pos) (iZip X.K ta) := by
  intro pins s σ H R I h
  refine Call_ (ld_blt I hg hm boot_zip (PyProof.Rows.callWith_type1 (thn (ha pos pins s σ H _ I h) fun us s1 => L2.ex5 fun vs H1 I1 r1 hq_ => ?_) (by rw [hs, hs2]) (by rw [hs2]; rfl)))
  obtain ⟨l1, l2, e, ⟨xs, q1⟩, ⟨ys, q2⟩, q⟩ := hq_
  subst e
  obtain ⟨u, u', rfl, ru, ru'⟩ := vals2 r1
  obtain rfl : u = Value.ref l1 := ru
  obtain rfl : u' = Value.ref l2 := ru'
  obtain ⟨its, rv, pl, _⟩ := I1.list q1
  obtain ⟨its', rv', pl', _⟩ := I1.list q2
  refine call_zip_2 pl.isList pl'.isList fun h' b1 b2 b3 b4 b5 b6 hk => ?_
  refine wpAny_pyIter_zip (s := { s1 with heap := h' }) b1 ?_
  have lt1 : l1 < s1.heap.objs.size := by obtain ⟨o, e, _⟩ := pl.isList; exact Heap.lt_size e
  have lt2 : l2 < s1.heap.objs.size := by obtain ⟨o, e, _⟩ := pl'.isList; exact Heap.lt_size e
  have nn : ∀ (x y : Nat), x < y → ∀ j : Nat, x ≠ y + j := fun x y h j e => by omega
  have n0 : ∀ (y i j : Nat), i ≠ j → y + i ≠ y + j := fun y i j h e => by omega
  have D : ZipApart (s1.heap.objs.size + 4) (s1.heap.objs.size + 2) (s1.heap.objs.size + 3) s1.heap.objs.size (s1.heap.objs.size + 1) l1 l2 :=
    ⟨n0 _ 2 4 (by decide), n0 _ 3 4 (by decide), n0 _ 0 4 (by decide), n0 _ 1 4 (by decide), n0 _ 2 3 (by decide), n0 _ 2 0 (by decide), n0 _ 2 1 (by decide), n0 _ 3 0 (by decide), n0 _ 3 1 (by decide), n0 _ 0 1 (by decide),
      nn _ _ lt1 4, nn _ _ lt1 3, nn _ _ lt1 0, nn _ _ lt1 1, nn _ _ lt2 4, nn _ _ lt2 3, nn _ _ lt2 0, nn _ _ lt2 1⟩
  refine ⟨s1.heap.objs.size + 4, [s1.heap.objs.size + 4, s1.heap.objs.size + 2, s1.heap.objs.size + 3, s1.heap.objs.size, s1.heap.objs.size + 1], _, _, H1, rfl, I1.kept (t' := s1.toks) hk, turn_zip D, ⟨b1, b2, ⟨_, _, b3⟩, b4, b5⟩, fun b hb => ?_, q⟩
  have ge : s1.heap.objs.size ≤ b := by
    simp only [List.mem_cons, List.not_mem_nil, or_false] at hb
    rcases hb with rfl | rfl | rfl | rfl | rfl
    · exact Nat.le_add_right _ _
    · exact Nat.le_add_right _ _
    · exact Nat.le_add_right _ _
    · exact Nat.le_refl _
    · exact Nat.le_add_right _ _
  exact I1.fpOk ge (I1.hok.fresh ge)
/-! freezing a dict, and letting it go -/
/-- an expression that freezes the dict at d meanwhile -/
def tThaw (t : TE) : TE := fun σ H Q => ∃ d kvs, H d = some (.dK kvs) ∧ t σ H fun v H1 => ∃ o, H1 d = some (.frz o (.dK kvs)) ∧ Q v (upd H1 d (.dK kvs))
/-! a dict's pairs -/
/-- the view d.items() -/
def ViewO (v d : Addr) : HO := .ext fun h => h.IsItemsView v d
def rItems : V → List V → Hp → VK → Prop := fun x vs H Q => ∃ d kvs, x = .ref d ∧ vs = [] ∧ H d = some (.dK kvs) ∧ ∀ v, H v = none → Q (.ref v) (upd H v (ViewO v d))
end
def Iti (d : Addr) (o : Obj) (kvs : List (Key × V)) : It :=
  ⟨fun i H => H d = some (.frz o (.dK kvs)) ∧ i < kvs.length, fun i H v H' => ∃ T k x, v = .ref T ∧ H T = none ∧ kvs[i]? = some (k, x) ∧ H' = upd H T (.tup [kV k, x]), fun i H => H d = some (.frz o (.dK kvs)) ∧ kvs.length ≤ i⟩
def ItemIt (h : Heap) (it d : Addr) (o : Obj) (n i : Nat) : Prop := ∃ es ep ok ov, o.data = .dict es ep ∧ IsItemIter h it d i n ep ok ov
def iView (tl : TE) : TI := fun σ H R => tl σ H fun x H1 => ∃ v d kvs, x = .ref v ∧ H1 v = some (ViewO v d) ∧ H1 d = some (.dK kvs) ∧ ∀ o, R (Iti d o kvs) (upd H1 d (.frz o (.dK kvs)))
section
variable {X : Cx}
end
end L2
namespace L2
open PySem PySem.Spec PyProof.Rows
section
variable {g : TG} {tt : TT} {te : TE}
end
end L2

/-! ### all, any, list(d), slices of texts, names of Python's own -/
namespace L2
open PySem PySem.Spec PyProof.Rows
theorem bt_str : bootBuiltins "str" = some (.type "str") := by decide +kernel
theorem bt_bool : bootBuiltins "bool" = some (.type "bool") := by decide +kernel
theorem bt_list : bootBuiltins "list" = some (.type "list") := by decide +kernel
theorem bt_tuple : bootBuiltins "tuple" = some (.type "tuple") := by decide +kernel
theorem bt_dict : bootBuiltins "dict" = some (.type "dict") := by decide +kernel
theorem bt_isinstance : bootBuiltins "isinstance" = some (.builtin "isinstance") := by decide +kernel
theorem bt_len : bootBuiltins "len" = some (.builtin "len") := by decide +kernel
section
variable {X : Cx}
end
end L2

/-! ### rules for a block's own context: what hangs on the text stands by its name -/
namespace L2
open PySem PySem.Spec PyProof.Rows
section
variable {X : Cx} {K : PySem.W.Frag} (hK : X.K = K)
include hK
theorem pgK_tup {es : List Expr} {k : Nat} {pos : Pos} {t : TGs} {n : Nat} (hc : X.calm = true) (h : PGs X es t) (hn : (assignEach es X.env).length = n := by rfl) (hst : (assignEach es X.env).findIdx? (·.1) = none := by rfl) : PG X (.Tuple es k pos) (gTup K n t) := hK ▸ pg_tup hc h hn hst
def rLenSeq (K : PySem.W.Frag) : List V → Hp → VK → Prop := fun xs H Q => ∃ p ys, xs = [.ref p] ∧ (SqL K H p ys ∨ SqT K H p ys) ∧ Q (.int ys.length) H
def rIsi (K : PySem.W.Frag) : List V → Hp → VK → Prop := fun xs H Q => ∃ x c k t b, xs = [x, c] ∧ clsOf c = some k ∧ TyOf K H x t ∧ PySem.W.kitOne K t k = some b ∧ Q (.bl b) H
theorem callK_isinst : CallR X (.builtin "isinstance") (rIsi K) := by subst hK; exact call_isinst
def rListOf (K : PySem.W.Frag) : List V → Hp → VK → Prop := fun xs H Q => ∃ p ys, xs = [.ref p] ∧ (SqL K H p ys ∨ SqT K H p ys) ∧ ∀ l, H l = none → Q (.ref l) (upd H l (.lst ys))
theorem callK_list_of : CallR X (.type "list") (rListOf K) := by subst hK; exact call_list_of
end
end L2

/-! ### min of two, sorted of a dict of ints, index of True; all while an exception may be handled -/
namespace L2
open PySem PySem.Spec PyProof.Rows
section
variable {prog : Program} {w : World} {A : Around} {E : Value → Shared → Prop} {s : Shared} {cs : List Addr}
section
variable {κ : Type} [DecidableEq κ] {knd : KeyKind prog w κ}
end
end
section
variable {X : Cx}
def rIndexT (K : PySem.W.Frag) : V → List V → Hp → VK → Prop := fun x vs H Q => ∃ l, ∃ bs : List Bool, ∃ j : Nat, x = .ref l ∧ vs = [.bl true] ∧ H l = some (.lst (bs.map V.bl)) ∧ bs[j]? = some true ∧ (∀ i, i < j → bs[i]? = some false) ∧ Q (.int (j : Int)) H
end
end L2

/-! ### max of two, sum of a list of ints, is of truths; all while an exception may be handled -/
namespace L2
open PySem PySem.Spec PyProof.Rows
section
variable {prog : Program} {w : World} {A : Around} {E : Value → Shared → Prop} {s : Shared} {cs : List Addr}
end
section
variable {X : Cx}
end
end L2

/-! ### lists, tuples and data on the heap, for every law -/
namespace L2
open PySem
/-! lists of a length -/
theorem len1 {P : List Value → Prop} (h : ∀ a0, P [a0]) : ∀ us : List Value, us.length = 1 → P us
  | [a0], _ => h a0
theorem len2 {P : List Value → Prop} (h : ∀ a0 a1, P [a0, a1]) : ∀ us : List Value, us.length = 2 → P us
  | [a0, a1], _ => h a0 a1
theorem len4 {P : List Value → Prop} (h : ∀ a0 a1 a2 a3, P [a0, a1, a2, a3]) : ∀ us : List Value, us.length = 4 → P us
  | [a0, a1, a2, a3], _ => h a0 a1 a2 a3
theorem len5 {P : List Value → Prop} (h : ∀ a0 a1 a2 a3 a4, P [a0, a1, a2, a3, a4]) : ∀ us : List Value, us.length = 5 → P us
  | [a0, a1, a2, a3, a4], _ => h a0 a1 a2 a3 a4
theorem iteOr {A B : Prop} {b : Bool} (hb : b = false) (h : B) : if b = true then A else B := by
  subst hb
  exact iteF h
theorem iteB {A B : Prop} {b : Bool} (h1 : b = true → A) (h2 : b = false → B) : if b = true then A else B := by
  cases b with
  | true => exact iteT (h1 rfl)
  | false => exact iteF (h2 rfl)
/-- tuples are kept -/
def isTup : HO → Bool
  | .tup _ => true
  | .frz _ (.tup _) => true
  | _ => false
def Tk (H H' : Hp) : Prop := ∀ b o, H b = some o → isTup o = true → H' b = some o
theorem Tk.of {H H' : Hp} (e : Same H H') : Tk H H' := fun b o h _ => e b o h
theorem Tk.trans {H H1 H2 : Hp} (a : Tk H H1) (b : Tk H1 H2) : Tk H H2 := fun c o h z => b c o (a c o h z) z
theorem Tk.upd {H : Hp} {c : Addr} {u o : HO} (h : H c = some u) (n : isTup u = false) : Tk H (L2.upd H c o) := fun b w e z => by
  have : b ≠ c := fun q => by subst q; rw [h] at e; cases e; rw [n] at z; cases z
  rw [upd_ne this]
  exact e
theorem Tk.sqT {K : PySem.W.Frag} {H H' : Hp} {a : Addr} {xs : List V} (e : Tk H H') (h : SqT K H a xs) : SqT K H' a xs := by
  rcases h with (h | ⟨o, h⟩) | h
  · exact .inl (.inl (e _ _ h rfl))
  · exact .inl (.inr ⟨o, e _ _ h rfl⟩)
  · exact .inr h
mutual
def noLst : Dt → Bool
  | .lst _ => false
  | .tup ds => noLsts ds
  | _ => true
def noLsts : List Dt → Bool
  | [] => true
  | d :: ds => noLst d && noLsts ds
end
mutual
theorem Tk.dt {K : PySem.W.Frag} {H H' : Hp} (e : Tk H H') : ∀ {d : Dt} {x : V}, noLst d = true → DtV K H d x → DtV K H' d x
  | .non, _, _, h => h
  | .bl _, _, _, h => h
  | .int _, _, _, h => h
  | .str _, _, _, h => h
  | .lst ds, _, z, h => by cases z
  | .tup ds, _, z, h => by
    obtain ⟨a, xs, e1, h1, h2⟩ := h
    exact ⟨a, xs, e1, e.sqT h1, e.dts z h2⟩
theorem Tk.dts {K : PySem.W.Frag} {H H' : Hp} (e : Tk H H') : ∀ {ds : List Dt} {xs : List V}, noLsts ds = true → DtVs K H ds xs → DtVs K H' ds xs
  | [], _, _, h => h
  | d :: ds, _, z, h => by
    obtain ⟨y, ys, e1, h1, h2⟩ := h
    have z' := (Bool.and_eq_true _ _).mp z
    exact ⟨y, ys, e1, e.dt z'.1 h1, e.dts z'.2 h2⟩
end
theorem noLsts_map {α : Type} {f : α → Dt} (h : ∀ x, noLst (f x) = true) : ∀ l : List α, noLsts (l.map f) = true
  | [] => rfl
  | x :: l => by
    show (noLst (f x) && noLsts (l.map f)) = true
    rw [h x, noLsts_map h l]
    rfl
theorem deeps_map {α : Type} {f : α → Dt} {n : Nat} (h : ∀ x, DeepLe n (f x)) (l : List α) : DeepsLe n (l.map f) := DeepsLe.of fun d hd => by
  obtain ⟨x, _, rfl⟩ := List.mem_map.mp hd
  exact h x
theorem dts_get {K : PySem.W.Frag} {H : Hp} {α : Type} {f : α → Dt} {l : List α} {xs : List V} {i : Nat} {x : V} (h : DtVs K H (l.map f) xs) (e : xs[i]? = some x) : ∃ q, l[i]? = some q ∧ DtV K H (f q) x := by
  have hi : i < l.length := by
    have h1 := h.length
    rw [List.length_map] at h1
    have := (List.getElem?_eq_some_iff.mp e).1
    omega
  obtain ⟨q, hq⟩ := get_of hi
  obtain ⟨y, hy, hd⟩ := h.get (j := i) (d := f q) (by rw [List.getElem?_map, hq]; rfl)
  rw [e] at hy
  cases hy
  exact ⟨q, hq, hd⟩
theorem take_snoc {α : Type} {l : List α} {i : Nat} {q : α} (h : l[i]? = some q) : l.take (i + 1) = l.take i ++ [q] := by
  rw [List.take_add_one, h]
  rfl
/-- sames, mosts, arrows: the asker's own -/
def Tps (H : Hp) (xs : List V) : Prop := ∀ x ∈ xs, ∃ q zs, x = V.ref q ∧ H q = some (.tup zs)
theorem at_int {ns : List Int} {k : Int} (h0 : 0 ≤ k) (h1 : k < ns.length) : ∃ c, atI (ns.map V.int) k = some (.int c) := by
  refine ⟨ns.getD k.toNat 0, ?_⟩
  unfold atI ixN
  rw [if_pos h0, if_pos (by rw [List.length_map]; exact h1)]
  show (ns.map V.int)[k.toNat]? = _
  rw [List.getElem?_map, List.getD_eq_getElem?_getD, List.getElem?_eq_getElem (show k.toNat < ns.length by omega)]
  rfl
theorem at_str {ss : List Str} {k : Int} (h0 : 0 ≤ k) (h1 : k < ss.length) : ∃ s, s ∈ ss ∧ atI (ss.map V.str) k = some (.str s) := by
  have hk : k.toNat < ss.length := by omega
  refine ⟨ss[k.toNat], List.getElem_mem hk, ?_⟩
  unfold atI ixN
  rw [if_pos h0, if_pos (by rw [List.length_map]; exact h1)]
  show (ss.map V.str)[k.toNat]? = _
  rw [List.getElem?_map, List.getElem?_eq_getElem hk]
  rfl
theorem at_cons0 {x : V} {r : List V} : atI (x :: r) 0 = some x := by
  unfold atI ixN
  rw [if_pos (by decide), if_pos (by rw [List.length_cons]; omega)]
  rfl
theorem at_cons1 {x y : V} {r : List V} : atI (x :: y :: r) 1 = some y := by
  unfold atI ixN
  rw [if_pos (by decide), if_pos (by rw [List.length_cons, List.length_cons]; omega)]
  rfl
theorem cut_ints (ns : List Int) (lo hi : Option Int) : ∃ ms : List Int, cutV (ns.map V.int) lo hi = ms.map V.int ∧ ms.length ≤ ns.length := by
  refine ⟨(ns.drop (HT.sIx (ns.map V.int).length 0 lo)).take (HT.sIx (ns.map V.int).length (ns.map V.int).length hi - HT.sIx (ns.map V.int).length 0 lo), ?_, ?_⟩
  · unfold cutV
    rw [List.map_take, List.map_drop]
  · rw [List.length_take, List.length_drop]
    omega
/-- what follows an if is proved once: by the values that differ -/
theorem joinS {α : Type} {f : St → Hp → Prop} (σ : α → St) (I : α → Hp → Prop) {G : Prop} (h : ∀ x H, I x H → f (σ x) H) (g : (∀ x H, I x H → f (σ x) H) → G) : G := g h
/-- an int out of a list of ints -/
def pz (ps : List Int) (k : Int) : Int := ps.getD k.toNat 0
theorem at_nat {α : Type} {xs : List α} {k : Int} (h0 : 0 ≤ k) : atI xs k = xs[k.toNat]? := by
  unfold atI ixN
  rw [if_pos h0]
  by_cases h : k < xs.length
  · rw [if_pos h]; rfl
  · rw [if_neg h]
    show none = _
    rw [List.getElem?_eq_none (by omega)]
end L2

/-! ### enumerate of a list; for over zip and enumerate; min and max of a list of ints -/
namespace L2
open PySem PySem.Spec PyProof.Rows
def Ite (K : PySem.W.Frag) (l : Addr) : It :=
  ⟨fun i H => ∃ xs x, SqL K H l xs ∧ xs[i]? = some x,
   fun i H v H' => ∃ T x, v = .ref T ∧ H T = none ∧ H' = upd H T (.tup [.int i, x]) ∧ ∀ xs, SqL K H l xs → xs[i]? = some x,
   fun i H => ∃ xs, SqL K H l xs ∧ xs.length ≤ i⟩
section
variable {prog : Program} {w : World} {A : Around} {E : Value → Shared → Prop} {s : Shared}
theorem enum_endH {e it l : Addr} {i : Nat} {items : Array Value} {old : Value} {Q : Option Value → Shared → Prop} (hd : Hd A s.heap)
    (he : IsEnum s.heap e it i old) (hit : s.heap.IsListIter it l i) (hl : s.heap.IsList l items) (hx : items[i]? = none)
    (hQ : ∀ h', Heap.ExtBut it s.heap h' → Q none { s with heap := h' }) : wpAny (model prog w) A (pyNext (.ref e)) Q E s := by
  have ht : s.TypeIs (.ref e) "enumerate" := ⟨_, he, rfl⟩
  unfold pyNext
  refine wpAny_bind (wpAny_attempt (wpAny_callSpecial?_slot (name := Str.ofString "__next__") ht F.slot_enumerate_next (wpAny_call_entry F.slot_enumerate_next ht F.entry_enumerate_next ?_ (F.args_enumerate_next_1 _))))
  refine (show wpAny _ _ (field (.ref e) 2 >>= _) _ _ _ from wpAny_bind (wpAny_field he rfl (x := .ref it) rfl ?_))
  refine wpAny_bind (next_endH (A := A.in1) hd hit hl hx fun h' x he' hx' => ?_)
  obtain ⟨o, ho, hc⟩ := hx'
  exact wpAny_bind (wpAny_isInstance (T := "StopIteration") (b := true) ⟨o, ho, hc⟩ isSubtype_stop (wpAny_pure (hQ _ he')))
end
def EnumIt (h : Heap) (e it l : Addr) (i : Nat) : Prop := ∃ old, IsEnum h e it (i : Int) old ∧ h.IsListIter it l i
theorem turn_enum {P : Program} {w : World} {K : PySem.W.Frag} {es : List Expr} {k : Nat} {pos : Pos} {e it l : Addr} (hne : e ≠ it) :
    Turn P w K (.Tuple es k pos) (Ite K l) [e, it] e (fun i h => EnumIt h e it l i) where
  mem := by simp
  obj := fun i h st b hb => by
    obtain ⟨old, he, ⟨o1, e1, c1, d1⟩⟩ := st
    simp only [List.mem_cons, List.not_mem_nil, or_false] at hb
    rcases hb with rfl | rfl
    · exact ⟨_, he, fun v q => by simp at q⟩
    · exact ⟨_, e1, fun v q => by rw [d1] at q; cases q⟩
  keep := fun i h h' st k => by
    obtain ⟨old, he, h1⟩ := st
    exact ⟨old, k e (by simp) _ he, h1.at fun o q => k it (by simp) o q⟩
  item := by
    intro X hP hw hK hc i pins s σ H E I hf st hg
    subst hP hw hK
    obtain ⟨xs, x, q1, hx⟩ := hg
    obtain ⟨old, he, h1⟩ := st
    obtain ⟨its, rv, pl, _⟩ := I.list q1
    obtain ⟨u, hu, ru⟩ := rv.get hx
    have nf : ∀ b ∈ [e, it], b ∉ frs X.stack := fun b hb q => (List.mem_cons.mp (I.stkSub b q)).elim (hf b hb).2.1 (hf b hb).2.2.1
    refine wpAny_pyNext_enum_item he h1 pl.isList (x := u) (by simpa using hu) hne fun h' a1 a2 a3 a4 hk => ⟨_, rfl, ?_⟩
    refine wpAny_letOwnedTupleGo_enum (s := { s with heap := h', toks := s.toks + 1 }) a1 fun h'' hz' hs' => ?_
    replace hs' : Heap.SameBut e h' h'' := hs'
    have hTn : H s.heap.objs.size = none := I.hok.fresh (Nat.le_refl _)
    have lte := Heap.lt_size he
    have old' : ∀ b o, b ≠ e → b ≠ it → s.heap.get? b = some o → h''.get? b = some o := fun b o n1 n2 q => hs'.extBut b o n1 (hk b o n1 n2 q)
    have I1 : Inv X pins σ (upd H s.heap.objs.size (.tup [.int i, x])) { s with heap := s.heap.push { cls := .type "tuple", data := .seq #[.int i s.toks, u] }, toks := s.toks + 1 } :=
      I.laid (t' := s.toks + 1) (fun b o q => Heap.get?_push_of_some _ q) (Nat.le_refl _) ⟨by show 2 ≤ sizeLine; decide, [.int i s.toks, u], .cons ⟨_, rfl⟩ (.cons ru .nil), ⟨_, Heap.get?_push_size _ rfl, rfl, _, rfl⟩⟩
    have fp1 : ∀ b ∈ [e, it], FpOk X pins (upd H s.heap.objs.size (.tup [.int i, x])) b := fun b hb => by
      obtain ⟨f0, r⟩ := hf b hb
      refine ⟨?_, r⟩
      have lt : b < s.heap.objs.size := by
        simp only [List.mem_cons, List.not_mem_nil, or_false] at hb
        rcases hb with rfl | rfl
        · exact lte
        · obtain ⟨o, q, _⟩ := h1; exact Heap.lt_size q
      rw [upd_ne (Nat.ne_of_lt lt)]; exact f0
    have I2 : Inv X pins σ (upd H s.heap.objs.size (.tup [.int i, x])) { s with heap := h'', toks := s.toks + 1 } := by
      have back : ∀ b o, (s.heap.push { cls := .type "tuple", data := .seq #[.int i s.toks, u] }).get? b = some o → b ≠ e → b ≠ it → h''.get? b = some o := fun b o q n1 n2 => by
        rcases Heap.get?_push_cases q with ⟨rfl, rfl⟩ | q
        · exact hs'.extBut _ _ n1 a3
        · exact old' b o n1 n2 q
      refine I1.slots (ch := [e, it]) (tk := s.toks + 1) fp1 (fun b o _ hc q => ?_) (fun b o hb q => ⟨o.slots, ?_⟩) (fun b hb o q => ?_)
      · simp only [List.mem_cons, List.not_mem_nil, or_false, not_or] at hc
        exact back b o q hc.1 hc.2
      · exact back b o q (fun z => nf e (by simp) (z ▸ hb)) (fun z => nf it (by simp) (z ▸ hb))
      · simp only [List.mem_cons, List.not_mem_nil, or_false] at hb
        rcases hb with rfl | rfl
        · exact ⟨_, hz'⟩
        · obtain ⟨o, q, _⟩ := a2; exact ⟨_, hs'.extBut _ _ hne.symm q⟩
    refine ⟨.ref s.heap.objs.size, _, I2, rfl, ⟨_, x, rfl, hTn, rfl, fun xs' q => by rw [I.list_inj q q1]; exact hx⟩, ?_, fun b hb => (fp1 b hb).1⟩
    exact ⟨u, hz', a2.extBut hs'.extBut hne.symm⟩
  done := by
    intro X hP hw hK hc i pins s σ H E I hf st hg
    subst hP hw hK
    obtain ⟨xs, q1, hlen⟩ := hg
    obtain ⟨old, he, h1⟩ := st
    obtain ⟨its, rv, pl, _⟩ := I.list q1
    have e1 := rv.length
    have nf : ∀ b ∈ [e, it], b ∉ frs X.stack := fun b hb q => (List.mem_cons.mp (I.stkSub b q)).elim (hf b hb).2.1 (hf b hb).2.2.1
    refine enum_endH I.hd he h1 pl.isList (by simp; omega) fun h' hk => ⟨rfl, ?_⟩
    refine I.slot0 (ch := [e, it]) (tk := s.toks) hf (fun b o _ hc q => ?_) (fun b o hb q => ⟨o.slots, ?_⟩)
    · simp only [List.mem_cons, List.not_mem_nil, or_false, not_or] at hc
      exact hk b o hc.2 q
    · exact hk b o (fun z => nf it (by simp) (z ▸ hb)) q
  self := fun _ _ s _ _ st h => by
    obtain ⟨old, he, _⟩ := st
    exact wpAny_pyIter_enum he h
def iEnum (K : PySem.W.Frag) (ta : TA) : TI := fun σ H R => ta σ H fun vs H1 => ∃ l, vs = [.ref l] ∧ (∃ xs, SqL K H1 l xs) ∧ R (Ite K l) H1
section
variable {X : Cx}
theorem pi_enumerate {es : List Expr} {k : Nat} {tpos p pos : Pos} {a : Expr} {ta : TA} (hg : Gl X "enumerate") (hm : X.mg "enumerate" = none) (ha : PA X [a] ta) (hs : starEach [a] X.env = [(false, eval a X.env)] := by rfl) :
    PI X (.Tuple es k tpos) (.Call (.Name "enumerate" p) [a] [] pos) (iEnum X.K ta) := by
  intro pins s σ H R I h
  refine Call_ (ld_blt I hg hm boot_enumerate (PyProof.Rows.callWith_type1 (thn (ha pos pins s σ H _ I h) fun us s1 => L2.ex5 fun vs H1 I1 r1 hq_ => ?_) hs rfl))
  obtain ⟨l, e, ⟨xs, q1⟩, q⟩ := hq_
  subst e
  obtain ⟨u, rfl, ru⟩ := vals1 r1
  obtain rfl : u = Value.ref l := ru
  obtain ⟨its, rv, pl, _⟩ := I1.list q1
  refine call_enumerate_list pl.isList fun h' b1 b2 b3 hk => ?_
  refine wpAny_pyIter_enum (s := { s1 with heap := h' }) b1 ?_
  refine ⟨s1.heap.objs.size + 1, [s1.heap.objs.size + 1, s1.heap.objs.size], _, _, H1, rfl, I1.kept (t' := s1.toks) hk, turn_enum (Nat.ne_of_gt (Nat.lt_succ_self _)), ⟨_, b1, b2⟩, fun b hb => ?_, q⟩
  have ge : s1.heap.objs.size ≤ b := by
    simp only [List.mem_cons, List.not_mem_nil, or_false] at hb
    rcases hb with rfl | rfl
    · exact Nat.le_add_right _ _
    · exact Nat.le_refl _
  exact I1.fpOk ge (I1.hok.fresh ge)
theorem comp_enum {K : PySem.W.Frag} {l D : Addr} {xs : List V} {g : TG} {tt : TT} {te : TE} {τ : St} {H : Hp} {Q : VK} (Pv : Nat → St → Hp → Prop) (h0 : Pv 0 τ H) (hl : ∀ i τ H, i ≤ xs.length → Pv i τ H → SqL K H l xs)
    (hs : ∀ i x T τ H, xs[i]? = some x → H T = none → Pv i τ H → g (.ref T) τ (upd H T (.tup [.int i, x])) fun τ2 H2 => tt τ2 H2 fun b H3 =>
      if b = true then te τ2 H3 fun y H4 => ∃ ys, H4 D = some (.lst ys) ∧ ys.length < sizeLine ∧ Pv (i + 1) τ2 (upd H4 D (.lst (ys ++ [y]))) else Pv (i + 1) τ2 H3)
    (hd : ∀ τ H, Pv xs.length τ H → Q (.ref D) H) : CompW (Ite K l) D τ H g tt te Q := by
  refine ⟨fun i m τ H => m = xs.length - i ∧ i ≤ xs.length ∧ Pv i τ H, ⟨xs.length, by simp, Nat.zero_le _, h0⟩, ?_⟩
  rintro i m τ H ⟨rfl, hi, p⟩
  have q1 := hl i τ H hi p
  by_cases hlt : i < xs.length
  · refine .inr ⟨⟨xs, xs[i], q1, by simp [hlt]⟩, Pv (i + 1), fun τ' H' p' => ⟨xs.length - (i + 1), by omega, rfl, hlt, p'⟩, fun v H' y => ?_⟩
    obtain ⟨T, x, rfl, hT, rfl, hx⟩ := y
    exact hs i x T τ H (hx xs q1) hT p
  · have e : i = xs.length := by omega
    subst e
    exact .inl ⟨⟨xs, q1, Nat.le_refl _⟩, hd τ H p⟩
theorem for_enum {K : PySem.W.Frag} {l : Addr} {xs : List V} {g : TG} {tb : TS} {D : Ends} {σ : St} {H : Hp} (Pv : Nat → St → Hp → Prop) (h0 : Pv 0 σ H) (hl : ∀ i σ H, i ≤ xs.length → Pv i σ H → SqL K H l xs)
    (hs : ∀ i x T σ H, xs[i]? = some x → H T = none → Pv i σ H → g (.ref T) σ (upd H T (.tup [.int i, x])) fun σ2 H2 => tb { D with nx := Pv (i + 1), ct := Pv (i + 1), bk := D.nx } σ2 H2) (hd : ∀ σ H, Pv xs.length σ H → D.nx σ H) :
    ∃ W : Nat → Nat → St → Hp → Prop, (∃ m, W 0 m σ H) ∧ ∀ i m σ H, W i m σ H →
      ((Ite K l).stop i H ∧ D.nx σ H) ∨ ((Ite K l).go i H ∧ ∃ N : St → Hp → Prop, (∀ σ' H', N σ' H' → ∃ m', m' < m ∧ W (i + 1) m' σ' H') ∧ ∀ x H', (Ite K l).yld i H x H' → g x σ H' fun σ2 H2 => tb { D with nx := N, ct := N, bk := D.nx } σ2 H2) := by
  refine ⟨fun i m σ H => m = xs.length - i ∧ i ≤ xs.length ∧ Pv i σ H, ⟨xs.length, by simp, Nat.zero_le _, h0⟩, ?_⟩
  rintro i m σ H ⟨rfl, hi, p⟩
  have q := hl i σ H hi p
  by_cases hlt : i < xs.length
  · refine .inr ⟨⟨xs, xs[i], q, by simp [hlt]⟩, Pv (i + 1), fun σ' H' p' => ⟨xs.length - (i + 1), by omega, rfl, hlt, p'⟩, fun v H' y => ?_⟩
    obtain ⟨T, x, rfl, hT, rfl, hx⟩ := y
    exact hs i x T σ H (hx xs q) hT p
  · have e : i = xs.length := by omega
    subst e
    exact .inl ⟨⟨xs, q, Nat.le_refl _⟩, hd σ H p⟩
end
end L2

/-! ### min and max of a list of ints, with a default too -/
namespace L2
open PySem PySem.Spec PyProof.Rows
section
variable {prog : Program} {w : World} {A : Around} {R : Result → Shared → Prop} {I : Addr} {fp wr : List Addr} {n : Nat} {P : Nat → Value → Prop} {St : Nat → Heap → Prop}
end
section
variable {X : Cx}
end

section
variable {prog : Program} {w : World} {A : Around} {R : Result → Shared → Prop} {I : Addr} {fp wr : List Addr} {n : Nat} {P : Nat → Value → Prop} {St : Nat → Heap → Prop}
end
section
variable {X : Cx}
end
section
variable {X : Cx}
def rGetL (K : PySem.W.Frag) : V → V → Hp → VK → Prop := fun o i H Q => ∃ p xs k v, o = .ref p ∧ i = .int k ∧ SqL K H p xs ∧ 0 ≤ k ∧ xs[k.toNat]? = some v ∧ Q v H
end
end L2

/-! ### in, not in: a list of data (tuples) -/
namespace L2
open PySem PySem.Spec PyProof.Rows
def rInD (K : PySem.W.Frag) (neg : Bool) : R2 := fun x y H Q => ∃ p ds xs d, y = .ref p ∧ SqL K H p xs ∧ DtVs K H ds xs ∧ DtV K H d x ∧ DeepsLe 50 ds ∧ Q (.bl (if neg then !(ds.any fun e => eqD e d) else ds.any fun e => eqD e d)) H
section
variable {X : Cx} {pins : List (Addr × Obj)} {σ : St} {H : Hp} {s : Shared}
open Classical in
end
end L2

/-! ### set of a list of ints, its len; all while an exception may be handled -/
namespace L2
open PySem PySem.Spec PyProof.Rows
section
variable {prog : Program} {w : World} {A : Around} {E : Value → Shared → Prop} {s : Shared} {cs : List Addr}
end
section
variable {X : Cx}
end
end L2

/-! ### list(reversed(l)); all while an exception may be handled -/
namespace L2
open PySem PySem.Spec PyProof.Rows
section
variable {prog : Program} {w : World} {A : Around} {E : Value → Shared → Prop} {s : Shared} {cs : List Addr}
end
section
variable {X : Cx}
end
end L2

/-! ### sorted of a list of strings -/
namespace L2
open PySem PySem.Spec PyProof.Rows
section
variable {X : Cx}
end
end L2

/-! ### list.insert, list.index of texts, zip of two lists of unlike lengths -/
namespace L2
open PySem PySem.Spec PyProof.Rows
section
variable {X : Cx}
def rInsert : V → List V → Hp → VK → Prop := fun x vs H Q => ∃ l xs i y, x = .ref l ∧ vs = [.int i, y] ∧ H l = some (.lst xs) ∧ 0 ≤ i ∧ i ≤ xs.length ∧ xs.length < sizeLine ∧ Q .non (upd H l (.lst (xs.take i.toNat ++ y :: xs.drop i.toNat)))
def rIndexS : V → List V → Hp → VK → Prop := fun x vs H Q => ∃ l, ∃ ss : List Str, ∃ y, ∃ j : Nat, x = .ref l ∧ vs = [.str y] ∧ H l = some (.lst (ss.map V.str)) ∧ ss[j]? = some y ∧ (∀ i, i < j → ss[i]? ≠ some y) ∧ Q (.int (j : Int)) H
end
theorem comp_zipS {K : PySem.W.Frag} {l1 l2 D : Addr} {xs ys : List V} {n : Nat} {g : TG} {tt : TT} {te : TE} {τ : St} {H : Hp} {Q : VK} (h1 : n ≤ xs.length) (h2 : n ≤ ys.length) (h3 : xs.length = n ∨ ys.length = n) (Pv : Nat → St → Hp → Prop) (h0 : Pv 0 τ H) (hl : ∀ i τ H, i ≤ n → Pv i τ H → SqL K H l1 xs ∧ SqL K H l2 ys)
    (hs : ∀ i x y T τ H, i < n → xs[i]? = some x → ys[i]? = some y → H T = none → Pv i τ H → g (.ref T) τ (upd H T (.tup [x, y])) fun τ2 H2 => tt τ2 H2 fun b H3 =>
      if b = true then te τ2 H3 fun y H4 => ∃ ys, H4 D = some (.lst ys) ∧ ys.length < sizeLine ∧ Pv (i + 1) τ2 (upd H4 D (.lst (ys ++ [y]))) else Pv (i + 1) τ2 H3)
    (hd : ∀ τ H, Pv n τ H → Q (.ref D) H) : CompW (Itz K l1 l2) D τ H g tt te Q := by
  refine ⟨fun i m τ H => m = n - i ∧ i ≤ n ∧ Pv i τ H, ⟨n, by simp, Nat.zero_le _, h0⟩, ?_⟩
  rintro i m τ H ⟨rfl, hi, p⟩
  obtain ⟨q1, q2⟩ := hl i τ H hi p
  by_cases hlt : i < n
  · have hx : i < xs.length := by omega
    have hy : i < ys.length := by omega
    refine .inr ⟨⟨xs, ys, xs[i], ys[i], q1, q2, by simp [hx], by simp [hy]⟩, Pv (i + 1), fun τ' H' p' => ⟨n - (i + 1), by omega, rfl, hlt, p'⟩, fun v H' y => ?_⟩
    obtain ⟨T, x, y, rfl, hT, rfl, hx, hy⟩ := y
    exact hs i x y T τ H hlt (hx xs q1) (hy ys q2) hT p
  · have e : i = n := by omega
    subst e
    exact .inl ⟨⟨xs, ys, q1, q2, by omega⟩, hd τ H p⟩
theorem cut_tail (xs : List V) : cutV xs (some 1) none = xs.drop 1 := by
  unfold cutV
  rw [HT.sIx_none]
  have e : HT.sIx xs.length 0 (some 1) = min 1 xs.length := by
    unfold HT.sIx
    dsimp only
    rw [if_neg (by decide)]
    rfl
  rw [e]
  cases xs with
  | nil => rfl
  | cons x l =>
    have : min 1 (x :: l).length = 1 := by rw [List.length_cons]; omega
    rw [this]
    exact List.take_of_length_le (by simp)
theorem dget_k {H : Hp} {a : Addr} {kvs : List (Key × V)} {k : Key} {v : V} (e : H a = some (.dK kvs)) (h : valV kvs k = some v) : DGet H a (kV k) (some v) := h ▸ DGet.k e
theorem none_of {H H' : Hp} {r : Addr} (s : Same H H') (h : H' r = none) : H r = none := by
  cases e : H r with
  | none => rfl
  | some o =>
    rw [s _ _ e] at h
    cases h
theorem same_upd {H H' : Hp} {d : Addr} {o : HO} (nd : H d = none) (s : Same H H') : Same H (upd H' d o) := fun b u e => by
  rw [upd_ne (ne_of_none e nd)]
  exact s b u e
theorem refs_at {rs : List Addr} {i : Nat} {x : V} (h : (rs.map V.ref)[i]? = some x) : ∃ r, rs[i]? = some r ∧ x = .ref r := by
  rw [List.getElem?_map] at h
  cases e : rs[i]? with
  | none => rw [e] at h; cases h
  | some n => rw [e] at h; exact ⟨n, rfl, (Option.some.inj h).symm⟩
theorem strs_at {ss : List Str} {i : Nat} {x : V} (h : (ss.map V.str)[i]? = some x) : ∃ r, ss[i]? = some r ∧ x = .str r := by
  rw [List.getElem?_map] at h
  cases e : ss[i]? with
  | none => rw [e] at h; cases h
  | some n => rw [e] at h; exact ⟨n, rfl, (Option.some.inj h).symm⟩
theorem dts_strs {K : PySem.W.Frag} {H : Hp} : ∀ ns : List Str, DtVs K H (ns.map Dt.str) (ns.map V.str)
  | [] => rfl
  | _ :: r => ⟨_, _, rfl, rfl, dts_strs r⟩
end L2

/-! ### a dict's keys in turn; a copy of a dict -/
namespace L2
open PySem PySem.Spec PyProof.Rows
def Itk (d : Addr) (o : Obj) (kvs : List (Key × V)) : It :=
  ⟨fun i H => H d = some (.frz o (.dK kvs)) ∧ i < kvs.length, fun i H v H' => H' = H ∧ ∃ k x, v = kV k ∧ kvs[i]? = some (k, x), fun i H => H d = some (.frz o (.dK kvs)) ∧ kvs.length ≤ i⟩
def KeyIt (h : Heap) (it d : Addr) (o : Obj) (n i : Nat) : Prop := ∃ es ep, o.data = .dict es ep ∧ h.IsKeyIter it d i n ep
def iKeys (tl : TE) : TI := fun σ H R => tl σ H fun x H1 => ∃ d kvs, x = .ref d ∧ H1 d = some (.dK kvs) ∧ ∀ o, R (Itk d o kvs) (upd H1 d (.frz o (.dK kvs)))
section
variable {X : Cx}
/-- a statement that freezes the dict at d meanwhile; where it leaves the def the dict stays so -/
def sThaw (t : TS) : TS := fun D σ H => ∃ d kvs, H d = some (.dK kvs) ∧ t { D with nx := fun σ1 H1 => ∃ o, H1 d = some (.frz o (.dK kvs)) ∧ D.nx σ1 (upd H1 d (.dK kvs)), ct := fun _ _ => False, bk := fun _ _ => False, rt := fun v H1 => ∃ o, H1 d = some (.frz o (.dK kvs)) ∧ D.rt v (upd H1 d (.dK kvs)) } σ H
theorem call_dictD : CallR X (.type "dict") (fun xs H Q => ∃ d kvs, xs = [.ref d] ∧ H d = some (.dK kvs) ∧ ∀ l, H l = none → Q (.ref l) (upd H l (.dK kvs))) := by
  intro pins s σ H xs us Q I r h
  obtain ⟨d, kvs, rfl, e, q⟩ := h
  obtain ⟨u, rfl, ru⟩ := vals1 r
  obtain rfl : u = Value.ref d := ru
  obtain ⟨z, hsm, vs, rel, dd⟩ := dk_of I.hok e
  refine kt_call_dict hsm dd (by rw [← rel.length]; exact z) fun h' hd' hs' => ?_
  have ne : (s.heap.objs.size == sysModules) = false := (dk_empty (P := X.prog) (w := X.w) (H := H) s.heap I.big).2.1
  refine ⟨.ref s.heap.objs.size, _, I.laid (a := s.heap.objs.size) (o := .dK kvs) (t' := s.toks) (fun b o q => hs'.extBut b o (Nat.ne_of_lt (Heap.lt_size q)) (Heap.get?_push_of_some _ q)) (Nat.le_refl _) ⟨z, ne, vs, rel, hd'⟩, rfl, q _ (I.hok.fresh (Nat.le_refl _))⟩
end
end L2

/-! ### dict.setdefault -/
namespace L2
open PySem PySem.Spec PyProof.Rows
section
variable {X : Cx}
def rSetD : V → List V → Hp → VK → Prop := fun x vs H Q => ∃ d kvs k v, x = .ref d ∧ vs = [kV k, v] ∧ H d = some (.dK kvs) ∧ kvs.length < sizeLine ∧ (∀ u, valV kvs k = some u → Q u H) ∧ (valV kvs k = none → Q v (upd H d (.dK (putK kvs k v))))
end
end L2

/-! ### lists of texts -/
namespace L2
open PySem PySem.Spec PyProof.Rows
def strsOf : List Expr → Option (List Str)
  | [] => some []
  | .Constant (.str x) _ _ :: es => (strsOf es).map (x :: ·)
  | _ => none
section
variable {X : Cx}
theorem pa_strs : ∀ {es : List Expr} {xs : List Str}, strsOf es = some xs → PA X es (fun _ H Q => Q (xs.map V.str) H)
  | [], _, h => by
    cases h
    exact pa_nil
  | e :: es, xs, h => by
    cases e with
    | Constant c j p =>
      cases c with
      | str x =>
        cases q : strsOf es with
        | none =>
          unfold strsOf at h
          rw [q] at h
          cases h
        | some ys =>
          unfold strsOf at h
          rw [q] at h
          cases h
          exact pa_cons pe_str (pa_strs q) rfl
      | _ => cases h
    | _ => cases h
end
end L2
namespace L2
open PySem PySem.Spec PyProof.Rows
/-- a long list of texts, cut: as a rule that rewrites (an application of ps_set would walk through the list's meaning) -/
theorem ps_cutStrs {X : Cx} {x y : Str} {i : Nat} {es : List Expr} {xs : List Str} {n : Int} {j : Nat} {p1 p2 p3 q1 q2 q3 pos pos' : Pos} {ty : TE} (hxs : strsOf es = some xs) (hy : PE X (.Name y q1) ty) (hN : X.N.Nodup) (hi : X.N[i]? = some x) (hx : Loc X.env.scope x)
    (hs : swapsWith (.Subscript (.List es p1) (.Slice none (some (.BinOp (.Name y q1) .Mod (.Constant (.int n) j q2) q3)) none p2) p3) (some (.Name x pos')) pos.line X.env = pure false) (hf : X.fn x = true ∨ X.env.scope.names.lookup x = some .local) :
    PS X (.Assign [.Name x pos'] (.Subscript (.List es p1) (.Slice none (some (.BinOp (.Name y q1) .Mod (.Constant (.int n) j q2) q3)) none p2) p3) pos) (tAsg (tSl (rSlL X.K) (tLst fun _ H Q => Q (xs.map V.str) H) tNoPart (tPart (tOp (rI (fun _ j => 0 < j) fun i j => .int (i % j)) ty (tC (.int n))))) (gName i)) = True :=
  eq_true (ps_set hN hi hx (pe_slice sl_list (pe_lst (pa_strs hxs)) po_none (po_some (pe_op op_mod hy pe_int))) hs hf)
end L2

/-! ### isinstance of exceptions within a handler -/
namespace L2
open PySem PySem.Spec PyProof.Rows
section
variable {X : Cx} {K : PySem.W.Frag} (hK : X.K = K)
include hK
def rIsX (K : PySem.W.Frag) : List V → Hp → VK → Prop := fun xs H Q => ∃ a C dd vc c b, xs = [.ref a, vc] ∧ IsX H a C dd ∧ XDs H dd ∧ XIs K C ∧ (∀ u, RelV vc u → u = c) ∧ PySem.W.kitOne K (.ref C) c = some b ∧ Q (.bl b) H
theorem callK_isinstX : CallR X (.builtin "isinstance") (rIsX K) := by subst hK; exact call_isinstX
def rIsXT (K : PySem.W.Frag) : List V → Hp → VK → Prop := fun xs H Q => ∃ a C dd p vcs cs b, xs = [.ref a, .ref p] ∧ IsX H a C dd ∧ XDs H dd ∧ XIs K C ∧ H p = some (.tup vcs) ∧ (∀ us, Vals vcs us → us = cs) ∧ PySem.W.kitAny K (.ref C) cs = some b ∧ Q (.bl b) H
end
end L2

/-! ### dict of a list of pairs -/
namespace L2
open PySem PySem.Spec PyProof.Rows
section
variable {prog : Program} {w : World} {A : Around} {E : Value → Shared → Prop} {s : Shared} {cs : List Addr}
theorem lk_list_keys : typeLookup (.type "list") "keys" = pure none := am_miss_of_fast (by kernel_rfl)
/-- an AttributeError, made and raised -/
theorem attr_hd {α : Type} {o : Value} {name msg : Str} {Q : α → Shared → Prop} (hd : Hd A s.heap)
    (h : ∀ h' tk e, (∀ b ob, s.heap.get? b = some ob → h'.get? b = some ob) → (∃ o', h'.get? e = some o' ∧ o'.cls = .type "AttributeError") → E (.ref e) { s with heap := h', toks := tk }) (hm : msg.length ≤ sizeLine := by size_fits) :
    wpAny (model prog w) A (raiseAttrError o name msg : Sem α) Q E s := by
  unfold raiseAttrError
  refine wpAny_bind (wpAny_mkStr (wpAny_bind ?_) hm)
  unfold newExc newTuple
  refine wpAny_bind (wpAny_newObj_type ?_ (by size_fits))
  refine wpAny_bind (m := firstArgMember _ _) (wpAny_of_eq (a := Value.none) (by simp only [firstArgMember, attrError_no_first]; rfl) ?_)
  rw [ownMembersOf_AttributeError]
  refine wpAny_newObj_type ?_ (by size_fits)
  obtain ⟨hp, g, d, tk, os⟩ := s
  have f1 := sub_AttributeError
  repeat (any_goals (first | assumption | wp_step))
  dsimp only
  have lt1 : ∀ b ob, hp.get? b = some ob → b < hp.objs.size + 1 := fun b ob q => Nat.lt_succ_of_lt (Heap.lt_size q)
  refine raise_hd ?_ (Heap.get?_update_self _ (Heap.get?_push_size _ rfl) rfl) rfl (by simp) fun h' o' vs' k' e' c' _ _ _ _ _ =>
    h h' _ _ (fun b ob q => k' b ob ?_ ((Heap.get?_update_other _ _ ?_).trans (Heap.get?_push_of_some _ (Heap.get?_push_of_some _ q)))) ⟨o', e', c'⟩
  · rcases hd with hn | ⟨a, cs, ha, c⟩
    · exact .inl hn
    · have lt : ∀ b ∈ a :: cs, b < hp.objs.size := c.lt
      refine .inr ⟨a, cs, ha, c.mono fun b ob hb q => (Heap.get?_update_other _ _ ?_).trans (Heap.get?_push_of_some _ (Heap.get?_push_of_some _ q)), fun z => ?_⟩
      · simp only [Heap.size_push]
        exact Nat.ne_of_gt (lt1 b ob q)
      · have := lt _ z
        simp only [Heap.size_push] at this
        exact absurd (Nat.lt_of_lt_of_le this (Nat.le_succ _)) (Nat.lt_irrefl _)
  · simp only [Heap.size_push]
    exact Nat.ne_of_lt (lt1 b ob q)
  · simp only [Heap.size_push]
    exact Nat.ne_of_gt (lt1 b ob q)
theorem keys_miss {l : Addr} {ol : Obj} {tk : Tok} {Q : Fin → Shared → Prop} (hd : Hd A s.heap) (ho : s.heap.get? l = some ol) (hc : ol.cls = .type "list") (hdi : ol.dict = none) {its : Array Value} {nn : Nat} (hda : ol.data = .seq its nn)
    (h : ∀ h' tk e, (∀ b ob, s.heap.get? b = some ob → h'.get? b = some ob) → (∃ o', h'.get? e = some o' ∧ o'.cls = .type "AttributeError") → E (.ref e) { s with heap := h', toks := tk }) :
    wpAny (model prog w) A (Builtin.«object.__getattribute__» ⟨[.ref l, .str "keys" tk], []⟩) Q E s := by
  have hT : s.TypeIs (.ref l) "list" := ⟨_, ho, hc⟩
  have f4 := lk_list_keys
  unfold Builtin.«object.__getattribute__»
  obtain ⟨hp, g, d, tk', os⟩ := s
  obtain ⟨oc, od, oda, osl⟩ := ol
  dsimp only at hc hdi hda
  subst hc hdi hda
  repeat (any_goals (first | assumption | wp_step))
  exact attr_hd hd h (attrMsg_fits (by decide +kernel) (by size_fits))
theorem no_keys {l : Addr} {ol : Obj} {Q : Option Value → Shared → Prop} (hd : Hd A s.heap) (ho : s.heap.get? l = some ol) (hc : ol.cls = .type "list") (hdi : ol.dict = none) {its : Array Value} {nn : Nat} (hda : ol.data = .seq its nn)
    (h : ∀ h' tk, (∀ b ob, s.heap.get? b = some ob → h'.get? b = some ob) → Q none { s with heap := h', toks := tk }) :
    wpAny (model prog w) A (getAttr? (.ref l) "keys") Q E s := by
  unfold getAttr? getAttrBy?
  obtain ⟨hp, g, d, tk', os⟩ := s
  have hT : (⟨hp, g, d, tk' + 1, os⟩ : Shared).TypeIs (.ref l) "list" := ⟨_, ho, hc⟩
  have f1 := sub_AttributeError
  have f2 := F.slot_list_getattribute.lookup
  have f3 := F.slot_list_getattribute.bind (.ref l)
  have f5 : typeLookup (.type "list") "__getattr__" = pure none := am_miss_of_fast (by kernel_rfl)
  unfold getAttrBy
  repeat (any_goals (first | assumption | wp_step))
  refine codeAny_call_builtin F.slot_list_getattribute.plain F.entry_list_ga (F.slot_list_getattribute.check _ _ _ _ _ _ _ _ hT (F.args_list_getattribute_2 _ _) (keys_miss (s := ⟨hp, g, d, tk' + 1, os⟩) hd ho hc hdi hda fun h' tk2 e k' ⟨o', e1, e2⟩ => ?_))
  dsimp only
  show wpAny _ _ (getattributeRaised _ _ _ _ _ _ _) _ _ _
  unfold getattributeRaised
  have hE : (⟨h', g, d, tk2, os⟩ : Shared).TypeIs (.ref e) "AttributeError" := ⟨_, e1, e2⟩
  repeat (any_goals (first | assumption | wp_step))
  exact h h' tk2 k'
end
end L2

/-! ### dict of a list of pairs: the loop -/
namespace L2
open PySem PySem.Spec PyProof.Rows
theorem entry_dict_loop : entryFor table "dict.update.loop" = some Builtin.«dict.update.loop» := entryFor_of_tree (by kernel_rfl)
theorem plain_dict_loop : plainId "dict.update.loop" = true := by decide +kernel
section
variable {prog : Program} {w : World} {A : Around} {R : Result → Shared → Prop} {κ : Type} [DecidableEq κ] {knd : KeyKind prog w κ} {I d : Addr} {fp wr : List Addr} {G : Array GenState → Array GenState → Prop} {n : Nat} {P : Nat → Value → Prop} {St : Nat → Shared → Prop}
theorem dict_loop (W : WalksS prog w A.in1 I fp wr G n P St) (hdf : d ∉ fp) (hn : n ≤ 1000) (s0 : Shared) (ks : Nat → κ) (vs : Nat → Value) (kvs : Nat → List (κ × Value)) (res : Value)
    (hval : ∀ i v, P i v → ∃ t key, v = .ref t ∧ s0.heap.IsTuple t #[key, vs i] ∧ t ∉ d :: wr ∧ knd.is (ks i) key = true)
    (hs : ∀ i, kvs (i + 1) = stored (kvs i) (ks i) (vs i)) (hl : ∀ i, (kvs i).length ≤ i) :
    ∀ (k i : Nat) (s : Shared), n - i = k → i ≤ n → St i s → Moved (d :: wr) G s0 s → s.heap.DictOf knd d (kvs i) →
      (∀ s', Moved (d :: wr) G s0 s' → s'.heap.DictOf knd d (kvs n) → R (.ok (.ret res)) s') →
      codeAny (model prog w) A (.builtin "dict.update.loop" ⟨[.ref d, .ref I, .int i 0, res], []⟩) R s := by
  have hdw : d ∉ wr := fun h => hdf (W.sub _ h)
  have hsub : ∀ b ∈ wr, b ∈ d :: wr := fun b hb => List.mem_cons_of_mem _ hb
  intro k
  induction k with
  | zero =>
    intro i s hk hi hst m0 hD hR
    have hin : i = n := by omega
    subst hin
    refine codeAny_builtin entry_dict_loop ?_
    rw [Around.under_plainId plain_dict_loop _]
    show wpAny _ A.in1 (pyNext (.ref I) >>= _) _ _ s
    refine wpAny_bind (W.done s _ _ hst fun s' hm => ?_)
    show wpAny _ A.in1 (pure () >>= fun _ => ret res) _ _ s'
    exact wpAny_bind (wpAny_pure (wpAny_pure (hR s' (Moved.trans W.gtrans m0 (hm.mono hsub)) (by
      obtain ⟨o, es, ep, ho, rest⟩ := hD
      exact ⟨o, es, ep, hm.heap d _ hdw ho, rest⟩))))
  | succ k ih =>
    intro i s hk hi hst m0 hD hR
    have hlt : i < n := by omega
    refine codeAny_builtin entry_dict_loop ?_
    rw [Around.under_plainId plain_dict_loop _]
    show wpAny _ A.in1 (pyNext (.ref I) >>= _) _ _ s
    refine wpAny_bind (W.item i s _ _ hlt hst fun v s' hP hst' hm => ?_)
    obtain ⟨t, key, rfl, ⟨ot, hot, hct, nt, hdt⟩, htn, hkey⟩ := hval i v hP
    have m1 : Moved (d :: wr) G s0 s' := Moved.trans W.gtrans m0 (hm.mono hsub)
    have hD' : s'.heap.DictOf knd d (kvs i) := by
      obtain ⟨o, es, ep, ho, rest⟩ := hD
      exact ⟨o, es, ep, hm.heap d _ hdw ho, rest⟩
    have hot' := m1.heap t _ htn hot
    have hT : s'.TypeIs (.ref t) "tuple" := ⟨_, hot', hct⟩
    dsimp only
    refine wpAny_bind (wpAny_holding (wpAny_bind (wpAny_tryCatch ?_)))
    unfold Builtin.Dict.pairItems
    refine wpAny_bind (wpAny_typeOf hT ?_)
    rw [if_pos (by decide)]
    refine wpAny_bind (wpAny_seqItems hot' hdt (wpAny_pure ?_))
    show wpAny _ _ (holding [key, vs i] (dictSet d key (vs i))) _ _ s'
    refine wpAny_holding (wpAny_dictSet_pairs (knd := knd) hkey hD' (fun h' hd' hsb => ?_) (by rw [sizeLine_eq]; have := hl i; omega))
    have e1 : kvs (i + 1) = stored (kvs i) (ks i) (vs i) := hs i
    rw [← e1] at hd'
    refine wpAny_pure ⟨plainId_quiet plain_dict_loop _, ih (i + 1) _ (by omega) hlt (W.frame _ s' _ _ hst' (Nat.le_succ _) fun b hb o e => ?_) ?_ hd' hR⟩
    · rw [hsb.2 b (fun h : b = d => hdf (by rw [← h]; exact hb))]; exact e
    · refine m1.then_heap (Nat.le_succ _) fun b o hb e => ?_
      rw [hsb.2 b (fun h : b = d => hb (by rw [h]; exact List.mem_cons_self))]; exact e
end
section
variable {prog : Program} {w : World} {A : Around} {E : Value → Shared → Prop} {s : Shared} {cs : List Addr} {κ : Type} [DecidableEq κ] {knd : KeyKind prog w κ}
set_option maxHeartbeats 3200000 in
theorem dict_pairs {l : Addr} {ol : Obj} {its : Array Value} {nn : Nat} {Q : Value → Shared → Prop} (hc : HdC A cs) (ch : Chn s.heap cs) (ho : s.heap.get? l = some ol) (hcl : ol.cls = .type "list") (hdi : ol.dict = none) (hda : ol.data = .seq its nn) (hz : its.size ≤ 1000)
    (ks : Nat → κ) (vs : Nat → Value) (kvs : Nat → List (κ × Value)) (h0 : kvs 0 = []) (hs : ∀ i, kvs (i + 1) = stored (kvs i) (ks i) (vs i)) (hl : ∀ i, (kvs i).length ≤ i)
    (hval : ∀ i v, its[i]? = some v → ∃ t key, v = .ref t ∧ s.heap.IsTuple t #[key, vs i] ∧ knd.is (ks i) key = true)
    (h : ∀ h' tk, h'.DictOf knd s.heap.objs.size (kvs its.size) → (∀ b o, s.heap.get? b = some o → h'.get? b = some o) → Q (.ref s.heap.objs.size) { s with heap := h', toks := tk }) :
    wpAny (model prog w) A (call (.type "dict") [.ref l]) Q E s := by
  refine callType_codes (Q₁ := fun obj s₁ => obj = .ref s.heap.objs.size ∧ s₁ = { s with heap := s.heap.push { cls := .type "dict", data := .dict #[] } }) F.kt_called_dict (F.kt_typeCall_dict_1 _) F.entry_dict_init (kt_code_dict_new _ ⟨rfl, rfl⟩) ?_
  rintro obj s₁ ⟨rfl, rfl⟩
  have hnew : (s.heap.push { cls := .type "dict", data := .dict #[] }).DictOf knd s.heap.objs.size [] := Heap.DictOf.new s.heap
  have ho' : (s.heap.push { cls := .type "dict", data := .dict #[] }).get? l = some ol := Heap.get?_push_of_some _ ho
  have ch' : Chn (s.heap.push { cls := .type "dict", data := .dict #[] }) cs := ch.mono fun b o _ e => Heap.get?_push_of_some _ e
  have lt : ∀ b ∈ cs, b < s.heap.objs.size := ch.lt
  have hsz : (s.heap.push { cls := .type "dict", data := .dict #[] }).objs.size = s.heap.objs.size + 1 := Heap.size_push ..
  have keep : ∀ b o, s.heap.get? b = some o → (s.heap.push { cls := .type "dict", data := .dict #[] }).get? b = some o := fun b o e => Heap.get?_push_of_some _ e
  generalize s.heap.push { cls := .type "dict", data := .dict #[] } = hp at hnew ho' ch' hsz keep ⊢
  refine ⟨hnew.typeIs, F.args_dict_init_2 _ _, ?_⟩
  unfold Builtin.«dict.__init__»
  refine wpAny_bind ?_
  unfold Builtin.Dict.selfAndRest
  refine wpAny_bind (wpAny_notOrdered_dict hnew.typeIs ?_)
  show wpAny _ _ (pure (s.heap.objs.size, [Value.ref l])) _ _ _
  refine wpAny_pure ?_
  show wpAny _ _ (Builtin.Dict.updateFrom "dict.__init__" s.heap.objs.size (.ref l) [] .none) _ _ _
  unfold Builtin.Dict.updateFrom
  have hT : Shared.TypeIs { s with heap := hp } (.ref l) "list" := ⟨_, ho', hcl⟩
  refine wpAny_bind (wpAny_typeOf hT ?_)
  rw [if_pos (by decide)]
  refine wpAny_bind ?_
  refine no_keys (s := { s with heap := hp }) (HdC.hd (A := A.in1.in1) hc ch') ho' hcl hdi hda fun h2 tk2 k2 => ?_
  have ho2 := k2 _ _ ho'
  have hl2 : h2.IsList l its := ⟨_, ho2, hcl, nn, hda⟩
  have ch2 : Chn h2 cs := ch'.mono fun b o _ e => k2 b o e
  rw [if_pos (show (none : Option Value).isNone = true from rfl)]
  refine wpAny_bind (wpAny_rule ?_)
  refine wpAny_bind (wpAny_pyIter_list hl2 ?_)
  have sz2 : s.heap.objs.size < h2.objs.size := by
    obtain ⟨o, es, ep, hg, _⟩ := hnew
    exact Heap.lt_size (k2 _ _ hg)
  have ll : l < s.heap.objs.size := Heap.lt_size ho
  have W := (walks_list (prog := prog) (w := w) (A := A.in1.in1) hc h2.objs.size l (Nat.ne_of_lt (Nat.lt_trans ll sz2)) (fun z => absurd (Nat.lt_trans (lt _ z) sz2) (Nat.lt_irrefl _)) its).toS
  refine wpAny_pure ⟨plainId_quiet plain_dict_loop _, dict_loop (knd := knd) (A := A.in1) W (fun z => ?_) hz _ ks vs kvs .none (fun i v hv => ?_) hs hl (its.size - 0) 0 _ rfl (Nat.zero_le _) ⟨⟨_, Heap.get?_push_size _ rfl, rfl, rfl⟩, hl2.push _, ch2.mono fun b o _ e => Heap.get?_push_of_some _ e⟩ ⟨fun _ _ _ e => e, W.grefl _, rfl, rfl, Nat.le_refl _⟩ ?_ fun s' hm hD => ?_⟩
  · rcases List.mem_cons.mp z with z | z
    · exact absurd z (Nat.ne_of_lt sz2)
    · rcases List.mem_cons.mp z with z | z
      · exact absurd z (Nat.ne_of_gt ll)
      · exact Nat.lt_irrefl _ (lt _ z)
  · obtain ⟨t, key, e1, ⟨ot, hot, r⟩, hk⟩ := hval i v hv
    have tl := Heap.lt_size hot
    refine ⟨t, key, e1, ⟨ot, Heap.get?_push_of_some _ (k2 _ _ (keep _ _ hot)), r⟩, fun z => ?_, hk⟩
    rcases List.mem_cons.mp z with z | z
    · exact absurd z (Nat.ne_of_lt tl)
    · exact absurd (List.mem_singleton.mp z) (Nat.ne_of_lt (Nat.lt_trans tl sz2))
  · rw [h0]
    obtain ⟨o, es, ep, hg, rest⟩ := hnew
    exact ⟨o, es, ep, Heap.get?_push_of_some _ (k2 _ _ hg), rest⟩
  · obtain ⟨h', g', d', tk', os'⟩ := s'
    have eg : g' = s.gens := hm.gens
    have ed : d' = s.drawn := hm.drawn
    have eo : os' = s.os := hm.os
    subst eg; subst ed; subst eo
    refine ⟨rfl, h h' tk' hD fun b o e => hm.heap b o (fun z => ?_) (Heap.get?_push_of_some _ (k2 _ _ (keep _ _ e)))⟩
    have bl := Heap.lt_size e
    rcases List.mem_cons.mp z with z | z
    · exact absurd z (Nat.ne_of_lt bl)
    · exact absurd (List.mem_singleton.mp z) (Nat.ne_of_lt (Nat.lt_trans bl sz2))
end
end L2

/-! ### dict of a list of pairs: the rule -/
namespace L2
open PySem PySem.Spec PyProof.Rows
/-- at ys stand pairs: a key and a value each -/
def PairsAt (K : PySem.W.Frag) (H : Hp) : List (Key × V) → List V → Prop
  | [], ys => ys = []
  | kv :: r, ys => ∃ t ys', ys = .ref t :: ys' ∧ SqT K H t [kV kv.1, kv.2] ∧ PairsAt K H r ys'
def put1 (m : List (Key × V)) (kv : Key × V) : List (Key × V) := putK m kv.1 kv.2
def mkD (kvs : List (Key × V)) : List (Key × V) := kvs.foldl put1 []
def stN (us : List (Key × Value)) : Nat → List (Key × Value)
  | 0 => []
  | i + 1 => stored (stN us i) (us.getD i (Sum.inl 0, .none)).1 (us.getD i (Sum.inl 0, .none)).2
theorem stN_len (us : List (Key × Value)) : ∀ i, (stN us i).length ≤ i
  | 0 => Nat.le_refl _
  | i + 1 => Nat.le_trans (stored_length_le _ _ _) (Nat.succ_le_succ (stN_len us i))
theorem mkD_len : ∀ (kvs m : List (Key × V)), (kvs.foldl put1 m).length ≤ m.length + kvs.length
  | [], _ => Nat.le_refl _
  | kv :: r, m => by
    have h1 := mkD_len r (put1 m kv)
    have h2 := length_putK m kv.1 kv.2
    show (r.foldl put1 (put1 m kv)).length ≤ _
    unfold put1 at h1 ⊢
    rw [List.length_cons]
    omega
section
variable {X : Cx} {pins : List (Addr × Obj)} {σ : St} {H : Hp} {s : Shared}
theorem pairs_us (I : Inv X pins σ H s) : ∀ {kvs : List (Key × V)} {ys : List V} {its : List Value}, PairsAt X.K H kvs ys → Vals ys its → ∃ us : List (Key × Value), us.length = its.length ∧ kvs.length = us.length ∧
    (∀ i v, its[i]? = some v → ∃ t key, v = .ref t ∧ s.heap.IsTuple t #[key, (us.getD i (Sum.inl 0, .none)).2] ∧ (mixKind X.prog X.w).is (us.getD i (Sum.inl 0, .none)).1 key = true) ∧
    ∀ i kv, kvs[i]? = some kv → kv.1 = (us.getD i (Sum.inl 0, .none)).1 ∧ RelV kv.2 (us.getD i (Sum.inl 0, .none)).2
  | [], _, _, h, r => by
    obtain rfl : _ = [] := h
    cases r
    exact ⟨[], rfl, rfl, (fun i v hv => by simp at hv), fun i kv hk => by simp at hk⟩
  | kv :: kvs, _, _, h, r => by
    obtain ⟨t, ys', rfl, ht, h'⟩ := h
    cases r with
    | cons r1 r2 =>
      obtain rfl := (show _ = Value.ref t from r1)
      obtain ⟨us, e1, e2, e3, e4⟩ := pairs_us I h' r2
      obtain ⟨ti, rv, hT, _⟩ := I.tuple ht
      obtain ⟨key, u, rfl, q1, q2⟩ := vals2 rv
      refine ⟨(kv.1, u) :: us, by rw [List.length_cons, List.length_cons, e1], by rw [List.length_cons, List.length_cons, e2], fun i v hv => ?_, fun i kv' hk => ?_⟩
      · cases i with
        | zero =>
          obtain rfl : Value.ref t = v := Option.some.inj hv
          exact ⟨t, key, rfl, hT, kV_is q1⟩
        | succ i => exact e3 i v hv
      · cases i with
        | zero =>
          obtain rfl : kv = kv' := Option.some.inj hk
          exact ⟨rfl, q2⟩
        | succ i => exact e4 i kv' hk
theorem kv_stN {kvs : List (Key × V)} {us : List (Key × Value)} (h : ∀ i kv, kvs[i]? = some kv → kv.1 = (us.getD i (Sum.inl 0, .none)).1 ∧ RelV kv.2 (us.getD i (Sum.inl 0, .none)).2) : ∀ i, i ≤ kvs.length → KV ((kvs.take i).foldl put1 []) (stN us i)
  | 0, _ => by rw [List.take_zero]; exact .nil
  | i + 1, hi => by
    obtain ⟨kv, hk⟩ : ∃ kv, kvs[i]? = some kv := ⟨_, List.getElem?_eq_getElem (by omega)⟩
    obtain ⟨e1, e2⟩ := h i kv hk
    have ih := kv_stN h i (by omega)
    rw [List.take_add_one, hk, List.foldl_append]
    show KV (put1 ((kvs.take i).foldl put1 []) kv) (stored (stN us i) _ _)
    rw [← e1]
    exact ih.put _ e2
end
section
variable {X : Cx}
theorem call_dictP : CallR X (.type "dict") (fun xs H Q => ∃ p ys kvs, xs = [.ref p] ∧ SqL X.K H p ys ∧ PairsAt X.K H kvs ys ∧ kvs.length ≤ 1000 ∧ ∀ d, H d = none → Q (.ref d) (upd H d (.dK (mkD kvs)))) := by
  intro pins s σ H xs us Q I r h
  obtain ⟨p, ys, kvs, rfl, hq, hP, hlen, q⟩ := h
  obtain ⟨u, rfl, ru⟩ := vals1 r
  obtain rfl : u = Value.ref p := ru
  obtain ⟨its, rv, ⟨ol, nn, e1, e2, e3, e4⟩, _⟩ := I.list hq
  obtain ⟨us, l1, l2, p1, p2⟩ := pairs_us I hP rv
  obtain ⟨cs, hcs, ch⟩ := I.hd.chain
  have hz : its.toArray.size = kvs.length := by simp [l2, l1]
  refine dict_pairs (knd := mixKind X.prog X.w) hcs ch e1 e2 e3 e4 (by rw [hz]; exact hlen) (fun i => (us.getD i (Sum.inl 0, .none)).1) (fun i => (us.getD i (Sum.inl 0, .none)).2) (stN us) rfl (fun _ => rfl) (stN_len us) (fun i v hv => p1 i v (by simpa using hv)) fun h' tk hD hk => ?_
  have ne : (s.heap.objs.size == sysModules) = false := (dk_empty (P := X.prog) (w := X.w) (H := H) s.heap I.big).2.1
  have rel := kv_stN p2 kvs.length (Nat.le_refl _)
  rw [List.take_length] at rel
  rw [hz] at hD
  have z : (mkD kvs).length ≤ sizeLine := by
    have := mkD_len kvs []
    have z0 : ([] : List (Key × V)).length = 0 := rfl
    rw [sizeLine_eq]
    unfold mkD
    omega
  refine ⟨.ref s.heap.objs.size, _, I.laid (a := s.heap.objs.size) (o := .dK (mkD kvs)) (t' := tk) (fun b o e => hk b o e) (Nat.le_refl _) ⟨z, ne, _, rel, hD⟩, rfl, q _ (I.hok.fresh (Nat.le_refl _))⟩
end
end L2

/-! ### three lists of texts in a list -/
namespace L2
open PySem PySem.Spec PyProof.Rows
end L2

/-! ### tuples of data and dicts that are alike -/
namespace L2
open PySem PySem.Spec PyProof.Rows PySem.SeqAt
open AutoSeq1 (wpAny_loadPart')
section
variable {prog : Program} {w : World} {A : Around} {s : Shared}
/-- within this program -/
def EqP (prog : Program) (w : World) (A : Around) (s : Shared) (u v : Value) : Prop :=
  ∀ (E : Value → Shared → Prop) (Q : Bool → Shared → Prop), Q true s → wpAny (model prog w) A (eqBool u v) Q E s
theorem EqP.of {u v : Value} (h : EqAt A s u v true) : EqP prog w A s u v := fun E Q q => h prog w E Q q
theorem EqP.refs {a b : Addr} (h : ∀ (E : Value → Shared → Prop) (Q : Value → Shared → Prop), Q (.bool true) s → wpAny (model prog w) A (richCompare .Eq (.ref a) (.ref b)) Q E s) : EqP prog w A s (.ref a) (.ref b) := fun E Q q => by
  by_cases e : a = b
  · subst e
    exact EqP.of (EqAt.same _) E Q q
  · unfold eqBool
    refine wpAny_holding (wpAny_ite_split (fun z => ?_) fun _ => wpAny_bind (h E _ (wpAny_truthy_bool q)))
    have z' := eq_of_beq z
    injection z' with z'
    exact (e z').elim
theorem tups_alike {a b : Addr} {xs ys : Array Value} (ha : s.heap.IsTuple a xs) (hb : s.heap.IsTuple b ys) (sz : xs.size = ys.size) (hu : A.units < cLine)
    (al : ∀ j (h1 : j < xs.size) (h2 : j < ys.size), EqP prog w A.in1 s xs[j] ys[j]) {E : Value → Shared → Prop} {Q : Value → Shared → Prop} (q : Q (.bool true) s) : wpAny (model prog w) A (richCompare .Eq (.ref a) (.ref b)) Q E s := by
  obtain ⟨⟨c1, d1, p1, l1⟩, o1, e1, n1, f1⟩ := id ha
  obtain ⟨⟨c2, d2, p2, l2⟩, o2, e2, n2, f2⟩ := id hb
  dsimp only at e1 f1 e2 f2
  subst e1 f1 e2 f2
  have t1 : s.TypeIs (.ref a) "tuple" := ⟨_, o1, rfl⟩
  have t2 : s.TypeIs (.ref b) "tuple" := ⟨_, o2, rfl⟩
  refine wpAny_richCompare_same_room (op := .Eq) t1 t2 PySem.F.slot_tuple_eq (wpAny_call_entry PySem.F.slot_tuple_eq t1 PySem.F.entry_tuple_eq ?_ (PySem.F.args_tuple_eq_2 _ _)) hu
  obtain ⟨hp, gn, dd, tk, os⟩ := s
  have sub := AutoSeq1.sub_tuple_tuple
  wp_walk using wpAny_loadPart' o1, wpAny_loadPart' o2, wpAny_forIn_list _ (fun rest r z => r.1 = none ∧ z = ⟨hp, gn, dd, tk, os⟩ ∧ ∃ i, rest = (xs.toList.zip ys.toList).drop i) _
  case turn =>
    rintro ⟨u, v⟩ rest r z ⟨hr, rfl, i, hi⟩
    have li : i < (xs.toList.zip ys.toList).length := by
      by_cases c : i < (xs.toList.zip ys.toList).length
      · exact c
      · rw [List.drop_of_length_le (by omega)] at hi
        cases hi
    have k1 : i < xs.size := by simp at li; omega
    have k2 : i < ys.size := by omega
    rw [List.drop_eq_getElem_cons li] at hi
    injection hi with hu' hrest
    have hu1 : u = xs[i] := by simpa using congrArg Prod.fst hu'
    have hv1 : v = ys[i] := by simpa using congrArg Prod.snd hu'
    subst hu1 hv1
    refine wpAny_bind (al i k1 k2 _ _ ?_)
    wp_walk
    exact ⟨rfl, rfl, i + 1, hrest⟩
  case fin =>
    rintro ⟨r1, r2⟩ z ⟨hr, rfl, i, hi⟩
    dsimp only at hr
    subst hr
    wp_walk
    refine ⟨_, rfl, nofun, ?_⟩
    rw [sz]
    simpa [Builtin.Tuple.tupleCompareSizes] using q
  case h => exact ⟨rfl, rfl, 0, rfl⟩
end
section
variable {X : Cx} {pins : List (Addr × Obj)} {σ : St} {H : Hp} {s : Shared} {A : Around}
/-- all values are data -/
def FlatK (K : PySem.W.Frag) (H : Hp) (kvs : List (Key × V)) : Prop := ∀ p ∈ kvs, ∃ d, DtV K H d p.2 ∧ DeepLe 20 d
theorem valV_mem {kvs : List (Key × V)} : (kvs.map (·.1)).Nodup → ∀ p ∈ kvs, valV kvs p.1 = some p.2 := by
  induction kvs with
  | nil => intro _ p hp; cases hp
  | cons q r ih =>
    intro nd p hp
    rw [List.map_cons, List.nodup_cons] at nd
    rcases List.mem_cons.mp hp with rfl | hp
    · exact valV_pos rfl
    · rw [valV_neg (fun e => nd.1 (by rw [e]; exact List.mem_map_of_mem hp))]
      exact ih nd.2 p hp
theorem Inv.dicHits (I : Inv X pins σ H s) {kvs : List (Key × V)} {kb : List (Key × Value)} (rb : KV kvs kb) (nd : (kvs.map (·.1)).Nodup) (f : FlatK X.K H kvs) (hu : A.units + 20 < cLine) :
    ∀ {l : List (Key × V)} {ka : List (Key × Value)}, KV l ka → (∀ p ∈ l, p ∈ kvs) → PySem.W.KeqHits A s kb ka true
  | [], [], _, _ => .nil
  | (k, y) :: l, (k', v) :: ka, .cons r0 r, m => by
    have e : k = k' := r0.1
    have ry : RelV y v := r0.2
    subst e
    have hv := valV_mem nd (k, y) (m _ List.mem_cons_self)
    have rel := rb.val k
    dsimp only at hv
    rw [hv] at rel
    cases e : valueAt kb k with
    | none => rw [e] at rel; exact rel.elim
    | some v' =>
      rw [e] at rel
      obtain ⟨d, hd, dd⟩ := f _ (m _ List.mem_cons_self)
      have q := I.eqAt (A := A) hd hd ry rel dd hu
      rw [eqD_refl] at q
      exact .hit e q (Inv.dicHits I rb nd f hu r fun p hp => m p (List.mem_cons_of_mem _ hp))
/-- two values that are alike: data, or dicts with the same keys and values -/
def Alike (K : PySem.W.Frag) (H : Hp) (x y : V) : Prop := (∃ d, DtV K H d x ∧ DtV K H d y ∧ DeepLe 30 d) ∨ ∃ a b kvs, x = .ref a ∧ y = .ref b ∧ H a = some (.dK kvs) ∧ H b = some (.dK kvs) ∧ FlatK K H kvs
def Alikes (K : PySem.W.Frag) (H : Hp) : List V → List V → Prop
  | [], [] => True
  | x :: xs, y :: ys => Alike K H x y ∧ Alikes K H xs ys
  | _, _ => False
theorem Alikes.len {K : PySem.W.Frag} {H : Hp} : ∀ {xs ys : List V}, Alikes K H xs ys → xs.length = ys.length
  | [], [], _ => rfl
  | _ :: _, _ :: _, h => by rw [List.length_cons, List.length_cons, Alikes.len h.2]
  | [], _ :: _, h => h.elim
  | _ :: _, [], h => h.elim
theorem Alikes.at {K : PySem.W.Frag} {H : Hp} : ∀ {xs ys : List V} {j : Nat} {x y : V}, Alikes K H xs ys → xs[j]? = some x → ys[j]? = some y → Alike K H x y
  | x :: xs, y :: ys, 0, _, _, h, e1, e2 => by
    cases e1
    cases e2
    exact h.1
  | x :: xs, y :: ys, j + 1, _, _, h, e1, e2 => Alikes.at (j := j) h.2 (by simpa using e1) (by simpa using e2)
  | [], [], _, _, _, _, e1, _ => by simp at e1
  | [], _ :: _, _, _, _, h, _, _ => h.elim
  | _ :: _, [], _, _, _, h, _, _ => h.elim
theorem Inv.dics (I : Inv X pins σ H s) {a b : Addr} {kvs : List (Key × V)} (ha : H a = some (.dK kvs)) (hb : H b = some (.dK kvs)) (f : FlatK X.K H kvs) (hu : A.units + 21 < cLine) {E : Value → Shared → Prop} {Q : Value → Shared → Prop} (q : Q (.bool true) s) :
    wpAny (model X.prog X.w) A (richCompare .Eq (.ref a) (.ref b)) Q E s := by
  obtain ⟨_, na, va, ra, da⟩ := dk_of I.hok ha
  obtain ⟨_, nb, vb, rb, db⟩ := dk_of I.hok hb
  have nd : (kvs.map (·.1)).Nodup := by
    obtain ⟨_, _, _, _, _, _, _, _, nd⟩ := da
    rw [ra.keys]
    exact nd
  refine PySem.W.keq_eq na nb da db (by omega) (fun _ => I.dicHits (A := A.in1) rb nd f (show A.units + 1 + 20 < cLine by omega) ra fun p hp => hp) ?_
  rw [← ra.length, ← rb.length]
  simpa using q
theorem Inv.alike (I : Inv X pins σ H s) {x y : V} {u v : Value} (h : Alike X.K H x y) (rx : RelV x u) (ry : RelV y v) (hu : A.units + 31 < cLine) : EqP X.prog X.w A s u v := by
  rcases h with ⟨d, h1, h2, hd⟩ | ⟨a, b, kvs, rfl, rfl, ha, hb, f⟩
  · have q := I.eqAt (A := A) h1 h2 rx ry hd (by omega)
    rw [eqD_refl] at q
    exact EqP.of q
  · obtain rfl : u = Value.ref a := rx
    obtain rfl : v = Value.ref b := ry
    exact EqP.refs fun E Q q => I.dics ha hb f (by omega) q
/-- x == y of two tuples of which each two items are alike -/
def rEqT (K : PySem.W.Frag) : R2 := fun x y H Q => ∃ a b xs ys, x = .ref a ∧ y = .ref b ∧ SqT K H a xs ∧ SqT K H b ys ∧ Alikes K H xs ys ∧ Q (.bl true) H
theorem op_eqT (hu : X.A.units + 64 < cLine) : OpR X (compareOp .Eq) (rEqT X.K) := by
  intro pins s σ H x y v u Q I rx ry h
  obtain ⟨a, b, xs, ys, rfl, rfl, ha, hb, al, q⟩ := h
  obtain rfl : v = Value.ref a := rx
  obtain rfl : u = Value.ref b := ry
  obtain ⟨its, rv, hl⟩ := I.isT ha
  obtain ⟨its', rv', hl'⟩ := I.isT hb
  have n1 : xs.length = its.length := rv.length
  have n2 : ys.length = its'.length := rv'.length
  have n3 := al.len
  refine tups_alike hl hl' (by simp; omega) (by omega) (fun j j1 j2 => ?_) ⟨.bl true, H, I, rfl, q⟩
  have j1 : j < its.length := by simpa using j1
  have j2 : j < its'.length := by simpa using j2
  obtain ⟨x', hx'⟩ := get_of (l := xs) (j := j) (by omega)
  obtain ⟨y', hy'⟩ := get_of (l := ys) (j := j) (by omega)
  obtain ⟨u', hu', ru⟩ := rv.get hx'
  obtain ⟨v', hv', rw'⟩ := rv'.get hy'
  have q1 : its.toArray[j] = u' := by simpa using (List.getElem?_eq_some_iff.mp hu').2
  have q2 : its'.toArray[j] = v' := by simpa using (List.getElem?_eq_some_iff.mp hv').2
  rw [q1, q2]
  exact I.alike (al.at hx' hy') ru rw' (show X.A.units + 1 + 31 < cLine by omega)
/-- x == y, x != y of two dicts with the same keys and values -/
def rEqK (K : PySem.W.Frag) : R2 := fun x y H Q => ∃ a b kvs, x = .ref a ∧ y = .ref b ∧ H a = some (.dK kvs) ∧ H b = some (.dK kvs) ∧ FlatK K H kvs ∧ Q (.bl true) H
end
end L2

/-! ### int.bit_length, dict.clear -/
namespace L2
open PySem PySem.Spec PyProof.Rows
section
variable {X : Cx}
def rBitLen : V → List V → Hp → VK → Prop := fun x vs H Q => ∃ n : Nat, x = .int n ∧ vs = [] ∧ Q (.int (Builtin.Int.intBits n : Nat)) H
def rClearD : V → List V → Hp → VK → Prop := fun x vs H Q => ∃ d kvs, x = .ref d ∧ vs = [] ∧ H d = some (.dK kvs) ∧ Q .non (upd H d (.dK []))
end
end L2

/-! ### comprehensions whose own names are read by a comprehension within -/
namespace L2
open PySem PySem.Spec PyProof.Rows
/-- as compCx; its own cells may be stored -/
def compCxG (X : Cx) (scope : Scope) (cl : List (Str × Addr)) (C : Addr) (N : List Str) (s : Shared) (H : Hp) (fp : List Addr) (pins : List (Addr × Obj)) : Cx :=
  { compCx X scope cl C N s H fp pins with fn := fun x => scope.names.lookup x == some NameKind.cell }
def capOkG (osc sc : Scope) (XN N : List Str) (cap : List (Option Nat)) : Bool :=
  (sc.kind == ScopeKind.function) && sc.names.all (fun y => y.2 != NameKind.cell || sc.names.lookup y.1 == some NameKind.cell) && sc.names.all (fun y => y.2 != NameKind.local || sc.names.lookup y.1 == some NameKind.local) &&
  sc.names.all (fun y => y.2 != NameKind.free || isCF (osc.names.lookup y.1)) && capAt sc XN cap N
section
variable {X : Cx} {pins : List (Addr × Obj)} {σ : St} {H : Hp} {s : Shared} {scope : Scope} {N : List Str} {cap : List (Option Nat)} {fp : List Addr}
end
section
variable {X : Cx} {elt tg iter : Expr} {ifs : List Expr} {scope : Scope} {pos : Pos} {N : List Str} {cap : List (Option Nat)} {wi : TI} {g : TG} {tt : TT} {te : TE}
end
end L2

/-! ### xs[::-1] -/
namespace L2
open PySem PySem.Spec PyProof.Rows
def tRevL (K : PySem.W.Frag) (te ts : TE) : TE := fun σ H Q => te σ H fun x H1 => ts σ H1 fun y H2 => ∃ a xs, x = .ref a ∧ y = .int (-1) ∧ SqL K H2 a xs ∧ ∀ p, H2 p = none → Q (.ref p) (upd H2 p (.lst xs.reverse))
section
variable {X : Cx} {e st : Expr} {te ts : TE} {pos p2 : Pos}
end
end L2

/-! ### // by a divisor below 2 ** 62 -/
namespace L2
open PySem PySem.Spec PyProof.Rows
end L2

/-! ### enumerate(.., start=..) -/
namespace L2
open PySem PySem.Spec PyProof.Rows
open Sem (wp)
section
variable {M : Model} {A : Around} {E : Value → Shared → Prop} {s : Shared} {env : Env}
theorem callWith_tyK {pos : Pos} {T : String} {x : Sem Value} {rest : List (Bool × Sem Value)} {kws : List (Option Str × Sem Value)} {Q : Value → Shared → Prop}
    (hp : rest.any (·.1) = false) (hk : kws.any (·.1.isNone) = false) (ha : kws.all (·.1.isSome) = true)
    (h : wpAny M A (spliced ((false, x) :: rest)) (fun vs s1 => wpAny M A (evalAll (kws.map (·.2))) (fun ks s2 => wpAny M A (call (.type T) vs ((kws.filterMap (·.1)).zip ks)) Q E s2) E s1) E s) :
    wpAny M A (callWith pos (.type T) [] ((false, x) :: rest) kws) Q E s := by
  unfold callWith
  refine wpAny_bind (wpAny_holding (evalArgs_kwB ha (wpAny_mono h (fun vs s1 h1 => wpAny_mono h1 (fun ks s2 h2 => ?_) fun _ _ z => z) fun _ _ z => z)))
  refine wpAny_bind (wpAny_standAt ?_)
  have hs : (((false, x) :: rest).any (·.1) || kws.any (·.1.isNone)) = false := by rw [List.any_cons, hp, hk]; rfl
  simp only [hs]
  refine wpAny_bind (wpAny_pure ?_)
  exact wpAny_bind (wpAny_mono h2 (fun r s3 hr => wpAny_bind (wpAny_holding (wpAny_point (wpAny_pure hr)))) fun _ _ z => z)
end
section
variable {prog : Program} {w : World} {A : Around} {E : Value → Shared → Prop} {s : Shared}
theorem enumK_new (l : Addr) (items : Array Value) (n : Nat) (dct : Option Addr) (sl : Array (Option Value)) (k : Nat) (t : Tok) (hk : k < 2 ^ 62) :
    Meets (Builtin.«enumerate.__new__» ⟨[.type "enumerate", .ref l], [(Str.ofString "start", .int k t)]⟩) (fun _ R s => s.heap.get? l = some { cls := .type "list", dict := dct, data := .seq items n, slots := sl } ∧
      R (.ok (.ret (.ref (s.heap.push { cls := .type "list_iterator", data := .fields #[.ref l, .int 0 0] }).objs.size))) { s with heap := (s.heap.push { cls := .type "list_iterator", data := .fields #[.ref l, .int 0 0] }).push { cls := .type "enumerate", data := .fields #[.none, .bool false, .ref s.heap.objs.size, rawInt k, .none, .none] } }) :=
  .of_wp fun prog w A R s h => by
    obtain ⟨hp, g, d, tk, os⟩ := s
    obtain ⟨hl, h⟩ := h
    have sub := sub_enumerate
    have hL : Heap.IsList (Shared.heap ⟨hp, g, d, tk, os⟩) l items := ⟨_, hl, rfl, n, rfl⟩
    wp_walk using AutoSeq1.wpAny_loadPart' hl
    have fit : (!Builtin.SmallTypes.fitsIndex (k : Int)) = false := by
      unfold Builtin.SmallTypes.fitsIndex
      rw [decide_eq_true (by omega), decide_eq_true (by omega)]
      rfl
    refine wpAny_stack_any fun st => wpAny_pure ?_
    split
    · rename_i c _ _ _ _ _
      cases (c == Value.type "enumerate")
      · simp only [Bool.false_eq_true, if_false]
        refine wpAny_bind ?_
        refine wpAny_of_eq (a := (Value.ref l, some (Value.int (k : Int) t))) ?e1 ?_
        case e1 => kernel_rfl
        refine wpAny_bind ?_
        refine wpAny_of_eq (a := Value.int (k : Int) t) ?e2 ?_
        case e2 => rfl
        refine wpAny_bind ?_
        refine wpAny_of_eq (a := some (k : Int)) ?e3 ?_
        case e3 => rfl
        dsimp only
        rw [if_neg (by rw [fit]; exact Bool.false_ne_true)]
        refine wpAny_bind (wpAny_pyIter_list hL ?_)
        wp_walk
        exact ⟨_, rfl, h⟩
      · simp only [if_true]
        refine wpAny_bind ?_
        refine wpAny_of_eq (a := (Value.ref l, some (Value.int (k : Int) t))) ?e1 ?_
        case e1 => kernel_rfl
        refine wpAny_bind ?_
        refine wpAny_of_eq (a := Value.int (k : Int) t) ?e2 ?_
        case e2 => rfl
        refine wpAny_bind ?_
        refine wpAny_of_eq (a := some (k : Int)) ?e3 ?_
        case e3 => rfl
        dsimp only
        rw [if_neg (by rw [fit]; exact Bool.false_ne_true)]
        refine wpAny_bind (wpAny_pyIter_list hL ?_)
        wp_walk
        exact ⟨_, rfl, h⟩
    · simp only [Bool.false_eq_true, if_false]
      refine wpAny_bind ?_
      refine wpAny_of_eq (a := (Value.ref l, some (Value.int (k : Int) t))) ?e1 ?_
      case e1 => kernel_rfl
      refine wpAny_bind ?_
      refine wpAny_of_eq (a := Value.int (k : Int) t) ?e2 ?_
      case e2 => rfl
      refine wpAny_bind ?_
      refine wpAny_of_eq (a := some (k : Int)) ?e3 ?_
      case e3 => rfl
      dsimp only
      rw [if_neg (by rw [fit]; exact Bool.false_ne_true)]
      refine wpAny_bind (wpAny_pyIter_list hL ?_)
      wp_walk
      exact ⟨_, rfl, h⟩
/-- a call of a builtin type with words by name; its objects are made by a __new__ of its own -/
theorem callTyK {T nw : String} {Bn : Builtin} {as : List Value} {kw : List (Str × Value)} {S : PySem.Spec} {Q : Value → Shared → Prop} (ft : TypeCalled T nw "object.__init__")
    (hne : (some nw != some "object.__new__") = true) (hct : checkTypeCall T ⟨as, kw⟩ = pure ()) (hcn : checkBuiltinCall nw ⟨.type T :: as, kw⟩ = pure ()) (hok : ∀ o, argsOk "object.__init__" ⟨o :: as, kw⟩)
    (hin : ∀ o, Meets (Builtin.«object.__init__» ⟨o :: as, kw⟩) (fun _ R s => s.TypeIs o T ∧ R (.ok (.ret .none)) s))
    (en : entryFor table nw = some Bn) (g : Meets (Bn ⟨.type T :: as, kw⟩) S) (h : S A.in1 (wants (fun o s1 => s1.TypeIs o T ∧ Q o s1) E) s) : wpAny (model prog w) A (call (.type T) as kw) Q E s := by
  obtain ⟨c1, tl1, mro1⟩ := ft.mro
  have f1 := ft.made
  have f2 := ft.sub
  have f3 := ft.notType
  have f4 := ft.canCreate
  refine wpAny_call (codeAny_of_tree (show wpAny _ _ (callAny (.type T) _) _ _ _ from wpAny_pure ⟨Code.quiet_builtin _ (by decide +kernel), codeAny_builtin F.entry_type_call ?_⟩))
  rw [Around.under_plain (weight_type_call_type T as kw) (units_type_call_type T as kw)]
  repeat (any_goals (first | assumption | wp_step))
  refine codeAny_mono (codeAny_call_builtin ft.plain en (wpAny_of_eq hcn (g prog w A.in1 _ s h))) fun r s1 hr => ?_
  match r, hr with
  | .error _, hr => exact hr
  | .ok (.ret o), hr =>
    obtain ⟨hT, hq⟩ := hr
    have i1 := ft.init.lookup
    have i2 := ft.init.bind o
    repeat (any_goals (first | assumption | wp_step))
    refine codeAny_mono (codeAny_call_builtin ft.init.plain F.entry_object_init (ft.init.check _ _ _ _ _ _ _ _ hT (hok o) (hin o prog w A.in1 (wants (fun r s2 => r = .none ∧ s2 = s1) (fun _ _ => False)) s1 ⟨hT, rfl, rfl⟩))) fun r2 s2 hr2 => ?_
    match r2, hr2 with
    | .error _, hr2 => exact hr2.elim
    | .ok (.ret v), hr2 =>
      obtain ⟨rfl, rfl⟩ := hr2
      repeat (any_goals (first | assumption | wp_step))
    | .ok .next, hr2 => exact hr2.elim
    | .ok .brk, hr2 => exact hr2.elim
    | .ok .cont, hr2 => exact hr2.elim
  | .ok .next, hr => exact hr.elim
  | .ok .brk, hr => exact hr.elim
  | .ok .cont, hr => exact hr.elim
end
section
variable {prog : Program} {w : World} {A : Around} {E : Value → Shared → Prop} {s : Shared}
theorem enumK_init (o x : Value) (kw : List (Str × Value)) : Meets (Builtin.«object.__init__» ⟨[o, x], kw⟩) (fun _ R s => s.TypeIs o "enumerate" ∧ R (.ok (.ret .none)) s) := by
  refine Meets.of_wp fun prog w A R s hs => ?_
  obtain ⟨hT, hq⟩ := hs
  have l1 := F.called_enumerate.init.lookup
  have l2 := F.called_enumerate.made
  repeat (any_goals (first | assumption | wp_step))
  exact ⟨_, rfl, hq⟩
theorem call_enumK {l : Addr} {items : Array Value} {k : Nat} {t : Tok} (hk : k < 2 ^ 62) {Q : Value → Shared → Prop} (hL : s.heap.IsList l items)
    (h : ∀ h', IsEnum h' (s.heap.objs.size + 1) s.heap.objs.size k .none → h'.IsListIter s.heap.objs.size l 0 → (∀ b o, s.heap.get? b = some o → h'.get? b = some o) → Q (.ref (s.heap.objs.size + 1)) { s with heap := h' }) :
    wpAny (model prog w) A (call (.type "enumerate") [.ref l] [(Str.ofString "start", .int k t)]) Q E s := by
  obtain ⟨⟨c, dct, dt, sl⟩, hl, hc, n, hd⟩ := hL
  dsimp only at hc hd
  subst hc hd
  have hz : (s.heap.push { cls := .type "list_iterator", data := .fields #[.ref l, .int 0 0] }).objs.size = s.heap.objs.size + 1 := Heap.size_push ..
  refine callTyK F.called_enumerate (by decide) (by kernel_rfl) (by kernel_rfl) (fun o => by first | rfl | kernel_rfl) (fun o => enumK_init o _ _) F.entry_enumerate_new (enumK_new l items n dct sl k t hk) ⟨hl, ?_⟩
  show _ ∧ _
  rw [hz]
  have he := Heap.get?_push_size (s.heap.push { cls := .type "list_iterator", data := .fields #[.ref l, .int 0 0] }) (o := { cls := .type "enumerate", data := .fields #[.none, .bool false, .ref s.heap.objs.size, rawInt k, .none, .none] }) rfl
  rw [hz] at he
  exact ⟨⟨_, he, rfl⟩, h _ he ⟨_, Heap.get?_push_of_some _ (Heap.get?_push_size _ rfl), rfl, rfl⟩ fun b o e => Heap.get?_push_of_some _ (Heap.get?_push_of_some _ e)⟩
end
section
variable {prog : Program} {w : World} {A : Around} {E : Value → Shared → Prop} {s : Shared}
/-- the next pair, counted from j on -/
theorem enumK_next {e it l : Addr} {i : Nat} {j : Int} {xs : Array Value} {x old : Value} {Q : Value → Shared → Prop} (he : IsEnum s.heap e it j old) (hit : s.heap.IsListIter it l i) (hl : s.heap.IsList l xs) (hx : xs[i]? = some x) (ne : e ≠ it)
    (hQ : ∀ h', IsEnumOut h' e it (j + 1) x s.heap.objs.size → h'.IsListIter it l (i + 1) → h'.get? s.heap.objs.size = some { cls := .type "tuple", data := .seq #[.int j s.toks, x] } → (∀ b o, b ≠ e → b ≠ it → s.heap.get? b = some o → h'.get? b = some o) →
      Q (.ref s.heap.objs.size) { s with heap := h', toks := s.toks + 1 }) :
    wpAny (model prog w) A (Builtin.«enumerate.__next__» ⟨[.ref e], []⟩) (fun fin s' => ∃ v, fin = .done (.ret v) ∧ Q v s') E s := by
  obtain ⟨hp, gn, dr, tk, os⟩ := s
  refine (show wpAny _ _ (field (.ref e) 2 >>= _) _ _ _ from wpAny_bind (wpAny_field he rfl (x := .ref it) rfl (wpAny_bind (wpAny_nextOf_list_item hit hl hx fun g1 it1 b1 => ?_))))
  replace b1 : Heap.SameBut it hp g1 := b1
  have e1 : IsEnum g1 e it j old := (b1.2 e ne).trans he
  refine (show wpAny _ _ (field (.ref e) 3 >>= _) _ _ ⟨g1, gn, dr, tk, os⟩ from wpAny_bind (wpAny_field e1 rfl (x := rawInt j) rfl ?_))
  refine (show wpAny _ _ (field (.ref e) 4 >>= _) _ _ ⟨g1, gn, dr, tk, os⟩ from wpAny_bind (wpAny_field e1 rfl (x := .none) rfl ?_))
  refine (show wpAny _ _ (mkInt j >>= _) _ _ ⟨g1, gn, dr, tk, os⟩ from wpAny_bind (wpAny_mkInt ?_))
  refine (show wpAny _ _ (setField (.ref e) 3 (rawInt (j + 1)) >>= _) _ _ ⟨g1, gn, dr, tk + 1, os⟩ from wpAny_bind (wpAny_setField_rec e1 (by simp) fun g2 e2 b2 => ?_))
  replace b2 : Heap.SameBut e g1 g2 := b2
  replace e2 : IsEnum g2 e it (j + 1) old := e2
  refine (show wpAny _ _ (setField (.ref e) 4 .none >>= _) _ _ ⟨g2, gn, dr, tk + 1, os⟩ from wpAny_bind (wpAny_setField_rec e2 (by simp) fun g3 e3 b3 => ?_))
  replace b3 : Heap.SameBut e g2 g3 := b3
  replace e3 : IsEnum g3 e it (j + 1) old := e3
  refine (show wpAny _ _ (newTuple [.int j tk, x] >>= _) _ _ ⟨g3, gn, dr, tk + 1, os⟩ from wpAny_bind (wpAny_newTuple ?_))
  have e4 : IsEnum (g3.push { cls := .type "tuple", data := .seq #[.int j tk, x] }) e it (j + 1) old := Heap.get?_push_of_some _ e3
  have z3 : g3.objs.size = hp.objs.size := by rw [b3.1, b2.1, b1.1]
  have el : e < hp.objs.size := Heap.lt_size he
  have tu : (g3.push { cls := .type "tuple", data := .seq #[.int j tk, x] }).get? hp.objs.size = some { cls := .type "tuple", data := .seq #[.int j tk, x] } := by
    rw [← z3]
    exact Heap.get?_push_size _ rfl
  have kp : ∀ b o, b ≠ e → b ≠ it → hp.get? b = some o → (g3.push { cls := .type "tuple", data := .seq #[.int j tk, x] }).get? b = some o := fun b o n1 n2 q => Heap.get?_push_of_some _ (b3.extBut b o n1 (b2.extBut b o n1 (b1.extBut b o n2 q)))
  have it4 : (g3.push { cls := .type "tuple", data := .seq #[.int j tk, x] }).IsListIter it l (i + 1) := by
    obtain ⟨o, ho, r⟩ := (it1.extBut b2.extBut (Ne.symm ne)).extBut b3.extBut (Ne.symm ne)
    exact ⟨o, Heap.get?_push_of_some _ ho, r⟩
  generalize g3.push { cls := .type "tuple", data := .seq #[.int j tk, x] } = g4 at e4 tu kp it4
  refine (show wpAny _ _ (Builtin.SmallTypes.ownedTupleIsFree (.ref e) >>= _) _ _ ⟨g4, gn, dr, tk + 1, os⟩ from ?_)
  rw [z3]
  refine wpAny_bind ?_
  unfold Builtin.SmallTypes.ownedTupleIsFree
  refine wpAny_bind (wpAny_field e4 rfl (x := .none) rfl (wpAny_pure ?_))
  simp only [if_true]
  refine wpAny_bind (wpAny_rule (wpAny_bind (wpAny_field e4 rfl (x := old) rfl (wpAny_bind (wpAny_setField_rec e4 (by simp) fun g5 e5 b5 => ?_)))))
  replace b5 : Heap.SameBut e g4 g5 := b5
  replace e5 : IsEnum g5 e it (j + 1) x := e5
  refine (show wpAny _ _ (Builtin.SmallTypes.ownedTupleHandOut (.ref e) (.ref hp.objs.size) >>= _) _ _ ⟨g5, gn, dr, tk + 1, os⟩ from wpAny_bind ?_)
  unfold Builtin.SmallTypes.ownedTupleHandOut
  refine wpAny_bind (wpAny_setField_rec e5 (by simp) fun g6 e6 b6 => ?_)
  replace b6 : Heap.SameBut e g5 g6 := b6
  replace e6 : IsEnumOut g6 e it (j + 1) x hp.objs.size := e6
  refine wpAny_setField_rec e6 (by simp) fun g7 e7 b7 => ?_
  replace b7 : Heap.SameBut e g6 g7 := b7
  replace e7 : IsEnumOut g7 e it (j + 1) x hp.objs.size := e7
  have on : ∀ b o, b ≠ e → g4.get? b = some o → g7.get? b = some o := fun b o n q => b7.extBut b o n (b6.extBut b o n (b5.extBut b o n q))
  refine wpAny_bind (wpAny_letGo (wpAny_pure ⟨_, rfl, hQ g7 e7 ?_ (on _ _ (Nat.ne_of_gt el) tu) fun b o n1 n2 q => on b o n1 (kp b o n1 n2 q)⟩))
  exact ((it4.extBut b5.extBut (Ne.symm ne)).extBut b6.extBut (Ne.symm ne)).extBut b7.extBut (Ne.symm ne)
end
section
variable {prog : Program} {w : World} {A : Around} {E : Value → Shared → Prop} {s : Shared}
theorem pyNext_enumK {e it l : Addr} {i : Nat} {j : Int} {xs : Array Value} {x old : Value} {Q : Option Value → Shared → Prop} (he : IsEnum s.heap e it j old) (hit : s.heap.IsListIter it l i) (hl : s.heap.IsList l xs) (hx : xs[i]? = some x) (ne : e ≠ it)
    (hQ : ∀ h', IsEnumOut h' e it (j + 1) x s.heap.objs.size → h'.IsListIter it l (i + 1) → h'.get? s.heap.objs.size = some { cls := .type "tuple", data := .seq #[.int j s.toks, x] } → (∀ b o, b ≠ e → b ≠ it → s.heap.get? b = some o → h'.get? b = some o) →
      Q (some (.ref s.heap.objs.size)) { s with heap := h', toks := s.toks + 1 }) : wpAny (model prog w) A (pyNext (.ref e)) Q E s := by
  have ty : s.TypeIs (.ref e) "enumerate" := ⟨_, he, rfl⟩
  unfold pyNext
  refine wpAny_bind (wpAny_attempt (wpAny_callSpecial?_slot (name := Str.ofString "__next__") ty F.slot_enumerate_next (wpAny_call_entry F.slot_enumerate_next ty F.entry_enumerate_next ?_ (F.args_enumerate_next_1 _))))
  exact enumK_next he hit hl hx ne fun h' a b c d => wpAny_pure (hQ h' a b c d)
theorem enum_endK {e it l : Addr} {i : Nat} {j : Int} {items : Array Value} {old : Value} {Q : Option Value → Shared → Prop} (hd : Hd A s.heap)
    (he : IsEnum s.heap e it j old) (hit : s.heap.IsListIter it l i) (hl : s.heap.IsList l items) (hx : items[i]? = none)
    (hQ : ∀ h', Heap.ExtBut it s.heap h' → Q none { s with heap := h' }) : wpAny (model prog w) A (pyNext (.ref e)) Q E s := by
  have ht : s.TypeIs (.ref e) "enumerate" := ⟨_, he, rfl⟩
  unfold pyNext
  refine wpAny_bind (wpAny_attempt (wpAny_callSpecial?_slot (name := Str.ofString "__next__") ht F.slot_enumerate_next (wpAny_call_entry F.slot_enumerate_next ht F.entry_enumerate_next ?_ (F.args_enumerate_next_1 _))))
  refine (show wpAny _ _ (field (.ref e) 2 >>= _) _ _ _ from wpAny_bind (wpAny_field he rfl (x := .ref it) rfl ?_))
  refine wpAny_bind (next_endH (A := A.in1) hd hit hl hx fun h' x he' hx' => ?_)
  obtain ⟨o, ho, hc⟩ := hx'
  exact wpAny_bind (wpAny_isInstance (T := "StopIteration") (b := true) ⟨o, ho, hc⟩ isSubtype_stop (wpAny_pure (hQ _ he')))
end
def IteK (K : PySem.W.Frag) (l : Addr) (k : Nat) : It :=
  ⟨fun i H => ∃ xs x, SqL K H l xs ∧ xs[i]? = some x,
   fun i H v H' => ∃ T x, v = .ref T ∧ H T = none ∧ H' = upd H T (.tup [.int ((k : Int) + i), x]) ∧ ∀ xs, SqL K H l xs → xs[i]? = some x,
   fun i H => ∃ xs, SqL K H l xs ∧ xs.length ≤ i⟩
def EnumItK (h : Heap) (e it l : Addr) (k i : Nat) : Prop := ∃ old, IsEnum h e it ((k : Int) + i) old ∧ h.IsListIter it l i
theorem turn_enumK {P : Program} {w : World} {K : PySem.W.Frag} {es : List Expr} {kx : Nat} {pos : Pos} {e it l : Addr} {st0 : Nat} (hne : e ≠ it) :
    Turn P w K (.Tuple es kx pos) (IteK K l st0) [e, it] e (fun i h => EnumItK h e it l st0 i) where
  mem := by simp
  obj := fun i h st b hb => by
    obtain ⟨old, he, ⟨o1, e1, c1, d1⟩⟩ := st
    simp only [List.mem_cons, List.not_mem_nil, or_false] at hb
    rcases hb with rfl | rfl
    · exact ⟨_, he, fun v q => by simp at q⟩
    · exact ⟨_, e1, fun v q => by rw [d1] at q; cases q⟩
  keep := fun i h h' st k => by
    obtain ⟨old, he, h1⟩ := st
    exact ⟨old, k e (by simp) _ he, h1.at fun o q => k it (by simp) o q⟩
  item := by
    intro X hP hw hK hc i pins s σ H E I hf st hg
    subst hP hw hK
    obtain ⟨xs, x, q1, hx⟩ := hg
    obtain ⟨old, he, h1⟩ := st
    obtain ⟨its, rv, pl, _⟩ := I.list q1
    obtain ⟨u, hu, ru⟩ := rv.get hx
    have nf : ∀ b ∈ [e, it], b ∉ frs X.stack := fun b hb q => (List.mem_cons.mp (I.stkSub b q)).elim (hf b hb).2.1 (hf b hb).2.2.1
    refine pyNext_enumK he h1 pl.isList (x := u) (by simpa using hu) hne fun h' a1 a2 a3 hk => ⟨_, rfl, ?_⟩
    refine wpAny_letOwnedTupleGo_enum (s := { s with heap := h', toks := s.toks + 1 }) a1 fun h'' hz' hs' => ?_
    replace hs' : Heap.SameBut e h' h'' := hs'
    have hTn : H s.heap.objs.size = none := I.hok.fresh (Nat.le_refl _)
    have lte := Heap.lt_size he
    have old' : ∀ b o, b ≠ e → b ≠ it → s.heap.get? b = some o → h''.get? b = some o := fun b o n1 n2 q => hs'.extBut b o n1 (hk b o n1 n2 q)
    have I1 : Inv X pins σ (upd H s.heap.objs.size (.tup [.int ((st0 : Int) + i), x])) { s with heap := s.heap.push { cls := .type "tuple", data := .seq #[.int ((st0 : Int) + i) s.toks, u] }, toks := s.toks + 1 } :=
      I.laid (t' := s.toks + 1) (fun b o q => Heap.get?_push_of_some _ q) (Nat.le_refl _) ⟨by show 2 ≤ sizeLine; decide, [.int ((st0 : Int) + i) s.toks, u], .cons ⟨_, rfl⟩ (.cons ru .nil), ⟨_, Heap.get?_push_size _ rfl, rfl, _, rfl⟩⟩
    have fp1 : ∀ b ∈ [e, it], FpOk X pins (upd H s.heap.objs.size (.tup [.int ((st0 : Int) + i), x])) b := fun b hb => by
      obtain ⟨f0, r⟩ := hf b hb
      refine ⟨?_, r⟩
      have lt : b < s.heap.objs.size := by
        simp only [List.mem_cons, List.not_mem_nil, or_false] at hb
        rcases hb with rfl | rfl
        · exact lte
        · obtain ⟨o, q, _⟩ := h1; exact Heap.lt_size q
      rw [upd_ne (Nat.ne_of_lt lt)]; exact f0
    have I2 : Inv X pins σ (upd H s.heap.objs.size (.tup [.int ((st0 : Int) + i), x])) { s with heap := h'', toks := s.toks + 1 } := by
      have back : ∀ b o, (s.heap.push { cls := .type "tuple", data := .seq #[.int ((st0 : Int) + i) s.toks, u] }).get? b = some o → b ≠ e → b ≠ it → h''.get? b = some o := fun b o q n1 n2 => by
        rcases Heap.get?_push_cases q with ⟨rfl, rfl⟩ | q
        · exact hs'.extBut _ _ n1 a3
        · exact old' b o n1 n2 q
      refine I1.slots (ch := [e, it]) (tk := s.toks + 1) fp1 (fun b o _ hc q => ?_) (fun b o hb q => ⟨o.slots, ?_⟩) (fun b hb o q => ?_)
      · simp only [List.mem_cons, List.not_mem_nil, or_false, not_or] at hc
        exact back b o q hc.1 hc.2
      · exact back b o q (fun z => nf e (by simp) (z ▸ hb)) (fun z => nf it (by simp) (z ▸ hb))
      · simp only [List.mem_cons, List.not_mem_nil, or_false] at hb
        rcases hb with rfl | rfl
        · exact ⟨_, hz'⟩
        · obtain ⟨o, q, _⟩ := a2; exact ⟨_, hs'.extBut _ _ hne.symm q⟩
    refine ⟨.ref s.heap.objs.size, _, I2, rfl, ⟨_, x, rfl, hTn, rfl, fun xs' q => by rw [I.list_inj q q1]; exact hx⟩, ?_, fun b hb => (fp1 b hb).1⟩
    exact ⟨u, by rw [show ((st0 : Int) + ((i + 1 : Nat) : Int)) = (st0 : Int) + i + 1 by omega]; exact hz', a2.extBut hs'.extBut hne.symm⟩
  done := by
    intro X hP hw hK hc i pins s σ H E I hf st hg
    subst hP hw hK
    obtain ⟨xs, q1, hlen⟩ := hg
    obtain ⟨old, he, h1⟩ := st
    obtain ⟨its, rv, pl, _⟩ := I.list q1
    have e1 := rv.length
    have nf : ∀ b ∈ [e, it], b ∉ frs X.stack := fun b hb q => (List.mem_cons.mp (I.stkSub b q)).elim (hf b hb).2.1 (hf b hb).2.2.1
    refine enum_endK I.hd he h1 pl.isList (by simp; omega) fun h' hk => ⟨rfl, ?_⟩
    refine I.slot0 (ch := [e, it]) (tk := s.toks) hf (fun b o _ hc q => ?_) (fun b o hb q => ⟨o.slots, ?_⟩)
    · simp only [List.mem_cons, List.not_mem_nil, or_false, not_or] at hc
      exact hk b o hc.2 q
    · exact hk b o (fun z => nf it (by simp) (z ▸ hb)) q
  self := fun _ _ s _ _ st h => by
    obtain ⟨old, he, _⟩ := st
    exact wpAny_pyIter_enum he h
def iEnumK (K : PySem.W.Frag) (ta : TA) (tb : TE) : TI := fun σ H R => ta σ H fun vs H1 => tb σ H1 fun y H2 => ∃ l, ∃ k : Nat, vs = [.ref l] ∧ y = .int k ∧ k < 2 ^ 62 ∧ (∃ xs, SqL K H2 l xs) ∧ R (IteK K l k) H2
section
variable {X : Cx}
theorem pi_enumK {es : List Expr} {kx : Nat} {tpos p pos kpos : Pos} {a b : Expr} {ta : TA} {tb : TE} (hg : Gl X "enumerate") (hm : X.mg "enumerate" = none) (ha : PA X [a] ta) (hb : PE X b tb)
    (hs : backTo pos (starEach [a] X.env) = (false, eval a X.env) :: backTo pos (starEach [] X.env) := by rfl) (hp : (backTo pos (starEach [] X.env)).any (·.1) = false := by rfl)
    (hal : (backToKw pos (keywordEach [⟨some "start", b, kpos⟩] X.env)).all (·.1.isSome) = true := by rfl) (han : (backToKw pos (keywordEach [⟨some "start", b, kpos⟩] X.env)).any (·.1.isNone) = false := by rfl)
    (hkk : ∀ u : Value, ((backToKw pos (keywordEach [⟨some "start", b, kpos⟩] X.env)).filterMap (·.1)).zip [u] = [(Str.ofString "start", u)] := by intro u; rfl) :
    PI X (.Tuple es kx tpos) (.Call (.Name "enumerate" p) [a] [⟨some "start", b, kpos⟩] pos) (iEnumK X.K ta tb) := by
  intro pins s σ H R I h
  refine wpAny_Call_Name_kw (ld_blt I hg hm boot_enumerate ?_)
  have z := ha pos pins s σ H _ I h
  rw [hs] at z ⊢
  refine callWith_tyK hp han hal (thn z fun us s1 => L2.ex5 fun vs H1 I1 r1 q1 => ?_)
  refine PyProof.Rows.kws_cons (thn (hb pins s1 σ H1 _ I1 q1) fun u s2 ⟨y, H2, I2, r2, l, k, e1, e2, hk, ⟨xs, hx⟩, q⟩ => PyProof.Rows.kws_nil ?_)
  rw [hkk]
  subst e1 e2
  obtain ⟨v, rfl, rv⟩ := vals1 r1
  obtain rfl : v = Value.ref l := rv
  obtain ⟨t, rfl⟩ := r2
  obtain ⟨its, rx, pl, _⟩ := I2.list hx
  refine call_enumK hk pl.isList fun h' b1 b2 ko => ?_
  refine wpAny_pyIter_enum (s := { s2 with heap := h' }) b1 ?_
  refine ⟨s2.heap.objs.size + 1, [s2.heap.objs.size + 1, s2.heap.objs.size], _, _, H2, rfl, I2.kept (t' := s2.toks) ko, turn_enumK (st0 := k) (Nat.ne_of_gt (Nat.lt_succ_self _)), ⟨_, by rw [show ((k : Int) + ((0 : Nat) : Int)) = k by omega]; exact b1, b2⟩, fun b hb => ?_, q⟩
  have ge : s2.heap.objs.size ≤ b := by
    simp only [List.mem_cons, List.not_mem_nil, or_false] at hb
    rcases hb with rfl | rfl
    · exact Nat.le_add_right _ _
    · exact Nat.le_refl _
  exact I2.fpOk ge (I2.hok.fresh ge)
end
section
theorem for_enumK {K : PySem.W.Frag} {l : Addr} {st0 : Nat} {xs : List V} {g : TG} {tb : TS} {D : Ends} {σ : St} {H : Hp} (Pv : Nat → St → Hp → Prop) (h0 : Pv 0 σ H) (hl : ∀ i σ H, i ≤ xs.length → Pv i σ H → SqL K H l xs)
    (hs : ∀ i x T σ H, xs[i]? = some x → H T = none → Pv i σ H → g (.ref T) σ (upd H T (.tup [.int ((st0 : Int) + i), x])) fun σ2 H2 => tb { D with nx := Pv (i + 1), ct := Pv (i + 1), bk := D.nx } σ2 H2) (hd : ∀ σ H, Pv xs.length σ H → D.nx σ H) :
    ∃ W : Nat → Nat → St → Hp → Prop, (∃ m, W 0 m σ H) ∧ ∀ i m σ H, W i m σ H →
      ((IteK K l st0).stop i H ∧ D.nx σ H) ∨ ((IteK K l st0).go i H ∧ ∃ N : St → Hp → Prop, (∀ σ' H', N σ' H' → ∃ m', m' < m ∧ W (i + 1) m' σ' H') ∧ ∀ x H', (IteK K l st0).yld i H x H' → g x σ H' fun σ2 H2 => tb { D with nx := N, ct := N, bk := D.nx } σ2 H2) := by
  refine ⟨fun i m σ H => m = xs.length - i ∧ i ≤ xs.length ∧ Pv i σ H, ⟨xs.length, by simp, Nat.zero_le _, h0⟩, ?_⟩
  rintro i m σ H ⟨rfl, hi, p⟩
  have q := hl i σ H hi p
  by_cases hlt : i < xs.length
  · refine .inr ⟨⟨xs, xs[i], q, by simp [hlt]⟩, Pv (i + 1), fun σ' H' p' => ⟨xs.length - (i + 1), by omega, rfl, hlt, p'⟩, fun v H' y => ?_⟩
    obtain ⟨T, x, rfl, hT, rfl, hx⟩ := y
    exact hs i x T σ H (hx xs q) hT p
  · have e : i = xs.length := by omega
    subst e
    exact .inl ⟨⟨xs, q, Nat.le_refl _⟩, hd σ H p⟩
end
end L2

namespace K61
open PySem L2
def top (i : Nat) : Stmt := PySem.Challenge.pw_layerdraw_k61_what_is_asked.main.body.getD i (.Pass ⟨0, 0, 0, 0⟩)
abbrev s_apart : Stmt := top 26
theorem sc_apart : FnScope ["halves", "gap", "left", "right"] ["halves", "gap", "left", "right"] (defScope s_apart) := ⟨rfl, rfl, rfl, by decide +kernel, rfl, by decide +kernel, by decide +kernel⟩
abbrev s_neighbours : Stmt := top 27
theorem sc_neighbours : FnScope ["rows", "found", "row"] ["rows"] (defScope s_neighbours) := ⟨rfl, rfl, rfl, by decide +kernel, rfl, by decide +kernel, by decide +kernel⟩
abbrev s_marks_in_line : Stmt := top 28
theorem sc_marks_in_line : FnScope ["rows", "marks", "row"] ["rows"] (defScope s_marks_in_line) := ⟨rfl, rfl, rfl, by decide +kernel, rfl, by decide +kernel, by decide +kernel⟩
abbrev s_asked : Stmt := top 29
theorem sc_asked : FnScope ["rows", "halves", "lines", "gap", "marks", "numbers", "wishes", "helper", "line"] ["rows", "halves", "lines", "gap"] (defScope s_asked) := ⟨rfl, rfl, rfl, by decide +kernel, rfl, by decide +kernel, by decide +kernel⟩
abbrev s_sideways : Stmt := top 30
theorem sc_sideways : FnScope ["rows", "halves", "lines", "gap", "question", "answer"] ["rows", "halves", "lines", "gap"] (defScope s_sideways) := ⟨rfl, rfl, rfl, by decide +kernel, rfl, by decide +kernel, by decide +kernel⟩
abbrev s__law_cell_at : Stmt := top 32
theorem sc__law_cell_at : FnScope ["_law_script", "_law_k"] ["_law_script", "_law_k"] (defScope s__law_cell_at) := ⟨rfl, rfl, rfl, by decide +kernel, rfl, by decide +kernel, by decide +kernel⟩
abbrev s__law_mixed : Stmt := top 33
theorem sc__law_mixed : FnScope ["_law_cell", "_law_k", "_law_number"] ["_law_cell", "_law_k"] (defScope s__law_mixed) := ⟨rfl, rfl, rfl, by decide +kernel, rfl, by decide +kernel, by decide +kernel⟩
abbrev s__law_rows : Stmt := top 34
theorem sc__law_rows : FnScope ["_law_script", "_law_first", "_law_marks", "_law_rows_here", "_law_halves", "_law_k", "_law_mark"] ["_law_script"] (defScope s__law_rows) := ⟨rfl, rfl, rfl, by decide +kernel, rfl, by decide +kernel, by decide +kernel⟩
abbrev s__law_lines : Stmt := top 35
theorem sc__law_lines : FnScope ["_law_cells", "_law_marks", "_law_lines_here", "_law_cell", "_law_one", "_law_other", "_law_weight"] ["_law_cells", "_law_marks"] (defScope s__law_lines) := ⟨rfl, rfl, rfl, by decide +kernel, rfl, by decide +kernel, by decide +kernel⟩
abbrev s__law_crowd : Stmt := top 36
theorem sc__law_crowd : FnScope ["_law_script", "_law_marks", "_law_rows_here", "_law_halves", "_law_lines_here", "_law_first", "_law_k", "_law_mark"] ["_law_script", "_law_marks", "_law_rows_here", "_law_halves", "_law_lines_here"] (defScope s__law_crowd) := ⟨rfl, rfl, rfl, by decide +kernel, rfl, by decide +kernel, by decide +kernel⟩
abbrev s__law_due : Stmt := top 37
theorem sc__law_due : FnScope ["_law_rows_here", "_law_halves", "_law_lines_here", "_law_gap", "_law_numbers", "_law_wishes", "_law_row", "_law_k", "_law_mark", "_law_least", "_law_line"] ["_law_rows_here", "_law_halves", "_law_lines_here", "_law_gap"] (defScope s__law_due) := ⟨rfl, rfl, rfl, by decide +kernel, rfl, by decide +kernel, by decide +kernel⟩
abbrev s__law_refused : Stmt := top 38
theorem sc__law_refused : FnScope ["_law_way", "_law_rows_here", "_law_halves", "_law_lines_here", "_law_gap", "_law_found", "e"] ["_law_way", "_law_rows_here", "_law_halves", "_law_lines_here", "_law_gap"] (defScope s__law_refused) := ⟨rfl, rfl, rfl, by decide +kernel, rfl, by decide +kernel, by decide +kernel⟩
abbrev s_law : Stmt := top 39
theorem sc_law : FnScope ["_law_script", "_law_marks", "_law_rows_here", "_law_halves", "_law_lines_here", "_law_gap", "_law_handed", "_law_found", "_law_due_here", "_law_wish"] ["_law_script"] (defScope s_law) := ⟨rfl, rfl, rfl, by decide +kernel, rfl, by decide +kernel, by decide +kernel⟩
structure Adr where
  DrawError : Addr
  TooMany : Addr
  NoFlow : Addr
structure Tx (K : PySem.W.Frag) (mg : Str → Option Value) (a : Adr) : Prop where
  g_DrawError : mg "DrawError" = some (.ref a.DrawError)
  xb_DrawError : PySem.W.mroIn K a.DrawError (.type "BaseException") = some true
  xt_DrawError : PySem.W.typeIn K (.ref a.DrawError) = some (.type "type")
  g_TooMany : mg "TooMany" = some (.ref a.TooMany)
  xb_TooMany : PySem.W.mroIn K a.TooMany (.type "BaseException") = some true
  xt_TooMany : PySem.W.typeIn K (.ref a.TooMany) = some (.type "type")
  x_TooMany : XC0 K a.TooMany
  is_TooMany : XIs K a.TooMany
  g_NoFlow : mg "NoFlow" = some (.ref a.NoFlow)
  xb_NoFlow : PySem.W.mroIn K a.NoFlow (.type "BaseException") = some true
  xt_NoFlow : PySem.W.typeIn K (.ref a.NoFlow) = some (.type "type")
  d_apart : Def K mg "apart" s_apart ["halves", "gap", "left", "right"] []
  d_neighbours : Def K mg "neighbours" s_neighbours ["rows"] []
  d_marks_in_line : Def K mg "marks_in_line" s_marks_in_line ["rows"] []
  d_asked : Def K mg "asked" s_asked ["rows", "halves", "lines", "gap"] []
  d_sideways : Def K mg "sideways" s_sideways ["rows", "halves", "lines", "gap"] []
  d__law_cell_at : Def K mg "_law_cell_at" s__law_cell_at ["_law_script", "_law_k"] []
  d__law_mixed : Def K mg "_law_mixed" s__law_mixed ["_law_cell", "_law_k"] []
  d__law_rows : Def K mg "_law_rows" s__law_rows ["_law_script"] []
  d__law_lines : Def K mg "_law_lines" s__law_lines ["_law_cells", "_law_marks"] []
  d__law_crowd : Def K mg "_law_crowd" s__law_crowd ["_law_script", "_law_marks", "_law_rows_here", "_law_halves", "_law_lines_here"] []
  d__law_due : Def K mg "_law_due" s__law_due ["_law_rows_here", "_law_halves", "_law_lines_here", "_law_gap"] []
  d__law_refused : Def K mg "_law_refused" s__law_refused ["_law_way", "_law_rows_here", "_law_halves", "_law_lines_here", "_law_gap"] []
  d_law : Def K mg "law" s_law ["_law_script"] []
  k_MOST_LINES : ∃ t, mg "MOST_LINES" = some (.int 40 t)
  k_MOST_MARKS : ∃ t, mg "MOST_MARKS" = some (.int 40 t)
  kb_int_int : PySem.W.kitOne K (.type "int") (.type "int") = some true
  kb_int_bool : PySem.W.kitOne K (.type "int") (.type "bool") = some false
  kb_bool_bool : PySem.W.kitOne K (.type "bool") (.type "bool") = some true
  kb_list_list : PySem.W.kitOne K (.type "list") (.type "list") = some true
  kb_tuple_tuple : PySem.W.kitOne K (.type "tuple") (.type "tuple") = some true
  kt_TooMany_TooMany : PySem.W.kitOne K (.ref a.TooMany) (.ref a.TooMany) = some true
  kt_TooMany_DrawError : PySem.W.kitOne K (.ref a.TooMany) (.ref a.DrawError) = some true
  kt_TooMany_NoFlow : PySem.W.kitOne K (.ref a.TooMany) (.ref a.NoFlow) = some false
  mr_TooMany_TooMany : PySem.W.mroIn K a.TooMany (.ref a.TooMany) = some true
  n_bool : mg "bool" = none
  n_dict : mg "dict" = none
  n_enumerate : mg "enumerate" = none
  n_isinstance : mg "isinstance" = none
  n_len : mg "len" = none
  n_list : mg "list" = none
  n_range : mg "range" = none
  n_str : mg "str" = none
  n_tuple : mg "tuple" = none
  n_zip : mg "zip" = none

end K61
namespace K61
open PySem L2
/-! rows of marks with halves and places -/
abbrev Kvs := List (Key × V)
abbrev Row := List Str
abbrev Ln := Str × Str
def lnD (q : Ln) : Dt := .tup [.str q.1, .str q.2]
/-- the lists at rs are the rows -/
def Rw (H : Hp) : List Addr → List Row → Prop
  | [], [] => True
  | r :: rs, row :: rows => H r = some (.lst (row.map V.str)) ∧ Rw H rs rows
  | _, _ => False
theorem Rw.mono {H H' : Hp} (s : ∀ (r : Addr) (row : Row), H r = some (.lst (row.map V.str)) → H' r = some (.lst (row.map V.str))) : ∀ {rs : List Addr} {rows : List Row}, Rw H rs rows → Rw H' rs rows
  | [], [], _ => trivial
  | r :: rs, row :: rows, h => ⟨s _ _ h.1, Rw.mono s h.2⟩
  | [], _ :: _, h => h.elim
  | _ :: _, [], h => h.elim
theorem Rw.same {H H' : Hp} (s : Same H H') {rs : List Addr} {rows : List Row} (h : Rw H rs rows) : Rw H' rs rows := h.mono fun _ _ e => s _ _ e
theorem Rw.len {H : Hp} : ∀ {rs : List Addr} {rows : List Row}, Rw H rs rows → rs.length = rows.length
  | [], [], _ => rfl
  | r :: rs, row :: rows, h => by rw [List.length_cons, List.length_cons, Rw.len h.2]
  | [], _ :: _, h => h.elim
  | _ :: _, [], h => h.elim
theorem Rw.at {H : Hp} : ∀ {rs : List Addr} {rows : List Row} {i : Nat} {r : Addr}, Rw H rs rows → rs[i]? = some r → ∃ row, rows[i]? = some row ∧ H r = some (.lst (row.map V.str))
  | [], [], _, _, _, e => by simp at e
  | r :: rs, row :: rows, 0, _, h, e => by
    cases e
    exact ⟨row, rfl, h.1⟩
  | r :: rs, row :: rows, i + 1, _, h, e => Rw.at (i := i) h.2 (by simpa using e)
  | [], _ :: _, _, _, h, _ => h.elim
  | _ :: _, [], _, _, h, _ => h.elim
theorem Rw.snoc {H : Hp} {r : Addr} {row : Row} (e : H r = some (.lst (row.map V.str))) : ∀ {rs : List Addr} {rows : List Row}, Rw H rs rows → Rw H (rs ++ [r]) (rows ++ [row])
  | [], [], _ => ⟨e, trivial⟩
  | _ :: _, _ :: _, h => ⟨h.1, Rw.snoc e h.2⟩
  | [], _ :: _, h => h.elim
  | _ :: _, [], h => h.elim
theorem Rw.upd {H : Hp} {l : Addr} {o : HO} : ∀ {rs : List Addr} {rows : List Row}, Rw H rs rows → (∀ r ∈ rs, r ≠ l) → Rw (L2.upd H l o) rs rows
  | [], [], _, _ => trivial
  | r :: rs, row :: rows, h, n => ⟨by rw [upd_ne (n r List.mem_cons_self)]; exact h.1, Rw.upd h.2 fun x hx => n x (List.mem_cons_of_mem _ hx)⟩
  | [], _ :: _, h, _ => h.elim
  | _ :: _, [], h, _ => h.elim
/-- one row is put anew -/
theorem Rw.put {H : Hp} {r : Addr} {row : Row} : ∀ {rs : List Addr} {rows : List Row} {i : Nat}, Rw H rs rows → rs.Nodup → rs[i]? = some r → Rw (L2.upd H r (.lst (row.map V.str))) rs (rows.set i row)
  | [], [], _, _, _, e => by simp at e
  | x :: rs, _ :: rows, 0, h, n, e => by
    have e' : x = r := by simpa using e
    subst e'
    rw [List.nodup_cons] at n
    refine ⟨upd_same, ?_⟩
    have go : ∀ {rs : List Addr} {rows : List Row}, x ∉ rs → Rw H rs rows → Rw (L2.upd H x (.lst (row.map V.str))) rs rows := by
      intro rs
      induction rs with
      | nil => intro rows _ h; cases rows with
        | nil => trivial
        | cons => exact h.elim
      | cons y rs ih => intro rows m h; cases rows with
        | nil => exact h.elim
        | cons => exact ⟨by rw [upd_ne (fun z => m (by rw [← z]; exact List.mem_cons_self))]; exact h.1, ih (fun z => m (List.mem_cons_of_mem _ z)) h.2⟩
    exact go n.1 h.2
  | x :: rs, _ :: rows, i + 1, h, n, e => by
    rw [List.nodup_cons] at n
    have e' : rs[i]? = some r := by simpa using e
    have ne : x ≠ r := fun z => n.1 (by rw [z]; exact List.mem_of_getElem? e')
    exact ⟨by rw [upd_ne ne]; exact h.1, Rw.put h.2 n.2 e'⟩
  | [], _ :: _, _, h, _, _ => h.elim
  | _ :: _, [], _, h, _, _ => h.elim
/-- a number stands for the text -/
def Has (kvs : Kvs) (s : Str) : Prop := ∃ i : Int, valV kvs (Sum.inr s) = some (.int i)
def gv (kvs : Kvs) (s : Str) : Int := match valV kvs (Sum.inr s) with
  | some (.int i) => i
  | _ => 0
theorem Has.gv {kvs : Kvs} {s : Str} (h : Has kvs s) : valV kvs (Sum.inr s) = some (.int (gv kvs s)) := by
  obtain ⟨i, e⟩ := h
  unfold K61.gv
  rw [e]
theorem Has.put {kvs : Kvs} {s t : Str} {i : Int} (h : Has kvs t) : Has (putK kvs (Sum.inr s) (.int i)) t := by
  obtain ⟨j, e⟩ := h
  unfold Has
  rw [valV_put]
  by_cases z : t = s
  · rw [if_pos (by rw [z])]
    exact ⟨i, rfl⟩
  · rw [if_neg (fun y => z (Sum.inr.inj y))]
    exact ⟨j, e⟩
theorem Has.new {kvs : Kvs} {s : Str} {i : Int} : Has (putK kvs (Sum.inr s) (.int i)) s := by
  unfold Has
  rw [valV_put, if_pos rfl]
  exact ⟨i, rfl⟩
/-- neighbours -/
def nb (row : Row) : List Ln := row.zip (row.drop 1)
def nbs (rows : List Row) : List Ln := (rows.map nb).flatten
theorem nb_get {row : Row} {i : Nat} {x y : Str} (h1 : row[i]? = some x) (h2 : row[i + 1]? = some y) : (nb row)[i]? = some (x, y) := by
  unfold nb
  rw [List.getElem?_zip_eq_some]
  exact ⟨h1, by rw [List.getElem?_drop, Nat.add_comm]; exact h2⟩
theorem nb_len (row : Row) : (nb row).length = row.length - 1 := by
  unfold nb
  rw [List.length_zip, List.length_drop]
  omega
theorem nb_mem {row : Row} {q : Ln} (h : q ∈ nb row) : q.1 ∈ row ∧ q.2 ∈ row := by
  unfold nb at h
  have := List.of_mem_zip (a := q.1) (b := q.2) h
  exact ⟨this.1, List.mem_of_mem_drop this.2⟩
theorem nbs_mem {rows : List Row} {q : Ln} (h : q ∈ nbs rows) : ∃ row ∈ rows, q.1 ∈ row ∧ q.2 ∈ row := by
  unfold nbs at h
  obtain ⟨l, hl, hq⟩ := List.mem_flatten.mp h
  obtain ⟨row, hr, rfl⟩ := List.mem_map.mp hl
  exact ⟨row, hr, nb_mem hq⟩
theorem nbs_snoc {rows : List Row} {i : Nat} {row : Row} (h : rows[i]? = some row) : nbs (rows.take (i + 1)) = nbs (rows.take i) ++ nb row := by
  unfold nbs
  rw [take_snoc h, List.map_append, List.flatten_append]
  simp
def kp1 (hv qv : Kvs) (g : Int) (q : Ln) : Bool := decide (gv qv q.2 - gv qv q.1 ≥ gv hv q.1 + gv hv q.2 + g)
section
variable {P : Program} {w : World} {K : PySem.W.Frag} {mg : Str → Option Value} {base : Heap} {a : Adr}
theorem un_ln {H : Hp} {x : V} {q : Ln} (h : DtV K H (lnD q) x) : ∃ t, x = .ref t ∧ SqT K H t [.str q.1, .str q.2] := by
  obtain ⟨t, xs, rfl, h1, y1, ys1, rfl, rfl, y2, ys2, rfl, rfl, h2⟩ := h
  rw [show ys2 = [] from h2] at h1
  exact ⟨t, rfl, h1⟩
def spApart : Sp := fun vs H Q _ => ∃ h g l r kvs, vs = [.ref h, .int g, .str l, .str r] ∧ H h = some (.dK kvs) ∧ Has kvs l ∧ Has kvs r ∧ Q (.int (gv kvs l + gv kvs r + g)) H
theorem ok_apart (T : Tx K mg a) : Cal P w K mg base CX0 1 "apart" ["halves", "gap", "left", "right"] [] spApart := T.d_apart.cal fun f fd F => by
  refine F.ok sc_apart (fun vs H Q E h => ?_) (fun cdv A outer s H vs Q E hr h => ?_)
  · obtain ⟨h, g, l, r, kvs, rfl, _⟩ := h
    rfl
  · obtain ⟨h, g, l, r, kvs, rfl, hh, h1, h2, k⟩ := h
    refine ⟨_, (pss_one (ps_ret (pe_op op_add (pe_op op_add (pe_dget (hu_of hr) (pv 0) (pv 2) (fun _ _ => rfl)) (pe_dget (hu_of hr) (pv 0) (pv 3) (fun _ _ => rfl))) (pv 1)))), ?_⟩
    exact ⟨_, rfl, _, rfl, h, _, rfl, dget_k (k := Sum.inr l) hh h1.gv, _, rfl, _, rfl, h, _, rfl, dget_k (k := Sum.inr r) hh h2.gv, _, _, rfl, rfl, _, rfl, _, _, rfl, rfl, k⟩
/-- at l there is a list of these pairs -/
def LsAt (K : PySem.W.Frag) (H : Hp) (l : Addr) (ls : List Ln) : Prop := ∃ xs, H l = some (.lst xs) ∧ DtVs K H (ls.map lnD) xs
def spNbs (K : PySem.W.Frag) : Sp := fun vs H Q _ => ∃ l rs rows, vs = [.ref l] ∧ H l = some (.lst ((rs : List Addr).map V.ref)) ∧ Rw H rs rows ∧ rows.length ≤ 30 ∧ (∀ row ∈ rows, row.length ≤ 60) ∧ ∀ d H', Same H H' → LsAt K H' d (nbs rows) → (nbs rows).length ≤ 1800 → Q (.ref d) H'
set_option maxHeartbeats 4000000 in
theorem ok_neighbours (T : Tx K mg a) : Cal P w K mg base CX0 1 "neighbours" ["rows"] [] (spNbs K) := T.d_neighbours.cal fun f fd F => by
  refine F.ok sc_neighbours (fun vs H Q E h => ?_) (fun cdv A outer s H vs Q E hr h => ?_)
  · obtain ⟨l, rs, rows, rfl, _⟩ := h
    rfl
  · obtain ⟨l, rs, rows, rfl, hl, hrw, hk, hm, k⟩ := h
    have hlen := hrw.len
    refine ⟨_, (pss_cons (ps_set (i := 1) sc_neighbours.nd rfl (by first | exact Or.inl rfl | exact Or.inr rfl) (pe_lst pa_nil))
      (pss_cons (ps_for PassesOwn.never rfl (pi_list (pv 0)) (pg_name (i := 2) sc_neighbours.nd rfl (by first | exact Or.inl rfl | exact Or.inr rfl)) (pss_one (ps_expr (pe_bm PySem.F.plainAttrs_list PySem.F.slot_list_extend PySem.F.type_list_extend mt_extend (pv 1) (pa_cons (pe_comp (N := ["left", "right"]) (cap := [none, none]) rfl (cap_ok (osc := defScope s_neighbours) (XN := ["rows", "found", "row"]) rfl rfl (by decide +kernel)) (pi_zip rfl T.n_zip (pa_cons (pv 2) (pa_cons (pe_slice sl_list (pv 2) (po_some pe_int) po_none) pa_nil))) (fun cl C s H fp pins => (pgK_tup (K := K) (n := 2) rfl rfl (pgs_cons (pg_name (i := 0) (show (["left", "right"] : List Str).Nodup by decide +kernel) rfl (by first | exact Or.inl rfl | exact Or.inr rfl)) (pgs_cons (pg_name (i := 1) (show (["left", "right"] : List Str).Nodup by decide +kernel) rfl (by first | exact Or.inl rfl | exact Or.inr rfl)) pgs_nil)))) (fun cl C s H fp pins => pif_nil) (fun cl C s H fp pins => (pe_tup (pa_cons (pv 0) (pa_cons (pv 1) pa_nil))))) pa_nil)))))
      (pss_one (ps_ret (pv 1))))), ?_⟩
    refine ⟨(by show 0 ≤ sizeLine; decide), fun g ng => ?_⟩
    have s1 : Same H (upd H g (.lst [])) := Same.new ng
    have h1 : upd H g (.lst []) g = some (.lst []) := upd_same
    generalize upd H g (.lst []) = H1 at s1 h1 ⊢
    refine ⟨_, rfl, l, rfl, ⟨_, SqL.of (s1 _ _ hl)⟩, for_list (K := K) (a := l) (xs := rs.map V.ref) (fun i σ H' => ∃ v2 xs, σ = [some (.ref l), some (.ref g), v2] ∧ Same H H' ∧ H' g = some (.lst xs) ∧ DtVs K H' ((nbs (rows.take i)).map lnD) xs ∧ xs.length ≤ 60 * i)
      ⟨none, [], rfl, s1, h1, rfl, Nat.zero_le _⟩ ?_ ?_ ?_⟩
    · rintro i σ H' _ ⟨_, _, rfl, sm, _⟩
      exact SqL.of (sm _ _ hl)
    · rintro i x σ H' hx ⟨v2, xs, rfl, sm, hg, hds, kx⟩
      obtain ⟨r, hr', rfl⟩ := refs_at hx
      obtain ⟨row, hrow, hrr⟩ := hrw.at hr'
      have hrl := hm row (List.mem_of_getElem? hrow)
      have hi : i < rows.length := (List.getElem?_eq_some_iff.mp hrow).1
      dsimp only [gName]
      refine ⟨_, rfl, .inl ⟨rfl, _, SqL.of hg⟩, _, rfl, _, rfl, _, rfl, r, _, rfl, SqL.of (sm _ _ hrr), fun z nz => ?_⟩
      rw [cut_tail]
      have s2 : Same H' (upd H' z (.lst ((row.map V.str).drop 1))) := Same.new nz
      have h2 : upd H' z (.lst ((row.map V.str).drop 1)) z = some (.lst ((row.map V.str).drop 1)) := upd_same
      generalize upd H' z (.lst ((row.map V.str).drop 1)) = H2 at s2 h2 ⊢
      have t2 := sm.trans s2
      refine ⟨r, z, rfl, ⟨_, SqL.of (t2 _ _ hrr)⟩, ⟨_, SqL.of h2⟩, fun D hD => ?_⟩
      refine comp_zipS (K := K) (l1 := r) (l2 := z) (xs := row.map V.str) (ys := (row.map V.str).drop 1) (n := row.length - 1) (by rw [List.length_map]; omega) (by rw [List.length_drop, List.length_map]; omega) (.inr (by rw [List.length_drop, List.length_map]))
        (fun j τ H3 => ∃ v1 v2 zs, τ = [v1, v2] ∧ Same H2 H3 ∧ H3 D = some (.lst zs) ∧ DtVs K H3 (((nb row).take j).map lnD) zs) ⟨none, none, [], rfl, Same.new hD, upd_same, rfl⟩ ?_ ?_ ?_
      · rintro j τ H3 _ ⟨_, _, _, rfl, s3, _⟩
        exact ⟨SqL.of (s3 _ _ (t2 _ _ hrr)), SqL.of (s3 _ _ h2)⟩
      · rintro j x y tt τ H3 hj hx hy nt ⟨v1, v2, zs, rfl, s3, hz, hdz⟩
        obtain ⟨a1, e1, rfl⟩ := strs_at hx
        rw [List.getElem?_drop, Nat.add_comm] at hy
        obtain ⟨a2, e2, rfl⟩ := strs_at hy
        have kz : zs.length ≤ 60 := by
          have e := hdz.length
          rw [List.length_map, List.length_take, nb_len] at e
          omega
        have s4 : Same H3 (upd H3 tt (.tup [.str a1, .str a2])) := Same.new nt
        have h4 : upd H3 tt (.tup [.str a1, .str a2]) tt = some (.tup [.str a1, .str a2]) := upd_same
        generalize upd H3 tt (.tup [.str a1, .str a2]) = H4 at s4 h4 ⊢
        dsimp only [tYes]
        refine ⟨tt, _, rfl, SqT.of h4, rfl, _, _, rfl, _, _, rfl, rfl, ?_⟩
        refine iteT ?_
        refine ⟨_, rfl, _, rfl, (by show 2 ≤ sizeLine; decide), fun q nq => ?_⟩
        have s5 : Same H4 (upd H4 q (.tup [.str a1, .str a2])) := Same.new nq
        have h5 : upd H4 q (.tup [.str a1, .str a2]) q = some (.tup [.str a1, .str a2]) := upd_same
        generalize upd H4 q (.tup [.str a1, .str a2]) = H5 at s5 h5 ⊢
        have u5 := s4.trans s5
        refine ⟨_, u5 _ _ hz, by rw [sizeLine_eq]; omega, _, _, _, rfl, same_upd hD (s3.trans u5), upd_same, ?_⟩
        rw [take_snoc (nb_get e1 e2), List.map_append]
        have kp : Tk H5 (upd H5 D (.lst (zs ++ [.ref q]))) := Tk.upd (u5 _ _ hz) rfl
        exact DtVs.snoc (d := lnD (a1, a2)) (kp.dt rfl ⟨q, _, rfl, SqT.of h5, _, _, rfl, rfl, _, _, rfl, rfl, rfl⟩) (kp.dts (noLsts_map (fun _ => rfl) _) (u5.dts hdz))
      rintro τ H3 ⟨v1, v2, zs, rfl, s3, hz, hdz⟩
      rw [← nb_len, List.take_length] at hdz
      have kz : zs.length ≤ 60 := by
        have e := hdz.length
        rw [List.length_map, nb_len] at e
        omega
      have u3 := s2.trans s3
      refine ⟨g, D, xs, zs, rfl, rfl, u3 _ _ hg, hz, by rw [sizeLine_eq]; omega, ?_⟩
      have kp : Tk H3 (upd H3 g (.lst (xs ++ zs))) := Tk.upd (u3 _ _ hg) rfl
      refine ⟨_, _, rfl, same_upd ng (sm.trans u3), upd_same, ?_, by rw [List.length_append]; omega⟩
      rw [nbs_snoc hrow, List.map_append]
      exact DtVs.append (kp.dts (noLsts_map (fun _ => rfl) _) hdz) (kp.dts (noLsts_map (fun _ => rfl) _) (u3.dts hds))
    · rintro σ H2 ⟨v2, xs, rfl, sm, hg, hds, kx⟩
      rw [List.length_map, hlen, List.take_length] at hds
      have e := hds.length
      rw [List.length_map] at e
      rw [List.length_map] at kx
      exact ⟨_, rfl, k g H2 sm ⟨xs, hg, hds⟩ (by omega)⟩
/-- lines with weights -/
abbrev L3 := Str × Str × Int
def l3D (q : L3) : Dt := .tup [.str q.1, .str q.2.1, .int q.2.2]
theorem un_l3 {H : Hp} {x : V} {q : L3} (h : DtV K H (l3D q) x) : ∃ t, x = .ref t ∧ SqT K H t [.str q.1, .str q.2.1, .int q.2.2] := by
  obtain ⟨t, xs, rfl, h1, y1, ys1, rfl, rfl, y2, ys2, rfl, rfl, y3, ys3, rfl, rfl, h2⟩ := h
  rw [show ys3 = [] from h2] at h1
  exact ⟨t, rfl, h1⟩
def far (qv : Kvs) (q : L3) : Int := if gv qv q.2.1 - gv qv q.1 < 0 then -(gv qv q.2.1 - gv qv q.1) else gv qv q.2.1 - gv qv q.1
def costL (qv : Kvs) (ls : List L3) : Int := (ls.map fun q => q.2.2 * far qv q).sum
def L3At (K : PySem.W.Frag) (H : Hp) (l : Addr) (ls : List L3) : Prop := ∃ xs, H l = some (.lst xs) ∧ DtVs K H (ls.map l3D) xs
end
end K61
namespace K61
open PySem L2
/-! numbers of names as a dict -/
theorem val_fold_no {k : Key} : ∀ (kvs m : List (Key × V)), (∀ kv ∈ kvs, kv.1 ≠ k) → valV (kvs.foldl put1 m) k = valV m k
  | [], _, _ => rfl
  | kv :: r, m, h => by
    show valV (r.foldl put1 (put1 m kv)) k = _
    rw [val_fold_no r _ fun x hx => h x (List.mem_cons_of_mem _ hx)]
    unfold put1
    rw [valV_put, if_neg (Ne.symm (h kv List.mem_cons_self))]
theorem split_at {α : Type} {x : α} : ∀ {l : List α} {i : Nat}, l[i]? = some x → l = l.take i ++ x :: l.drop (i + 1)
  | y :: l, 0, h => by
    obtain rfl : y = x := Option.some.inj h
    rfl
  | y :: l, i + 1, h => by
    show y :: l = y :: (l.take i ++ x :: l.drop (i + 1))
    rw [← split_at (show l[i]? = some x from h)]
theorem val_mkD {kvs : List (Key × V)} {i : Nat} {kv : Key × V} (nd : (kvs.map (·.1)).Nodup) (h : kvs[i]? = some kv) : valV (mkD kvs) kv.1 = some kv.2 := by
  have es := split_at h
  generalize kvs.take i = l at es
  generalize kvs.drop (i + 1) = r at es
  subst es
  unfold mkD
  rw [List.foldl_append]
  show valV (r.foldl put1 (put1 (l.foldl put1 []) kv)) kv.1 = _
  rw [List.map_append, List.map_cons, List.nodup_append, List.nodup_cons] at nd
  rw [val_fold_no r _ fun x hx e => nd.2.1.1 (List.mem_map.mpr ⟨x, hx, e⟩)]
  unfold put1
  rw [valV_put, if_pos rfl]
/-- a name's number -/
def ix (ws : List Str) (n : Str) : Int := (ws.idxOf n : Nat)
theorem ix_at {ws : List Str} {n : Str} (h : n ∈ ws) : ws[ws.idxOf n]? = some n := by
  have := List.idxOf_lt_length_of_mem h
  rw [List.getElem?_eq_getElem this, List.getElem_idxOf]
def numK : Nat → List Str → List (Key × V)
  | _, [] => []
  | i, n :: r => (Sum.inr n, .int (i : Int)) :: numK (i + 1) r
theorem numK_len : ∀ (ws : List Str) (i : Nat), (numK i ws).length = ws.length
  | [], _ => rfl
  | n :: r, i => by show (numK (i + 1) r).length + 1 = _; rw [numK_len r]; rfl
theorem numK_keys : ∀ (ws : List Str) (i : Nat), (numK i ws).map (·.1) = ws.map Sum.inr
  | [], _ => rfl
  | n :: r, i => by show Sum.inr n :: (numK (i + 1) r).map (·.1) = _; rw [numK_keys r]; rfl
theorem numK_at : ∀ (ws : List Str) (i j : Nat) (n : Str), ws[j]? = some n → (numK i ws)[j]? = some (Sum.inr n, .int ((i + j : Nat) : Int))
  | x :: r, i, 0, n, h => by
    obtain rfl : x = n := Option.some.inj h
    rfl
  | x :: r, i, j + 1, n, h => by
    show (numK (i + 1) r)[j]? = _
    rw [numK_at r (i + 1) j n h]
    congr 3
    omega
theorem numK_snoc : ∀ (ws : List Str) (i : Nat) (n : Str), numK i (ws ++ [n]) = numK i ws ++ [(Sum.inr n, .int ((i + ws.length : Nat) : Int))]
  | [], i, n => rfl
  | x :: r, i, n => by
    show _ :: numK (i + 1) (r ++ [n]) = _ :: (numK (i + 1) r ++ _)
    rw [numK_snoc r (i + 1) n, List.length_cons, show i + 1 + r.length = i + (r.length + 1) by omega]
def NumD (ws : List Str) : List (Key × V) := mkD (numK 0 ws)
theorem num_val {ws : List Str} (nd : ws.Nodup) {n : Str} (h : n ∈ ws) : valV (NumD ws) (Sum.inr n) = some (.int (ix ws n)) := by
  have h1 := numK_at ws 0 _ n (ix_at h)
  have nd' : ((numK 0 ws).map (·.1)).Nodup := by
    rw [numK_keys, List.nodup_iff_pairwise_ne, List.pairwise_map]
    rw [List.nodup_iff_pairwise_ne] at nd
    exact nd.imp fun z e => z (Sum.inr.inj e)
  have := val_mkD nd' h1
  rw [Nat.zero_add] at this
  exact this
section
variable {P : Program} {w : World} {K : PySem.W.Frag} {mg : Str → Option Value} {base : Heap} {a : Adr}
theorem PairsAt.tk {H H' : Hp} (t : Tk H H') : ∀ {kvs : List (Key × V)} {ys : List V}, PairsAt K H kvs ys → PairsAt K H' kvs ys
  | [], _, h => h
  | _ :: _, _, h => by
    obtain ⟨q, ys', e, h1, h2⟩ := h
    exact ⟨q, ys', e, t.sqT h1, PairsAt.tk t h2⟩
theorem PairsAt.snoc {H : Hp} {kv : Key × V} {t : Addr} (ht : SqT K H t [kV kv.1, kv.2]) : ∀ {kvs : List (Key × V)} {ys : List V}, PairsAt K H kvs ys → PairsAt K H (kvs ++ [kv]) (ys ++ [.ref t])
  | [], _, h => by
    obtain rfl : _ = [] := h
    exact ⟨t, [], rfl, ht, rfl⟩
  | _ :: _, _, h => by
    obtain ⟨q, ys', rfl, h1, h2⟩ := h
    exact ⟨q, _, rfl, h1, PairsAt.snoc ht h2⟩
theorem PairsAt.len {H : Hp} : ∀ {kvs : List (Key × V)} {ys : List V}, PairsAt K H kvs ys → kvs.length = ys.length
  | [], _, h => by rw [show _ = [] from h]; rfl
  | _ :: _, _, h => by
    obtain ⟨q, ys', rfl, h1, h2⟩ := h
    rw [List.length_cons, List.length_cons, PairsAt.len h2]
end
end K61
namespace K61
open PySem L2
theorem ps_never {X : Cx} {st : Stmt} : PS X st (fun _ _ _ => False) := by
  intro pins s σ H D I h
  exact h.elim
abbrev Wi := Int × Int × Int × Int
def wD (q : Wi) : Dt := .tup [.int q.1, .int q.2.1, .int q.2.2.1, .int q.2.2.2]
theorem deep_w {n : Nat} (q : Wi) : DeepLe (n + 1) (wD q) := by cases n <;> exact ⟨trivial, trivial, trivial, trivial, trivial⟩
/-- the wishes that are asked -/
def wN (hv : Kvs) (mk : Row) (g : Int) (q : Ln) : Wi := (ix mk q.1, ix mk q.2, gv hv q.1 + gv hv q.2 + g, 0)
def wL (mk : Row) (n : Nat) : Nat → List L3 → List Wi
  | _, [] => []
  | k, q :: r => (((n + k : Nat) : Int), ix mk q.1, (0 : Int), q.2.2) :: (((n + k : Nat) : Int), ix mk q.2.1, (0 : Int), q.2.2) :: wL mk n (k + 1) r
def wAll (hv : Kvs) (rows : List Row) (ls : List L3) (g : Int) : List Wi := (nbs rows).map (wN hv rows.flatten g) ++ wL rows.flatten rows.flatten.length 0 ls
theorem wL_snoc (mk : Row) (n : Nat) (q : L3) : ∀ (k : Nat) (r : List L3), wL mk n k (r ++ [q]) = wL mk n k r ++ [(((n + (k + r.length) : Nat) : Int), ix mk q.1, (0 : Int), q.2.2), (((n + (k + r.length) : Nat) : Int), ix mk q.2.1, (0 : Int), q.2.2)]
  | k, [] => rfl
  | k, x :: r => by
    show _ :: _ :: wL mk n (k + 1) (r ++ [q]) = _
    rw [wL_snoc mk n q (k + 1) r, show k + 1 + r.length = k + (x :: r).length by rw [List.length_cons]; omega]
    rfl
theorem wL_len (mk : Row) (n : Nat) : ∀ (k : Nat) (r : List L3), (wL mk n k r).length = 2 * r.length
  | _, [] => rfl
  | k, x :: r => by
    show (wL mk n (k + 1) r).length + 1 + 1 = _
    rw [wL_len mk n (k + 1) r, List.length_cons]
    omega
section
variable {P : Program} {w : World} {K : PySem.W.Frag} {mg : Str → Option Value} {base : Heap} {a : Adr}
def WAt (K : PySem.W.Frag) (H : Hp) (l : Addr) (ws : List Wi) : Prop := ∃ xs, H l = some (.lst xs) ∧ DtVs K H (ws.map wD) xs
/-- all of them are tuples made since -/
def Tps (H : Hp) (xs : List V) : Prop := ∀ y ∈ xs, ∃ t zs, y = .ref t ∧ H t = some (.tup zs)
theorem Tps.tk {H H' : Hp} (k : Tk H H') {xs : List V} (h : Tps H xs) : Tps H' xs := fun y hy => by
  obtain ⟨t, zs, e1, e2⟩ := h y hy
  exact ⟨t, zs, e1, k _ _ e2 rfl⟩
theorem Tps.snoc {H : Hp} {xs : List V} (h : Tps H xs) {t : Addr} {zs : List V} (e : H t = some (.tup zs)) : Tps H (xs ++ [.ref t]) := fun y hy => by
  rcases List.mem_append.mp hy with hy | hy
  · exact h y hy
  · exact ⟨t, zs, List.mem_singleton.mp hy, e⟩
def WTp (K : PySem.W.Frag) (H : Hp) (l : Addr) (ws : List Wi) : Prop := ∃ xs, H l = some (.lst xs) ∧ DtVs K H (ws.map wD) xs ∧ Tps H xs
def spMarks : Sp := fun vs H Q _ => ∃ l rs rows, vs = [.ref l] ∧ H l = some (.lst ((rs : List Addr).map V.ref)) ∧ Rw H rs rows ∧ rows.flatten.length ≤ 300 ∧ ∀ d H', Same H H' → H d = none → H' d = some (.lst (rows.flatten.map V.str)) → Q (.ref d) H'
theorem flat_take {rows : List Row} {i : Nat} {row : Row} (h : rows[i]? = some row) : (rows.take (i + 1)).flatten = (rows.take i).flatten ++ row := by
  rw [take_snoc h, List.flatten_append]
  simp
theorem flat_le (rows : List Row) (i : Nat) : (rows.take i).flatten.length ≤ rows.flatten.length := by
  have : rows.flatten = (rows.take i).flatten ++ (rows.drop i).flatten := by rw [← List.flatten_append, List.take_append_drop]
  rw [this, List.length_append]
  omega
set_option maxHeartbeats 4000000 in
theorem ok_marks_in_line (T : Tx K mg a) : Cal P w K mg base CX0 1 "marks_in_line" ["rows"] [] spMarks := T.d_marks_in_line.cal fun f fd F => by
  refine F.ok sc_marks_in_line (fun vs H Q E h => ?_) (fun cdv A outer s H vs Q E hr h => ?_)
  · obtain ⟨l, rs, rows, rfl, _⟩ := h
    rfl
  · obtain ⟨l, rs, rows, rfl, hl, hw, h300, k⟩ := h
    refine ⟨_, (pss_cons (ps_set (i := 1) sc_marks_in_line.nd rfl (by first | exact Or.inl rfl | exact Or.inr rfl) (pe_lst pa_nil))
      (pss_cons (ps_for PassesOwn.never rfl (pi_list (pv 0)) (pg_name (i := 2) sc_marks_in_line.nd rfl (by first | exact Or.inl rfl | exact Or.inr rfl)) (pss_one (ps_expr (pe_bm PySem.F.plainAttrs_list PySem.F.slot_list_extend PySem.F.type_list_extend mt_extend (pv 1) (pa_cons (pv 2) pa_nil)))))
      (pss_one (ps_ret (pv 1))))), ?_⟩
    refine ⟨(by show 0 ≤ sizeLine; decide), fun g ng => ?_⟩
    have s1 : Same H (upd H g (.lst [])) := Same.new ng
    have h1 : upd H g (.lst []) g = some (.lst []) := upd_same
    generalize upd H g (.lst []) = H1 at s1 h1 ⊢
    refine ⟨_, rfl, l, rfl, ⟨_, SqL.of (s1 _ _ hl)⟩, for_list (K := K) (a := l) (xs := rs.map V.ref) (fun i σ H' => ∃ v2, σ = [some (.ref l), some (.ref g), v2] ∧ Same H H' ∧ H' g = some (.lst ((rows.take i).flatten.map V.str)))
      ⟨none, rfl, s1, h1⟩ ?_ ?_ ?_⟩
    · rintro i σ H' _ ⟨_, rfl, sm, _⟩
      exact SqL.of (sm _ _ hl)
    · rintro i x σ H' hx ⟨v2, rfl, sm, hg⟩
      obtain ⟨r, hr', rfl⟩ := refs_at hx
      obtain ⟨row, hrow, hrr⟩ := hw.at hr'
      have f1 := flat_le rows (i + 1)
      rw [flat_take hrow, List.length_append] at f1
      dsimp only [gName]
      refine ⟨_, rfl, .inl ⟨rfl, _, SqL.of hg⟩, _, rfl, g, r, _, _, rfl, rfl, hg, sm _ _ hrr, by rw [List.length_map, List.length_map, sizeLine_eq]; omega, ?_⟩
      refine ⟨_, rfl, same_upd ng sm, ?_⟩
      rw [upd_same, flat_take hrow, List.map_append]
    · rintro σ H' ⟨v2, rfl, sm, hg⟩
      rw [List.length_map, hw.len, List.take_length] at hg
      exact ⟨_, rfl, k g H' sm ng hg⟩
def spAsked (K : PySem.W.Frag) (a : Adr) : Sp := fun vs H Q E => ∃ l rs rows h hv m ls g, vs = [.ref l, .ref h, .ref m, .int g] ∧ H l = some (.lst ((rs : List Addr).map V.ref)) ∧ Rw H rs rows ∧ rows.length ≤ 30 ∧ rows.flatten.length ≤ 60 ∧ rows.flatten.Nodup ∧ H h = some (.dK hv) ∧ (∀ s ∈ rows.flatten, Has hv s) ∧ L3At K H m ls ∧ ls.length ≤ 60 ∧ (∀ q ∈ ls, q.1 ∈ rows.flatten ∧ q.2.1 ∈ rows.flatten) ∧
  (rows.flatten.length ≤ 40 ∧ ls.length ≤ 40 → ∀ t x H', Same H H' → H t = none → H x = none → H' t = some (.tup [.int ((rows.flatten.length : Int) + ls.length), .ref x]) → WTp K H' x (wAll hv rows ls g) → Q (.ref t) H') ∧
  (40 < rows.flatten.length ∨ 40 < ls.length → ∀ H', Same H H' → E (.ref a.TooMany) none H')
set_option maxHeartbeats 8000000 in
theorem ok_asked (T : Tx K mg a) : Cal P w K mg base (CXe P w) 2 "asked" ["rows", "halves", "lines", "gap"] [] (spAsked K a) := T.d_asked.cal fun f fd F => by
  have c_marks_in_line := ok_marks_in_line (P := P) (w := w) (base := base) T
  have c_neighbours := ok_neighbours (P := P) (w := w) (base := base) T
  have c_apart := ok_apart (P := P) (w := w) (base := base) T
  refine F.okX sc_asked (fun vs H Q E h => ?_) (fun cdv A outer s H vs Q E hr h => ?_)
  · obtain ⟨l, rs, rows, h, hv, m, ls, g, rfl, _⟩ := h
    rfl
  · obtain ⟨l, rs, rows, h, hv, m, ls, g, rfl, hl, hw, h30, h60, nd, hh, has, ⟨xl, hm, hdl⟩, hls, hin, k1, k2⟩ := h
    have hlx : ls.length = xl.length := by rw [← hdl.length, List.length_map]
    refine ⟨_, (pss_cons (ps_set (i := 4) sc_asked.nd rfl (by first | exact Or.inl rfl | exact Or.inr rfl) (pe_cal c_marks_in_line (hr.mono (by decide)) rfl (pa_cons (pv 0) pa_nil)))
      (pss_cons (ps_if (PW.pt (pw_or (pt_cmpR op_gt (pe_callB call_len_seq rfl T.n_len bt_len (pa_cons (pv 4) pa_nil)) (pe_gInt rfl T.k_MOST_MARKS) (nomark _)) (pw_or1 (pt_cmpR op_gt (pe_callB call_len_seq rfl T.n_len bt_len (pa_cons (pv 2) pa_nil)) (pe_gInt rfl T.k_MOST_LINES) (nomark _))))) (pss_one (ps_raise0 px_body T.x_TooMany rfl T.g_TooMany)) pss_nil)
      (pss_cons (ps_set (i := 5) sc_asked.nd rfl (by first | exact Or.inl rfl | exact Or.inr rfl) (pe_callTy call_dictP rfl T.n_dict bt_dict (pa_cons (pe_comp (N := ["number", "mark"]) (cap := [none, none]) rfl (cap_ok (osc := defScope s_asked) (XN := ["rows", "halves", "lines", "gap", "marks", "numbers", "wishes", "helper", "line"]) rfl rfl (by decide +kernel)) (pi_enumerate rfl T.n_enumerate (pa_cons (pv 4) pa_nil)) (fun cl C s H fp pins => (pgK_tup (K := K) (n := 2) rfl rfl (pgs_cons (pg_name (i := 0) (show (["number", "mark"] : List Str).Nodup by decide +kernel) rfl (by first | exact Or.inl rfl | exact Or.inr rfl)) (pgs_cons (pg_name (i := 1) (show (["number", "mark"] : List Str).Nodup by decide +kernel) rfl (by first | exact Or.inl rfl | exact Or.inr rfl)) pgs_nil)))) (fun cl C s H fp pins => pif_nil) (fun cl C s H fp pins => (pe_tup (pa_cons (pv 1) (pa_cons (pv 0) pa_nil))))) pa_nil)))
      (pss_cons (ps_setC (i := 6) sc_asked.nd rfl rfl (N := ["left", "right", "numbers", "halves", "gap"]) (cap := [none, none, some 5, some 1, some 3]) rfl (cap_ok (osc := defScope s_asked) (XN := ["rows", "halves", "lines", "gap", "marks", "numbers", "wishes", "helper", "line"]) rfl rfl (by decide +kernel)) (pi_list (pe_cal c_neighbours (hr.mono (by decide)) rfl (pa_cons (pv 0) pa_nil))) (fun cl C s H fp pins => (pgK_tup (K := K) (n := 2) rfl rfl (pgs_cons (pg_name (i := 0) (show (["left", "right", "numbers", "halves", "gap"] : List Str).Nodup by decide +kernel) rfl (by first | exact Or.inl rfl | exact Or.inr rfl)) (pgs_cons (pg_name (i := 1) (show (["left", "right", "numbers", "halves", "gap"] : List Str).Nodup by decide +kernel) rfl (by first | exact Or.inl rfl | exact Or.inr rfl)) pgs_nil)))) (fun cl C s H fp pins => pif_nil) (fun cl C s H fp pins => (pe_tup (pa_cons (pe_dget (hu_of hr) (pv 2) (pv 0) (fun _ _ => rfl)) (pa_cons (pe_dget (hu_of hr) (pv 2) (pv 1) (fun _ _ => rfl)) (pa_cons (pe_cal c_apart (hr.mono (by decide)) rfl (pa_cons (pv 3) (pa_cons (pv 4) (pa_cons (pv 0) (pa_cons (pv 1) pa_nil))))) (pa_cons pe_int pa_nil)))))) (hsw := rfl))
      (pss_cons (ps_for PassesOwn.leaving rfl (pi_enumK rfl T.n_enumerate (pa_cons (pv 2) pa_nil) (pe_callB call_len_seq rfl T.n_len bt_len (pa_cons (pv 4) pa_nil))) (pg_tup rfl (pgs_cons (pg_name (i := 7) sc_asked.nd rfl (by first | exact Or.inl rfl | exact Or.inr rfl)) (pgs_cons (pg_name (i := 8) sc_asked.nd rfl (by first | exact Or.inl rfl | exact Or.inr rfl)) pgs_nil))) (pss_cons (ps_expr (pe_bm PySem.F.plainAttrs_list PySem.F.slot_list_append PySem.F.type_list_append mt_append (pv 6) (pa_cons (pe_tup (pa_cons (pv 7) (pa_cons (pe_dget (hu_of hr) (pv 5) (pe_ix ix_tup (pv 8) pe_int (fun _ _ => rfl)) (fun _ _ => rfl)) (pa_cons pe_int (pa_cons (pe_ix ix_tup (pv 8) pe_int (fun _ _ => rfl)) pa_nil))))) pa_nil)))
      (pss_one (ps_expr (pe_bm PySem.F.plainAttrs_list PySem.F.slot_list_append PySem.F.type_list_append mt_append (pv 6) (pa_cons (pe_tup (pa_cons (pv 7) (pa_cons (pe_dget (hu_of hr) (pv 5) (pe_ix ix_tup (pv 8) pe_int (fun _ _ => rfl)) (fun _ _ => rfl)) (pa_cons pe_int (pa_cons (pe_ix ix_tup (pv 8) pe_int (fun _ _ => rfl)) pa_nil))))) pa_nil))))))
      (pss_one (ps_ret (pe_tup (pa_cons (pe_op op_add (pe_callB call_len_seq rfl T.n_len bt_len (pa_cons (pv 4) pa_nil)) (pe_callB call_len_seq rfl T.n_len bt_len (pa_cons (pv 2) pa_nil))) (pa_cons (pv 6) pa_nil)))))))))), ?_⟩
    refine ⟨_, rfl, l, rs, rows, rfl, hl, hw, by omega, fun mA H1 s1 nmA hmA => ?_⟩
    refine ⟨_, rfl, mA, _, rfl, .inl (SqL.of hmA), _, _, rfl, rfl, _, rfl, ?_⟩
    refine iteB (fun c1 => ?_) (fun c1 => ?_)
    · have b1 : 40 < rows.flatten.length := by
        have := of_decide_eq_true c1
        rw [List.length_map] at this
        omega
      exact iteT ⟨by show 0 ≤ sizeLine; decide, k2 (.inl b1) H1 s1⟩
    have b1 : rows.flatten.length ≤ 40 := by
      have := of_decide_eq_false c1
      rw [List.length_map] at this
      omega
    refine ⟨_, rfl, m, _, rfl, .inl (SqL.of (s1 _ _ hm)), _, _, rfl, rfl, _, rfl, ?_⟩
    refine iteB (fun c2 => ?_) (fun c2 => ?_)
    · have b2 : 40 < ls.length := by
        have := of_decide_eq_true c2
        omega
      exact ⟨by show 0 ≤ sizeLine; decide, k2 (.inr b2) H1 s1⟩
    have b2 : ls.length ≤ 40 := by
      have := of_decide_eq_false c2
      omega
    have k := k1 ⟨b1, b2⟩
    generalize hmk : rows.flatten = mk at hmA nd has hin b1 k h60
    -- the numbers
    refine ⟨_, rfl, mA, rfl, ⟨_, SqL.of hmA⟩, fun D hD => ?_⟩
    refine comp_enum (K := K) (l := mA) (xs := mk.map V.str) (fun j τ H' => ∃ v1 v2 us, τ = [v1, v2] ∧ Same H1 H' ∧ H' D = some (.lst us) ∧ PairsAt K H' (numK 0 (mk.take j)) us) ⟨none, none, [], rfl, Same.new hD, upd_same, by rw [List.take_zero]; rfl⟩ ?_ ?_ ?_
    · rintro j τ H' _ ⟨_, _, _, rfl, sm, _⟩
      exact SqL.of (sm _ _ hmA)
    · rintro j y tt τ H' hy nt ⟨v1, v2, us, rfl, sm, hus, pus⟩
      obtain ⟨n, hn, rfl⟩ := strs_at hy
      have hj : j < mk.length := (List.getElem?_eq_some_iff.mp hn).1
      have ul : us.length ≤ j := by
        rw [← PairsAt.len pus, numK_len, List.length_take]
        omega
      have s3 : Same H' (upd H' tt (.tup [.int j, .str n])) := Same.new nt
      have h3t : upd H' tt (.tup [.int j, .str n]) tt = some (.tup [.int j, .str n]) := upd_same
      generalize upd H' tt (.tup [.int j, .str n]) = H3 at s3 h3t ⊢
      refine ⟨tt, _, rfl, SqT.of h3t, rfl, _, _, rfl, _, _, rfl, rfl, ?_⟩
      refine ⟨_, rfl, _, rfl, (by show 2 ≤ sizeLine; decide), fun z nz => ?_⟩
      have s4 : Same H3 (upd H3 z (.tup [.str n, .int j])) := Same.new nz
      have h4z : upd H3 z (.tup [.str n, .int j]) z = some (.tup [.str n, .int j]) := upd_same
      generalize upd H3 z (.tup [.str n, .int j]) = H4 at s4 h4z ⊢
      have t4 := s3.trans s4
      have h4D := t4 _ _ hus
      have tk : Tk H4 (upd H4 D (.lst (us ++ [.ref z]))) := Tk.upd h4D rfl
      refine ⟨_, h4D, by rw [sizeLine_eq]; omega, _, _, _, rfl, same_upd hD (sm.trans t4), upd_same, ?_⟩
      rw [take_snoc hn, numK_snoc, List.length_take, Nat.min_eq_left (Nat.le_of_lt hj), Nat.zero_add]
      exact PairsAt.snoc (kv := (Sum.inr n, .int (j : Int))) (tk.sqT (SqT.of h4z)) (((Tk.of t4).trans tk |> fun t => PairsAt.tk t pus))
    rintro τ H2 ⟨v1, v2, us, rfl, s2, h2D, p2⟩
    rw [List.length_map, List.take_length] at p2
    refine ⟨D, us, numK 0 mk, rfl, SqL.of h2D, p2, by rw [numK_len]; omega, fun d nd' => ?_⟩
    have s3 : Same H2 (upd H2 d (.dK (NumD mk))) := Same.new nd'
    have h3d : upd H2 d (.dK (NumD mk)) d = some (.dK (NumD mk)) := upd_same
    change upd H2 d (.dK (mkD (numK 0 mk))) d = _ at h3d
    change Same H2 (upd H2 d (.dK (mkD (numK 0 mk)))) at s3
    generalize upd H2 d (.dK (mkD (numK 0 mk))) = H3 at s3 h3d ⊢
    have t3 := s1.trans (s2.trans s3)
    have num : ∀ n ∈ mk, valV (NumD mk) (Sum.inr n) = some (.int (ix mk n)) := fun n hn => num_val nd hn
    dsimp only [gName]
    -- neighbours
    have rowl : ∀ row ∈ rows, row.length ≤ 60 := fun row hr => by
      have : row.length ≤ rows.flatten.length := (List.sublist_flatten_of_mem hr).length_le
      rw [hmk] at this
      omega
    refine ⟨_, rfl, l, rs, rows, rfl, t3 _ _ hl, hw.same t3, h30, rowl, fun nA H4 s4 hnA h18 => ?_⟩
    obtain ⟨xn, hn4, hdn⟩ := hnA
    have hnx : (nbs rows).length = xn.length := by rw [← hdn.length, List.length_map]
    have hnm : ∀ q ∈ nbs rows, q.1 ∈ mk ∧ q.2 ∈ mk := fun q hq => by
      obtain ⟨row, hr, m1, m2⟩ := nbs_mem hq
      rw [← hmk]
      exact ⟨List.mem_flatten.mpr ⟨row, hr, m1⟩, List.mem_flatten.mpr ⟨row, hr, m2⟩⟩
    have t4 := t3.trans s4
    have hd4 := s4 _ _ h3d
    refine ⟨nA, rfl, ⟨_, SqL.of hn4⟩, fun x nx => ?_⟩
    have nx0 := none_of t4 nx
    refine comp_list (K := K) (a := nA) (xs := xn) (fun i τ G => ∃ v1 v2 ys, τ = [v1, v2, some (.ref d), some (.ref h), some (.int g)] ∧ Same H4 G ∧ G x = some (.lst ys) ∧ DtVs K G ((((nbs rows).take i).map (wN hv mk g)).map wD) ys ∧ Tps G ys) ⟨none, none, [], rfl, Same.new nx, upd_same, rfl, fun y hy => by cases hy⟩ ?_ ?_ ?_
    · rintro i τ G _ ⟨_, _, _, rfl, sg, _⟩
      exact SqL.of (sg _ _ hn4)
    · rintro i y τ G hy ⟨v1, v2, ys, rfl, sg, hg, hdy, tps⟩
      have hi : i < xn.length := (List.getElem?_eq_some_iff.mp hy).1
      obtain ⟨q, hq, dq⟩ := dts_get hdn hy
      obtain ⟨tq, rfl, htq⟩ := un_ln (sg.dt dq)
      obtain ⟨q1, q2⟩ := hnm q (List.mem_of_getElem? hq)
      have ky : ys.length ≤ 1800 := by
        have e := hdy.length
        rw [List.length_map, List.length_map, List.length_take] at e
        omega
      dsimp only [tYes]
      refine ⟨tq, _, rfl, htq, rfl, _, _, rfl, _, _, rfl, rfl, ?_⟩
      refine iteT ?_
      refine ⟨_, rfl, _, rfl, d, _, rfl, dget_k (k := Sum.inr q.1) (sg _ _ hd4) (num _ q1), _, rfl, _, rfl, d, _, rfl, dget_k (k := Sum.inr q.2) (sg _ _ hd4) (num _ q2), _, rfl, _, rfl, _, rfl, _, rfl, h, g, q.1, q.2, hv, rfl, sg _ _ (t4 _ _ hh), has _ q1, has _ q2, (by show 4 ≤ sizeLine; decide), fun z nz => ?_⟩
      have s5 : Same G (upd G z (.tup [.int (ix mk q.1), .int (ix mk q.2), .int (gv hv q.1 + gv hv q.2 + g), .int 0])) := Same.new nz
      have h5 : upd G z (.tup [.int (ix mk q.1), .int (ix mk q.2), .int (gv hv q.1 + gv hv q.2 + g), .int 0]) z = some (.tup [.int (ix mk q.1), .int (ix mk q.2), .int (gv hv q.1 + gv hv q.2 + g), .int 0]) := upd_same
      generalize upd G z (.tup [.int (ix mk q.1), .int (ix mk q.2), .int (gv hv q.1 + gv hv q.2 + g), .int 0]) = G5 at s5 h5 ⊢
      refine ⟨_, s5 _ _ hg, by rw [sizeLine_eq]; omega, _, _, _, rfl, same_upd nx (sg.trans s5), upd_same, ?_, (((tps.tk (Tk.of s5)).tk (Tk.upd (s5 _ _ hg) rfl)).snoc ((Tk.upd (s5 _ _ hg) rfl) _ _ h5 rfl))⟩
      rw [take_snoc hq, List.map_append, List.map_append]
      have kp : Tk G5 (upd G5 x (.lst (ys ++ [.ref z]))) := Tk.upd (s5 _ _ hg) rfl
      exact DtVs.snoc (d := wD (wN hv mk g q)) (kp.dt rfl ⟨z, _, rfl, SqT.of h5, _, _, rfl, rfl, _, _, rfl, rfl, _, _, rfl, rfl, _, _, rfl, rfl, rfl⟩) (kp.dts (noLsts_map (fun _ => rfl) _) (s5.dts hdy))
    rintro τ H5 ⟨v1', v2', ys, rfl, s5, h5, hdy, tps5⟩
    rw [← hnx, List.take_length] at hdy
    have t5 := t4.trans s5
    have hd5 := s5 _ _ hd4
    have hmA5 := s5 _ _ (s4 _ _ (s3 _ _ (s2 _ _ hmA)))
    have lys : ys.length ≤ 1800 := by
      have e := hdy.length
      rw [List.length_map, List.length_map] at e
      omega
    -- lines
    refine ⟨_, rfl, _, rfl, mA, _, rfl, .inl (SqL.of hmA5), m, mk.length, rfl, by rw [List.length_map], by omega, ⟨_, SqL.of (t5 _ _ hm)⟩, for_enumK (K := K) (l := m) (xs := xl) (fun i σ G => ∃ v7 v8 zs, σ = [some (.ref l), some (.ref h), some (.ref m), some (.int g), some (.ref mA), some (.ref d), some (.ref x), v7, v8] ∧ Same H G ∧ G mA = some (.lst (mk.map V.str)) ∧ G d = some (.dK (NumD mk)) ∧ G x = some (.lst zs) ∧ DtVs K G (((nbs rows).map (wN hv mk g) ++ wL mk mk.length 0 (ls.take i)).map wD) zs ∧ Tps G zs)
      ⟨none, none, ys, rfl, t5, hmA5, hd5, h5, by rw [List.take_zero]; show DtVs K H5 (((nbs rows).map (wN hv mk g) ++ []).map wD) ys; rw [List.append_nil]; exact hdy, tps5⟩ ?_ ?_ ?_⟩
    · rintro i σ G _ ⟨_, _, _, rfl, sg, _⟩
      exact SqL.of (sg _ _ hm)
    · rintro i y tt σ G hy nt ⟨v7, v8, zs, rfl, sg, gm, gd, gx, hdz, tpz⟩
      have hi : i < xl.length := (List.getElem?_eq_some_iff.mp hy).1
      obtain ⟨q, hq, dq⟩ := dts_get hdl hy
      obtain ⟨tq, rfl, htq⟩ := un_l3 (sg.dt dq)
      obtain ⟨q1, q2⟩ := hin q (List.mem_of_getElem? hq)
      have kz : zs.length ≤ 1800 + 2 * i := by
        have e := hdz.length
        have e2 := hdy.length
        rw [List.length_map, List.length_append, List.length_map, wL_len, List.length_take] at e
        rw [List.length_map, List.length_map] at e2
        omega
      have s6 : Same G (upd G tt (.tup [.int ((mk.length : Int) + i), .ref tq])) := Same.new nt
      have h6 : upd G tt (.tup [.int ((mk.length : Int) + i), .ref tq]) tt = some (.tup [.int ((mk.length : Int) + i), .ref tq]) := upd_same
      generalize upd G tt (.tup [.int ((mk.length : Int) + i), .ref tq]) = G6 at s6 h6 ⊢
      refine ⟨tt, _, rfl, SqT.of h6, rfl, _, _, rfl, _, _, rfl, rfl, ?_⟩
      have e0 : ((mk.length : Int) + i) = ((mk.length + (0 + (ls.take i).length) : Nat) : Int) := by
        rw [List.length_take]
        omega
      have gx6 := s6 _ _ gx
      have hz6 := s6.dts hdz
      have gd6 := s6 _ _ gd
      have gm6 := s6 _ _ gm
      have tq6 := s6.sqT htq
      -- one wish more
      refine ⟨_, rfl, .inl ⟨rfl, _, SqL.of gx6⟩, _, rfl, _, rfl, _, rfl, tq, _, 0, _, rfl, rfl, tq6, at_cons0, d, _, rfl, dget_k (k := Sum.inr q.1) gd6 (num _ q1), _, rfl, tq, _, 2, _, rfl, rfl, tq6, rfl, (by show 4 ≤ sizeLine; decide), fun z nz => ?_⟩
      have s7 : Same G6 (upd G6 z (.tup [.int ((mk.length : Int) + i), .int (ix mk q.1), .int 0, .int q.2.2])) := Same.new nz
      have h7 : upd G6 z (.tup [.int ((mk.length : Int) + i), .int (ix mk q.1), .int 0, .int q.2.2]) z = some (.tup [.int ((mk.length : Int) + i), .int (ix mk q.1), .int 0, .int q.2.2]) := upd_same
      generalize upd G6 z (.tup [.int ((mk.length : Int) + i), .int (ix mk q.1), .int 0, .int q.2.2]) = G7 at s7 h7 ⊢
      have gx7 := s7 _ _ gx6
      refine ⟨x, _, _, rfl, rfl, gx7, by rw [sizeLine_eq]; omega, ?_⟩
      have kp : Tk G7 (upd G7 x (.lst (zs ++ [.ref z]))) := Tk.upd gx7 rfl
      have nxd : d ≠ x := ne_of (s7 _ _ gd6) gx7 (by intro e; cases e)
      have nxm : mA ≠ x := (ne_of_none (s4 _ _ (s3 _ _ (s2 _ _ hmA))) nx)
      have s8 : Same H (upd G7 x (.lst (zs ++ [.ref z]))) := same_upd nx0 (sg.trans (s6.trans s7))
      have d8 : DtVs K (upd G7 x (.lst (zs ++ [.ref z]))) (((nbs rows).map (wN hv mk g) ++ wL mk mk.length 0 (ls.take i) ++ [(((mk.length + (0 + (ls.take i).length) : Nat) : Int), ix mk q.1, (0 : Int), q.2.2)]).map wD) (zs ++ [.ref z]) := by
        rw [List.map_append]
        refine DtVs.snoc (d := wD (((mk.length + (0 + (ls.take i).length) : Nat) : Int), ix mk q.1, (0 : Int), q.2.2)) (kp.dt rfl ⟨z, _, rfl, SqT.of h7, _, _, rfl, ?_, _, _, rfl, rfl, _, _, rfl, rfl, _, _, rfl, rfl, rfl⟩) (kp.dts (noLsts_map (fun _ => rfl) _) (s7.dts hz6))
        show V.int _ = V.int _
        rw [e0]
      have gd8 : upd G7 x (.lst (zs ++ [.ref z])) d = some (.dK (NumD mk)) := by rw [upd_ne nxd]; exact s7 _ _ gd6
      have gm8 : upd G7 x (.lst (zs ++ [.ref z])) mA = some (.lst (mk.map V.str)) := by rw [upd_ne nxm]; exact s7 _ _ gm6
      have tp8 : Tps (upd G7 x (.lst (zs ++ [.ref z]))) (zs ++ [.ref z]) := ((tpz.tk (Tk.of (s6.trans s7))).tk kp).snoc (kp _ _ h7 rfl)
      have gx8 : upd G7 x (.lst (zs ++ [.ref z])) x = some (.lst (zs ++ [.ref z])) := upd_same
      have tq8 : SqT K (upd G7 x (.lst (zs ++ [.ref z]))) tq [.str q.1, .str q.2.1, .int q.2.2] := kp.sqT (s7.sqT tq6)
      generalize upd G7 x (.lst (zs ++ [.ref z])) = G8 at s8 d8 gd8 gm8 gx8 tq8 tp8 ⊢
      refine ⟨_, rfl, .inl ⟨rfl, _, SqL.of gx8⟩, _, rfl, _, rfl, _, rfl, tq, _, 1, _, rfl, rfl, tq8, at_cons1, d, _, rfl, dget_k (k := Sum.inr q.2.1) gd8 (num _ q2), _, rfl, tq, _, 2, _, rfl, rfl, tq8, rfl, (by show 4 ≤ sizeLine; decide), fun z' nz' => ?_⟩
      have s9 : Same G8 (upd G8 z' (.tup [.int ((mk.length : Int) + i), .int (ix mk q.2.1), .int 0, .int q.2.2])) := Same.new nz'
      have h9 : upd G8 z' (.tup [.int ((mk.length : Int) + i), .int (ix mk q.2.1), .int 0, .int q.2.2]) z' = some (.tup [.int ((mk.length : Int) + i), .int (ix mk q.2.1), .int 0, .int q.2.2]) := upd_same
      generalize upd G8 z' (.tup [.int ((mk.length : Int) + i), .int (ix mk q.2.1), .int 0, .int q.2.2]) = G9 at s9 h9 ⊢
      have gx9 := s9 _ _ gx8
      refine ⟨x, _, _, rfl, rfl, gx9, by rw [List.length_append, sizeLine_eq]; show _ + 1 < _; omega, ?_⟩
      have kp9 : Tk G9 (upd G9 x (.lst (zs ++ [.ref z] ++ [.ref z']))) := Tk.upd gx9 rfl
      refine ⟨_, _, _, rfl, same_upd nx0 (s8.trans s9), by rw [upd_ne nxm]; exact s9 _ _ gm8, by rw [upd_ne nxd]; exact s9 _ _ gd8, upd_same, ?_, ((tp8.tk (Tk.of s9)).tk kp9).snoc (kp9 _ _ h9 rfl)⟩
      rw [take_snoc hq, wL_snoc, ← List.append_assoc]
      have e3 : ∀ (u : List Wi) (p1 p2 : Wi), u ++ [p1, p2] = u ++ [p1] ++ [p2] := fun u p1 p2 => by rw [List.append_assoc]; rfl
      rw [e3, List.map_append]
      refine DtVs.snoc (d := wD (((mk.length + (0 + (ls.take i).length) : Nat) : Int), ix mk q.2.1, (0 : Int), q.2.2)) (kp9.dt rfl ⟨z', _, rfl, SqT.of h9, _, _, rfl, ?_, _, _, rfl, rfl, _, _, rfl, rfl, _, _, rfl, rfl, rfl⟩) (kp9.dts (noLsts_map (fun _ => rfl) _) (s9.dts d8))
      show V.int _ = V.int _
      rw [e0]
    · rintro σ G ⟨v7, v8, zs, rfl, sg, gm, gd, gx, hdz, tpz⟩
      rw [← hlx, List.take_length] at hdz
      refine ⟨_, rfl, mA, _, rfl, .inl (SqL.of gm), _, rfl, m, _, rfl, .inl (SqL.of (sg _ _ hm)), _, _, rfl, rfl, _, rfl, (by show 2 ≤ sizeLine; decide), fun t nt => ?_⟩
      rw [List.length_map, ← hlx]
      have s9 : Same G (upd G t (.tup [.int ((mk.length : Int) + ls.length), .ref x])) := Same.new nt
      refine k t x _ (sg.trans s9) (none_of sg nt) nx0 upd_same ?_
      refine ⟨zs, s9 _ _ gx, ?_, tpz.tk (Tk.of s9)⟩
      unfold wAll
      rw [hmk]
      exact s9.dts hdz
def spSide (K : PySem.W.Frag) (a : Adr) : Sp := fun vs H Q E => ∃ l rs rows h hv m ls g, vs = [.ref l, .ref h, .ref m, .int g] ∧ H l = some (.lst ((rs : List Addr).map V.ref)) ∧ Rw H rs rows ∧ rows.length ≤ 30 ∧ rows.flatten.length ≤ 60 ∧ rows.flatten.Nodup ∧ H h = some (.dK hv) ∧ (∀ s ∈ rows.flatten, Has hv s) ∧ L3At K H m ls ∧ ls.length ≤ 60 ∧ (∀ q ∈ ls, q.1 ∈ rows.flatten ∧ q.2.1 ∈ rows.flatten) ∧
  (40 < rows.flatten.length ∨ 40 < ls.length) ∧ ∀ H', Same H H' → E (.ref a.TooMany) none H'
set_option maxHeartbeats 8000000 in
theorem ok_sideways (T : Tx K mg a) : Cal P w K mg base (CXe P w) 3 "sideways" ["rows", "halves", "lines", "gap"] [] (spSide K a) := T.d_sideways.cal fun f fd F => by
  have c_asked := ok_asked (P := P) (w := w) (base := base) T
  refine F.okX sc_sideways (fun vs H Q E h => ?_) (fun cdv A outer s H vs Q E hr h => ?_)
  · obtain ⟨l, rs, rows, h, hv, m, ls, g, rfl, _⟩ := h
    rfl
  · obtain ⟨l, rs, rows, h, hv, m, ls, g, rfl, hl, hw, h30, h60, nd, hh, has, hm, hls, hin, bad, k⟩ := h
    refine' ⟨_, pss_cons ?s0 ?r0, ?sg⟩
    case s0 => exact (ps_set (i := 4) sc_sideways.nd rfl (by first | exact Or.inl rfl | exact Or.inr rfl) (pe_calX c_asked px_body (hr.mono (by decide)) rfl (pa_cons (pv 0) (pa_cons (pv 1) (pa_cons (pv 2) (pa_cons (pv 3) pa_nil))))))
    case r0 =>
      refine' pss_cons ?s1 ?r1
      case s1 =>
        exact ps_never
      case r1 =>
        refine' pss_one ?s2
        case s2 =>
          exact ps_never
    case sg =>
    refine ⟨_, rfl, _, rfl, _, rfl, _, rfl, l, rs, rows, h, hv, m, ls, g, rfl, hl, hw, h30, h60, nd, hh, has, hm, hls, hin, fun z => ?_, fun _ H1 s1 => ?_⟩
    · omega
    · exact k H1 s1
end
end K61
namespace K61
open PySem L2
section
variable {P : Program} {w : World} {K : PySem.W.Frag} {mg : Str → Option Value} {base : Heap} {a : Adr}
/-! the law's own defs -/
def num (c k : Int) : Int := (c + 7919 * k + 1) * 48271 % 2147483647
def mixed (c k : Int) : Int := num c k * (num c k / 1009 + 69621) % 2147483647
theorem num_lo (c k : Int) : 0 ≤ num c k := Int.emod_nonneg _ (by decide)
theorem num_hi (c k : Int) : num c k < 2147483647 := Int.emod_lt_of_pos _ (by decide)
def spMixed : Sp := fun vs H Q _ => ∃ c k, vs = [.int c, .int k] ∧ Q (.int (mixed c k)) H
theorem ok_mixed (T : Tx K mg a) : Cal P w K mg base CX0 1 "_law_mixed" ["_law_cell", "_law_k"] [] spMixed := T.d__law_mixed.cal fun f fd F => by
  refine F.ok sc__law_mixed (fun vs H Q E h => ?_) (fun cdv A outer s H vs Q E hr h => ?_)
  · obtain ⟨c, k, rfl, _⟩ := h
    rfl
  · obtain ⟨c, k, rfl, q⟩ := h
    refine ⟨_, (pss_cons (ps_set (i := 2) sc__law_mixed.nd rfl (by first | exact Or.inl rfl | exact Or.inr rfl) (pe_op op_mod (pe_op op_mul (pe_op op_add (pe_op op_add (pv 0) (pe_op op_mul pe_int (pv 1))) pe_int) pe_int) pe_int))
      (pss_one (ps_ret (pe_op op_mod (pe_op op_mul (pv 2) (pe_op op_add (pe_op op_fdiv (pv 2) pe_int) pe_int)) pe_int)))), ?_⟩
    refine ⟨_, rfl, _, rfl, _, _, rfl, rfl, .inl ⟨by decide, by decide⟩, _, _, rfl, rfl, _, _, rfl, rfl, _, _, rfl, rfl, .inr ⟨by decide, by decide⟩, _, _, rfl, rfl, (by show (0 : Int) < 2147483647; decide), ?_⟩
    have h1 := num_lo c k
    have h2 := num_hi c k
    refine ⟨_, rfl, _, rfl, _, _, rfl, rfl, ⟨by decide, by decide⟩, _, _, rfl, rfl, _, _, rfl, rfl, .inl ⟨?_, ?_⟩, _, _, rfl, rfl, (by show (0 : Int) < 2147483647; decide), q⟩
    · show -(2 ^ 64) < num c k
      omega
    · show num c k < 2 ^ 64
      omega
def spCellAt (K : PySem.W.Frag) : Sp := fun vs H Q _ => ∃ p, ∃ ns : List Int, ∃ k, vs = [.ref p, .int k] ∧ SqL K H p (ns.map V.int) ∧ 0 ≤ k ∧ ∀ c, Q (.int c) H
theorem ok_cell_at (T : Tx K mg a) : Cal P w K mg base CX0 1 "_law_cell_at" ["_law_script", "_law_k"] [] (spCellAt K) := T.d__law_cell_at.cal fun f fd F => by
  refine F.ok sc__law_cell_at (fun vs H Q E h => ?_) (fun cdv A outer s H vs Q E hr h => ?_)
  · obtain ⟨p, ns, k, rfl, _⟩ := h
    rfl
  · obtain ⟨p, ns, k, rfl, hS, h0, q⟩ := h
    refine ⟨_, (pss_cons (ps_if (pt_cmpR op_lt (pv 1) (pe_callB call_len_seq rfl T.n_len bt_len (pa_cons (pv 0) pa_nil)) (nomark _)) (pss_one (ps_ret (pe_ix ix_list (pv 0) (pv 1) (fun _ _ => rfl)))) pss_nil)
      (pss_one (ps_ret pe_int))), ?_⟩
    refine ⟨_, rfl, _, rfl, p, _, rfl, .inl hS, _, _, rfl, rfl, _, rfl, ?_⟩
    refine iteB (fun c => ?_) (fun c => ?_)
    · have h1 : k < ns.length := by
        have := of_decide_eq_true c
        rwa [List.length_map] at this
      obtain ⟨z, hz⟩ := at_int h0 h1
      exact ⟨_, rfl, _, rfl, p, _, _, _, rfl, rfl, hS, hz, q z⟩
    · exact q 0
theorem at_ref {rs : List Addr} {k : Int} (h0 : 0 ≤ k) (h1 : k < rs.length) : ∃ r, rs[k.toNat]? = some r ∧ atI (rs.map V.ref) k = some (.ref r) := by
  obtain ⟨r, hr⟩ := get_of (l := rs) (j := k.toNat) (by omega)
  refine ⟨r, hr, ?_⟩
  rw [at_nat h0, List.getElem?_map, hr]
  rfl
def m12 : Row := ["a", "b", "ab", "3.1", "c", "10.2", "d", "ba", "e", "0.1", "f", "g"]
/-- every key is a text with a number -/
def AllS (kvs : Kvs) : Prop := ∀ p ∈ kvs, ∃ s i, p = (Sum.inr s, V.int i)
theorem putK_new {kvs : Kvs} {s : Str} {v : V} (h : valV kvs (Sum.inr s) = none) : putK kvs (Sum.inr s) v = kvs ++ [(Sum.inr s, v)] := by
  unfold putK
  rw [valV_any, h]
  rfl
/-- what the rows hold: the marks mk, each once, each with a half -/
structure RowsOk (mk : Row) (rows : List Row) (hv : Kvs) : Prop where
  k : rows.length ≤ 4
  k0 : 0 < rows.length
  pm : rows.flatten.Perm mk
  nd : mk.Nodup
  has : ∀ s ∈ mk, Has hv s
  no : ∀ s, s ∉ mk → valV hv (Sum.inr s) = none
  len : hv.length = mk.length
  flat : AllS hv
theorem flat_set : ∀ {rows : List Row} {i : Nat} {row : Row} {s : Str}, rows[i]? = some row → (rows.set i (row ++ [s])).flatten.Perm (rows.flatten ++ [s])
  | x :: rows, 0, row, s, h => by
    obtain rfl : x = row := Option.some.inj h
    show (x ++ [s] ++ rows.flatten).Perm (x ++ rows.flatten ++ [s])
    rw [List.append_assoc, List.append_assoc]
    exact List.Perm.append_left _ List.perm_append_comm
  | x :: rows, i + 1, row, s, h => by
    show (x ++ (rows.set i (row ++ [s])).flatten).Perm (x ++ rows.flatten ++ [s])
    rw [List.append_assoc]
    exact List.Perm.append_left _ (flat_set (by simpa using h))
theorem RowsOk.put {mk : Row} {rows : List Row} {hv : Kvs} (h : RowsOk mk rows hv) {i : Nat} {row : Row} {s : Str} {z : Int} (hr : rows[i]? = some row) (hs : s ∉ mk) : RowsOk (mk ++ [s]) (rows.set i (row ++ [s])) (putK hv (Sum.inr s) (.int z)) where
  k := by rw [List.length_set]; exact h.k
  k0 := by rw [List.length_set]; exact h.k0
  pm := (flat_set hr).trans (h.pm.append_right _)
  nd := List.nodup_append.mpr ⟨h.nd, List.nodup_cons.mpr ⟨(by simp), List.nodup_nil⟩, fun x hx y hy e => hs (by rw [← List.mem_singleton.mp hy, ← e]; exact hx)⟩
  has := fun t ht => by
    rcases List.mem_append.mp ht with ht | ht
    · exact (h.has t ht).put
    · rw [List.mem_singleton.mp ht]
      exact Has.new
  no := fun t ht => by
    rw [List.mem_append, not_or, List.mem_singleton] at ht
    rw [valV_put, if_neg (fun q => ht.2 (Sum.inr.inj q))]
    exact h.no t ht.1
  len := by rw [putK_new (h.no s hs), List.length_append, List.length_append, h.len]; rfl
  flat := fun p hp => by
    rw [putK_new (h.no s hs)] at hp
    rcases List.mem_append.mp hp with hp | hp
    · exact h.flat p hp
    · exact ⟨s, z, List.mem_singleton.mp hp⟩
def spRows (K : PySem.W.Frag) : Sp := fun vs H Q _ => ∃ p, ∃ ns : List Int, vs = [.ref p] ∧ SqL K H p (ns.map V.int) ∧ ∀ t m l h rs mk rows hv H', Same H H' → H' t = some (.tup [.ref m, .ref l, .ref h]) → H' m = some (.lst ((mk : Row).map V.str)) → H' l = some (.lst ((rs : List Addr).map V.ref)) → Rw H' rs rows → H' h = some (.dK hv) → RowsOk mk rows hv → mk.length ≤ 12 → (∀ s ∈ mk, s ∈ m12) → rs.Nodup → (∀ r ∈ rs, r ≠ l ∧ r ≠ m ∧ r ≠ h ∧ H r = none) → l ≠ m → H l = none → H h = none → H m = none → Q (.ref t) H'
theorem cut_take (xs : List V) (k : Nat) : cutV xs none (some (k : Int)) = xs.take k := by
  unfold cutV
  rw [HT.sIx_none, List.drop_zero, Nat.sub_zero]
  have e : HT.sIx xs.length xs.length (some (k : Int)) = min k xs.length := by
    unfold HT.sIx
    dsimp only
    rw [if_neg (by omega), Int.toNat_natCast]
  rw [e, ← List.take_eq_take_min]
theorem nd12 : m12.Nodup := by decide +kernel
theorem rep_mem {rs : List Addr} {rows : List Row} {H : Hp} (h : Rw H rs rows) {r : Addr} (hr : r ∈ rs) : ∃ o, H r = some o := by
  obtain ⟨j, hj⟩ := List.mem_iff_getElem?.mp hr
  obtain ⟨row, _, e⟩ := h.at hj
  exact ⟨_, e⟩
set_option maxHeartbeats 4000000 in
theorem ok_rows (T : Tx K mg a) : Cal P w K mg base CX0 2 "_law_rows" ["_law_script"] [] (spRows K) := T.d__law_rows.cal fun f fd F => by
  have c__law_mixed := ok_mixed (P := P) (w := w) (base := base) T
  have c__law_cell_at := ok_cell_at (P := P) (w := w) (base := base) T
  refine F.ok sc__law_rows (fun vs H Q E h => ?_) (fun cdv A outer s H vs Q E hr h => ?_)
  · obtain ⟨p, ns, rfl, _⟩ := h
    rfl
  · obtain ⟨p, ns, rfl, hS, k⟩ := h
    refine' ⟨_, pss_cons ?s0 ?r0, ?sg⟩
    case s0 => exact (ps_set (i := 1) sc__law_rows.nd rfl (by first | exact Or.inl rfl | exact Or.inr rfl) (pe_cal c__law_cell_at (hr.mono (by decide)) rfl (pa_cons (pv 0) (pa_cons pe_int pa_nil))))
    case r0 =>
      refine' pss_cons ?s1 ?r1
      case s1 =>
        rw [ps_cutStrs (i := 2) (xs := m12)]
        exact trivial
        case hxs => rfl
        case hy => exact pv 1
        case hN => exact sc__law_rows.nd
        case hi => rfl
        case hx => exact Or.inl rfl
        case hs => rfl
        case hf => exact .inr rfl
      case r1 =>
        refine' pss_cons ?s2 ?r2
        case s2 => exact (ps_setC (i := 3) sc__law_rows.nd rfl rfl (N := ["_law_k"]) (cap := [none]) rfl (cap_ok (osc := defScope s__law_rows) (XN := ["_law_script", "_law_first", "_law_marks", "_law_rows_here", "_law_halves", "_law_k", "_law_mark"]) rfl rfl (by decide +kernel)) (pi_range1 rfl T.n_range (pa_cons (pe_op op_add pe_int (pe_op op_mod (pe_op op_fdiv (pv 1) pe_int) pe_int)) pa_nil)) (fun cl C s H fp pins => (pg_name (i := 0) (show (["_law_k"] : List Str).Nodup by decide +kernel) rfl (by first | exact Or.inl rfl | exact Or.inr rfl))) (fun cl C s H fp pins => pif_nil) (fun cl C s H fp pins => (pe_lst pa_nil)) (hsw := rfl))
        case r2 =>
          refine' pss_cons ?s3 ?r3
          case s3 => exact (ps_set (i := 4) sc__law_rows.nd rfl (by first | exact Or.inl rfl | exact Or.inr rfl) pe_dnewK)
          case r3 =>
            refine' pss_cons ?s4 ?r4
            case s4 => exact (ps_for PassesOwn.never rfl (pi_enumerate rfl T.n_enumerate (pa_cons (pv 2) pa_nil)) (pg_tup rfl (pgs_cons (pg_name (i := 5) sc__law_rows.nd rfl (by first | exact Or.inl rfl | exact Or.inr rfl)) (pgs_cons (pg_name (i := 6) sc__law_rows.nd rfl (by first | exact Or.inl rfl | exact Or.inr rfl)) pgs_nil))) (pss_cons (ps_expr (pe_bm PySem.F.plainAttrs_list PySem.F.slot_list_append PySem.F.type_list_append mt_append (pe_ix ix_list (pv 3) (pe_op op_mod (pe_cal c__law_mixed (hr.mono (by decide)) rfl (pa_cons (pv 1) (pa_cons (pv 5) pa_nil))) (pe_callB call_len_seq rfl T.n_len bt_len (pa_cons (pv 3) pa_nil))) (fun _ _ => rfl)) (pa_cons (pv 6) pa_nil)))
      (pss_one (ps_dput (hu_of hr) (pv 4) (pv 6) (pe_ix ix_list (pe_lst (pa_cons pe_int (pa_cons (pe_op op_mod (pe_cal c__law_mixed (hr.mono (by decide)) rfl (pa_cons (pv 1) (pa_cons (pe_op op_add pe_int (pv 5)) pa_nil))) pe_int) pa_nil))) (pe_op op_mod (pe_cal c__law_mixed (hr.mono (by decide)) rfl (pa_cons (pv 1) (pa_cons (pe_op op_add pe_int (pv 5)) pa_nil))) pe_int) (fun _ _ => rfl)) rfl))))
            case r4 =>
              exact pss_one (ps_ret (pe_tup (pa_cons (pv 2) (pa_cons (pv 3) (pa_cons (pv 4) pa_nil)))))
    case sg =>
    refine ⟨_, rfl, p, ns, 0, rfl, hS, by decide, fun c => ?_⟩
    obtain ⟨cj, hcj⟩ : ∃ j : Nat, c % 13 = (j : Int) := ⟨(c % 13).toNat, by have := Int.emod_nonneg c (show (13 : Int) ≠ 0 by decide); omega⟩
    obtain ⟨mk, hmk, hml12, nd12', in12⟩ : ∃ mk : Row, cutV (m12.map V.str) none (some (c % 13)) = mk.map V.str ∧ mk.length ≤ 12 ∧ mk.Nodup ∧ ∀ s ∈ mk, s ∈ m12 := by
      refine ⟨m12.take cj, by rw [hcj, cut_take, List.map_take], ?_, nd12.sublist (List.take_sublist _ _), fun s hs => List.mem_of_mem_take hs⟩
      rw [List.length_take]
      exact Nat.min_le_right _ _
    refine ⟨(by show 12 ≤ sizeLine; decide), fun z nz => ?_⟩
    have s1 : Same H (upd H z (.lst (m12.map V.str))) := Same.new nz
    have h1 : upd H z (.lst (m12.map V.str)) z = some (.lst (m12.map V.str)) := upd_same
    generalize upd H z (.lst (m12.map V.str)) = H1 at s1 h1 ⊢
    refine ⟨_, rfl, _, _, rfl, rfl, (by show (0 : Int) < 13; decide), _, rfl, z, _, rfl, SqL.of h1, fun m nm => ?_⟩
    rw [hmk]
    have s2 : Same H1 (upd H1 m (.lst (mk.map V.str))) := Same.new nm
    have h2 : upd H1 m (.lst (mk.map V.str)) m = some (.lst (mk.map V.str)) := upd_same
    generalize upd H1 m (.lst (mk.map V.str)) = H2 at s2 h2 ⊢
    have t2 := s1.trans s2
    have f0 : 0 ≤ c / 13 % 4 := Int.emod_nonneg _ (by decide)
    have f1 : c / 13 % 4 < 4 := Int.emod_lt_of_pos _ (by decide)
    -- empty rows
    refine ⟨_, rfl, _, _, rfl, rfl, ⟨by decide, by decide⟩, _, _, rfl, rfl, (by show (0 : Int) < 4; decide), _, _, rfl, rfl, _, rfl, by omega, by omega, fun D hD => ?_⟩
    refine comp_range (n := (1 + c / 13 % 4).toNat) (fun i τ H' => ∃ v1, ∃ rs : List Addr, τ = [v1] ∧ Same H2 H' ∧ H' D = some (.lst (rs.map V.ref)) ∧ Rw H' rs (List.replicate i []) ∧ rs.Nodup ∧ (∀ r ∈ rs, H2 r = none ∧ r ≠ D)) ⟨none, [], rfl, Same.new hD, upd_same, trivial, List.nodup_nil, fun r hr => by cases hr⟩ ?_ ?_
    · rintro i τ H' hi ⟨v1, rs, rfl, sm, hy, hw, nd, hn⟩
      dsimp only [gName, tYes]
      rw [if_pos rfl]
      refine ⟨(by show 0 ≤ sizeLine; decide), fun y ny => ?_⟩
      have s3 : Same H' (upd H' y (.lst [])) := Same.new ny
      have h3 : upd H' y (.lst []) y = some (.lst (([] : Row).map V.str)) := upd_same
      have nyD : y ≠ D := (ne_of_none hy ny).symm
      have yn : y ∉ rs := fun hz => by
        obtain ⟨o, e⟩ := rep_mem hw hz
        rw [ny] at e
        cases e
      generalize upd H' y (.lst []) = H3 at s3 h3 ⊢
      have e1 : (rs.map V.ref).length ≤ 4 := by
        rw [List.length_map, hw.len, List.length_replicate]
        omega
      have all : ∀ x ∈ rs ++ [y], H2 x = none ∧ x ≠ D := fun x hx => by
        rcases List.mem_append.mp hx with hx | hx
        · exact hn x hx
        · rw [List.mem_singleton.mp hx]
          exact ⟨none_of sm ny, nyD⟩
      refine ⟨_, s3 _ _ hy, by rw [sizeLine_eq]; omega, _, rs ++ [y], rfl, same_upd hD (sm.trans s3), by rw [upd_same, List.map_append]; rfl, ?_, ?_, all⟩
      · rw [show List.replicate (i + 1) ([] : Row) = List.replicate i [] ++ [[]] from List.replicate_succ']
        exact Rw.upd (Rw.snoc h3 (hw.same s3)) fun x hx => (all x hx).2
      · exact List.nodup_append.mpr ⟨nd, List.nodup_cons.mpr ⟨(by simp), List.nodup_nil⟩, fun x hx y' hy' e => yn (by rw [← List.mem_singleton.mp hy', ← e]; exact hx)⟩
    rintro τ H3 ⟨v1, rs, rfl, s3, hD3, hw, nd, hn⟩
    have t3 := t2.trans s3
    intro hh nh
    have s4 : Same H3 (upd H3 hh (.dK [])) := Same.new nh
    have h4 : upd H3 hh (.dK []) hh = some (.dK []) := upd_same
    have nDh : D ≠ hh := ne_of_none hD3 nh
    have nmh : m ≠ hh := ne_of_none (s3 _ _ h2) nh
    have nmD : m ≠ D := ne_of_none h2 hD
    have nr : ∀ r ∈ rs, r ≠ D ∧ r ≠ m ∧ r ≠ hh ∧ H r = none := fun r hr => by
      obtain ⟨n1, n2⟩ := hn r hr
      obtain ⟨o, e⟩ := rep_mem hw hr
      exact ⟨n2, (ne_of_none h2 n1).symm, ne_of_none e nh, none_of t2 n1⟩
    have hH : H hh = none := none_of t3 nh
    have hHD : H D = none := none_of t2 hD
    generalize upd H3 hh (.dK []) = H4 at s4 h4 ⊢
    have hlen := hw.len
    rw [List.length_replicate] at hlen
    have rok0 : RowsOk (mk.take 0) (List.replicate (1 + c / 13 % 4).toNat []) [] := ⟨by rw [List.length_replicate]; omega, by rw [List.length_replicate]; omega, by rw [List.take_zero, List.flatten_replicate_nil], by rw [List.take_zero]; exact List.nodup_nil, (fun s hs => by simp at hs), fun s _ => rfl, by simp, fun p hp => by cases hp⟩
    -- the marks
    refine ⟨_, rfl, m, rfl, ⟨_, SqL.of (s4 _ _ (s3 _ _ h2))⟩, for_enum (K := K) (l := m) (xs := mk.map V.str) (fun i σ H' => ∃ v5 v6, ∃ (rows : List Row) (hv : Kvs), σ = [some (.ref p), some (.int c), some (.ref m), some (.ref D), some (.ref hh), v5, v6] ∧ Same H H' ∧ H' m = some (.lst (mk.map V.str)) ∧ H' D = some (.lst (rs.map V.ref)) ∧ Rw H' rs rows ∧ H' hh = some (.dK hv) ∧ RowsOk (mk.take i) rows hv)
      ⟨none, none, _, [], rfl, t3.trans s4, s4 _ _ (s3 _ _ h2), s4 _ _ hD3, hw.same s4, h4, rok0⟩ ?_ ?_ ?_⟩
    · rintro i σ H' _ ⟨_, _, _, _, rfl, _, hm', _⟩
      exact SqL.of hm'
    · rintro i y tt σ H' hy nt ⟨v5, v6, rows, hv, rfl, sm, hm', hD', hw', hh', rok⟩
      obtain ⟨s, hs, rfl⟩ := strs_at hy
      have hi : i < mk.length := (List.getElem?_eq_some_iff.mp hs).1
      have s5 : Same H' (upd H' tt (.tup [.int i, .str s])) := Same.new nt
      have h5 : upd H' tt (.tup [.int i, .str s]) tt = some (.tup [.int i, .str s]) := upd_same
      generalize upd H' tt (.tup [.int i, .str s]) = H5 at s5 h5 ⊢
      have hrl : 0 < rs.length := by omega
      have j0 : 0 ≤ mixed c (i : Int) % ((rs.map V.ref).length : Int) := Int.emod_nonneg _ (by rw [List.length_map]; omega)
      have j1 : mixed c (i : Int) % ((rs.map V.ref).length : Int) < rs.length := by
        have := Int.emod_lt_of_pos (mixed c (i : Int)) (b := ((rs.map V.ref).length : Int)) (by rw [List.length_map]; omega)
        rw [List.length_map] at this ⊢
        exact this
      obtain ⟨r, hr1, hr2⟩ := at_ref j0 j1
      generalize (mixed c (i : Int) % ((rs.map V.ref).length : Int)).toNat = ix at hr1
      have hrm := List.mem_of_getElem? hr1
      obtain ⟨nrD, nrm, nrh, nrH⟩ := nr r hrm
      obtain ⟨row, hrow, hrr⟩ := (hw'.same s5).at hr1
      have hix : ix < rows.length := (List.getElem?_eq_some_iff.mp hrow).1
      have krow : row.length ≤ 12 := by
        have := (List.sublist_flatten_of_mem (List.mem_of_getElem? hrow)).length_le
        rw [rok.pm.length_eq, List.length_take] at this
        omega
      have kh : hv.length ≤ 12 := by rw [rok.len, List.length_take]; omega
      have hsn : s ∉ mk.take i := fun z => by
        obtain ⟨j, hj⟩ := List.mem_iff_getElem?.mp z
        rw [List.getElem?_take] at hj
        by_cases cj : j < i
        · rw [if_pos cj] at hj
          obtain ⟨l1, e1⟩ := List.getElem?_eq_some_iff.mp hj
          obtain ⟨l2, e2⟩ := List.getElem?_eq_some_iff.mp hs
          exact List.pairwise_iff_getElem.mp nd12' j i l1 l2 cj (e1.trans e2.symm)
        · rw [if_neg cj] at hj
          cases hj
      refine ⟨tt, _, rfl, SqT.of h5, rfl, _, _, rfl, _, _, rfl, rfl, ?_⟩
      refine ⟨_, rfl, _, rfl, _, rfl, c, _, rfl, _, rfl, D, _, rfl, .inl (SqL.of (s5 _ _ hD')), _, _, rfl, rfl, (by show (0 : Int) < ((rs.map V.ref).length : Int); rw [List.length_map]; omega), D, _, _, _, rfl, rfl, SqL.of (s5 _ _ hD'), hr2, .inl ⟨rfl, _, SqL.of hrr⟩, _, rfl, r, _, _, rfl, rfl, hrr, by rw [List.length_map, sizeLine_eq]; omega, ?_⟩
      have w6 : Rw (upd H5 r (.lst (row.map V.str ++ [.str s]))) rs (rows.set ix (row ++ [s])) := by
        have := Rw.put (row := row ++ [s]) (hw'.same s5) nd hr1
        rw [List.map_append] at this
        exact this
      have s6 : Same H (upd H5 r (.lst (row.map V.str ++ [.str s]))) := same_upd nrH (sm.trans s5)
      have hm6 : upd H5 r (.lst (row.map V.str ++ [.str s])) m = some (.lst (mk.map V.str)) := by rw [upd_ne (Ne.symm nrm)]; exact s5 _ _ hm'
      have hD6 : upd H5 r (.lst (row.map V.str ++ [.str s])) D = some (.lst (rs.map V.ref)) := by rw [upd_ne (Ne.symm nrD)]; exact s5 _ _ hD'
      have hh6 : upd H5 r (.lst (row.map V.str ++ [.str s])) hh = some (.dK hv) := by rw [upd_ne (Ne.symm nrh)]; exact s5 _ _ hh'
      generalize upd H5 r (.lst (row.map V.str ++ [.str s])) = H6 at w6 s6 hm6 hD6 hh6 ⊢
      obtain ⟨y2, hy2⟩ := at_int (ns := [0, mixed c (20 + (i : Int)) % 51]) (k := mixed c (40 + (i : Int)) % 2) (Int.emod_nonneg _ (by decide)) (Int.emod_lt_of_pos _ (by decide))
      refine ⟨_, rfl, _, rfl, _, _, rfl, rfl, c, _, rfl, _, _, rfl, rfl, (by show (0 : Int) < 51; decide), (by show 2 ≤ sizeLine; decide), fun q nq => ⟨_, rfl, _, rfl, _, _, rfl, rfl, c, _, rfl, _, _, rfl, rfl, (by show (0 : Int) < 2; decide), q, _, _, _, rfl, rfl, SqL.of upd_same, hy2, _, rfl, _, rfl, hh, _, rfl, DPut.k (k := Sum.inr s) (Same.new nq _ _ hh6) (by rw [sizeLine_eq]; omega), ?_⟩⟩
      have s7 : Same H6 (upd H6 q (.lst [V.int 0, V.int (mixed c (20 + (i : Int)) % 51)])) := Same.new nq
      generalize upd H6 q (.lst [V.int 0, V.int (mixed c (20 + (i : Int)) % 51)]) = H7 at s7 ⊢
      refine ⟨_, _, rows.set ix (row ++ [s]), putK hv (Sum.inr s) (.int y2), rfl, same_upd hH (s6.trans s7), by rw [upd_ne nmh]; exact s7 _ _ hm6, by rw [upd_ne nDh]; exact s7 _ _ hD6, ?_, upd_same, ?_⟩
      · exact Rw.upd (w6.same s7) fun x hx => (nr x hx).2.2.1
      · rw [take_snoc hs]
        exact rok.put hrow hsn
    · rintro σ H' ⟨v5, v6, rows, hv, rfl, sm, hm', hD', hw', hh', rok⟩
      rw [List.length_map, List.take_length] at rok
      refine ⟨_, rfl, _, rfl, _, rfl, (by show 3 ≤ sizeLine; decide), fun t nt => ?_⟩
      have s8 : Same H' (upd H' t (.tup [.ref m, .ref D, .ref hh])) := Same.new nt
      exact k t m D hh rs mk rows hv _ (sm.trans s8) upd_same (s8 _ _ hm') (s8 _ _ hD') (hw'.same s8) (s8 _ _ hh') rok hml12 in12 nd (fun r hr => ⟨(nr r hr).1, (nr r hr).2.1, (nr r hr).2.2.1, (nr r hr).2.2.2⟩) nmD.symm hHD hH (none_of s1 nm)
end
end K61
namespace K61
open PySem L2
def decS (s : Str) : Nat := s.cps.toList.foldl (fun a c => a * 10 + (c - 48)) 0
theorem num_dec : ∀ n : Fin 256, decS (toString ((n.val : Nat) : Int) : Str) = n.val ∧ (toString ((n.val : Nat) : Int) : Str).length ≤ 3 := by decide +kernel
def mk (ah en : Str) (n : Nat) : Str := ah ++ (toString (n : Int) : Str) ++ en
theorem app_list (x y : Str) : (x ++ y).cps.toList = x.cps.toList ++ y.cps.toList := by
  show (x.cps ++ y.cps).toList = _
  simp
theorem mk_inj {ah en : Str} {n m : Nat} (hn : n < 256) (hm : m < 256) (h : mk ah en n = mk ah en m) : n = m := by
  have e : (mk ah en n).cps.toList = (mk ah en m).cps.toList := by rw [h]
  unfold mk at e
  rw [app_list, app_list, app_list, app_list] at e
  have e2 := List.append_cancel_left (List.append_cancel_right e)
  have e3 : decS (toString (n : Int) : Str) = decS (toString (m : Int) : Str) := by unfold decS; rw [e2]
  rw [(num_dec ⟨n, hn⟩).1, (num_dec ⟨m, hm⟩).1] at e3
  exact e3
def mk0 (ah : Str) (n : Nat) : Str := ah ++ (toString (n : Int) : Str)
theorem mk0_inj {ah : Str} {n m : Nat} (hn : n < 256) (hm : m < 256) (h : mk0 ah n = mk0 ah m) : n = m := by
  refine mk_inj (ah := ah) (en := "") hn hm ?_
  show mk0 ah n ++ _ = mk0 ah m ++ _
  rw [h]
theorem m_not : ∀ k : Fin 64, mk0 "m" k.val ∉ m12 := by decide +kernel
section
variable {P : Program} {w : World} {K : PySem.W.Frag} {mg : Str → Option Value} {base : Heap} {a : Adr}
theorem ints_at {am : List Int} {i : Nat} {x : V} (h : (am.map V.int)[i]? = some x) : ∃ z, am[i]? = some z ∧ x = .int z := by
  rw [List.getElem?_map] at h
  cases e : am[i]? with
  | none => rw [e] at h; cases h
  | some n => rw [e] at h; exact ⟨n, rfl, (Option.some.inj h).symm⟩
theorem at_two {x y c : Int} (hx : 0 < x) (hy : 0 < y) : ∃ z, atI [V.int x, V.int y] (c % 2) = some (.int z) ∧ 0 < z ∧ (z = x ∨ z = y) := by
  have h0 : 0 ≤ c % 2 := Int.emod_nonneg _ (by decide)
  have h1 : c % 2 < 2 := Int.emod_lt_of_pos _ (by decide)
  rcases (by omega : c % 2 = 0 ∨ c % 2 = 1) with e | e
  · rw [e]; exact ⟨x, at_cons0, hx, .inl rfl⟩
  · rw [e]; exact ⟨y, at_cons1, hy, .inr rfl⟩
def spLines (K : PySem.W.Frag) : Sp := fun vs H Q _ => ∃ p m mk, ∃ ns : List Int, vs = [.ref p, .ref m] ∧ SqL K H p (ns.map V.int) ∧ ns.length ≤ 63 ∧ H m = some (.lst ((mk : Row).map V.str)) ∧
  ∀ r ls H', Same H H' → H r = none → L3At K H' r ls → (∀ q ∈ ls, q.1 ∈ mk ∧ q.2.1 ∈ mk ∧ 0 < q.2.2 ∧ q.2.2 < 2 ^ 64) → ls.length ≤ ns.length → Q (.ref r) H'
set_option maxHeartbeats 4000000 in
theorem ok_lines (T : Tx K mg a) : Cal P w K mg base CX0 2 "_law_lines" ["_law_cells", "_law_marks"] [] (spLines K) := T.d__law_lines.cal fun f fd F => by
  have c__law_mixed := ok_mixed (P := P) (w := w) (base := base) T
  refine F.ok sc__law_lines (fun vs H Q E h => ?_) (fun cdv A outer s H vs Q E hr h => ?_)
  · obtain ⟨p, m, mk, ns, rfl, _⟩ := h
    rfl
  · obtain ⟨p, m, mk, ns, rfl, hp, hn, hm, k⟩ := h
    refine ⟨_, (pss_cons (ps_set (i := 2) sc__law_lines.nd rfl (by first | exact Or.inl rfl | exact Or.inr rfl) (pe_lst pa_nil))
      (pss_cons (ps_for PassesOwn.never rfl (pi_list (pv 0)) (pg_name (i := 3) sc__law_lines.nd rfl (by first | exact Or.inl rfl | exact Or.inr rfl)) (pss_one (ps_if (pt_cmpR op_gt (pe_callB call_len_seq rfl T.n_len bt_len (pa_cons (pv 1) pa_nil)) pe_int (nomark _)) (pss_cons (ps_set (i := 4) sc__law_lines.nd rfl (by first | exact Or.inl rfl | exact Or.inr rfl) (pe_op op_mod (pe_cal c__law_mixed (hr.mono (by decide)) rfl (pa_cons (pv 3) (pa_cons pe_int pa_nil))) (pe_callB call_len_seq rfl T.n_len bt_len (pa_cons (pv 1) pa_nil))))
      (pss_cons (ps_set (i := 5) sc__law_lines.nd rfl (by first | exact Or.inl rfl | exact Or.inr rfl) (pe_op op_mod (pe_op op_add (pe_op op_add (pv 4) pe_int) (pe_op op_mod (pe_cal c__law_mixed (hr.mono (by decide)) rfl (pa_cons (pv 3) (pa_cons pe_int pa_nil))) (pe_op op_sub (pe_callB call_len_seq rfl T.n_len bt_len (pa_cons (pv 1) pa_nil)) pe_int))) (pe_callB call_len_seq rfl T.n_len bt_len (pa_cons (pv 1) pa_nil))))
      (pss_cons (ps_set (i := 6) sc__law_lines.nd rfl (by first | exact Or.inl rfl | exact Or.inr rfl) (pe_ix ix_list (pe_lst (pa_cons (pe_op op_add pe_int (pe_op op_mod (pe_cal c__law_mixed (hr.mono (by decide)) rfl (pa_cons (pv 3) (pa_cons pe_int pa_nil))) pe_int)) (pa_cons (pe_op op_add pe_int (pe_op op_mod (pv 3) (pe_op op_pow pe_int pe_int))) pa_nil))) (pe_op op_mod (pe_cal c__law_mixed (hr.mono (by decide)) rfl (pa_cons (pv 3) (pa_cons pe_int pa_nil))) pe_int) (fun _ _ => rfl)))
      (pss_one (ps_expr (pe_bm PySem.F.plainAttrs_list PySem.F.slot_list_append PySem.F.type_list_append mt_append (pv 2) (pa_cons (pe_tup (pa_cons (pe_ix ix_list (pv 1) (pv 4) (fun _ _ => rfl)) (pa_cons (pe_ix ix_list (pv 1) (pv 5) (fun _ _ => rfl)) (pa_cons (pv 6) pa_nil)))) pa_nil))))))) pss_nil)))
      (pss_one (ps_ret (pv 2))))), ?_⟩
    refine ⟨(by show 0 ≤ sizeLine; decide), fun g ng => ?_⟩
    have s1 : Same H (upd H g (.lst [])) := Same.new ng
    have h1 : upd H g (.lst []) g = some (.lst []) := upd_same
    generalize upd H g (.lst []) = H1 at s1 h1 ⊢
    refine ⟨_, rfl, p, rfl, ⟨_, s1.sqL hp⟩, for_list (K := K) (a := p) (xs := ns.map V.int) (fun i σ H' => ∃ v3 v4 v5 v6 xs, ∃ ls : List L3, σ = [some (.ref p), some (.ref m), some (.ref g), v3, v4, v5, v6] ∧ Same H H' ∧ H' g = some (.lst xs) ∧ DtVs K H' (ls.map l3D) xs ∧ ls.length ≤ i ∧ ∀ q ∈ ls, q.1 ∈ mk ∧ q.2.1 ∈ mk ∧ 0 < q.2.2 ∧ q.2.2 < 2 ^ 64)
      ⟨none, none, none, none, [], [], rfl, s1, h1, rfl, Nat.le_refl _, fun q hq => by cases hq⟩ ?_ ?_ ?_⟩
    · rintro i σ H' _ ⟨_, _, _, _, _, _, rfl, sm, _⟩
      exact sm.sqL hp
    · rintro i x σ H' hx ⟨v3, v4, v5, v6, xs, ls, rfl, sm, hg, hds, hkl, hok⟩
      obtain ⟨c, hc, rfl⟩ := ints_at hx
      have hi : i < ns.length := (List.getElem?_eq_some_iff.mp hc).1
      have lx : xs.length ≤ 63 := by
        have := hds.length
        rw [List.length_map] at this
        omega
      dsimp only [gName]
      refine ⟨_, rfl, m, _, rfl, .inl (SqL.of (sm _ _ hm)), _, _, rfl, rfl, _, rfl, ?_⟩
      refine iteB (fun c1 => ?_) (fun c1 => ⟨_, _, _, _, xs, ls, rfl, sm, hg, hds, by omega, hok⟩)
      have hml : 1 < mk.length := by
        have := of_decide_eq_true c1
        rw [List.length_map] at this
        omega
      have hlm : ((mk.map V.str).length : Int) = mk.length := by rw [List.length_map]
      refine ⟨_, rfl, c, 1, rfl, _, rfl, m, _, rfl, .inl (SqL.of (sm _ _ hm)), _, _, rfl, rfl, (by show (0 : Int) < ((mk.map V.str).length : Int); omega), ?_⟩
      refine ⟨_, rfl, _, _, rfl, rfl, _, rfl, c, 2, rfl, _, rfl, m, _, rfl, .inl (SqL.of (sm _ _ hm)), _, _, rfl, rfl, _, _, rfl, rfl, (by show (0 : Int) < ((mk.map V.str).length : Int) - 1; omega), _, _, rfl, rfl, _, rfl, m, _, rfl, .inl (SqL.of (sm _ _ hm)), _, _, rfl, rfl, (by show (0 : Int) < ((mk.map V.str).length : Int); omega), ?_⟩
      have y1 : 0 < 1 + mixed c 3 % 9 := by have := Int.emod_nonneg (mixed c 3) (show (9 : Int) ≠ 0 by decide); omega
      have y2 : 0 < 1 + c % 10 ^ Int.toNat 7 := by have := Int.emod_nonneg c (show (10 ^ Int.toNat 7 : Int) ≠ 0 by decide); omega
      have y3 : 1 + mixed c 3 % 9 < 2 ^ 64 := by have := Int.emod_lt_of_pos (mixed c 3) (show (0 : Int) < 9 by decide); omega
      have y4 : 1 + c % 10 ^ Int.toNat 7 < 2 ^ 64 := by
        have := Int.emod_lt_of_pos c (show (0 : Int) < 10 ^ Int.toNat 7 by decide)
        have e : (10 : Int) ^ Int.toNat 7 = 10000000 := by decide
        omega
      obtain ⟨wt, hwt, w0, ww⟩ := at_two (x := 1 + mixed c 3 % 9) (y := 1 + c % 10 ^ Int.toNat 7) (c := mixed c 4) y1 y2
      have w1 : wt < 2 ^ 64 := by rcases ww with e | e <;> rw [e] <;> assumption
      refine ⟨_, rfl, c, 3, rfl, _, _, rfl, rfl, (by show (0 : Int) < 9; decide), _, _, rfl, rfl, _, rfl, _, _, rfl, rfl, ⟨by decide, by decide, by decide⟩, _, _, rfl, rfl, (by show (0 : Int) < 10 ^ Int.toNat 7; decide), _, _, rfl, rfl, (by show 2 ≤ sizeLine; decide), fun z nz => ⟨_, rfl, c, 4, rfl, _, _, rfl, rfl, (by show (0 : Int) < 2; decide), z, _, _, _, rfl, rfl, SqL.of upd_same, hwt, ?_⟩⟩
      have s2 : Same H' (upd H' z (.lst [V.int (1 + mixed c 3 % 9), V.int (1 + c % 10 ^ Int.toNat 7)])) := Same.new nz
      generalize upd H' z (.lst [V.int (1 + mixed c 3 % 9), V.int (1 + c % 10 ^ Int.toNat 7)]) = H2 at s2 ⊢
      have t2 := sm.trans s2
      have m1 : mixed c 1 % ((mk.map V.str).length : Int) < mk.length := by
        have := Int.emod_lt_of_pos (mixed c 1) (b := ((mk.map V.str).length : Int)) (by omega)
        omega
      have m0 : 0 ≤ mixed c 1 % ((mk.map V.str).length : Int) := Int.emod_nonneg _ (by omega)
      have n1 : (mixed c 1 % ((mk.map V.str).length : Int) + 1 + mixed c 2 % (((mk.map V.str).length : Int) - 1)) % ((mk.map V.str).length : Int) < mk.length := by
        have := Int.emod_lt_of_pos (mixed c 1 % ((mk.map V.str).length : Int) + 1 + mixed c 2 % (((mk.map V.str).length : Int) - 1)) (b := ((mk.map V.str).length : Int)) (by omega)
        omega
      have n0 : 0 ≤ (mixed c 1 % ((mk.map V.str).length : Int) + 1 + mixed c 2 % (((mk.map V.str).length : Int) - 1)) % ((mk.map V.str).length : Int) := Int.emod_nonneg _ (by omega)
      obtain ⟨su, u1, hsu⟩ := at_str (ss := mk) m0 m1
      obtain ⟨sl, u2, hsl⟩ := at_str (ss := mk) n0 n1
      refine ⟨_, rfl, .inl ⟨rfl, _, SqL.of (s2 _ _ hg)⟩, _, rfl, _, rfl, m, _, _, _, rfl, rfl, SqL.of (t2 _ _ hm), hsu, _, rfl, _, rfl, m, _, _, _, rfl, rfl, SqL.of (t2 _ _ hm), hsl, _, rfl, (by show 3 ≤ sizeLine; decide), fun t nt => ?_⟩
      have s3 : Same H2 (upd H2 t (.tup [.str su, .str sl, .int wt])) := Same.new nt
      have h3 : upd H2 t (.tup [.str su, .str sl, .int wt]) t = some (.tup [.str su, .str sl, .int wt]) := upd_same
      generalize upd H2 t (.tup [.str su, .str sl, .int wt]) = H3 at s3 h3 ⊢
      have u3 := s2.trans s3
      refine ⟨g, _, _, rfl, rfl, u3 _ _ hg, by rw [sizeLine_eq]; omega, ?_⟩
      have kp : Tk H3 (upd H3 g (.lst (xs ++ [.ref t]))) := Tk.upd (u3 _ _ hg) rfl
      refine ⟨_, _, _, _, _, ls ++ [(su, sl, wt)], rfl, same_upd ng (sm.trans u3), upd_same, ?_, by rw [List.length_append]; exact Nat.succ_le_succ hkl, fun q hq => ?_⟩
      · rw [List.map_append]
        exact DtVs.snoc (d := l3D (su, sl, wt)) (kp.dt rfl ⟨t, _, rfl, SqT.of h3, _, _, rfl, rfl, _, _, rfl, rfl, _, _, rfl, rfl, rfl⟩) (kp.dts (noLsts_map (fun _ => rfl) _) (u3.dts hds))
      · rcases List.mem_append.mp hq with hq | hq
        · exact hok q hq
        · rw [List.mem_singleton.mp hq]
          exact ⟨u1, u2, w0, w1⟩
    · rintro σ H3 ⟨v3, v4, v5, v6, xs, ls, rfl, sm, hg, hds, hkl, hok⟩
      rw [List.length_map] at hkl
      exact ⟨_, rfl, k g ls H3 sm ng ⟨xs, hg, hds⟩ hok (by omega)⟩
/-- the marks behind the crowd -/
def crowd (mk : Row) (i : Nat) : Row := mk ++ (List.range i).map (mk0 "m")
theorem crowd_succ (mk : Row) (i : Nat) : crowd mk (i + 1) = crowd mk i ++ [mk0 "m" i] := by
  unfold crowd
  rw [List.range_succ, List.map_append, ← List.append_assoc]
  rfl
theorem crowd_len (mk : Row) (i : Nat) : (crowd mk i).length = mk.length + i := by
  unfold crowd
  rw [List.length_append, List.length_map, List.length_range]
theorem crowd_new {mk : Row} {i : Nat} (h : ∀ s ∈ mk, s ∈ m12) (hi : i < 64) : mk0 "m" i ∉ crowd mk i := fun z => by
  rcases List.mem_append.mp z with z | z
  · exact m_not ⟨i, hi⟩ (h _ z)
  · obtain ⟨j, hj, e⟩ := List.mem_map.mp z
    have hj' := List.mem_range.mp hj
    have := mk0_inj (by omega) (by omega) e
    omega
/-- all but the rows, the halves and the lines is kept -/
def Fr (rs : List Addr) (h m : Addr) (H H' : Hp) : Prop := ∀ b o, b ∉ rs → b ≠ h → b ≠ m → H b = some o → H' b = some o
theorem Fr.same {rs : List Addr} {h m : Addr} {H H' : Hp} (s : Same H H') : Fr rs h m H H' := fun b o _ _ _ e => s b o e
theorem Fr.trans {rs : List Addr} {h m : Addr} {H H' H'' : Hp} (x : Fr rs h m H H') (y : Fr rs h m H' H'') : Fr rs h m H H'' := fun b o n1 n2 n3 e => y b o n1 n2 n3 (x b o n1 n2 n3 e)
theorem Fr.upd {rs : List Addr} {h m : Addr} {H : Hp} {l : Addr} {o : HO} (hl : l ∈ rs ∨ l = h ∨ l = m) : Fr rs h m H (L2.upd H l o) := fun b u n1 n2 n3 e => by
  rw [upd_ne (fun z => by subst z; rcases hl with q | q | q; exact n1 q; exact n2 q; exact n3 q)]
  exact e
/-- the state that the crowd works on -/
structure Cd (K : PySem.W.Frag) (H : Hp) (rs : List Addr) (l h m : Addr) (mk : Row) (rows : List Row) (hv : Kvs) (ls : List L3) : Prop where
  hl : H l = some (.lst (rs.map V.ref))
  hw : Rw H rs rows
  hh : H h = some (.dK hv)
  hm : L3At K H m ls
  ok : RowsOk mk rows hv
  nd : rs.Nodup
  ap : ∀ r ∈ rs, r ≠ l ∧ r ≠ h ∧ r ≠ m
  ml : l ≠ m
  il : ∀ q ∈ ls, q.1 ∈ mk ∧ q.2.1 ∈ mk
theorem Cd.same {H H' : Hp} {rs : List Addr} {l h m : Addr} {mk : Row} {rows : List Row} {hv : Kvs} {ls : List L3} (c : Cd K H rs l h m mk rows hv ls) (s : Same H H') : Cd K H' rs l h m mk rows hv ls := by
  obtain ⟨xs, e1, e2⟩ := c.hm
  exact ⟨s _ _ c.hl, c.hw.same s, s _ _ c.hh, ⟨xs, s _ _ e1, s.dts e2⟩, c.ok, c.nd, c.ap, c.ml, c.il⟩
def spCrowd (K : PySem.W.Frag) : Sp := fun vs H Q _ => ∃ p mA l h m rs mk rows hv ls, ∃ ns : List Int, vs = [.ref p, .ref mA, .ref l, .ref h, .ref m] ∧ SqL K H p (ns.map V.int) ∧ H mA = some (.lst ((mk : Row).map V.str)) ∧ mA ∉ rs ∧ mA ≠ h ∧ mA ≠ m ∧ Cd K H rs l h m mk rows hv ls ∧ mk.length ≤ 12 ∧ (∀ s ∈ mk, s ∈ m12) ∧ ls.length ≤ 30 ∧
  ∀ mk' rows' hv' ls' H', Fr rs h m H H' → Cd K H' rs l h m mk' rows' hv' ls' → mk'.length ≤ 41 → ls'.length ≤ 41 → Q .non H'
set_option maxHeartbeats 8000000 in
theorem ok_crowd (T : Tx K mg a) : Cal P w K mg base CX0 2 "_law_crowd" ["_law_script", "_law_marks", "_law_rows_here", "_law_halves", "_law_lines_here"] [] (spCrowd K) := T.d__law_crowd.cal fun f fd F => by
  have c__law_cell_at := ok_cell_at (P := P) (w := w) (base := base) T
  refine F.ok sc__law_crowd (fun vs H Q E h => ?_) (fun cdv A outer s H vs Q E hr h => ?_)
  · obtain ⟨p, mA, l, h, m, rs, mk, rows, hv, ls, ns, rfl, _⟩ := h
    rfl
  · obtain ⟨p, mA, l, h, m, rs, mk, rows, hv, ls, ns, rfl, hS, hmA, n1, n2, n3, cd, h12, in12, h30, k⟩ := h
    refine ⟨_, (pss_cons (ps_set (i := 5) sc__law_crowd.nd rfl (by first | exact Or.inl rfl | exact Or.inr rfl) (pe_cal c__law_cell_at (hr.mono (by decide)) rfl (pa_cons (pv 0) (pa_cons pe_int pa_nil))))
      (pss_cons (ps_if (pt_cmpR op_eq (pe_op op_mod (pv 5) pe_int) pe_int (nomark _)) (pss_one (ps_for PassesOwn.never rfl (pi_range1 rfl T.n_range (pa_cons (pe_op op_sub (pe_op op_add pe_int (pe_op op_mod (pe_op op_fdiv (pv 5) pe_int) pe_int)) (pe_callB call_len_seq rfl T.n_len bt_len (pa_cons (pv 1) pa_nil))) pa_nil)) (pg_name (i := 6) sc__law_crowd.nd rfl (by first | exact Or.inl rfl | exact Or.inr rfl)) (pss_cons (ps_set (i := 7) sc__law_crowd.nd rfl (by first | exact Or.inl rfl | exact Or.inr rfl) (pe_op op_add_str pe_str (pe_callTy call_str_int rfl T.n_str bt_str (pa_cons (pv 6) pa_nil))))
      (pss_cons (ps_expr (pe_bm PySem.F.plainAttrs_list PySem.F.slot_list_append PySem.F.type_list_append mt_append (pe_ix ix_list (pv 2) (pe_op op_mod (pv 6) (pe_callB call_len_seq rfl T.n_len bt_len (pa_cons (pv 2) pa_nil))) (fun _ _ => rfl)) (pa_cons (pv 7) pa_nil)))
      (pss_one (ps_dput (hu_of hr) (pv 3) (pv 7) (pe_op op_mod (pv 6) pe_int) rfl)))))) pss_nil)
      (pss_one (ps_if (PW.pt (pw_and (pt_cmpR op_eq (pe_op op_mod (pv 5) pe_int) pe_int (nomark _)) (pw_and1 (pt_cmpR op_gt (pe_callB call_len_seq rfl T.n_len bt_len (pa_cons (pv 1) pa_nil)) pe_int (nomark _))))) (pss_one (ps_while PassesOwn.never (pt_cmpR op_lt (pe_callB call_len_seq rfl T.n_len bt_len (pa_cons (pv 4) pa_nil)) (pe_op op_sub pe_int (pe_op op_mod (pe_op op_fdiv (pv 5) pe_int) pe_int)) (nomark _)) (pss_one (ps_expr (pe_bm PySem.F.plainAttrs_list PySem.F.slot_list_append PySem.F.type_list_append mt_append (pv 4) (pa_cons (pe_tup (pa_cons (pe_ix ix_list (pv 1) pe_int (fun _ _ => rfl)) (pa_cons (pe_ix ix_list (pv 1) pe_int (fun _ _ => rfl)) (pa_cons pe_int pa_nil)))) pa_nil)))))) pss_nil)))), ?_⟩
    refine ⟨_, rfl, p, ns, 1, rfl, hS, by decide, fun c => ?_⟩
    dsimp only [gName]
    apply joinS (fun x : Option V × Option V => [some (.ref p), some (.ref mA), some (.ref l), some (.ref h), some (.ref m), some (.int c), x.1, x.2]) (fun _ G => Fr rs h m H G ∧ ∃ i rows hv, Cd K G rs l h m (crowd mk i) rows hv ls ∧ mk.length + i ≤ 41)
    case g =>
      intro rest
      refine ⟨_, rfl, _, _, rfl, rfl, (by show (0 : Int) < 8; decide), rfl, _, rfl, ?_⟩
      refine iteB (fun _ => ?_) (fun _ => rest (none, none) H ⟨Fr.same (Same.refl _), 0, rows, hv, by rw [show crowd mk 0 = mk from List.append_nil _]; exact cd, by omega⟩)
      have q0 : 0 ≤ c / 8 % 3 := Int.emod_nonneg _ (by decide)
      have q1 : c / 8 % 3 < 3 := Int.emod_lt_of_pos _ (by decide)
      have lm : ((mk.map V.str).length : Int) = mk.length := by rw [List.length_map]
      refine ⟨_, rfl, _, _, rfl, rfl, ⟨by decide, by decide⟩, _, _, rfl, rfl, (by show (0 : Int) < 3; decide), _, _, rfl, rfl, _, rfl, mA, _, rfl, .inl (SqL.of hmA), _, _, rfl, rfl, _, rfl, by show -(2 ^ 62) ≤ 39 + c / 8 % 3 - ((mk.map V.str).length : Int); omega, by show 39 + c / 8 % 3 - ((mk.map V.str).length : Int) < 2 ^ 62; omega, for_range (lo := 0) (n := (39 + c / 8 % 3 - ((mk.map V.str).length : Int)).toNat) (fun i σ G => ∃ v6 v7 rows hv, σ = [some (.ref p), some (.ref mA), some (.ref l), some (.ref h), some (.ref m), some (.int c), v6, v7] ∧ Fr rs h m H G ∧ Cd K G rs l h m (crowd mk i) rows hv ls)
        ⟨none, none, rows, hv, rfl, Fr.same (Same.refl _), by rw [show crowd mk 0 = mk from List.append_nil _]; exact cd⟩ ?_ ?_⟩
      · rintro i σ G hi ⟨v6, v7, rows1, hv1, rfl, fg, cd1⟩
        rw [show (0 : Int) + i = i from Int.zero_add _]
        have i41 : i < 42 := by omega
        have ln : (toString ((i : Nat) : Int) : Str).length ≤ 3 := (num_dec ⟨i, by omega⟩).2
        have hrl := cd1.hw.len
        have r0 := cd1.ok.k0
        have lr : ((rs.map V.ref).length : Int) = rs.length := by rw [List.length_map]
        have j0 : 0 ≤ (i : Int) % ((rs.map V.ref).length : Int) := Int.emod_nonneg _ (by omega)
        have j1 : (i : Int) % ((rs.map V.ref).length : Int) < rs.length := by
          have := Int.emod_lt_of_pos (i : Int) (b := ((rs.map V.ref).length : Int)) (by omega)
          omega
        obtain ⟨r, hr1, hr2⟩ := at_ref j0 j1
        generalize ((i : Int) % ((rs.map V.ref).length : Int)).toNat = jx at hr1
        have hrm := List.mem_of_getElem? hr1
        obtain ⟨a1, a2, a3⟩ := cd1.ap r hrm
        obtain ⟨row, hrow, hrr⟩ := cd1.hw.at hr1
        have krow : row.length ≤ 60 := by
          have := (List.sublist_flatten_of_mem (List.mem_of_getElem? hrow)).length_le
          rw [cd1.ok.pm.length_eq, crowd_len] at this
          omega
        have khv : hv1.length ≤ 60 := by rw [cd1.ok.len, crowd_len]; omega
        dsimp only [gName]
        refine ⟨_, rfl, _, rfl, ?_, _, _, rfl, rfl, ?_, ?_⟩
        · show (i : Int).natAbs.log2 < 1920
          rw [Int.natAbs_natCast]
          by_cases z : i = 0
          · rw [z]; decide
          · exact (Nat.log2_lt z).mpr (Nat.lt_of_lt_of_le (by omega : i < 2 ^ 8) (Nat.pow_le_pow_right (by decide) (by decide)))
        · rw [sizeLine_eq]
          show 1 + (toString ((i : Nat) : Int) : Str).length ≤ _
          omega
        dsimp only [gName]
        rw [show (Str.ofString "m" ++ Str.ofString (toString ((i : Nat) : Int))) = mk0 "m" i from rfl]
        refine ⟨_, rfl, _, rfl, _, rfl, l, _, rfl, .inl (SqL.of cd1.hl), _, _, rfl, rfl, (by show (0 : Int) < ((rs.map V.ref).length : Int); omega), l, _, _, _, rfl, rfl, SqL.of cd1.hl, hr2, .inl ⟨rfl, _, SqL.of hrr⟩, _, rfl, r, _, _, rfl, rfl, hrr, by rw [List.length_map, sizeLine_eq]; omega, ?_⟩
        have w6 : Rw (upd G r (.lst (row.map V.str ++ [.str (mk0 "m" i)]))) rs (rows1.set jx (row ++ [mk0 "m" i])) := by
          have := Rw.put (row := row ++ [mk0 "m" i]) cd1.hw cd1.nd hr1
          rw [List.map_append] at this
          exact this
        have h6 : upd G r (.lst (row.map V.str ++ [.str (mk0 "m" i)])) h = some (.dK hv1) := by rw [upd_ne (Ne.symm a2)]; exact cd1.hh
        have l6 : upd G r (.lst (row.map V.str ++ [.str (mk0 "m" i)])) l = some (.lst (rs.map V.ref)) := by rw [upd_ne (Ne.symm a1)]; exact cd1.hl
        obtain ⟨xm, e1, e2⟩ := cd1.hm
        have m6 : L3At K (upd G r (.lst (row.map V.str ++ [.str (mk0 "m" i)]))) m ls := ⟨xm, by rw [upd_ne (Ne.symm a3)]; exact e1, (Tk.upd hrr rfl).dts (noLsts_map (fun _ => rfl) _) e2⟩
        have f6 : Fr rs h m H (upd G r (.lst (row.map V.str ++ [.str (mk0 "m" i)]))) := fg.trans (Fr.upd (.inl hrm))
        generalize upd G r (.lst (row.map V.str ++ [.str (mk0 "m" i)])) = G6 at w6 h6 l6 m6 f6 ⊢
        refine ⟨_, rfl, _, _, rfl, rfl, (by show (0 : Int) < 51; decide), _, rfl, _, rfl, h, _, rfl, DPut.k (k := Sum.inr (mk0 "m" i)) h6 (by rw [sizeLine_eq]; omega), ?_⟩
        obtain ⟨xm6, g1, g2⟩ := m6
        have nhm : m ≠ h := ne_of g1 h6 (by intro e; cases e)
        have nhl : l ≠ h := ne_of l6 h6 (by intro e; cases e)
        refine ⟨_, _, rows1.set jx (row ++ [mk0 "m" i]), putK hv1 (Sum.inr (mk0 "m" i)) (.int ((i : Int) % 51)), rfl, f6.trans (Fr.upd (.inr (.inl rfl))), ?_⟩
        rw [crowd_succ]
        refine ⟨by rw [upd_ne nhl]; exact l6, Rw.upd w6 fun x hx => (cd1.ap x hx).2.1, upd_same, ⟨xm6, by rw [upd_ne nhm]; exact g1, (Tk.upd h6 rfl).dts (noLsts_map (fun _ => rfl) _) g2⟩, cd1.ok.put hrow (crowd_new in12 (by omega)), cd1.nd, cd1.ap, cd1.ml, fun q hq => ⟨List.mem_append_left _ (cd1.il q hq).1, List.mem_append_left _ (cd1.il q hq).2⟩⟩
      · rintro σ G ⟨v6, v7, rows1, hv1, rfl, fg, cd1⟩
        exact rest (v6, v7) G ⟨fg, _, rows1, hv1, cd1, by omega⟩
    case h =>
    rintro ⟨v6, v7⟩ G ⟨fg, i, rows1, hv1, cd1, h41⟩
    have hmG := fg _ _ n1 n2 n3 hmA
    have q0 : 0 ≤ c / 8 % 2 := Int.emod_nonneg _ (by decide)
    have q1 : c / 8 % 2 < 2 := Int.emod_lt_of_pos _ (by decide)
    have cl := crowd_len mk i
    refine ⟨_, rfl, _, _, rfl, rfl, (by show (0 : Int) < 8; decide), rfl, _, rfl, ?_⟩
    refine iteB (fun _ => ?_) (fun _ => iteF (k _ _ _ _ G fg cd1 (by omega) (by omega)))
    refine ⟨_, rfl, mA, _, rfl, .inl (SqL.of hmG), _, _, rfl, rfl, _, rfl, ?_⟩
    refine iteB (fun c1 => ?_) (fun c1 => k _ _ _ _ G fg cd1 (by omega) (by omega))
    have ml1 : 1 < mk.length := by
      have := of_decide_eq_true c1
      rw [List.length_map] at this
      omega
    refine ⟨fun M σ G' => ∃ ls', σ = [some (.ref p), some (.ref mA), some (.ref l), some (.ref h), some (.ref m), some (.int c), v6, v7] ∧ Fr rs h m H G' ∧ Cd K G' rs l h m (crowd mk i) rows1 hv1 ls' ∧ ls'.length ≤ 41 ∧ M = 41 - ls'.length, ⟨_, ls, rfl, fg, cd1, by omega, rfl⟩, ?_⟩
    rintro M σ G' ⟨ls', rfl, fg', cd', h41', rfl⟩
    obtain ⟨xm, e1, e2⟩ := cd'.hm
    have lx : ls'.length = xm.length := by rw [← e2.length, List.length_map]
    have hmG' := fg' _ _ n1 n2 n3 hmA
    refine ⟨_, rfl, m, _, rfl, .inl (SqL.of e1), _, rfl, _, _, rfl, rfl, ⟨by decide, by decide⟩, _, _, rfl, rfl, (by show (0 : Int) < 2; decide), _, _, rfl, rfl, _, _, rfl, rfl, _, rfl, ?_⟩
    refine iteB (fun c2 => ?_) (fun c2 => k _ _ _ _ G' fg' cd' (by omega) h41')
    have l40 : ls'.length < 41 := by
      have : (xm.length : Int) < 41 - c / 8 % 2 := of_decide_eq_true c2
      omega
    refine ⟨_, fun σ' H' q => q, ?_⟩
    obtain ⟨s0, hs0⟩ := get_of (l := mk) (j := 0) (by omega)
    obtain ⟨s1, hs1⟩ := get_of (l := mk) (j := 1) (by omega)
    have at0 : atI (mk.map V.str) 0 = some (.str s0) := by
      rw [at_nat (by decide), List.getElem?_map]
      show (mk[0]?).map _ = _
      rw [hs0]
      rfl
    have at1 : atI (mk.map V.str) 1 = some (.str s1) := by
      rw [at_nat (by decide), List.getElem?_map]
      show (mk[1]?).map _ = _
      rw [hs1]
      rfl
    refine ⟨_, rfl, .inl ⟨rfl, _, SqL.of e1⟩, _, rfl, mA, _, _, _, rfl, rfl, SqL.of hmG', at1, _, rfl, mA, _, _, _, rfl, rfl, SqL.of hmG', at0, (by show 3 ≤ sizeLine; decide), fun z nz => ?_⟩
    have s2 : Same G' (upd G' z (.tup [.str s1, .str s0, .int 5])) := Same.new nz
    have h2 : upd G' z (.tup [.str s1, .str s0, .int 5]) z = some (.tup [.str s1, .str s0, .int 5]) := upd_same
    have cd2 := cd'.same s2
    generalize upd G' z (.tup [.str s1, .str s0, .int 5]) = G2 at s2 h2 cd2 ⊢
    have m2 := s2 _ _ e1
    refine ⟨m, _, _, rfl, rfl, m2, by rw [sizeLine_eq]; omega, ?_⟩
    have kp : Tk G2 (upd G2 m (.lst (xm ++ [.ref z]))) := Tk.upd m2 rfl
    have nmh : h ≠ m := (ne_of m2 cd2.hh (by intro e; cases e)).symm
    refine ⟨41 - (ls' ++ [(s1, s0, 5)]).length, by rw [List.length_append]; show 41 - (_ + 1) < _; omega, ls' ++ [(s1, s0, 5)], rfl, (fg'.trans (Fr.same s2)).trans (Fr.upd (.inr (.inr rfl))), ?_, by rw [List.length_append]; show _ + 1 ≤ 41; omega, rfl⟩
    refine ⟨by rw [upd_ne cd2.ml]; exact cd2.hl, Rw.upd cd2.hw fun x hx => (cd2.ap x hx).2.2, by rw [upd_ne nmh]; exact cd2.hh, ⟨xm ++ [.ref z], upd_same, ?_⟩, cd2.ok, cd2.nd, cd2.ap, cd2.ml, fun q hq => ?_⟩
    · rw [List.map_append]
      exact DtVs.snoc (d := l3D (s1, s0, 5)) (kp.dt rfl ⟨z, _, rfl, SqT.of h2, _, _, rfl, rfl, _, _, rfl, rfl, _, _, rfl, rfl, rfl⟩) (kp.dts (noLsts_map (fun _ => rfl) _) (s2.dts e2))
    · rcases List.mem_append.mp hq with hq | hq
      · exact cd'.il q hq
      · rw [List.mem_singleton.mp hq]
        exact ⟨List.mem_append_left _ (List.mem_of_getElem? hs1), List.mem_append_left _ (List.mem_of_getElem? hs0)⟩
end
end K61
namespace K61
open PySem L2
/-- marks numbered as they come -/
structure Nm (kvs : Kvs) (mk : Row) : Prop where
  len : kvs.length = mk.length
  yes : ∀ (j : Nat) (s : Str), mk[j]? = some s → valV kvs (Sum.inr s) = some (.int (j : Int))
  no : ∀ s, s ∉ mk → valV kvs (Sum.inr s) = none
theorem Nm.put {kvs : Kvs} {mk : Row} (h : Nm kvs mk) {s : Str} (hs : s ∉ mk) : Nm (putK kvs (Sum.inr s) (.int (mk.length : Int))) (mk ++ [s]) where
  len := by rw [putK_new (h.no s hs), List.length_append, List.length_append, h.len]; rfl
  yes := fun j t ht => by
    rw [valV_put]
    by_cases e : j < mk.length
    · rw [List.getElem?_append_left e] at ht
      have ne : t ≠ s := fun z => hs (z ▸ List.mem_of_getElem? ht)
      rw [if_neg (fun z => ne (Sum.inr.inj z))]
      exact h.yes j t ht
    · have hj := (List.getElem?_eq_some_iff.mp ht).1
      rw [List.length_append] at hj
      have hj' : j = mk.length := by
        have : ([s] : Row).length = 1 := rfl
        omega
      subst hj'
      rw [List.getElem?_append_right (Nat.le_refl _), Nat.sub_self] at ht
      have e2 : s = t := Option.some.inj ht
      rw [if_pos (by rw [e2])]
  no := fun t ht => by
    rw [List.mem_append, not_or, List.mem_singleton] at ht
    rw [valV_put, if_neg (fun z => ht.2 (Sum.inr.inj z))]
    exact h.no t ht.1
/-- a mark of the part that has come has its number in the whole -/
theorem Nm.val {kvs : Kvs} {pre mk : Row} (h : Nm kvs pre) (hp : ∃ post, mk = pre ++ post) (nd : mk.Nodup) {s : Str} (hs : s ∈ pre) : valV kvs (Sum.inr s) = some (.int (ix mk s)) := by
  obtain ⟨post, rfl⟩ := hp
  obtain ⟨j, hj⟩ := List.mem_iff_getElem?.mp hs
  rw [h.yes j s hj]
  have : ix (pre ++ post) s = (j : Int) := by
    unfold ix
    have e := ix_at (List.mem_append_left post hs)
    have jl := (List.getElem?_eq_some_iff.mp hj).1
    have e2 : (pre ++ post)[j]? = some s := by rw [List.getElem?_append_left jl]; exact hj
    obtain ⟨l1, q1⟩ := List.getElem?_eq_some_iff.mp e
    obtain ⟨l2, q2⟩ := List.getElem?_eq_some_iff.mp e2
    have : (pre ++ post).idxOf s = j := by
      rcases Nat.lt_trichotomy ((pre ++ post).idxOf s) j with c | c | c
      · exact absurd (q1.trans q2.symm) (List.pairwise_iff_getElem.mp nd _ _ l1 l2 c)
      · exact c
      · exact absurd (q2.trans q1.symm) (List.pairwise_iff_getElem.mp nd _ _ l2 l1 c)
    omega
  rw [this]
section
variable {P : Program} {w : World} {K : PySem.W.Frag} {mg : Str → Option Value} {base : Heap} {a : Adr}
def spDue (K : PySem.W.Frag) : Sp := fun vs H Q _ => ∃ l rs rows h hv m ls g, vs = [.ref l, .ref h, .ref m, .int g] ∧ H l = some (.lst ((rs : List Addr).map V.ref)) ∧ Rw H rs rows ∧ rows.length ≤ 30 ∧ rows.flatten.length ≤ 60 ∧ rows.flatten.Nodup ∧ H h = some (.dK hv) ∧ (∀ s ∈ rows.flatten, Has hv s) ∧ L3At K H m ls ∧ ls.length ≤ 60 ∧ (∀ q ∈ ls, q.1 ∈ rows.flatten ∧ q.2.1 ∈ rows.flatten) ∧
  ∀ t x H', Same H H' → H t = none → H x = none → H' t = some (.tup [.int ((rows.flatten.length : Int) + ls.length), .ref x]) → WAt K H' x (wAll hv rows ls g) → Q (.ref t) H'
set_option maxHeartbeats 8000000 in
theorem ok_due (T : Tx K mg a) : Cal P w K mg base CX0 1 "_law_due" ["_law_rows_here", "_law_halves", "_law_lines_here", "_law_gap"] [] (spDue K) := T.d__law_due.cal fun f fd F => by
  refine F.ok sc__law_due (fun vs H Q E h => ?_) (fun cdv A outer s H vs Q E hr h => ?_)
  · obtain ⟨l, rs, rows, h, hv, m, ls, g, rfl, _⟩ := h
    rfl
  · obtain ⟨l, rs, rows, h, hv, m, ls, g, rfl, hl, hw, h30, h60, nd, hh, has, ⟨xl, hm, hdl⟩, hls, hin, k⟩ := h
    have hlx : ls.length = xl.length := by rw [← hdl.length, List.length_map]
    generalize hmk : rows.flatten = mk at nd has hin k h60
    refine ⟨_, (pss_cons (ps_set (i := 4) sc__law_due.nd rfl (by first | exact Or.inl rfl | exact Or.inr rfl) pe_dnewK)
      (pss_cons (ps_set (i := 5) sc__law_due.nd rfl (by first | exact Or.inl rfl | exact Or.inr rfl) (pe_lst pa_nil))
      (pss_cons (ps_for PassesOwn.never rfl (pi_list (pv 0)) (pg_name (i := 6) sc__law_due.nd rfl (by first | exact Or.inl rfl | exact Or.inr rfl)) (pss_one (ps_for PassesOwn.never rfl (pi_enumerate rfl T.n_enumerate (pa_cons (pv 6) pa_nil)) (pg_tup rfl (pgs_cons (pg_name (i := 7) sc__law_due.nd rfl (by first | exact Or.inl rfl | exact Or.inr rfl)) (pgs_cons (pg_name (i := 8) sc__law_due.nd rfl (by first | exact Or.inl rfl | exact Or.inr rfl)) pgs_nil))) (pss_cons (ps_dput (hu_of hr) (pv 4) (pv 8) (pe_callB call_lenD rfl T.n_len bt_len (pa_cons (pv 4) pa_nil)) rfl)
      (pss_one (ps_if (pt_cmpR op_gt (pv 7) pe_int (nomark _)) (pss_cons (ps_set (i := 9) sc__law_due.nd rfl (by first | exact Or.inl rfl | exact Or.inr rfl) (pe_op op_add (pe_op op_add (pe_dget (hu_of hr) (pv 1) (pe_ix ix_list (pv 6) (pe_op op_sub (pv 7) pe_int) (fun _ _ => rfl)) (fun _ _ => rfl)) (pe_dget (hu_of hr) (pv 1) (pv 8) (fun _ _ => rfl))) (pv 3)))
      (pss_one (ps_expr (pe_bm PySem.F.plainAttrs_list PySem.F.slot_list_append PySem.F.type_list_append mt_append (pv 5) (pa_cons (pe_tup (pa_cons (pe_dget (hu_of hr) (pv 4) (pe_ix ix_list (pv 6) (pe_op op_sub (pv 7) pe_int) (fun _ _ => rfl)) (fun _ _ => rfl)) (pa_cons (pe_dget (hu_of hr) (pv 4) (pv 8) (fun _ _ => rfl)) (pa_cons (pv 9) (pa_cons pe_int pa_nil))))) pa_nil))))) pss_nil))))))
      (pss_cons (ps_for PassesOwn.never rfl (pi_enumerate rfl T.n_enumerate (pa_cons (pv 2) pa_nil)) (pg_tup rfl (pgs_cons (pg_name (i := 7) sc__law_due.nd rfl (by first | exact Or.inl rfl | exact Or.inr rfl)) (pgs_cons (pg_name (i := 10) sc__law_due.nd rfl (by first | exact Or.inl rfl | exact Or.inr rfl)) pgs_nil))) (pss_one (ps_for PassesOwn.never rfl (pi_tup (pe_slice sl_tup (pv 10) po_none (po_some pe_int))) (pg_name (i := 8) sc__law_due.nd rfl (by first | exact Or.inl rfl | exact Or.inr rfl)) (pss_one (ps_expr (pe_bm PySem.F.plainAttrs_list PySem.F.slot_list_append PySem.F.type_list_append mt_append (pv 5) (pa_cons (pe_tup (pa_cons (pe_op op_add (pe_callB call_lenD rfl T.n_len bt_len (pa_cons (pv 4) pa_nil)) (pv 7)) (pa_cons (pe_dget (hu_of hr) (pv 4) (pv 8) (fun _ _ => rfl)) (pa_cons pe_int (pa_cons (pe_ix ix_tup (pv 10) pe_int (fun _ _ => rfl)) pa_nil))))) pa_nil)))))))
      (pss_one (ps_ret (pe_tup (pa_cons (pe_op op_add (pe_callB call_lenD rfl T.n_len bt_len (pa_cons (pv 4) pa_nil)) (pe_callB call_len_seq rfl T.n_len bt_len (pa_cons (pv 2) pa_nil))) (pa_cons (pv 5) pa_nil))))))))), ?_⟩
    intro d nd0
    have s1 : Same H (upd H d (.dK [])) := Same.new nd0
    have h1 : upd H d (.dK []) d = some (.dK []) := upd_same
    generalize upd H d (.dK []) = H1 at s1 h1 ⊢
    dsimp only [gName]
    refine ⟨(by show 0 ≤ sizeLine; decide), fun x nx => ?_⟩
    have s2 : Same H1 (upd H1 x (.lst [])) := Same.new nx
    have h2 : upd H1 x (.lst []) x = some (.lst []) := upd_same
    have nx0 := none_of s1 nx
    have ndx : d ≠ x := ne_of_none h1 nx
    generalize upd H1 x (.lst []) = H2 at s2 h2 ⊢
    have t2 := s1.trans s2
    dsimp only [gName]
    have pre : ∀ i, ∃ post, mk = (rows.take i).flatten ++ post := fun i => ⟨(rows.drop i).flatten, by rw [← List.flatten_append, List.take_append_drop, hmk]⟩
    -- names: rows halves lines gap numbers wishes row k mark least line
    refine ⟨_, rfl, l, rfl, ⟨_, SqL.of (t2 _ _ hl)⟩, for_list (K := K) (a := l) (xs := rs.map V.ref) (fun i σ G => ∃ v6 v7 v8 v9 v10 kvs zs, σ = [some (.ref l), some (.ref h), some (.ref m), some (.int g), some (.ref d), some (.ref x), v6, v7, v8, v9, v10] ∧ Same H G ∧ G d = some (.dK kvs) ∧ Nm kvs (rows.take i).flatten ∧ G x = some (.lst zs) ∧ DtVs K G (((nbs (rows.take i)).map (wN hv mk g)).map wD) zs ∧ zs.length ≤ (rows.take i).flatten.length)
      ⟨none, none, none, none, none, [], [], rfl, t2, s2 _ _ h1, ⟨rfl, (fun j s hj => by simp at hj), fun s _ => rfl⟩, h2, rfl, Nat.le_refl _⟩ ?_ ?_ ?_⟩
    · rintro i σ G _ ⟨_, _, _, _, _, _, _, rfl, sg, _⟩
      exact SqL.of (sg _ _ hl)
    · rintro i y σ G hy ⟨v6, v7, v8, v9, v10, kvs, zs, rfl, sg, gd, nmk, gx, hdz, lz⟩
      obtain ⟨r, hr1, rfl⟩ := refs_at hy
      obtain ⟨row, hrow, hrr⟩ := hw.at hr1
      have prow : ∃ post, mk = (rows.take i).flatten ++ row ++ post := by
        obtain ⟨post, e⟩ := pre (i + 1)
        exact ⟨post, by rw [e, flat_take hrow]⟩
      have tot : (rows.take i).flatten.length + row.length ≤ 60 := by
        obtain ⟨post, e⟩ := prow
        rw [e, List.length_append, List.length_append] at h60
        omega
      dsimp only [gName]
      refine ⟨_, rfl, r, rfl, ⟨_, SqL.of (sg _ _ hrr)⟩, for_enum (K := K) (l := r) (xs := row.map V.str) (fun j σ G => ∃ v7 v8 v9 kvs zs, σ = [some (.ref l), some (.ref h), some (.ref m), some (.int g), some (.ref d), some (.ref x), some (.ref r), v7, v8, v9, v10] ∧ Same H G ∧ G d = some (.dK kvs) ∧ Nm kvs ((rows.take i).flatten ++ row.take j) ∧ G x = some (.lst zs) ∧ DtVs K G (((nbs (rows.take i) ++ (nb row).take (j - 1)).map (wN hv mk g)).map wD) zs ∧ zs.length ≤ (rows.take i).flatten.length + j)
        ⟨v7, v8, v9, kvs, zs, rfl, sg, gd, by rw [List.take_zero, List.append_nil]; exact nmk, gx, by rw [show (0 - 1 : Nat) = 0 from rfl, List.take_zero, List.append_nil]; exact hdz, by omega⟩ ?_ ?_ ?_⟩
      · rintro j σ G' _ ⟨_, _, _, _, _, rfl, sg', _⟩
        exact SqL.of (sg' _ _ hrr)
      · rintro j y' tt σ G1 hy' nt ⟨w7, w8, w9, kvs1, zs1, rfl, sg1, gd1, nm1, gx1, hdz1, lz1⟩
        obtain ⟨s, hs, rfl⟩ := strs_at hy'
        have hj : j < row.length := (List.getElem?_eq_some_iff.mp hs).1
        have s3 : Same G1 (upd G1 tt (.tup [.int j, .str s])) := Same.new nt
        have h3 : upd G1 tt (.tup [.int j, .str s]) tt = some (.tup [.int j, .str s]) := upd_same
        generalize upd G1 tt (.tup [.int j, .str s]) = G3 at s3 h3 ⊢
        refine ⟨tt, _, rfl, SqT.of h3, rfl, _, _, rfl, _, _, rfl, rfl, ?_⟩
        have gd3 := s3 _ _ gd1
        have sg3 := sg1.trans s3
        have nin : s ∉ (rows.take i).flatten ++ row.take j := fun z => by
          obtain ⟨post, e⟩ := prow
          have nd2 := nd
          rw [e, ← List.take_append_drop j row] at nd2
          have hd' : row.drop j = s :: row.drop (j + 1) := by
            rw [List.drop_eq_getElem_cons hj]
            have := (List.getElem?_eq_some_iff.mp hs).2
            rw [this]
          rw [hd', ← List.append_assoc, List.append_assoc] at nd2
          exact (List.nodup_append.mp nd2).2.2 s z s (by simp) rfl
        refine ⟨_, rfl, d, _, rfl, gd3, _, rfl, _, rfl, d, _, rfl, DPut.k (k := Sum.inr s) gd3 (by rw [nm1.len, List.length_append, List.length_take, sizeLine_eq]; omega), ?_⟩
        have nm4 := nm1.put nin
        rw [List.append_assoc, ← take_snoc hs] at nm4
        rw [nm1.len]
        have s4 : Same H (upd G3 d (.dK (putK kvs1 (Sum.inr s) (.int (((rows.take i).flatten ++ row.take j).length : Int))))) := same_upd nd0 sg3
        have g4 : upd G3 d (.dK (putK kvs1 (Sum.inr s) (.int (((rows.take i).flatten ++ row.take j).length : Int)))) d = some (.dK (putK kvs1 (Sum.inr s) (.int (((rows.take i).flatten ++ row.take j).length : Int)))) := upd_same
        have x4 : upd G3 d (.dK (putK kvs1 (Sum.inr s) (.int (((rows.take i).flatten ++ row.take j).length : Int)))) x = some (.lst zs1) := by rw [upd_ne (Ne.symm ndx)]; exact s3 _ _ gx1
        have z4 : DtVs K (upd G3 d (.dK (putK kvs1 (Sum.inr s) (.int (((rows.take i).flatten ++ row.take j).length : Int))))) (((nbs (rows.take i) ++ (nb row).take (j - 1)).map (wN hv mk g)).map wD) zs1 := (Tk.upd gd3 rfl).dts (noLsts_map (fun _ => rfl) _) (s3.dts hdz1)
        generalize upd G3 d (.dK (putK kvs1 (Sum.inr s) (.int (((rows.take i).flatten ++ row.take j).length : Int)))) = G4 at s4 g4 x4 z4 ⊢
        generalize putK kvs1 (Sum.inr s) (.int (((rows.take i).flatten ++ row.take j).length : Int)) = kvs4 at nm4 g4
        have pj : ∃ post, mk = (rows.take i).flatten ++ row.take (j + 1) ++ post := by
          obtain ⟨post, e⟩ := prow
          exact ⟨row.drop (j + 1) ++ post, by rw [e, ← List.append_assoc, List.append_assoc _ _ (row.drop (j + 1)), List.take_append_drop]⟩
        refine ⟨_, rfl, _, _, rfl, rfl, _, rfl, ?_⟩
        refine iteB (fun c1 => ?_) (fun c1 => ?_)
        · have j0 : 0 < j := by have := of_decide_eq_true c1; omega
          obtain ⟨s', hs'⟩ := get_of (l := row) (j := j - 1) (by omega)
          have e1 : atI (row.map V.str) ((j : Int) - 1) = some (.str s') := by
            rw [at_nat (by omega), show ((j : Int) - 1).toNat = j - 1 by omega, List.getElem?_map, hs']
            rfl
          have m1 : s ∈ (rows.take i).flatten ++ row.take (j + 1) := List.mem_append_right _ (by rw [take_snoc hs]; simp)
          have m2 : s' ∈ (rows.take i).flatten ++ row.take (j + 1) := List.mem_append_right _ (List.mem_of_getElem? (i := j - 1) (by rw [List.getElem?_take, if_pos (by omega)]; exact hs'))
          have k1 : s ∈ mk := by obtain ⟨post, e⟩ := pj; rw [e]; exact List.mem_append_left _ m1
          have k2 : s' ∈ mk := by obtain ⟨post, e⟩ := pj; rw [e]; exact List.mem_append_left _ m2
          refine ⟨_, rfl, _, rfl, _, rfl, _, _, rfl, rfl, r, _, _, _, rfl, rfl, SqL.of (s4 _ _ hrr), e1, h, _, rfl, dget_k (k := Sum.inr s') (s4 _ _ hh) (has s' k2).gv, _, rfl, _, rfl, h, _, rfl, dget_k (k := Sum.inr s) (s4 _ _ hh) (has s k1).gv, _, _, rfl, rfl, _, rfl, _, _, rfl, rfl, ?_⟩
          dsimp only [gName]
          refine ⟨_, rfl, .inl ⟨rfl, _, SqL.of x4⟩, _, rfl, _, rfl, _, rfl, _, _, rfl, rfl, r, _, _, _, rfl, rfl, SqL.of (s4 _ _ hrr), e1, d, _, rfl, dget_k (k := Sum.inr s') g4 (nm4.val pj nd m2), _, rfl, _, rfl, d, _, rfl, dget_k (k := Sum.inr s) g4 (nm4.val pj nd m1), _, rfl, (by show 4 ≤ sizeLine; decide), fun z nz => ?_⟩
          have s5 : Same G4 (upd G4 z (.tup [.int (ix mk s'), .int (ix mk s), .int (gv hv s' + gv hv s + g), .int 0])) := Same.new nz
          have h5 : upd G4 z (.tup [.int (ix mk s'), .int (ix mk s), .int (gv hv s' + gv hv s + g), .int 0]) z = some (.tup [.int (ix mk s'), .int (ix mk s), .int (gv hv s' + gv hv s + g), .int 0]) := upd_same
          generalize upd G4 z (.tup [.int (ix mk s'), .int (ix mk s), .int (gv hv s' + gv hv s + g), .int 0]) = G5 at s5 h5 ⊢
          have x5 := s5 _ _ x4
          refine ⟨x, _, _, rfl, rfl, x5, by rw [sizeLine_eq]; omega, ?_⟩
          have kp : Tk G5 (upd G5 x (.lst (zs1 ++ [.ref z]))) := Tk.upd x5 rfl
          refine ⟨_, _, _, kvs4, _, rfl, same_upd nx0 (s4.trans s5), by rw [upd_ne ndx]; exact s5 _ _ g4, nm4, upd_same, ?_, by rw [List.length_append]; show _ + 1 ≤ _; omega⟩
          have hq : (nb row)[j - 1]? = some (s', s) := nb_get hs' (by rw [show j - 1 + 1 = j by omega]; exact hs)
          rw [show j + 1 - 1 = (j - 1) + 1 by omega, take_snoc hq, ← List.append_assoc, List.map_append, List.map_append]
          exact DtVs.snoc (d := wD (wN hv mk g (s', s))) (kp.dt rfl ⟨z, _, rfl, SqT.of h5, _, _, rfl, rfl, _, _, rfl, rfl, _, _, rfl, rfl, _, _, rfl, rfl, rfl⟩) (kp.dts (noLsts_map (fun _ => rfl) _) (s5.dts z4))
        · have j0 : j = 0 := by have := of_decide_eq_false c1; omega
          subst j0
          exact ⟨_, _, _, kvs4, zs1, rfl, s4, g4, nm4, x4, z4, by omega⟩
      · rintro σ G1 ⟨w7, w8, w9, kvs1, zs1, rfl, sg1, gd1, nm1, gx1, hdz1, lz1⟩
        rw [List.length_map] at nm1 hdz1 lz1
        rw [List.take_length, ← flat_take hrow] at nm1
        rw [← nb_len, List.take_length, ← nbs_snoc hrow] at hdz1
        refine ⟨_, _, _, _, _, kvs1, zs1, rfl, sg1, gd1, nm1, gx1, hdz1, by rw [flat_take hrow, List.length_append]; omega⟩
    · rintro σ G ⟨v6, v7, v8, v9, v10, kvs, zs, rfl, sg, gd, nmk, gx, hdz, lz⟩
      rw [List.length_map, hw.len, List.take_length] at nmk hdz lz
      rw [hmk] at nmk lz
      have whole : ∃ post, mk = mk ++ post := ⟨[], (List.append_nil _).symm⟩
      have num : ∀ s ∈ mk, valV kvs (Sum.inr s) = some (.int (ix mk s)) := fun s hs => nmk.val whole nd hs
      refine ⟨_, rfl, m, rfl, ⟨_, SqL.of (sg _ _ hm)⟩, for_enum (K := K) (l := m) (xs := xl) (fun i σ G => ∃ v6 v7 v8 v9 v10 zs, σ = [some (.ref l), some (.ref h), some (.ref m), some (.int g), some (.ref d), some (.ref x), v6, v7, v8, v9, v10] ∧ Same H G ∧ G d = some (.dK kvs) ∧ G x = some (.lst zs) ∧ DtVs K G (((nbs rows).map (wN hv mk g) ++ wL mk mk.length 0 (ls.take i)).map wD) zs ∧ zs.length ≤ 60 + 2 * i)
        ⟨v6, v7, v8, v9, v10, zs, rfl, sg, gd, gx, by rw [List.take_zero]; show DtVs K G (((nbs rows).map (wN hv mk g) ++ []).map wD) zs; rw [List.append_nil]; exact hdz, by omega⟩ ?_ ?_ ?_⟩
      · rintro i σ G' _ ⟨_, _, _, _, _, _, rfl, sg', _⟩
        exact SqL.of (sg' _ _ hm)
      · rintro i y tt σ G1 hy nt ⟨w6, w7, w8, w9, w10, zs1, rfl, sg1, gd1, gx1, hdz1, lz1⟩
        have hi : i < xl.length := (List.getElem?_eq_some_iff.mp hy).1
        obtain ⟨q, hq, dq⟩ := dts_get hdl hy
        obtain ⟨tq, rfl, htq⟩ := un_l3 (sg1.dt dq)
        obtain ⟨q1, q2⟩ := hin q (List.mem_of_getElem? hq)
        have s3 : Same G1 (upd G1 tt (.tup [.int i, .ref tq])) := Same.new nt
        have h3 : upd G1 tt (.tup [.int i, .ref tq]) tt = some (.tup [.int i, .ref tq]) := upd_same
        generalize upd G1 tt (.tup [.int i, .ref tq]) = G3 at s3 h3 ⊢
        refine ⟨tt, _, rfl, SqT.of h3, rfl, _, _, rfl, _, _, rfl, rfl, ?_⟩
        have tq3 := s3.sqT htq
        refine ⟨_, rfl, _, rfl, tq, _, rfl, tq3, ?_⟩
        refine ⟨by intro z; exact absurd (show HT.sIx 3 3 (some 2) = 3 from z.2) (by decide), fun qc nqc => ?_⟩
        rw [show cutV [V.str q.1, V.str q.2.1, V.int q.2.2] none (some 2) = [V.str q.1, V.str q.2.1] from rfl]
        have s4 : Same G3 (upd G3 qc (.tup [V.str q.1, V.str q.2.1])) := Same.new nqc
        have h4 : upd G3 qc (.tup [V.str q.1, V.str q.2.1]) qc = some (.tup [V.str q.1, V.str q.2.1]) := upd_same
        generalize upd G3 qc (.tup [V.str q.1, V.str q.2.1]) = G4 at s4 h4 ⊢
        have u4 := s3.trans s4
        have e0 : ((kvs.length : Int) + i) = ((mk.length + (0 + (ls.take i).length) : Nat) : Int) := by
          rw [nmk.len, List.length_take]
          omega
        refine ⟨qc, rfl, ⟨_, SqT.of h4⟩, for_tup (K := K) (a := qc) (xs := [V.str q.1, V.str q.2.1]) (fun j σ G => ∃ v8 zs, σ = [some (.ref l), some (.ref h), some (.ref m), some (.int g), some (.ref d), some (.ref x), w6, some (.int i), v8, w9, some (.ref tq)] ∧ Same H G ∧ G qc = some (.tup [V.str q.1, V.str q.2.1]) ∧ SqT K G tq [.str q.1, .str q.2.1, .int q.2.2] ∧ G d = some (.dK kvs) ∧ G x = some (.lst zs) ∧ DtVs K G (((nbs rows).map (wN hv mk g) ++ wL mk mk.length 0 (ls.take i) ++ [(((mk.length + (0 + (ls.take i).length) : Nat) : Int), ix mk q.1, (0 : Int), q.2.2), (((mk.length + (0 + (ls.take i).length) : Nat) : Int), ix mk q.2.1, (0 : Int), q.2.2)].take j).map wD) zs ∧ zs.length ≤ 60 + 2 * i + j)
          ⟨w8, zs1, rfl, sg1.trans u4, h4, s4.sqT tq3, u4 _ _ gd1, u4 _ _ gx1, by rw [List.take_zero, List.append_nil]; exact u4.dts hdz1, by omega⟩ ?_ ?_ ?_⟩
        · rintro j σ G5 _ ⟨_, _, rfl, _, hqc, _⟩
          exact SqT.of hqc
        · rintro j y' σ G5 hy' ⟨u8, zs2, rfl, sg5, hqc, tq5, gd5, gx5, hdz5, lz5⟩
          obtain ⟨s, rfl, hsm, tk⟩ : ∃ s, y' = .str s ∧ s ∈ mk ∧ ([(((mk.length + (0 + (ls.take i).length) : Nat) : Int), ix mk q.1, (0 : Int), q.2.2), (((mk.length + (0 + (ls.take i).length) : Nat) : Int), ix mk q.2.1, (0 : Int), q.2.2)] : List Wi)[j]? = some (((mk.length + (0 + (ls.take i).length) : Nat) : Int), ix mk s, (0 : Int), q.2.2) := by
            rcases j with _ | _ | j
            · exact ⟨q.1, (Option.some.inj hy').symm, q1, rfl⟩
            · exact ⟨q.2.1, (Option.some.inj hy').symm, q2, rfl⟩
            · simp at hy'
          have jl : j < 2 := by
            have := (List.getElem?_eq_some_iff.mp hy').1
            exact this
          dsimp only [gName]
          refine ⟨_, rfl, .inl ⟨rfl, _, SqL.of gx5⟩, _, rfl, d, _, rfl, gd5, _, rfl, _, _, rfl, rfl, _, rfl, _, rfl, d, _, rfl, dget_k (k := Sum.inr s) gd5 (num s hsm), _, rfl, tq, _, 2, _, rfl, rfl, tq5, rfl, (by show 4 ≤ sizeLine; decide), fun z nz => ?_⟩
          have s6 : Same G5 (upd G5 z (.tup [.int ((kvs.length : Int) + i), .int (ix mk s), .int 0, .int q.2.2])) := Same.new nz
          have h6 : upd G5 z (.tup [.int ((kvs.length : Int) + i), .int (ix mk s), .int 0, .int q.2.2]) z = some (.tup [.int ((kvs.length : Int) + i), .int (ix mk s), .int 0, .int q.2.2]) := upd_same
          generalize upd G5 z (.tup [.int ((kvs.length : Int) + i), .int (ix mk s), .int 0, .int q.2.2]) = G6 at s6 h6 ⊢
          have gx6 := s6 _ _ gx5
          refine ⟨x, _, _, rfl, rfl, gx6, by rw [sizeLine_eq]; omega, ?_⟩
          have kp : Tk G6 (upd G6 x (.lst (zs2 ++ [.ref z]))) := Tk.upd gx6 rfl
          have nqx : qc ≠ x := ne_of hqc gx5 (by intro e; cases e)
          refine ⟨_, _, rfl, same_upd nx0 (sg5.trans s6), by rw [upd_ne nqx]; exact s6 _ _ hqc, kp.sqT (s6.sqT tq5), by rw [upd_ne ndx]; exact s6 _ _ gd5, upd_same, ?_, by rw [List.length_append]; show _ + 1 ≤ _; omega⟩
          rw [take_snoc tk, ← List.append_assoc, List.map_append]
          refine DtVs.snoc (d := wD (((mk.length + (0 + (ls.take i).length) : Nat) : Int), ix mk s, (0 : Int), q.2.2)) (kp.dt rfl ⟨z, _, rfl, SqT.of h6, _, _, rfl, ?_, _, _, rfl, rfl, _, _, rfl, rfl, _, _, rfl, rfl, rfl⟩) (kp.dts (noLsts_map (fun _ => rfl) _) (s6.dts hdz5))
          show V.int _ = V.int _
          rw [e0]
        · rintro σ G5 ⟨u8, zs2, rfl, sg5, hqc, tq5, gd5, gx5, hdz5, lz5⟩
          refine ⟨_, _, _, _, _, zs2, rfl, sg5, gd5, gx5, ?_, by show zs2.length ≤ 60 + 2 * (i + 1); have : ([V.str q.1, V.str q.2.1] : List V).length = 2 := rfl; omega⟩
          rw [take_snoc hq, wL_snoc, ← List.append_assoc]
          exact hdz5
      · rintro σ G1 ⟨w6, w7, w8, w9, w10, zs1, rfl, sg1, gd1, gx1, hdz1, lz1⟩
        rw [← hlx, List.take_length] at hdz1
        refine ⟨_, rfl, d, _, rfl, gd1, _, rfl, m, _, rfl, .inl (SqL.of (sg1 _ _ hm)), _, _, rfl, rfl, _, rfl, (by show 2 ≤ sizeLine; decide), fun t nt => ?_⟩
        rw [nmk.len, ← hlx]
        have s9 : Same G1 (upd G1 t (.tup [.int ((mk.length : Int) + ls.length), .ref x])) := Same.new nt
        refine k t x _ (sg1.trans s9) (none_of sg1 nt) nx0 upd_same ⟨zs1, s9 _ _ gx1, ?_⟩
        unfold wAll
        rw [hmk]
        exact s9.dts hdz1
end
end K61
namespace K61
open PySem L2
section
variable {P : Program} {w : World} {K : PySem.W.Frag} {mg : Str → Option Value} {base : Heap} {a : Adr}
def spRefused (K : PySem.W.Frag) : Sp := fun vs H Q _ => ∃ (y : Int) (l : Addr) (rs : List Addr) (rows : List Row) (h : Addr) (hv : Kvs) (m : Addr) (ls : List L3) (g : Int), vs = [.int y, .ref l, .ref h, .ref m, .int g] ∧ H l = some (.lst ((rs : List Addr).map V.ref)) ∧ Rw H rs rows ∧ rows.length ≤ 30 ∧ rows.flatten.length ≤ 60 ∧ rows.flatten.Nodup ∧ H h = some (.dK hv) ∧ (∀ s ∈ rows.flatten, Has hv s) ∧ L3At K H m ls ∧ ls.length ≤ 60 ∧ (∀ q ∈ ls, q.1 ∈ rows.flatten ∧ q.2.1 ∈ rows.flatten) ∧
  (40 < rows.flatten.length ∨ 40 < ls.length) ∧ ∀ H', Same H H' → Q (.bl true) H'
set_option maxHeartbeats 8000000 in
theorem ok_refused (T : Tx K mg a) : Cal P w K mg base CX0 4 "_law_refused" ["_law_way", "_law_rows_here", "_law_halves", "_law_lines_here", "_law_gap"] [] (spRefused K) := T.d__law_refused.cal fun f fd F => by
  have c_asked := ok_asked (P := P) (w := w) (base := base) T
  have c_sideways := ok_sideways (P := P) (w := w) (base := base) T
  refine F.ok sc__law_refused (fun vs H Q E h => ?_) (fun cdv A outer s H vs Q E hr h => ?_)
  · obtain ⟨y, l, rs, rows, h, hv, m, ls, g, rfl, _⟩ := h
    rfl
  · obtain ⟨y, l, rs, rows, h, hv, m, ls, g, rfl, hl, hw, h30, h60, nd, hh, has, hm, hls, hin, bad, k⟩ := h
    refine ⟨_, (pss_cons (ps_set (i := 5) sc__law_refused.nd rfl (by first | exact Or.inl rfl | exact Or.inr rfl) pe_bl)
      (pss_cons (ps_try ⟨rfl, rfl⟩ rfl (PHs.as_ (i := 6) rfl T.g_TooMany T.xb_TooMany T.xt_TooMany (by decide) sc__law_refused.nd rfl rfl (fun a H₀ => (pss_one (ps_set (i := 5) sc__law_refused.nd rfl (by first | exact Or.inl rfl | exact Or.inr rfl) (pe_and (pe_callB (callK_isinstX (K := K) rfl) rfl T.n_isinstance bt_isinstance (pa_cons (pv 6) (pa_cons (pe_ref rfl T.g_DrawError) pa_nil))) (pe_one (pe_not (pe_callB (callK_isinstX (K := K) rfl) rfl T.n_isinstance bt_isinstance (pa_cons (pv 6) (pa_cons (pe_ref rfl T.g_NoFlow) pa_nil))))))))) PHs.nil) (fun pn E1 R1 hp1 po1 => (pss_one (ps_if (pt_cmpR op_eq (pv 0) pe_int (nomark _)) (pss_one (ps_expr (pe_calX c_asked hp1 (hr.mono (by decide)) rfl (pa_cons (pv 1) (pa_cons (pv 2) (pa_cons (pv 3) (pa_cons (pv 4) pa_nil))))))) (pss_one (ps_expr (pe_calX c_sideways hp1 (hr.mono (by decide)) rfl (pa_cons (pv 1) (pa_cons (pv 2) (pa_cons (pv 3) (pa_cons (pv 4) pa_nil)))))))))) pss_nil)
      (pss_one (ps_ret (pv 5))))), ?_⟩
    have fin : ∀ H1, Same H H1 → ∀ (x : Addr) (ob : Obj), H1 x = none → True := fun _ _ _ _ _ => trivial
    refine ⟨_, rfl, rfl, _, rfl, ?_⟩
    refine iteB (fun _ => ?_) (fun _ => ?_)
    · refine ⟨_, rfl, _, rfl, _, rfl, _, rfl, l, rs, rows, h, hv, m, ls, g, rfl, hl, hw, h30, h60, nd, hh, has, hm, hls, hin, fun z => ?_, fun _ H1 s1 => ?_⟩
      · omega
      refine ⟨a.TooMany, true, rfl, T.mr_TooMany_TooMany, iteT (fun x ob hx ho hdd hff => ?_)⟩
      have s2 : Same H1 (upd H1 x (.frz ob (.own x))) := Same.new hx
      have isx : IsX (upd H1 x (.frz ob (.own x))) x a.TooMany none := ⟨ob, .own x, upd_same, ho, hdd, hff⟩
      refine ⟨_, rfl, x, a.TooMany, none, _, _, true, rfl, isx, trivial, T.is_TooMany, (fun _ r => r), T.kt_TooMany_DrawError, _, rfl, ?_⟩
      refine iteT ?_
      refine ⟨_, rfl, x, a.TooMany, none, _, _, false, rfl, isx, trivial, T.is_TooMany, (fun _ r => r), T.kt_TooMany_NoFlow, ?_⟩
      refine ⟨_, rfl, ?_⟩
      exact ⟨_, rfl, k _ (s1.trans s2)⟩
    · refine ⟨_, rfl, _, rfl, _, rfl, _, rfl, l, rs, rows, h, hv, m, ls, g, rfl, hl, hw, h30, h60, nd, hh, has, hm, hls, hin, bad, fun H1 s1 => ?_⟩
      refine ⟨a.TooMany, true, rfl, T.mr_TooMany_TooMany, iteT (fun x ob hx ho hdd hff => ?_)⟩
      have s2 : Same H1 (upd H1 x (.frz ob (.own x))) := Same.new hx
      have isx : IsX (upd H1 x (.frz ob (.own x))) x a.TooMany none := ⟨ob, .own x, upd_same, ho, hdd, hff⟩
      refine ⟨_, rfl, x, a.TooMany, none, _, _, true, rfl, isx, trivial, T.is_TooMany, (fun _ r => r), T.kt_TooMany_DrawError, _, rfl, ?_⟩
      refine iteT ?_
      refine ⟨_, rfl, x, a.TooMany, none, _, _, false, rfl, isx, trivial, T.is_TooMany, (fun _ r => r), T.kt_TooMany_NoFlow, ?_⟩
      refine ⟨_, rfl, ?_⟩
      exact ⟨_, rfl, k _ (s1.trans s2)⟩
end
end K61
namespace K61
open PySem L2
section
variable {P : Program} {w : World} {K : PySem.W.Frag} {mg : Str → Option Value} {base : Heap} {a : Adr}
theorem un_w {H : Hp} {x : V} {q : Wi} (h : DtV K H (wD q) x) : ∃ t, x = .ref t ∧ SqT K H t [.int q.1, .int q.2.1, .int q.2.2.1, .int q.2.2.2] := by
  obtain ⟨t, xs, rfl, h1, y1, ys1, rfl, rfl, y2, ys2, rfl, rfl, y3, ys3, rfl, rfl, y4, ys4, rfl, rfl, h2⟩ := h
  rw [show ys4 = [] from h2] at h1
  exact ⟨t, rfl, h1⟩
def rowD (r : Row) : Dt := .lst (r.map Dt.str)
theorem deep_row {n : Nat} (r : Row) : DeepLe (n + 1) (rowD r) := deeps_map (fun _ => by cases n <;> trivial) _
theorem Rw.dts {H : Hp} : ∀ {rs : List Addr} {rows : List Row}, Rw H rs rows → DtVs K H (rows.map rowD) (rs.map V.ref)
  | [], [], _ => rfl
  | r :: _, row :: _, h => ⟨_, _, rfl, ⟨r, _, rfl, SqL.of h.1, dts_strs row⟩, Rw.dts h.2⟩
  | [], _ :: _, h => h.elim
  | _ :: _, [], h => h.elim
theorem cut_ints_le (ns : List Int) (i j : Nat) : ∃ ms : List Int, cutV (ns.map V.int) (some i) (some j) = ms.map V.int ∧ ms.length ≤ j - i := by
  obtain ⟨ms, e, _⟩ := cut_ints ns (some i) (some j)
  refine ⟨ms, e, ?_⟩
  have l : ms.length = (cutV (ns.map V.int) (some i) (some j)).length := by rw [e, List.length_map]
  rw [l]
  unfold cutV
  have e1 : HT.sIx (ns.map V.int).length 0 (some (i : Int)) = min i (ns.map V.int).length := by
    unfold HT.sIx
    dsimp only
    rw [if_neg (by omega), Int.toNat_natCast]
  have e2 : HT.sIx (ns.map V.int).length (ns.map V.int).length (some (j : Int)) = min j (ns.map V.int).length := by
    unfold HT.sIx
    dsimp only
    rw [if_neg (by omega), Int.toNat_natCast]
  rw [e1, e2, List.length_take, List.length_drop]
  omega
theorem deep_l3 {n : Nat} (q : L3) : DeepLe (n + 1) (l3D q) := by cases n <;> exact ⟨trivial, trivial, trivial, trivial⟩
theorem nbs_len (rows : List Row) : (nbs rows).length ≤ rows.flatten.length := by
  unfold nbs
  induction rows with
  | nil => exact Nat.le_refl _
  | cons r rs ih =>
    rw [List.map_cons, List.flatten_cons, List.flatten_cons, List.length_append, List.length_append, nb_len]
    omega
theorem wAll_len (hv : Kvs) (rows : List Row) (ls : List L3) (g : Int) : (wAll hv rows ls g).length ≤ rows.flatten.length + 2 * ls.length := by
  unfold wAll
  rw [List.length_append, List.length_map, wL_len]
  have := nbs_len rows
  omega
def spLaw (K : PySem.W.Frag) : Sp := fun vs H Q _ => ∃ (p : Addr) (ns : List Int), vs = [.ref p] ∧ SqL K H p (ns.map V.int) ∧ ns.length ≤ 63 ∧ ∀ H', Q (.bl true) H'
set_option maxHeartbeats 8000000 in
theorem ok_law (T : Tx K mg a) (f : Addr) (fd : FuncData) (F : FunD K "law" "law" s_law f fd) : FnOk P w K mg base CX0 6 f fd ["_law_script"] (spLaw K) := by
  have c__law_cell_at := ok_cell_at (P := P) (w := w) (base := base) T
  have c__law_rows := ok_rows (P := P) (w := w) (base := base) T
  have c__law_lines := ok_lines (P := P) (w := w) (base := base) T
  have c__law_crowd := ok_crowd (P := P) (w := w) (base := base) T
  have c__law_due := ok_due (P := P) (w := w) (base := base) T
  have c__law_refused := ok_refused (P := P) (w := w) (base := base) T
  have c_asked := ok_asked (P := P) (w := w) (base := base) T
  refine F.ok sc_law (fun vs H Q E h => ?_) (fun cdv A outer s H vs Q E hr h => ?_)
  · obtain ⟨p, ns, rfl, _⟩ := h
    rfl
  · obtain ⟨p, ns, rfl, hS, hlen, k⟩ := h
    refine ⟨_, (pss_cons (ps_asg (pe_cal c__law_rows (hr.mono (by decide)) rfl (pa_cons (pv 0) pa_nil)) (pg_tup rfl (pgs_cons (pg_name (i := 1) sc_law.nd rfl (by first | exact Or.inl rfl | exact Or.inr rfl)) (pgs_cons (pg_name (i := 2) sc_law.nd rfl (by first | exact Or.inl rfl | exact Or.inr rfl)) (pgs_cons (pg_name (i := 3) sc_law.nd rfl (by first | exact Or.inl rfl | exact Or.inr rfl)) pgs_nil)))))
      (pss_cons (ps_set (i := 4) sc_law.nd rfl (by first | exact Or.inl rfl | exact Or.inr rfl) (pe_cal c__law_lines (hr.mono (by decide)) rfl (pa_cons (pe_slice sl_list (pv 0) (po_some pe_int) (po_some pe_int)) (pa_cons (pv 1) pa_nil))))
      (pss_cons (ps_set (i := 5) sc_law.nd rfl (by first | exact Or.inl rfl | exact Or.inr rfl) (pe_op op_mod (pe_op op_fdiv (pe_cal c__law_cell_at (hr.mono (by decide)) rfl (pa_cons (pv 0) (pa_cons pe_int pa_nil))) pe_int) pe_int))
      (pss_cons (ps_expr (pe_cal c__law_crowd (hr.mono (by decide)) rfl (pa_cons (pv 0) (pa_cons (pv 1) (pa_cons (pv 2) (pa_cons (pv 3) (pa_cons (pv 4) pa_nil)))))))
      (pss_cons (ps_if (PW.pt (pw_or (pt_cmpR op_gt (pe_callB call_lenD rfl T.n_len bt_len (pa_cons (pv 3) pa_nil)) pe_int (nomark _)) (pw_or1 (pt_cmpR op_gt (pe_callB call_len_seq rfl T.n_len bt_len (pa_cons (pv 4) pa_nil)) pe_int (nomark _))))) (pss_one (ps_ret (pe_and (pe_cal c__law_refused (hr.mono (by decide)) rfl (pa_cons pe_int (pa_cons (pv 2) (pa_cons (pv 3) (pa_cons (pv 4) (pa_cons (pv 5) pa_nil)))))) (pe_one (pe_cal c__law_refused (hr.mono (by decide)) rfl (pa_cons pe_int (pa_cons (pv 2) (pa_cons (pv 3) (pa_cons (pv 4) (pa_cons (pv 5) pa_nil)))))))))) pss_nil)
      (pss_cons (ps_set (i := 6) sc_law.nd rfl (by first | exact Or.inl rfl | exact Or.inr rfl) (pe_tup (pa_cons (pe_comp (N := ["_law_row"]) (cap := [none]) rfl (cap_ok (osc := defScope s_law) (XN := ["_law_script", "_law_marks", "_law_rows_here", "_law_halves", "_law_lines_here", "_law_gap", "_law_handed", "_law_found", "_law_due_here", "_law_wish"]) rfl rfl (by decide +kernel)) (pi_list (pv 2)) (fun cl C s H fp pins => (pg_name (i := 0) (show (["_law_row"] : List Str).Nodup by decide +kernel) rfl (by first | exact Or.inl rfl | exact Or.inr rfl))) (fun cl C s H fp pins => pif_nil) (fun cl C s H fp pins => (pe_callTy (callK_list_of (K := K) rfl) rfl T.n_list bt_list (pa_cons (pv 0) pa_nil)))) (pa_cons (pe_callTy call_dictD rfl T.n_dict bt_dict (pa_cons (pv 3) pa_nil)) (pa_cons (pe_callTy call_list_of rfl T.n_list bt_list (pa_cons (pv 4) pa_nil)) pa_nil)))))
      (pss_cons (ps_set (i := 7) sc_law.nd rfl (by first | exact Or.inl rfl | exact Or.inr rfl) (pe_calX c_asked px_never (hr.mono (by decide)) rfl (pa_cons (pe_ix ix_tup (pv 6) pe_int (fun _ _ => rfl)) (pa_cons (pe_ix ix_tup (pv 6) pe_int (fun _ _ => rfl)) (pa_cons (pe_ix ix_tup (pv 6) pe_int (fun _ _ => rfl)) (pa_cons (pv 5) pa_nil))))))
      (pss_cons (ps_set (i := 8) sc_law.nd rfl (by first | exact Or.inl rfl | exact Or.inr rfl) (pe_cal c__law_due (hr.mono (by decide)) rfl (pa_cons (pv 2) (pa_cons (pv 3) (pa_cons (pv 4) (pa_cons (pv 5) pa_nil))))))
      (pss_cons (ps_if (PW.pt (pw_or (pt_not (pt_val (pe_callB call_isinst rfl T.n_isinstance bt_isinstance (pa_cons (pv 7) (pa_cons (pe_gTy rfl T.n_tuple bt_tuple) pa_nil))))) (pw_or (pt_not (pt_val (pe_callB call_isinst rfl T.n_isinstance bt_isinstance (pa_cons (pe_ix ix_tup (pv 7) pe_int (fun _ _ => rfl)) (pa_cons (pe_gTy rfl T.n_list bt_list) pa_nil))))) (pw_or1 (pt_cmpR (op_neD hr.units) (pv 7) (pv 8) (nomark _)))))) (pss_one (ps_ret pe_bl)) pss_nil)
      (pss_cons (ps_for PassesOwn.never rfl (pi_list (pe_ix ix_tup (pv 7) pe_int (fun _ _ => rfl))) (pg_name (i := 9) sc_law.nd rfl (by first | exact Or.inl rfl | exact Or.inr rfl)) (pss_one (ps_if (PW.pt (pw_or (pt_not (pt_val (pe_callB call_isinst rfl T.n_isinstance bt_isinstance (pa_cons (pv 9) (pa_cons (pe_gTy rfl T.n_tuple bt_tuple) pa_nil))))) (pw_or1 (pt_cmpR (op_neD hr.units) (pe_comp (N := ["_law_number"]) (cap := [none]) rfl (cap_ok (osc := defScope s_law) (XN := ["_law_script", "_law_marks", "_law_rows_here", "_law_halves", "_law_lines_here", "_law_gap", "_law_handed", "_law_found", "_law_due_here", "_law_wish"]) rfl rfl (by decide +kernel)) (pi_tup (pv 9)) (fun cl C s H fp pins => (pg_name (i := 0) (show (["_law_number"] : List Str).Nodup by decide +kernel) rfl (by first | exact Or.inl rfl | exact Or.inr rfl))) (fun cl C s H fp pins => pif_one (pt_val (pe_callB (callK_isinst (K := K) rfl) rfl T.n_isinstance bt_isinstance (pa_cons (pv 0) (pa_cons (pe_gTy rfl T.n_bool bt_bool) pa_nil))))) (fun cl C s H fp pins => (pv 0))) (pe_lst pa_nil) (nomark _))))) (pss_one (ps_ret pe_bl)) pss_nil)))
      (pss_cons (ps_expr (pe_bm PySem.F.plainAttrs_list PySem.F.slot_list_append PySem.F.type_list_append mt_append (pe_ix ix_tup (pv 7) pe_int (fun _ _ => rfl)) (pa_cons pe_int pa_nil)))
      (pss_one (ps_ret (pe_and (pe_cmpR (op_eqT hr.units) (pv 6) (pe_tup (pa_cons (pv 2) (pa_cons (pv 3) (pa_cons (pv 4) pa_nil)))) (nomark _)) (pe_one (pe_cmpR (op_eqD hr.units) (pe_calX c_asked px_never (hr.mono (by decide)) rfl (pa_cons (pv 2) (pa_cons (pv 3) (pa_cons (pv 4) (pa_cons (pv 5) pa_nil))))) (pv 8) (nomark _))))))))))))))))), ?_⟩
    refine ⟨_, rfl, p, ns, rfl, hS, fun t0 mA l h rs mk rows hv H1 s1 ht hm hl hrw hh ok h12 in12 ndr nr nlm nl nh nm => ?_⟩
    refine ⟨t0, _, rfl, SqT.of ht, rfl, _, _, rfl, _, _, rfl, _, _, rfl, rfl, ?_⟩
    obtain ⟨ms, hms, hml⟩ := cut_ints_le ns 2 32
    refine ⟨_, rfl, _, rfl, _, rfl, p, _, rfl, s1.sqL hS, fun lc nlc => ?_⟩
    rw [show cutV (ns.map V.int) (some 2) (some 32) = ms.map V.int from hms]
    have s2 : Same H1 (upd H1 lc (.lst (ms.map V.int))) := Same.new nlc
    have h2 : upd H1 lc (.lst (ms.map V.int)) lc = some (.lst (ms.map V.int)) := upd_same
    generalize upd H1 lc (.lst (ms.map V.int)) = H2 at s2 h2 ⊢
    refine ⟨_, rfl, lc, mA, mk, ms, rfl, SqL.of h2, by omega, s2 _ _ hm, fun m ls H3 s3 nm3 hls hok hlls => ?_⟩
    have u3 := s2.trans s3
    have t3 := s1.trans u3
    refine ⟨_, rfl, p, ns, 1, rfl, t3.sqL hS, by decide, fun c => ⟨_, _, rfl, rfl, ⟨by decide, by decide⟩, _, _, rfl, rfl, (by show (0 : Int) < 51; decide), ?_⟩⟩
    have nrm : ∀ r ∈ rs, r ≠ m := fun r hr => by
      obtain ⟨j, hj⟩ := List.mem_iff_getElem?.mp hr
      obtain ⟨row, _, e⟩ := hrw.at hj
      exact ne_of_none (s2 _ _ e) nm3
    have cd0 : Cd K H3 rs l h m mk rows hv ls := ⟨u3 _ _ hl, hrw.same u3, u3 _ _ hh, hls, ok, ndr, fun r hr => ⟨(nr r hr).1, (nr r hr).2.2.1, nrm r hr⟩, ne_of_none (s2 _ _ hl) nm3, fun q hq => ⟨(hok q hq).1, (hok q hq).2.1⟩⟩
    refine ⟨_, rfl, _, rfl, _, rfl, _, rfl, _, rfl, p, mA, l, h, m, rs, mk, rows, hv, ls, ns, rfl, t3.sqL hS, u3 _ _ hm, fun z => (nr mA z).2.1 rfl, ne_of (u3 _ _ hm) (u3 _ _ hh) (by intro e; cases e), ne_of_none (s2 _ _ hm) nm3, cd0, h12, in12, by omega, fun mk' rows' hv' ls' G fg cd h41 l41 => ?_⟩
    -- from here on all is kept
    have fl : rows'.flatten.length = mk'.length := cd.ok.pm.length_eq
    have fn : rows'.flatten.Nodup := cd.ok.pm.nodup_iff.mpr cd.ok.nd
    have hasf : ∀ s ∈ rows'.flatten, Has hv' s := fun s hs => cd.ok.has s (cd.ok.pm.mem_iff.mp hs)
    have inf : ∀ q ∈ ls', q.1 ∈ rows'.flatten ∧ q.2.1 ∈ rows'.flatten := fun q hq => ⟨cd.ok.pm.mem_iff.mpr (cd.il q hq).1, cd.ok.pm.mem_iff.mpr (cd.il q hq).2⟩
    have r4 := cd.ok.k
    obtain ⟨xm, gm, gdl⟩ := cd.hm
    have lx : ls'.length = xm.length := by rw [← gdl.length, List.length_map]
    have hvl := cd.ok.len
    clear cd0 fg t3 u3 s3 s2 h2 hls hok
    dsimp only [gName]
    refine ⟨_, rfl, h, _, rfl, cd.hh, _, _, rfl, rfl, _, rfl, ?_⟩
    refine iteB (fun c1 => ?_) (fun c1 => ?_)
    · have bad : 40 < rows'.flatten.length ∨ 40 < ls'.length := by
        have := of_decide_eq_true c1
        exact .inl (by omega)
      refine iteT ?_
      refine ⟨_, rfl, _, rfl, _, rfl, _, rfl, 0, l, rs, rows', h, hv', m, ls', _, rfl, cd.hl, cd.hw, by omega, by omega, fn, cd.hh, hasf, ⟨xm, gm, gdl⟩, by omega, inf, bad, fun G1 g1 => ?_⟩
      refine ⟨_, rfl, ?_⟩
      refine iteT ?_
      refine ⟨_, rfl, _, rfl, _, rfl, _, rfl, 1, l, rs, rows', h, hv', m, ls', _, rfl, g1 _ _ cd.hl, cd.hw.same g1, by omega, by omega, fn, g1 _ _ cd.hh, hasf, ⟨xm, g1 _ _ gm, g1.dts gdl⟩, by omega, inf, bad, fun G2 g2 => ?_⟩
      exact k _
    refine ⟨_, rfl, m, _, rfl, .inl (SqL.of gm), _, _, rfl, rfl, _, rfl, ?_⟩
    refine iteB (fun c2 => ?_) (fun c2 => ?_)
    · have bad : 40 < rows'.flatten.length ∨ 40 < ls'.length := by
        have := of_decide_eq_true c2
        exact .inr (by omega)
      refine ⟨_, rfl, _, rfl, _, rfl, _, rfl, 0, l, rs, rows', h, hv', m, ls', _, rfl, cd.hl, cd.hw, by omega, by omega, fn, cd.hh, hasf, ⟨xm, gm, gdl⟩, by omega, inf, bad, fun G1 g1 => ?_⟩
      refine ⟨_, rfl, ?_⟩
      refine iteT ?_
      refine ⟨_, rfl, _, rfl, _, rfl, _, rfl, 1, l, rs, rows', h, hv', m, ls', _, rfl, g1 _ _ cd.hl, cd.hw.same g1, by omega, by omega, fn, g1 _ _ cd.hh, hasf, ⟨xm, g1 _ _ gm, g1.dts gdl⟩, by omega, inf, bad, fun G2 g2 => ?_⟩
      exact k _
    have f40 : rows'.flatten.length ≤ 40 := by have := of_decide_eq_false c1; omega
    have m40 : ls'.length ≤ 40 := by have := of_decide_eq_false c2; omega
    have rowl : ∀ row ∈ rows', row.length ≤ 40 := fun row hr => Nat.le_trans (List.sublist_flatten_of_mem hr).length_le f40
    have rsl := cd.hw.len
    -- copies
    refine ⟨_, rfl, l, rfl, ⟨_, SqL.of cd.hl⟩, fun D hD => ?_⟩
    refine comp_list (K := K) (a := l) (xs := rs.map V.ref) (fun i τ G1 => ∃ v1, ∃ rs2 : List Addr, τ = [v1] ∧ Same G G1 ∧ G1 D = some (.lst (rs2.map V.ref)) ∧ Rw G1 rs2 (rows'.take i) ∧ ∀ r ∈ rs2, r ≠ D) ⟨none, [], rfl, Same.new hD, upd_same, trivial, fun r hr => by cases hr⟩ ?_ ?_ ?_
    · rintro i τ G1 _ ⟨_, _, rfl, sg, _⟩
      exact SqL.of (sg _ _ cd.hl)
    · rintro i x τ G1 hx ⟨v1, rs2, rfl, sg, hD1, hw1, nD⟩
      obtain ⟨r, hr1, rfl⟩ := refs_at hx
      obtain ⟨row, hrow, hrr⟩ := cd.hw.at hr1
      have hi : i < rows'.length := (List.getElem?_eq_some_iff.mp hrow).1
      have l2 := hw1.len
      rw [List.length_take] at l2
      dsimp only [gName, tYes]
      rw [if_pos rfl]
      refine ⟨_, rfl, r, _, rfl, .inl (SqL.of (sg _ _ hrr)), fun y ny => ?_⟩
      have s5 : Same G1 (upd G1 y (.lst (row.map V.str))) := Same.new ny
      have h5 : upd G1 y (.lst (row.map V.str)) y = some (.lst (row.map V.str)) := upd_same
      have nyD : y ≠ D := (ne_of_none hD1 ny).symm
      generalize upd G1 y (.lst (row.map V.str)) = G5 at s5 h5 ⊢
      have all : ∀ r ∈ rs2 ++ [y], r ≠ D := fun r hr => by
        rcases List.mem_append.mp hr with hr | hr
        · exact nD r hr
        · rw [List.mem_singleton.mp hr]
          exact nyD
      refine ⟨_, s5 _ _ hD1, by rw [List.length_map, sizeLine_eq]; omega, _, rs2 ++ [y], rfl, same_upd hD (sg.trans s5), by rw [upd_same, List.map_append]; rfl, ?_, all⟩
      rw [take_snoc hrow]
      exact Rw.upd (Rw.snoc h5 (hw1.same s5)) all
    rintro τ G1 ⟨v1, rs2, rfl, sg1, hD1, hw1, nD⟩
    rw [List.length_map, rsl, List.take_length] at hw1
    refine ⟨_, rfl, h, _, rfl, sg1 _ _ cd.hh, fun h2 nh2 => ?_⟩
    have s2 : Same G1 (upd G1 h2 (.dK hv')) := Same.new nh2
    have e2 : upd G1 h2 (.dK hv') h2 = some (.dK hv') := upd_same
    generalize upd G1 h2 (.dK hv') = G2 at s2 e2 ⊢
    have u2 := sg1.trans s2
    refine ⟨_, rfl, m, _, rfl, .inl (SqL.of (u2 _ _ gm)), fun m2 nm2 => ?_⟩
    have s3 : Same G2 (upd G2 m2 (.lst xm)) := Same.new nm2
    have e3 : upd G2 m2 (.lst xm) m2 = some (.lst xm) := upd_same
    generalize upd G2 m2 (.lst xm) = G3 at s3 e3 ⊢
    have u3 := u2.trans s3
    refine ⟨(by show 3 ≤ sizeLine; decide), fun hd nhd => ?_⟩
    have s4 : Same G3 (upd G3 hd (.tup [.ref D, .ref h2, .ref m2])) := Same.new nhd
    have e4 : upd G3 hd (.tup [.ref D, .ref h2, .ref m2]) hd = some (.tup [.ref D, .ref h2, .ref m2]) := upd_same
    generalize upd G3 hd (.tup [.ref D, .ref h2, .ref m2]) = G4 at s4 e4 ⊢
    have u4 := u3.trans s4
    have v4 : Same G1 G4 := s2.trans (s3.trans s4)
    have hD4 := v4 _ _ hD1
    have hw4 := hw1.same v4
    have hh4 := s4 _ _ (s3 _ _ e2)
    have hm4 := s4 _ _ e3
    have gd4 := u4.dts gdl
    dsimp only [gName]
    -- what is asked, and what is due
    refine ⟨_, rfl, hd, _, 0, _, rfl, rfl, SqT.of e4, at_cons0, _, rfl, hd, _, 1, _, rfl, rfl, SqT.of e4, at_cons1, _, rfl, hd, _, 2, _, rfl, rfl, SqT.of e4, rfl, _, rfl, D, rs2, rows', h2, hv', m2, ls', _, rfl, hD4, hw4, by omega, by omega, fn, hh4, hasf, ⟨xm, hm4, gd4⟩, by omega, inf, fun _ t1 x1 G5 s5 nt1 nx1 et1 wt1 => ?_, fun z => by omega⟩
    refine ⟨_, rfl, _, rfl, _, rfl, _, rfl, l, rs, rows', h, hv', m, ls', _, rfl, ?_⟩
    have u5 := u4.trans s5
    refine ⟨u5 _ _ cd.hl, cd.hw.same u5, by omega, by omega, fn, u5 _ _ cd.hh, hasf, ⟨xm, u5 _ _ gm, u5.dts gdl⟩, by omega, inf, fun t2 x2 G6 s6 nt2 nx2 et2 wt2 => ?_⟩
    have u6 := u5.trans s6
    obtain ⟨y1, ex1, ed1, tp1⟩ := wt1
    obtain ⟨y2, ex2, ed2⟩ := wt2
    have et1' := s6 _ _ et1
    have ex1' := s6 _ _ ex1
    refine ⟨_, rfl, _, _, _, _, _, rfl, rfl, .tup et1', T.kb_tuple_tuple, _, rfl, iteOr rfl ?_⟩
    refine ⟨_, rfl, t1, _, 1, _, rfl, rfl, SqT.of et1', at_cons1, _, _, _, _, _, rfl, rfl, .lst ex1', T.kb_list_list, _, rfl, iteOr rfl ?_⟩
    have ed1' := s6.dts ed1
    have tp6 : Tps G6 y1 := tp1.tk (Tk.of s6)
    refine ⟨_, rfl, _, rfl, .tup [.int ((rows'.flatten.length : Int) + ls'.length), .lst ((wAll hv' rows' ls' (c / 24 % 51)).map wD)], .tup [.int ((rows'.flatten.length : Int) + ls'.length), .lst ((wAll hv' rows' ls' (c / 24 % 51)).map wD)], rfl, rfl, ⟨t1, _, rfl, SqT.of et1', _, _, rfl, rfl, _, _, rfl, ⟨x1, _, rfl, SqL.of ex1', ed1'⟩, rfl⟩, ⟨t2, _, rfl, SqT.of et2, _, _, rfl, rfl, _, _, rfl, ⟨x2, _, rfl, SqL.of ex2, ed2⟩, rfl⟩, ⟨trivial, deeps_map (fun _ => deep_w _) _, trivial⟩, _, rfl, iteOr (by rw [eqD_refl]; rfl) ?_⟩
    -- each wish is a tuple of numbers
    refine ⟨_, rfl, t1, _, 1, _, rfl, rfl, SqT.of et1', at_cons1, x1, rfl, ⟨_, SqL.of ex1'⟩, for_list (K := K) (a := x1) (xs := y1) (fun i σ H' => ∃ v1, σ = [some (.ref p), some (.ref mA), some (.ref l), some (.ref h), some (.ref m), some (.int (c / 24 % 51)), some (.ref hd), some (.ref t1), some (.ref t2), v1] ∧ Same G6 H') ⟨none, rfl, Same.refl _⟩ ?_ ?_ ?_⟩
    · rintro i σ H' _ ⟨_, rfl, sm⟩
      exact SqL.of (sm _ _ ex1')
    · rintro i y σ H' hy ⟨v1, rfl, sm⟩
      obtain ⟨q, hq, dq⟩ := dts_get ed1' hy
      obtain ⟨t, rfl, ht0⟩ := un_w dq
      have ht := sm.sqT ht0
      obtain ⟨t', zs, e', hz0⟩ := tp6 _ (List.mem_of_getElem? hy)
      cases e'
      dsimp only [gName]
      refine ⟨_, rfl, _, _, _, _, _, rfl, rfl, TyOf.tup (sm _ _ hz0), T.kb_tuple_tuple, true, rfl, iteOr rfl ?_⟩
      refine ⟨_, rfl, t, rfl, ⟨_, ht⟩, fun D' hD' => ?_⟩
      refine comp_tup (K := K) (a := t) (xs := [.int q.1, .int q.2.1, .int q.2.2.1, .int q.2.2.2]) (fun i τ G => ∃ v1, τ = [v1] ∧ Same H' G ∧ G D' = some (.lst [])) ⟨none, rfl, Same.new hD', upd_same⟩ ?_ ?_ ?_
      · rintro i τ G _ ⟨_, rfl, sg, _⟩
        exact sg.sqT ht
      · rintro i u τ G hu ⟨v1, rfl, sg, hy⟩
        have hi3 : i < 4 := (List.getElem?_eq_some_iff.mp hu).1
        obtain ⟨n, rfl⟩ : ∃ n : Int, u = .int n := by
          rcases i with _ | _ | _ | _ | i
          · exact ⟨_, (Option.some.inj hu).symm⟩
          · exact ⟨_, (Option.some.inj hu).symm⟩
          · exact ⟨_, (Option.some.inj hu).symm⟩
          · exact ⟨_, (Option.some.inj hu).symm⟩
          · omega
        dsimp only [gName]
        refine ⟨_, rfl, _, _, _, _, _, rfl, rfl, .int _, T.kb_int_bool, _, rfl, ?_⟩
        exact ⟨_, rfl, sg, hy⟩
      rintro τ G ⟨v1, rfl, sg, hy⟩
      refine ⟨(by show 0 ≤ sizeLine; decide), fun z nz => ?_⟩
      have sz : Same G (upd G z (.lst [])) := Same.new nz
      have hz : upd G z (.lst []) z = some (.lst []) := upd_same
      generalize upd G z (.lst []) = G1 at sz hz ⊢
      refine ⟨.lst [], .lst [], rfl, rfl, ⟨D', [], rfl, SqL.of (sz _ _ hy), rfl⟩, ⟨z, [], rfl, SqL.of hz, rfl⟩, trivial, _, rfl, iteF ?_⟩
      exact ⟨_, rfl, sm.trans (sg.trans sz)⟩
    rintro σ G7 ⟨v1', rfl, s7⟩
    have nx1' : x1 ≠ x2 := ne_of_none ex1 nx2
    have xt2 : x1 ≠ t2 := ne_of_none ex1 nt2
    have l1 : y1.length ≤ 1900 := by
      have e := ed1.length
      rw [List.length_map] at e
      have := wAll_len hv' rows' ls' (c / 24 % 51)
      omega
    have ex7 := s7 _ _ ex1'
    refine ⟨_, rfl, t1, _, 1, _, rfl, rfl, SqT.of (s7 _ _ et1'), at_cons1, .inl ⟨rfl, _, SqL.of ex7⟩, x1, _, _, rfl, rfl, ex7, by rw [sizeLine_eq]; omega, ?_⟩
    have s8 : Same G4 (upd G7 x1 (.lst (y1 ++ [.int 0]))) := same_upd nx1 (s5.trans (s6.trans s7))
    have kp8 : Tk G7 (upd G7 x1 (.lst (y1 ++ [.int 0]))) := Tk.upd ex7 rfl
    have et28 : upd G7 x1 (.lst (y1 ++ [.int 0])) t2 = some (.tup [.int ((rows'.flatten.length : Int) + ls'.length), .ref x2]) := by rw [upd_ne (Ne.symm xt2)]; exact s7 _ _ et2
    have ex28 : upd G7 x1 (.lst (y1 ++ [.int 0])) x2 = some (.lst y2) := by rw [upd_ne (Ne.symm nx1')]; exact s7 _ _ ex2
    have ed28 := kp8.dts (noLsts_map (fun _ => rfl) _) (s7.dts ed2)
    generalize upd G7 x1 (.lst (y1 ++ [.int 0])) = G8 at s8 et28 ex28 ed28 ⊢
    have u8 := u4.trans s8
    refine ⟨_, rfl, _, rfl, _, rfl, _, rfl, (by show 3 ≤ sizeLine; decide), fun z nz => ?_⟩
    have s9 : Same G8 (upd G8 z (.tup [.ref l, .ref h, .ref m])) := Same.new nz
    have e9 : upd G8 z (.tup [.ref l, .ref h, .ref m]) z = some (.tup [.ref l, .ref h, .ref m]) := upd_same
    generalize upd G8 z (.tup [.ref l, .ref h, .ref m]) = G9 at s9 e9 ⊢
    have u9 := u8.trans s9
    have v9 : Same G4 G9 := s8.trans s9
    have cd9 := cd.same u9
    refine ⟨hd, z, _, _, rfl, rfl, SqT.of (v9 _ _ e4), SqT.of e9, ⟨.inl ⟨.lst (rows'.map rowD), ⟨D, _, rfl, SqL.of (v9 _ _ hD4), (hw4.same v9).dts⟩, ⟨l, _, rfl, SqL.of cd9.hl, cd9.hw.dts⟩, deeps_map (fun _ => deep_row _) _⟩, .inr ⟨h2, h, hv', rfl, rfl, v9 _ _ hh4, cd9.hh, fun p hp => ?_⟩, .inl ⟨.lst (ls'.map l3D), ⟨m2, _, rfl, SqL.of (v9 _ _ hm4), u9.dts gdl⟩, ⟨m, _, rfl, SqL.of (u9 _ _ gm), u9.dts gdl⟩, deeps_map (fun _ => deep_l3 _) _⟩, trivial⟩, ?_⟩
    · obtain ⟨s', i', rfl⟩ := cd.ok.flat p hp
      exact ⟨.int i', rfl, trivial⟩
    refine ⟨_, rfl, ?_⟩
    refine iteT ?_
    refine ⟨_, rfl, _, rfl, _, rfl, _, rfl, l, rs, rows', h, hv', m, ls', _, rfl, cd9.hl, cd9.hw, by omega, by omega, fn, cd9.hh, hasf, ⟨xm, u9 _ _ gm, u9.dts gdl⟩, by omega, inf, fun _ t3 x3 G10 s10 nt3 nx3 et3 wt3 => ?_, fun z => by omega⟩
    obtain ⟨y3, ex3, ed3, _⟩ := wt3
    have s11 : Same G8 G10 := s9.trans s10
    refine ⟨_, rfl, .tup [.int ((rows'.flatten.length : Int) + ls'.length), .lst ((wAll hv' rows' ls' (c / 24 % 51)).map wD)], .tup [.int ((rows'.flatten.length : Int) + ls'.length), .lst ((wAll hv' rows' ls' (c / 24 % 51)).map wD)], rfl, rfl, ⟨t3, _, rfl, SqT.of et3, _, _, rfl, rfl, _, _, rfl, ⟨x3, _, rfl, SqL.of ex3, ed3⟩, rfl⟩, ⟨t2, _, rfl, SqT.of (s11 _ _ et28), _, _, rfl, rfl, _, _, rfl, ⟨x2, _, rfl, SqL.of (s11 _ _ ex28), s11.dts ed28⟩, rfl⟩, ⟨trivial, deeps_map (fun _ => deep_w _) _, trivial⟩, ?_⟩
    rw [eqD_refl]
    exact k _
end
end K61
namespace K61
open PySem L2
set_option maxHeartbeats 4000000 in
theorem all_mk {l : PySem.W.OpenLaw} {w : World} {K : PySem.W.Frag} {h : Heap} {mg : Str → Option Value} {fa : Addr}
    {CDrawError : Addr}
    {CTooMany : Addr}
    {CNoFlow : Addr}
    {fapart : Addr} {odapart anapart : Option Addr} {slapart : Array (Option Value)} {ocapart kVapart dcapart pmapart cdapart ctapart : Value}
    {fneighbours : Addr} {odneighbours anneighbours : Option Addr} {slneighbours : Array (Option Value)} {ocneighbours kVneighbours dcneighbours pmneighbours cdneighbours ctneighbours : Value}
    {fmarks_in_line : Addr} {odmarks_in_line anmarks_in_line : Option Addr} {slmarks_in_line : Array (Option Value)} {ocmarks_in_line kVmarks_in_line dcmarks_in_line pmmarks_in_line cdmarks_in_line ctmarks_in_line : Value}
    {fasked : Addr} {odasked anasked : Option Addr} {slasked : Array (Option Value)} {ocasked kVasked dcasked pmasked cdasked ctasked : Value}
    {fsideways : Addr} {odsideways ansideways : Option Addr} {slsideways : Array (Option Value)} {ocsideways kVsideways dcsideways pmsideways cdsideways ctsideways : Value}
    {f_law_cell_at : Addr} {od_law_cell_at an_law_cell_at : Option Addr} {sl_law_cell_at : Array (Option Value)} {oc_law_cell_at kV_law_cell_at dc_law_cell_at pm_law_cell_at cd_law_cell_at ct_law_cell_at : Value}
    {f_law_mixed : Addr} {od_law_mixed an_law_mixed : Option Addr} {sl_law_mixed : Array (Option Value)} {oc_law_mixed kV_law_mixed dc_law_mixed pm_law_mixed cd_law_mixed ct_law_mixed : Value}
    {f_law_rows : Addr} {od_law_rows an_law_rows : Option Addr} {sl_law_rows : Array (Option Value)} {oc_law_rows kV_law_rows dc_law_rows pm_law_rows cd_law_rows ct_law_rows : Value}
    {f_law_lines : Addr} {od_law_lines an_law_lines : Option Addr} {sl_law_lines : Array (Option Value)} {oc_law_lines kV_law_lines dc_law_lines pm_law_lines cd_law_lines ct_law_lines : Value}
    {f_law_crowd : Addr} {od_law_crowd an_law_crowd : Option Addr} {sl_law_crowd : Array (Option Value)} {oc_law_crowd kV_law_crowd dc_law_crowd pm_law_crowd cd_law_crowd ct_law_crowd : Value}
    {f_law_due : Addr} {od_law_due an_law_due : Option Addr} {sl_law_due : Array (Option Value)} {oc_law_due kV_law_due dc_law_due pm_law_due cd_law_due ct_law_due : Value}
    {f_law_refused : Addr} {od_law_refused an_law_refused : Option Addr} {sl_law_refused : Array (Option Value)} {oc_law_refused kV_law_refused dc_law_refused pm_law_refused cd_law_refused ct_law_refused : Value}
    {flaw : Addr} {odlaw anlaw : Option Addr} {sllaw : Array (Option Value)} {oclaw kVlaw dclaw pmlaw cdlaw ctlaw : Value}
    {tMOST_LINES : Tok}
    {tMOST_MARKS : Tok}
    (X : K.In h) (G : h.Ns mainGlobals mg) (hfa : mg "law" = some (.ref fa))
    (aDrawError : PySem.W.nsIn K mainGlobals "DrawError" = some (some (.ref CDrawError)))
    (xbDrawError : PySem.W.mroIn K CDrawError (.type "BaseException") = some true)
    (xtDrawError : PySem.W.typeIn K (.ref CDrawError) = some (.type "type"))
    (aTooMany : PySem.W.nsIn K mainGlobals "TooMany" = some (some (.ref CTooMany)))
    (xbTooMany : PySem.W.mroIn K CTooMany (.type "BaseException") = some true)
    (xtTooMany : PySem.W.typeIn K (.ref CTooMany) = some (.type "type"))
    (xaTooMany : excAt K CTooMany bmV "ValueError.__new__" = true)
    (xkTooMany : PySem.W.keepIn K (.ref CTooMany) = true)
    (xiTooMany : PySem.W.findIn K (.ref CTooMany) "__init__" = some (some (.builtin "ValueError.__init__")))
    (iaTooMany : PySem.W.findIn K (.ref CTooMany) "__getattribute__" = some (some (.builtin "BaseException.__getattribute__")))
    (ibTooMany : PySem.W.findIn K (.ref CTooMany) "__getattr__" = some none)
    (icTooMany : PySem.W.mroIn K CTooMany (.type "object") = some true)
    (idTooMany : PySem.W.findIn K (.ref CTooMany) "__class__" = some (some (.builtin "object.__class__")))
    (ieTooMany : PySem.W.hasDictIn K CTooMany = true)
    (aNoFlow : PySem.W.nsIn K mainGlobals "NoFlow" = some (some (.ref CNoFlow)))
    (xbNoFlow : PySem.W.mroIn K CNoFlow (.type "BaseException") = some true)
    (xtNoFlow : PySem.W.typeIn K (.ref CNoFlow) = some (.type "type"))
    (tg : PySem.W.specialIn K (.builtin "object.__class__") "__get__" = some (some (.builtin "getset_descriptor.__get__")))
    (tk : PySem.W.takesIn K (.builtin "object.__class__") = some true)
    (aapart : PySem.W.nsIn K mainGlobals "apart" = some (some (.ref fapart)))
    (lapart : K.lookup fapart = some ⟨ocapart, odapart, .func (PySem.W.fnOf "apart" "apart" (defArgs s_apart) (defBody s_apart) (defScope s_apart) .none kVapart dcapart pmapart anapart cdapart ctapart), slapart⟩)
    (ccapart : PySem.W.codeIn K cdapart "apart" = true)
    (kapart : PySem.W.keepIn K (.ref fapart) = true)
    (aneighbours : PySem.W.nsIn K mainGlobals "neighbours" = some (some (.ref fneighbours)))
    (lneighbours : K.lookup fneighbours = some ⟨ocneighbours, odneighbours, .func (PySem.W.fnOf "neighbours" "neighbours" (defArgs s_neighbours) (defBody s_neighbours) (defScope s_neighbours) .none kVneighbours dcneighbours pmneighbours anneighbours cdneighbours ctneighbours), slneighbours⟩)
    (ccneighbours : PySem.W.codeIn K cdneighbours "neighbours" = true)
    (kneighbours : PySem.W.keepIn K (.ref fneighbours) = true)
    (amarks_in_line : PySem.W.nsIn K mainGlobals "marks_in_line" = some (some (.ref fmarks_in_line)))
    (lmarks_in_line : K.lookup fmarks_in_line = some ⟨ocmarks_in_line, odmarks_in_line, .func (PySem.W.fnOf "marks_in_line" "marks_in_line" (defArgs s_marks_in_line) (defBody s_marks_in_line) (defScope s_marks_in_line) .none kVmarks_in_line dcmarks_in_line pmmarks_in_line anmarks_in_line cdmarks_in_line ctmarks_in_line), slmarks_in_line⟩)
    (ccmarks_in_line : PySem.W.codeIn K cdmarks_in_line "marks_in_line" = true)
    (kmarks_in_line : PySem.W.keepIn K (.ref fmarks_in_line) = true)
    (aasked : PySem.W.nsIn K mainGlobals "asked" = some (some (.ref fasked)))
    (lasked : K.lookup fasked = some ⟨ocasked, odasked, .func (PySem.W.fnOf "asked" "asked" (defArgs s_asked) (defBody s_asked) (defScope s_asked) .none kVasked dcasked pmasked anasked cdasked ctasked), slasked⟩)
    (ccasked : PySem.W.codeIn K cdasked "asked" = true)
    (kasked : PySem.W.keepIn K (.ref fasked) = true)
    (asideways : PySem.W.nsIn K mainGlobals "sideways" = some (some (.ref fsideways)))
    (lsideways : K.lookup fsideways = some ⟨ocsideways, odsideways, .func (PySem.W.fnOf "sideways" "sideways" (defArgs s_sideways) (defBody s_sideways) (defScope s_sideways) .none kVsideways dcsideways pmsideways ansideways cdsideways ctsideways), slsideways⟩)
    (ccsideways : PySem.W.codeIn K cdsideways "sideways" = true)
    (ksideways : PySem.W.keepIn K (.ref fsideways) = true)
    (a_law_cell_at : PySem.W.nsIn K mainGlobals "_law_cell_at" = some (some (.ref f_law_cell_at)))
    (l_law_cell_at : K.lookup f_law_cell_at = some ⟨oc_law_cell_at, od_law_cell_at, .func (PySem.W.fnOf "_law_cell_at" "_law_cell_at" (defArgs s__law_cell_at) (defBody s__law_cell_at) (defScope s__law_cell_at) .none kV_law_cell_at dc_law_cell_at pm_law_cell_at an_law_cell_at cd_law_cell_at ct_law_cell_at), sl_law_cell_at⟩)
    (cc_law_cell_at : PySem.W.codeIn K cd_law_cell_at "_law_cell_at" = true)
    (k_law_cell_at : PySem.W.keepIn K (.ref f_law_cell_at) = true)
    (a_law_mixed : PySem.W.nsIn K mainGlobals "_law_mixed" = some (some (.ref f_law_mixed)))
    (l_law_mixed : K.lookup f_law_mixed = some ⟨oc_law_mixed, od_law_mixed, .func (PySem.W.fnOf "_law_mixed" "_law_mixed" (defArgs s__law_mixed) (defBody s__law_mixed) (defScope s__law_mixed) .none kV_law_mixed dc_law_mixed pm_law_mixed an_law_mixed cd_law_mixed ct_law_mixed), sl_law_mixed⟩)
    (cc_law_mixed : PySem.W.codeIn K cd_law_mixed "_law_mixed" = true)
    (k_law_mixed : PySem.W.keepIn K (.ref f_law_mixed) = true)
    (a_law_rows : PySem.W.nsIn K mainGlobals "_law_rows" = some (some (.ref f_law_rows)))
    (l_law_rows : K.lookup f_law_rows = some ⟨oc_law_rows, od_law_rows, .func (PySem.W.fnOf "_law_rows" "_law_rows" (defArgs s__law_rows) (defBody s__law_rows) (defScope s__law_rows) .none kV_law_rows dc_law_rows pm_law_rows an_law_rows cd_law_rows ct_law_rows), sl_law_rows⟩)
    (cc_law_rows : PySem.W.codeIn K cd_law_rows "_law_rows" = true)
    (k_law_rows : PySem.W.keepIn K (.ref f_law_rows) = true)
    (a_law_lines : PySem.W.nsIn K mainGlobals "_law_lines" = some (some (.ref f_law_lines)))
    (l_law_lines : K.lookup f_law_lines = some ⟨oc_law_lines, od_law_lines, .func (PySem.W.fnOf "_law_lines" "_law_lines" (defArgs s__law_lines) (defBody s__law_lines) (defScope s__law_lines) .none kV_law_lines dc_law_lines pm_law_lines an_law_lines cd_law_lines ct_law_lines), sl_law_lines⟩)
    (cc_law_lines : PySem.W.codeIn K cd_law_lines "_law_lines" = true)
    (k_law_lines : PySem.W.keepIn K (.ref f_law_lines) = true)
    (a_law_crowd : PySem.W.nsIn K mainGlobals "_law_crowd" = some (some (.ref f_law_crowd)))
    (l_law_crowd : K.lookup f_law_crowd = some ⟨oc_law_crowd, od_law_crowd, .func (PySem.W.fnOf "_law_crowd" "_law_crowd" (defArgs s__law_crowd) (defBody s__law_crowd) (defScope s__law_crowd) .none kV_law_crowd dc_law_crowd pm_law_crowd an_law_crowd cd_law_crowd ct_law_crowd), sl_law_crowd⟩)
    (cc_law_crowd : PySem.W.codeIn K cd_law_crowd "_law_crowd" = true)
    (k_law_crowd : PySem.W.keepIn K (.ref f_law_crowd) = true)
    (a_law_due : PySem.W.nsIn K mainGlobals "_law_due" = some (some (.ref f_law_due)))
    (l_law_due : K.lookup f_law_due = some ⟨oc_law_due, od_law_due, .func (PySem.W.fnOf "_law_due" "_law_due" (defArgs s__law_due) (defBody s__law_due) (defScope s__law_due) .none kV_law_due dc_law_due pm_law_due an_law_due cd_law_due ct_law_due), sl_law_due⟩)
    (cc_law_due : PySem.W.codeIn K cd_law_due "_law_due" = true)
    (k_law_due : PySem.W.keepIn K (.ref f_law_due) = true)
    (a_law_refused : PySem.W.nsIn K mainGlobals "_law_refused" = some (some (.ref f_law_refused)))
    (l_law_refused : K.lookup f_law_refused = some ⟨oc_law_refused, od_law_refused, .func (PySem.W.fnOf "_law_refused" "_law_refused" (defArgs s__law_refused) (defBody s__law_refused) (defScope s__law_refused) .none kV_law_refused dc_law_refused pm_law_refused an_law_refused cd_law_refused ct_law_refused), sl_law_refused⟩)
    (cc_law_refused : PySem.W.codeIn K cd_law_refused "_law_refused" = true)
    (k_law_refused : PySem.W.keepIn K (.ref f_law_refused) = true)
    (alaw : PySem.W.nsIn K mainGlobals "law" = some (some (.ref flaw)))
    (llaw : K.lookup flaw = some ⟨oclaw, odlaw, .func (PySem.W.fnOf "law" "law" (defArgs s_law) (defBody s_law) (defScope s_law) .none kVlaw dclaw pmlaw anlaw cdlaw ctlaw), sllaw⟩)
    (cclaw : PySem.W.codeIn K cdlaw "law" = true)
    (klaw : PySem.W.keepIn K (.ref flaw) = true)
    (qMOST_LINES : PySem.W.nsIn K mainGlobals "MOST_LINES" = some (some (.int 40 tMOST_LINES)))
    (qMOST_MARKS : PySem.W.nsIn K mainGlobals "MOST_MARKS" = some (some (.int 40 tMOST_MARKS)))
    (ekb_int_int : PySem.W.kitOne K (.type "int") (.type "int") = some true)
    (ekb_int_bool : PySem.W.kitOne K (.type "int") (.type "bool") = some false)
    (ekb_bool_bool : PySem.W.kitOne K (.type "bool") (.type "bool") = some true)
    (ekb_list_list : PySem.W.kitOne K (.type "list") (.type "list") = some true)
    (ekb_tuple_tuple : PySem.W.kitOne K (.type "tuple") (.type "tuple") = some true)
    (ekt_TooMany_TooMany : PySem.W.kitOne K (.ref CTooMany) (.ref CTooMany) = some true)
    (ekt_TooMany_DrawError : PySem.W.kitOne K (.ref CTooMany) (.ref CDrawError) = some true)
    (ekt_TooMany_NoFlow : PySem.W.kitOne K (.ref CTooMany) (.ref CNoFlow) = some false)
    (emr_TooMany_TooMany : PySem.W.mroIn K CTooMany (.ref CTooMany) = some true)
    (zbool : PySem.W.nsIn K mainGlobals "bool" = some none)
    (zdict : PySem.W.nsIn K mainGlobals "dict" = some none)
    (zenumerate : PySem.W.nsIn K mainGlobals "enumerate" = some none)
    (zisinstance : PySem.W.nsIn K mainGlobals "isinstance" = some none)
    (zlen : PySem.W.nsIn K mainGlobals "len" = some none)
    (zlist : PySem.W.nsIn K mainGlobals "list" = some none)
    (zrange : PySem.W.nsIn K mainGlobals "range" = some none)
    (zstr : PySem.W.nsIn K mainGlobals "str" = some none)
    (ztuple : PySem.W.nsIn K mainGlobals "tuple" = some none)
    (zzip : PySem.W.nsIn K mainGlobals "zip" = some none) :
    ∃ fd : FuncData, (∀ (s : Shared) (v : Value), BindsTo s fd ⟨[v], []⟩ [("_law_script", v)]) ∧ ∀ base : Heap, K.In base → base.Ns mainGlobals mg → FnOk l.prog w K mg base CX0 6 fa fd ["_law_script"] (spLaw K) := by
  have e := hfa.symm.trans (PySem.W.mg_of X G alaw)
  cases e
  have T : Tx K mg ⟨CDrawError, CTooMany, CNoFlow⟩ := ⟨PySem.W.mg_of X G aDrawError,
    xbDrawError,
    xtDrawError,
    PySem.W.mg_of X G aTooMany,
    xbTooMany,
    xtTooMany,
    ⟨xaTooMany, xkTooMany, xiTooMany⟩,
    ⟨iaTooMany, ibTooMany, xbTooMany, icTooMany, idTooMany, tg, tk, ieTooMany⟩,
    PySem.W.mg_of X G aNoFlow,
    xbNoFlow,
    xtNoFlow,
    ⟨_, _, [], funD_mk lapart ccapart, PySem.W.mg_of X G aapart, kapart, (.all (len4 fun _ _ _ _ => rfl)), .nil⟩,
    ⟨_, _, [], funD_mk lneighbours ccneighbours, PySem.W.mg_of X G aneighbours, kneighbours, (.all (len1 fun _ => rfl)), .nil⟩,
    ⟨_, _, [], funD_mk lmarks_in_line ccmarks_in_line, PySem.W.mg_of X G amarks_in_line, kmarks_in_line, (.all (len1 fun _ => rfl)), .nil⟩,
    ⟨_, _, [], funD_mk lasked ccasked, PySem.W.mg_of X G aasked, kasked, (.all (len4 fun _ _ _ _ => rfl)), .nil⟩,
    ⟨_, _, [], funD_mk lsideways ccsideways, PySem.W.mg_of X G asideways, ksideways, (.all (len4 fun _ _ _ _ => rfl)), .nil⟩,
    ⟨_, _, [], funD_mk l_law_cell_at cc_law_cell_at, PySem.W.mg_of X G a_law_cell_at, k_law_cell_at, (.all (len2 fun _ _ => rfl)), .nil⟩,
    ⟨_, _, [], funD_mk l_law_mixed cc_law_mixed, PySem.W.mg_of X G a_law_mixed, k_law_mixed, (.all (len2 fun _ _ => rfl)), .nil⟩,
    ⟨_, _, [], funD_mk l_law_rows cc_law_rows, PySem.W.mg_of X G a_law_rows, k_law_rows, (.all (len1 fun _ => rfl)), .nil⟩,
    ⟨_, _, [], funD_mk l_law_lines cc_law_lines, PySem.W.mg_of X G a_law_lines, k_law_lines, (.all (len2 fun _ _ => rfl)), .nil⟩,
    ⟨_, _, [], funD_mk l_law_crowd cc_law_crowd, PySem.W.mg_of X G a_law_crowd, k_law_crowd, (.all (len5 fun _ _ _ _ _ => rfl)), .nil⟩,
    ⟨_, _, [], funD_mk l_law_due cc_law_due, PySem.W.mg_of X G a_law_due, k_law_due, (.all (len4 fun _ _ _ _ => rfl)), .nil⟩,
    ⟨_, _, [], funD_mk l_law_refused cc_law_refused, PySem.W.mg_of X G a_law_refused, k_law_refused, (.all (len5 fun _ _ _ _ _ => rfl)), .nil⟩,
    ⟨_, _, [], funD_mk llaw cclaw, PySem.W.mg_of X G alaw, klaw, (.all (len1 fun _ => rfl)), .nil⟩,
    ⟨tMOST_LINES, PySem.W.mg_of X G qMOST_LINES⟩,
    ⟨tMOST_MARKS, PySem.W.mg_of X G qMOST_MARKS⟩,
    ekb_int_int,
    ekb_int_bool,
    ekb_bool_bool,
    ekb_list_list,
    ekb_tuple_tuple,
    ekt_TooMany_TooMany,
    ekt_TooMany_DrawError,
    ekt_TooMany_NoFlow,
    emr_TooMany_TooMany,
    PySem.W.mg_none_of X G zbool,
    PySem.W.mg_none_of X G zdict,
    PySem.W.mg_none_of X G zenumerate,
    PySem.W.mg_none_of X G zisinstance,
    PySem.W.mg_none_of X G zlen,
    PySem.W.mg_none_of X G zlist,
    PySem.W.mg_none_of X G zrange,
    PySem.W.mg_none_of X G zstr,
    PySem.W.mg_none_of X G ztuple,
    PySem.W.mg_none_of X G zzip⟩
  exact ⟨_, fun s v => .of_eq rfl, fun base _ _ => ok_law T _ _ (funD_mk (st := s_law) llaw cclaw)⟩
theorem walk {l : PySem.W.OpenLaw} {q : Program} {loose : List Str} {XP : (Str → Option Value) → Heap → Prop} {YP : World → Heap → Prop} {d : DefRec} {K : Params → PySem.W.Frag} (hn : l.most = some 63) (hdf : d.params.defaults = [])
    (hY : ∀ (w : World) (h : Heap), YP w h → (K w.params).In h)
    (F : ∀ (w : World) (mg : Str → Option Value) (fa : Addr) (h : Heap), (K w.params).In h → h.Ns mainGlobals mg → mg d.name = some (.ref fa) →
      ∃ fd : FuncData, (∀ (s : Shared) (u : Value), BindsTo s fd ⟨[u], []⟩ [("_law_script", u)]) ∧ ∀ base : Heap, (K w.params).In base → base.Ns mainGlobals mg → FnOk l.prog w (K w.params) mg base CX0 6 fa fd ["_law_script"] (spLaw (K w.params))) :
    PySem.W.WalkO q loose XP YP l.row.toRowW d [] (fun f vs => PySem.call f vs) :=
  L2.walk_of (n := 63) (k := 6) (x := "_law_script") (CX := fun _ => CX0) (sp := fun w => spLaw (K w.params)) hn (by decide) hdf ⟨by decide, by decide⟩ hY F (fun _ _ a ns hl _ hS => ⟨a, ns, rfl, hS, hl, fun _ => rfl⟩) fun _ _ _ _ _ z => z
end K61
/-! the names of twins that are not wanted -/
def PySem.W.Fast.tw18395316273138342385 : Unit := ()
def PySem.W.Fast.tw3806908728633369316 : Unit := ()
def PySem.W.Fast.tw15390449338887562252 : Unit := ()
def PySem.W.Fast.tw3986323515303669806 : Unit := ()
def PySem.W.Fast.tw94649261018412441 : Unit := ()
def PySem.W.Fast.tw10206968883747619767 : Unit := ()
def PySem.W.Fast.tw11494474952628407463 : Unit := ()
def PySem.W.Fast.tw18186007356578899213 : Unit := ()
def PySem.W.Fast.tw8642539629181775466 : Unit := ()
def PySem.W.Fast.tw8466631608678587989 : Unit := ()
def PySem.W.Fast.tw6076495854092171142 : Unit := ()
def PySem.W.Fast.tw2753925613901943792 : Unit := ()
def PySem.W.Fast.tw3340097209228156258 : Unit := ()
def PySem.W.Fast.tw12434254726155800264 : Unit := ()
def PySem.W.Fast.tw12923077201339388870 : Unit := ()
def PySem.W.Fast.tw943164209742002440 : Unit := ()
def PySem.W.Fast.tw14377092173224123225 : Unit := ()
def PySem.W.Fast.tw8678237220437860321 : Unit := ()
def PySem.W.Fast.tw12233830317033042122 : Unit := ()
def PySem.W.Fast.tw5993773703823795899 : Unit := ()
open PySem PySem.W PyProof.Rows
set_option maxRecDepth 100000 in
set_option maxHeartbeats 0 in
theorem PySem.Challenge.cw_layerdraw_k61_what_is_asked_holds : PySem.Challenge.rw_layerdraw_k61_what_is_asked.Holds := by
  w_on; o_law; k_head; (case hw => w_witness2)
  k_fill
  refine K61.walk (l := PySem.Challenge.rw_layerdraw_k61_what_is_asked) rfl rfl (fun w h Y => PySem.W.km_in_of Y) ?F
  case F =>
    intro w mg fa h KX G hmg
    refine' K61.all_mk KX G hmg ?aDrawError ?xbDrawError ?xtDrawError ?aTooMany ?xbTooMany ?xtTooMany ?xaTooMany ?xkTooMany ?xiTooMany ?iaTooMany ?ibTooMany ?icTooMany ?idTooMany ?ieTooMany ?aNoFlow ?xbNoFlow ?xtNoFlow ?tg ?tk ?aapart ?lapart ?ccapart ?kapart ?aneighbours ?lneighbours ?ccneighbours ?kneighbours ?amarks_in_line ?lmarks_in_line ?ccmarks_in_line ?kmarks_in_line ?aasked ?lasked ?ccasked ?kasked ?asideways ?lsideways ?ccsideways ?ksideways ?a_law_cell_at ?l_law_cell_at ?cc_law_cell_at ?k_law_cell_at ?a_law_mixed ?l_law_mixed ?cc_law_mixed ?k_law_mixed ?a_law_rows ?l_law_rows ?cc_law_rows ?k_law_rows ?a_law_lines ?l_law_lines ?cc_law_lines ?k_law_lines ?a_law_crowd ?l_law_crowd ?cc_law_crowd ?k_law_crowd ?a_law_due ?l_law_due ?cc_law_due ?k_law_due ?a_law_refused ?l_law_refused ?cc_law_refused ?k_law_refused ?alaw ?llaw ?cclaw ?klaw ?qMOST_LINES ?qMOST_MARKS ?ekb_int_int ?ekb_int_bool ?ekb_bool_bool ?ekb_list_list ?ekb_tuple_tuple ?ekt_TooMany_TooMany ?ekt_TooMany_DrawError ?ekt_TooMany_NoFlow ?emr_TooMany_TooMany ?zbool ?zdict ?zenumerate ?zisinstance ?zlen ?zlist ?zrange ?zstr ?ztuple ?zzip
    (case aDrawError => first | k_is | kit_is | kernel_rfl | rfl)
    (case xbDrawError => first | k_is | kit_is | kernel_rfl | rfl)
    (case xtDrawError => first | k_is | kit_is | kernel_rfl | rfl)
    (case aTooMany => first | k_is | kit_is | kernel_rfl | rfl)
    (case xbTooMany => first | k_is | kit_is | kernel_rfl | rfl)
    (case xtTooMany => first | k_is | kit_is | kernel_rfl | rfl)
    (case xaTooMany => first | k_is | kit_is | kernel_rfl | rfl)
    (case xkTooMany => first | k_is | kit_is | kernel_rfl | rfl)
    (case xiTooMany => first | k_is | kit_is | kernel_rfl | rfl)
    (case iaTooMany => first | k_is | kit_is | kernel_rfl | rfl)
    (case ibTooMany => first | k_is | kit_is | kernel_rfl | rfl)
    (case icTooMany => first | k_is | kit_is | kernel_rfl | rfl)
    (case idTooMany => first | k_is | kit_is | kernel_rfl | rfl)
    (case ieTooMany => first | k_is | kit_is | kernel_rfl | rfl)
    (case aNoFlow => first | k_is | kit_is | kernel_rfl | rfl)
    (case xbNoFlow => first | k_is | kit_is | kernel_rfl | rfl)
    (case xtNoFlow => first | k_is | kit_is | kernel_rfl | rfl)
    (case tg => first | k_is | kit_is | kernel_rfl | rfl)
    (case tk => first | k_is | kit_is | kernel_rfl | rfl)
    (case aapart => first | k_is | kit_is | kernel_rfl | rfl)
    (case lapart => first | k_is | kit_is | kernel_rfl | rfl)
    (case ccapart => first | k_is | kit_is | kernel_rfl | rfl)
    (case kapart => first | k_is | kit_is | kernel_rfl | rfl)
    (case aneighbours => first | k_is | kit_is | kernel_rfl | rfl)
    (case lneighbours => first | k_is | kit_is | kernel_rfl | rfl)
    (case ccneighbours => first | k_is | kit_is | kernel_rfl | rfl)
    (case kneighbours => first | k_is | kit_is | kernel_rfl | rfl)
    (case amarks_in_line => first | k_is | kit_is | kernel_rfl | rfl)
    (case lmarks_in_line => first | k_is | kit_is | kernel_rfl | rfl)
    (case ccmarks_in_line => first | k_is | kit_is | kernel_rfl | rfl)
    (case kmarks_in_line => first | k_is | kit_is | kernel_rfl | rfl)
    (case aasked => first | k_is | kit_is | kernel_rfl | rfl)
    (case lasked => first | k_is | kit_is | kernel_rfl | rfl)
    (case ccasked => first | k_is | kit_is | kernel_rfl | rfl)
    (case kasked => first | k_is | kit_is | kernel_rfl | rfl)
    (case asideways => first | k_is | kit_is | kernel_rfl | rfl)
    (case lsideways => first | k_is | kit_is | kernel_rfl | rfl)
    (case ccsideways => first | k_is | kit_is | kernel_rfl | rfl)
    (case ksideways => first | k_is | kit_is | kernel_rfl | rfl)
    (case a_law_cell_at => first | k_is | kit_is | kernel_rfl | rfl)
    (case l_law_cell_at => first | k_is | kit_is | kernel_rfl | rfl)
    (case cc_law_cell_at => first | k_is | kit_is | kernel_rfl | rfl)
    (case k_law_cell_at => first | k_is | kit_is | kernel_rfl | rfl)
    (case a_law_mixed => first | k_is | kit_is | kernel_rfl | rfl)
    (case l_law_mixed => first | k_is | kit_is | kernel_rfl | rfl)
    (case cc_law_mixed => first | k_is | kit_is | kernel_rfl | rfl)
    (case k_law_mixed => first | k_is | kit_is | kernel_rfl | rfl)
    (case a_law_rows => first | k_is | kit_is | kernel_rfl | rfl)
    (case l_law_rows => first | k_is | kit_is | kernel_rfl | rfl)
    (case cc_law_rows => first | k_is | kit_is | kernel_rfl | rfl)
    (case k_law_rows => first | k_is | kit_is | kernel_rfl | rfl)
    (case a_law_lines => first | k_is | kit_is | kernel_rfl | rfl)
    (case l_law_lines => first | k_is | kit_is | kernel_rfl | rfl)
    (case cc_law_lines => first | k_is | kit_is | kernel_rfl | rfl)
    (case k_law_lines => first | k_is | kit_is | kernel_rfl | rfl)
    (case a_law_crowd => first | k_is | kit_is | kernel_rfl | rfl)
    (case l_law_crowd => first | k_is | kit_is | kernel_rfl | rfl)
    (case cc_law_crowd => first | k_is | kit_is | kernel_rfl | rfl)
    (case k_law_crowd => first | k_is | kit_is | kernel_rfl | rfl)
    (case a_law_due => first | k_is | kit_is | kernel_rfl | rfl)
    (case l_law_due => first | k_is | kit_is | kernel_rfl | rfl)
    (case cc_law_due => first | k_is | kit_is | kernel_rfl | rfl)
    (case k_law_due => first | k_is | kit_is | kernel_rfl | rfl)
    (case a_law_refused => first | k_is | kit_is | kernel_rfl | rfl)
    (case l_law_refused => first | k_is | kit_is | kernel_rfl | rfl)
    (case cc_law_refused => first | k_is | kit_is | kernel_rfl | rfl)
    (case k_law_refused => first | k_is | kit_is | kernel_rfl | rfl)
    (case alaw => first | k_is | kit_is | kernel_rfl | rfl)
    (case llaw => first | k_is | kit_is | kernel_rfl | rfl)
    (case cclaw => first | k_is | kit_is | kernel_rfl | rfl)
    (case klaw => first | k_is | kit_is | kernel_rfl | rfl)
    (case qMOST_LINES => first | k_is | kit_is | kernel_rfl | rfl)
    (case qMOST_MARKS => first | k_is | kit_is | kernel_rfl | rfl)
    (case ekb_int_int => first | k_is | kit_is | kernel_rfl | rfl)
    (case ekb_int_bool => first | k_is | kit_is | kernel_rfl | rfl)
    (case ekb_bool_bool => first | k_is | kit_is | kernel_rfl | rfl)
    (case ekb_list_list => first | k_is | kit_is | kernel_rfl | rfl)
    (case ekb_tuple_tuple => first | k_is | kit_is | kernel_rfl | rfl)
    (case ekt_TooMany_TooMany => first | k_is | kit_is | kernel_rfl | rfl)
    (case ekt_TooMany_DrawError => first | k_is | kit_is | kernel_rfl | rfl)
    (case ekt_TooMany_NoFlow => first | k_is | kit_is | kernel_rfl | rfl)
    (case emr_TooMany_TooMany => first | k_is | kit_is | kernel_rfl | rfl)
    (case zbool => first | k_is | kit_is | kernel_rfl | rfl)
    (case zdict => first | k_is | kit_is | kernel_rfl | rfl)
    (case zenumerate => first | k_is | kit_is | kernel_rfl | rfl)
    (case zisinstance => first | k_is | kit_is | kernel_rfl | rfl)
    (case zlen => first | k_is | kit_is | kernel_rfl | rfl)
    (case zlist => first | k_is | kit_is | kernel_rfl | rfl)
    (case zrange => first | k_is | kit_is | kernel_rfl | rfl)
    (case zstr => first | k_is | kit_is | kernel_rfl | rfl)
    (case ztuple => first | k_is | kit_is | kernel_rfl | rfl)
    (case zzip => first | k_is | kit_is | kernel_rfl | rfl)

