/-
  CONTRACTS of reportsFirst and of Handles of the reference heap over this seat's translation.
  Conditions: the reference heap lies in memory as RefAt says.
-/
import Derived.Test.YtbobokhlcbojkaaOps
import Derived.Laws.AppendOwnNone
namespace Go.Proofs.Ytbobokhlcbojkaa
open Go.ChangeShapes Go.WideShapes Go.ChangeAt Go.RowKit Go.Maps
set_option linter.unusedVariables false

theorem reports_none (xb : Nat) (iv : Value) (last : Int) (w : World) (h : RefAt w xb iv [] last) :
    Calls Try.prog 15 #[.int .i64 0, .int .u64 0, .int .i64 0, .bool false, .pointer (some ⟨xb, 0, none⟩)] w fun e w' => e = .returned (.bool true) ∧ Fr No w w' := by
  have HS := Lib.hid h
  clear h
  go_enter Try.func15, Try.ntmps15
  go_wp2_with fail
  refine (first_any xb iv [] last _ HS.out).mono ?_
  rintro e w1 ⟨hf, h⟩
  obtain rfl : e = .returned (.int .i64 (-1)) := by
    rcases h with h | ⟨a, en, _, hL⟩
    · exact h.1
    · have := hL.1; simp at this
  have HF := Lib.hid hf
  clear hf h
  go_wp2_with fail
  go_ret
  exact ⟨rfl, HF.out⟩

theorem least_is {L : List Ent} {a : Nat} {e0 en : Ent} (hi : L.Pairwise (fun a b => a.id < b.id)) (hL : Least L L.length a en) (he : e0 ∈ L) (hmin : ∀ b ∈ L, ¬ b.lt e0) : en = e0 := by
  have h1 := hmin en (List.mem_of_getElem? hL.1)
  obtain ⟨k, hk⟩ := mem_get he
  have h2 := hL.not_lt (Nat.le_refl _) hi k e0 hk
  exact same_ent hi he hL.1 (by unfold Ent.lt at h1 h2; omega)

set_option maxHeartbeats 1000000 in
set_option maxRecDepth 100000 in
theorem reports_some (xb : Nat) (iv : Value) (L : List Ent) (last : Int) (e0 : Ent) (x0 : Int) (w : World) (h : RefAt w xb iv L last) (he : e0 ∈ L) (hmin : ∀ b ∈ L, ¬ b.lt e0) (hv : e0.val = .int .i64 x0) :
    Calls Try.prog 15 #[.int .i64 e0.id, .int .u64 e0.due, .int .i64 x0, .bool true, .pointer (some ⟨xb, 0, none⟩)] w fun e w' => e = .returned (.bool true) ∧ Fr No w w' := by
  have HS := Lib.hid (And.intro h (And.intro he (And.intro hmin hv)))
  have hlen := h.lst.len
  clear h he hmin hv
  go_enter Try.func15, Try.ntmps15
  go_wp2_with fail
  refine (first_any xb iv L last _ HS.out.1).mono ?_
  rintro e w1 ⟨hf, h⟩
  obtain ⟨a, rfl, gk⟩ : ∃ a : Nat, e = .returned (.int .i64 a) ∧ L[a]? = some e0 := by
    rcases h with h | ⟨a, en, h1, hL⟩
    · have := HS.out.2.1; rw [h.2] at this; simp at this
    · exact ⟨a, h1, by rw [hL.1, least_is HS.out.1.lst.inc hL HS.out.2.1 HS.out.2.2.1]⟩
  have hx1 := HS.out.1.frNo hf
  have HF := Lib.hid hf
  clear hf h
  have hal := (List.getElem?_eq_some_iff.1 gk).1
  obtain ⟨g, cap, rfl⟩ := hx1.form (by omega)
  obtain ⟨n, hn⟩ : ∃ n, L.length = n := ⟨_, rfl⟩
  rw [hn] at hx1 hal hlen
  have c0 := hx1.hcell.1
  obtain ⟨a0, a1, a2⟩ := hx1.ecell gk
  rw [HS.out.2.2.2] at a2
  have p1 : (0 : Int) ≤ (a : Int) := by omega
  have p2 : (a : Int) < (n : Int) := by omega
  have p3 : ¬ ((a : Int) < 0) := by omega
  clear hx1 gk hn
  go_wp2_with fail
  go_ret
  exact ⟨rfl, HF.out⟩

theorem own_base {w : World} {base base' : Nat} {e : TypeId} {size n : Nat} {v : Value} {xs : List Value} (h : w.ownsRow base e size v n xs) (hb : base' ≤ base) : w.ownsRow base' e size v n xs := by
  refine ⟨h.1, ?_⟩
  rcases h.2 with h1 | ⟨g, cap, cur, hv, hb', hr⟩
  · exact .inl h1
  · exact .inr ⟨g, cap, cur, hv, Nat.le_trans hb hb', hr⟩

theorem own_form {w : World} {base : Nat} {e : TypeId} {size n : Nat} {v : Value} {xs : List Value} (h : w.ownsRow base e size v n xs) : ∃ a cap, v = .slice a n cap := by
  rcases h.2 with ⟨hv, hn⟩ | ⟨g, cap, cur, hv, _⟩
  · exact ⟨none, 0, by rw [hv, hn]⟩
  · exact ⟨_, cap, hv⟩

theorem one_flatR {L : List Ent} (h : Lst L) : ∀ u ∈ flatR L, u.oneCell' = true := by
  have hv := h.val
  clear h
  induction L with
  | nil => intro u hu; simp [flatR] at hu
  | cons a K ih =>
    intro u hu
    simp only [flatR, List.mem_cons] at hu
    rcases hu with rfl | rfl | rfl | hu
    · rfl
    · rfl
    · obtain ⟨x, hx⟩ := hv 0 a (by simp); rw [hx]; rfl
    · exact ih (fun j e hj => hv (j + 1) e (by simpa using hj)) u hu

/-- A copy of the reference heap's list. -/
theorem wpList_copy {w : World} {ops : Array Oper} {rest : List Oper} {o : Oper} {ac : Act} {Q : Exit → Act → World → Prop} (hgd : o.guard = none) (s x : Operand)
    (ho : o.op = .call { callee := .builtin .append, args := #[s, x], argTypes := #[26, 26] }) (xb : Nat) (iv : Value) (L : List Ent) (last : Int) (hR : RefAt w xb iv L last) (hs : ac.eval s = .slice none 0 0) (hx : ac.eval x = iv)
    (h : ∀ a cap w', w'.ownsRow w.heap.size 43 3 (.slice a L.length cap) L.length (flatR L) → Fr No w w' → wpList Try.prog ops Q rest (ac.put o.dst (.slice a L.length cap)) w') : wpList Try.prog ops Q (o :: rest) ac w := by
  obtain ⟨i0, hi0, hz0, hz1, hz2⟩ := info_parts infoR
  have hlen := hR.lst.len
  rcases hR.row.2 with ⟨hv, hn⟩ | ⟨g, cap, cur, hv, _, hg, hnc, _, _, htake⟩
  · refine wpList_append_own_none hgd s x 26 ho w.heap.size 43 i0 3 Try.underlying26 hi0 (.slice none 0 0) 0 [] hs (World.ownsRow_nil _ _ _ _) (hx.trans hv) ?_
    have hL : L = [] := List.eq_nil_of_length_eq_zero hn
    have := h none 0 w (by rw [hL]; exact World.ownsRow_nil _ _ _ _) (Fr.refl _ _)
    rw [hn] at this
    exact this
  · subst hv
    refine wpList_append_own w hgd s x 26 ho w.heap.size 43 i0 _ 3 24 Try.underlying26 hi0 hz0 hz1 hz2 rfl (by decide) (.slice none 0 0) 0 [] hs (World.ownsRow_nil _ _ _ _) ⟨g, 0, none⟩ L.length cap (flatR L) hx (flatR_length L) ?_ (one_flatR hR.lst) (by unfold maxLen; omega) (by omega) (Nat.le_refl _) ?_
    · intro j u hu
      rw [Go.WideShapes.add_plain, Nat.zero_add, hR.row.cellAt j (by have := (List.getElem?_eq_some_iff.1 hu).1; rw [flatR_length] at this; exact this)]
      exact hu
    · intro v' w' hown hgrow _
      rw [Nat.zero_add, List.nil_append] at hown
      obtain ⟨a, c, rfl⟩ := own_form hown
      exact h a c w' hown (Fr.grown hgrow (fun k hk => by cases hk))

end Go.Proofs.Ytbobokhlcbojkaa
