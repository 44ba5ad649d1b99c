/-
  A heap of a call's own, as the calls go on; lists that are sorted are one; whether two rows of integers are equal.
  Conditions: as each theorem says.
-/
import Derived.Test.YtbobokhlcbojkaaSort
import Derived.BigQuiet
import Derived.Deep.QuietTactic
import Derived.Deep.LoopGhost
namespace Go.Proofs.Ytbobokhlcbojkaa
open Go.ChangeShapes Go.WideShapes Go.ChangeAt Go.RowKit Go.Maps
set_option linter.unusedVariables false

structure Live (V : Value → Prop) (st en : TypeId) (w0 w : World) (hb mb : Nat) (sv : Value) (A : List Ent) (last : Int) : Prop where
  heap : HeapAt V st en w hb mb sv A last
  ord : Ordered A
  fr : Fr No w0 w
  own : ∀ k, Own hb mb sv k → w0.heap.size ≤ k

section
variable {V : Value → Prop} {st en : TypeId} {w0 w w' : World} {hb mb : Nat} {sv sv' : Value} {A A' : List Ent} {last last' : Int}

theorem Live.born (h : HeapAt V st en w' hb mb (.slice none 0 0) [] 0) (hf : Fr No w0 w) (hf' : Fr No w w') (h1 : w.heap.size ≤ hb) (h2 : w.heap.size ≤ mb) : Live V st en w0 w' hb mb (.slice none 0 0) [] 0 :=
  ⟨h, ordered_nil, hf.trans hf', fun k hk => by
    have := hf.size
    rcases hk with rfl | rfl | hk
    · omega
    · omega
    · cases hk⟩

theorem Live.step (h : Live V st en w0 w hb mb sv A last) (hA : HeapAt V st en w' hb mb sv' A' last') (hO : Ordered A') (hf : Fr (Own hb mb sv) w w') (hs : ∀ k, sv'.ownBlock = some k → sv.ownBlock = some k ∨ w.heap.size ≤ k) : Live V st en w0 w' hb mb sv' A' last' :=
  ⟨hA, hO, h.fr.ofNew hf (fun k hk => Or.inr (h.own k hk)), fun k hk => by
    rcases hk with rfl | rfl | hk
    · exact h.own _ (.inl rfl)
    · exact h.own _ (.inr (.inl rfl))
    · rcases hs k hk with h1 | h1
      · exact h.own _ (.inr (.inr h1))
      · have := h.fr.size; omega⟩

theorem Live.same (h : Live V st en w0 w hb mb sv A last) (hA : HeapAt V st en w' hb mb sv' A' last') (hO : Ordered A') (hf : Fr (Own hb mb sv) w w') (hs : sv'.ownBlock = sv.ownBlock) : Live V st en w0 w' hb mb sv' A' last' :=
  h.step hA hO hf fun k hk => .inl (by rw [← hs]; exact hk)

theorem Live.keep (h : Live V st en w0 w hb mb sv A last) (hf : Fr No w w') : Live V st en w0 w' hb mb sv A last := ⟨h.heap.frNo hf, h.ord, h.fr.trans hf, h.own⟩

theorem Live.other {S : Nat → Prop} (h : Live V st en w0 w hb mb sv A last) (hf : Fr S w w') (hS : ∀ k, Own hb mb sv k → ¬ S k) (hN : ∀ k, S k → w0.heap.size ≤ k) : Live V st en w0 w' hb mb sv A last :=
  ⟨h.heap.fr hf hS, h.ord, h.fr.ofNew hf (fun k hk => Or.inr (hN k hk)), h.own⟩

theorem Live.below (h : Live V st en w0 w hb mb sv A last) : Below w0.heap.size w0 w := h.fr.below (fun k hk => hk.elim) (Nat.le_refl _)
end

/-! ### lists -/

theorem sorted_unique {T : List Ent} : ∀ {S : List Ent}, S.Perm T → S.Pairwise (fun a b => ¬ b.lt a) → T.Pairwise (fun a b => a.lt b) → S = T := by
  induction T with
  | nil => intro S hp _ _; exact hp.eq_nil
  | cons t T ih =>
    intro S hp hs ht
    cases S with
    | nil => exact absurd hp.symm.eq_nil (by simp)
    | cons s S =>
      have hst : s = t := by
        by_cases e : s = t
        · exact e
        · have h1 : s ∈ T := by
            have : s ∈ t :: T := hp.mem_iff.1 (by simp)
            rcases List.mem_cons.1 this with h | h
            · exact absurd h e
            · exact h
          have h2 : t ∈ S := by
            have : t ∈ s :: S := hp.mem_iff.2 (by simp)
            rcases List.mem_cons.1 this with h | h
            · exact absurd h.symm e
            · exact h
          exact absurd ((List.pairwise_cons.1 ht).1 s h1) ((List.pairwise_cons.1 hs).1 t h2)
      subst hst
      rw [ih ((List.perm_cons s).1 hp) (List.pairwise_cons.1 hs).2 (List.pairwise_cons.1 ht).2]

theorem set_perm {A : List Ent} {i : Nat} {e : Ent} (hi : A[i]? = some e) : ∃ R, A.Perm (e :: R) ∧ ∀ e', (A.set i e').Perm (e' :: R) := by
  have hil : i < A.length := (List.getElem?_eq_some_iff.1 hi).1
  refine ⟨A.take i ++ A.drop (i + 1), ?_, fun e' => ?_⟩
  · have h1 : A = A.take i ++ e :: A.drop (i + 1) := by
      have h2 : A[i] = e := (List.getElem?_eq_some_iff.1 hi).2
      rw [← h2, List.getElem_cons_drop, List.take_append_drop]
    exact (List.Perm.of_eq h1).trans List.perm_middle
  · rw [List.set_eq_take_append_cons_drop, if_pos hil]
    exact List.perm_middle

theorem mem_get {A : List Ent} {e : Ent} (h : e ∈ A) : ∃ i : Nat, A[i]? = some e := List.mem_iff_getElem?.1 h

/-! ### equality of two rows of integers -/

def IntsAt (w : World) (a : Option Addr) (n : Nat) (xs : List Int) : Prop := xs.length = n ∧ ∀ (i : Nat) (x : Int), xs[i]? = some x → ∃ b, a = some ⟨b, 0, none⟩ ∧ w.cell? ⟨b, i, none⟩ = some (.int .i64 x)

theorem IdRow.ints {w : World} {rb n : Nat} {B : List Ent} (h : IdRow w rb n B) (hn : B.length = n) : IntsAt w (some ⟨rb, 0, none⟩) n (B.map Ent.id) :=
  ⟨by simpa using hn, fun i x hx => by
    rw [List.getElem?_map] at hx
    obtain ⟨e, he, rfl⟩ := Option.map_eq_some_iff.1 hx
    exact ⟨rb, rfl, h.cell he⟩⟩

theorem IntsAt.fr {S : Nat → Prop} {w w' : World} {a : Option Addr} {n : Nat} {xs : List Int} (h : IntsAt w a n xs) (hf : Fr S w w') (hS : ∀ b, a = some ⟨b, 0, none⟩ → ¬ S b) : IntsAt w' a n xs :=
  ⟨h.1, fun i x hx => by
    obtain ⟨b, hb, hc⟩ := h.2 i x hx
    have hlt : b < w.heap.size := block_lt_of_cell hc
    exact ⟨b, hb, (World.cell?_of_block (a := ⟨b, i, none⟩) (hf.block b hlt (hS b hb))).trans hc⟩⟩

theorem eq1_any (x y : Int) (w : World) : Calls Try.prog 46 #[.int .i64 x, .int .i64 y] w fun e w' => e = .returned (.bool (x == y)) ∧ w' = w := by
  go_enter Try.func46, Try.ntmps46
  go_wp2
  go_ret
  exact ⟨rfl, rfl⟩

set_option maxHeartbeats 2000000 in
set_option maxRecDepth 100000 in
theorem equalFunc_any (a b : Option Addr) (n m c d : Nat) (xs ys : List Int) (w : World) (hx : IntsAt w a n xs) (hy : IntsAt w b m ys) (hn : n ≤ 1000) :
    Calls Try.prog 45 #[.slice a n c, .slice b m d, .func (.func 46) #[] #[]] w fun e w' => e = .returned (.bool (decide (xs = ys))) ∧ Fr No w w' := by
  by_cases hnm : n = m
  · subst hnm
    have HX := Lib.hid (And.intro hx hy)
    clear hx hy
    go_enter Try.func45, Try.ntmps45
    go_wp2_with fail
    go_loopg [7] (n + 1) (fun g s wr => ∃ (i : Nat), s = .int .i64 i ∧ i ≤ n ∧ n - i < g ∧ Hid (Fr No w wr ∧ xs.take i = ys.take i))
    case atStart => exact ⟨0, by go_num, by omega, by omega, Fr.refl _ _, rfl⟩
    case round =>
      obtain ⟨i, rfl, hin, hig, HR⟩ := hrel
      by_cases hi : i < n
      · have hx1 := HX.out.1.fr HR.out.1 (fun _ _ h => h)
        have hy1 := HX.out.2.fr HR.out.1 (fun _ _ h => h)
        obtain ⟨x, gx⟩ : ∃ x, xs[i]? = some x := ⟨_, List.getElem?_eq_getElem (by have := hx1.1; omega)⟩
        obtain ⟨y, gy⟩ : ∃ y, ys[i]? = some y := ⟨_, List.getElem?_eq_getElem (by have := hy1.1; omega)⟩
        obtain ⟨bx, rfl, cx⟩ := hx1.2 i x gx
        obtain ⟨by_, rfl, cy⟩ := hy1.2 i y gy
        have HG := Lib.hid (And.intro gx (And.intro gy (And.intro hx1.1 hy1.1)))
        have p1 : (0 : Int) ≤ (i : Int) := by omega
        have p2 : (i : Int) < (n : Int) := by omega
        clear gx gy hx1 hy1
        go_wp2_with fail
        refine region_tail 9 (by kernel_rfl) (by kernel_rfl) ?_
        intro z hz
        have HZ : Hid (Fr No w z) := by subst hz; exact HR.out.1.trans (Fr.drew _ _)
        have cx' : z.cell? ⟨bx, i, none⟩ = some (.int .i64 x) := by subst hz; exact cx
        have cy' : z.cell? ⟨by_, i, none⟩ = some (.int .i64 y) := by subst hz; exact cy
        clear hz cx cy
        simp only [List.take_succ_cons, List.take_zero, List.drop_succ_cons, List.drop_zero]
        iterate 9 still_step
        refine wpStill_nil ?_
        clear cx' cy'
        by_cases hxy : x = y
        · subst hxy
          have he : (x == x) = true := by simp
          go_wp2_with (go_at_call 46; refine (eq1_any x x _).mono ?_; rintro e w' ⟨rfl, rfl⟩)
          go_roundg (n - i)
          case measure => exact hig
          case rel =>
            refine ⟨i + 1, by go_num, by omega, by omega, HZ.out, ?_⟩
            obtain ⟨gx, gy, _⟩ := HG.out
            rw [List.take_add_one, List.take_add_one, HR.out.2, gx, gy]
        · have he : (x == y) = false := by simpa using hxy
          go_wp2_with (go_at_call 46; refine (eq1_any x y _).mono ?_; rintro e w' ⟨rfl, rfl⟩)
          go_ret
          refine ⟨?_, HZ.out⟩
          obtain ⟨gx, gy, _⟩ := HG.out
          have : ¬ xs = ys := fun e => by rw [e, gy] at gx; cases gx; exact hxy rfl
          rw [decide_eq_false this]
          rfl
      · obtain rfl : i = n := by omega
        have p2 : ¬ ((i : Int) < (i : Int)) := by omega
        go_wp2_with fail
        go_ret
        refine ⟨?_, HR.out.1⟩
        have h2 := HR.out.2
        rw [List.take_of_length_le (by rw [HX.out.1.1]; exact Nat.le_refl _), List.take_of_length_le (by rw [HX.out.2.1]; exact Nat.le_refl _)] at h2
        rw [decide_eq_true h2]
        rfl
  · have hne : ((n : Int) == (m : Int)) = false := by simpa using (by omega : ¬ (n : Int) = (m : Int))
    have hd : decide (xs = ys) = false := decide_eq_false (fun e => hnm (by rw [← hx.1, ← hy.1, e]))
    have HD := Lib.hid hd
    clear hx hy hd
    go_enter Try.func45, Try.ntmps45
    go_wp2_with fail
    go_ret
    exact ⟨by rw [HD.out]; rfl, Fr.refl _ _⟩

theorem equal_any (a b : Option Addr) (n m c d : Nat) (xs ys : List Int) (w : World) (hx : IntsAt w a n xs) (hy : IntsAt w b m ys) (hn : n ≤ 1000) :
    Calls Try.prog 22 #[.slice a n c, .slice b m d] w fun e w' => e = .returned (.bool (decide (xs = ys))) ∧ Fr No w w' := by
  have HX := Lib.hid (And.intro hx hy)
  clear hx hy
  go_enter Try.func22, Try.ntmps22
  go_wp2_with fail
  refine (equalFunc_any a b n m c d xs ys _ HX.out.1 HX.out.2 hn).mono ?_
  rintro e w1 ⟨rfl, hf⟩
  have HF := Lib.hid hf
  clear hf
  go_wp2_with fail
  go_ret
  exact ⟨rfl, HF.out⟩

end Go.Proofs.Ytbobokhlcbojkaa
