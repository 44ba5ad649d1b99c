/-
  CONTRACT of sameState over this seat's translation: timers and reference that hold the same tree agree in all that can be seen.
  Conditions: the timers lie in memory as Tim says, the reference's as Rf says.
-/
import Derived.Test.YtbgddldkpjeieaaGreatRef6
import Derived.Test.YtbgddldkpjeieaaGreatGH
import Derived.Test.YtbgddldkpjeieaaGreatGT2
import Derived.Test.YtbgddldkpjeieaaGreatGT5
import Derived.Deep.RegionHeld3
namespace Go.Proofs.YtbgddldkpjeieaaGreat
open Go.ChangeShapes Go.WideShapes Go.ChangeAt Go.RowKit Go.Maps
set_option linter.unusedVariables false

theorem equal_same (a b : Option Addr) (n m c d : Nat) (xs : List Int) (w : World) (hx : IntsAt w a n xs) (hy : IntsAt w b m xs) (hn : n ≤ 1000) :
    Calls Tryz.prog 32 #[.slice a n c, .slice b m d] w fun e w' => e = .returned (.bool true) ∧ Fr No w w' := by
  refine (equal_any a b n m c d xs xs w hx hy hn).mono ?_
  rintro e w' ⟨rfl, hf⟩
  exact ⟨by simp, hf⟩

theorem IntsAt.frNo {w w' : World} {a : Option Addr} {n : Nat} {xs : List Int} (h : IntsAt w a n xs) (hf : Fr No w w') : IntsAt w' a n xs := h.fr hf fun _ _ _ h => h

/-- What both say of one handle. -/
def handlesOf (L : List Rec) (k : Int) (xs : List Int) : Prop := (∃ q ∈ L, q.id = k ∧ xs = (below L k L).map Rec.id) ∨ ((∀ r ∈ L, r.id ≠ k) ∧ xs = [])

theorem IntsAt.nil (w : World) (a : Option Addr) : IntsAt w a 0 [] := ⟨rfl, fun i x h => by simp at h⟩

theorem tdesc (S : Nat → Prop) (tb : Nat) (L : List Rec) (last k : Int) (w : World) (h : G.TI S w tb L last) (hk : (Lit.int .i64 k).wf = true) :
    Calls Tryz.prog 36 #[.pointer (some ⟨tb, 0, none⟩), .int .i64 k] w fun e w' => ∃ a n cap xs, handlesOf L k xs ∧ e = .returned (.slice a n cap) ∧ IntsAt w' a n xs ∧ n ≤ 1000 ∧ Fr No w w' := by
  by_cases hq : ∃ q ∈ L, q.id = k
  · obtain ⟨q, hq, rfl⟩ := hq
    refine (G.desc_hit S tb L last q w h hq).mono ?_
    rintro e w' ⟨g, o, n, cap, hn, rfl, hg, hc, hf⟩
    have hfam := below_fam h.wood hq
    have hlen : (fam L q.id).length ≤ 1000 := by have h1 := fam_len L q.id; have h2 := h.wood.len; have h3 := h.top; omega
    have hbl : (below L q.id L).length = n := by rw [hfam] at hn; simp at hn; omega
    refine ⟨_, n, cap, (below L q.id L).map Rec.id, .inl ⟨q, hq, rfl, rfl⟩, rfl, ⟨by simp [hbl], fun i x hx => ?_⟩, by omega, hf⟩
    rw [List.getElem?_map] at hx
    obtain ⟨r, hr, rfl⟩ := Option.map_eq_some_iff.1 hx
    exact ⟨g, o, rfl, hc i r (by rw [hfam]; simpa using hr)⟩
  · have hno : ∀ r ∈ L, r.id ≠ k := fun r hr e => hq ⟨r, hr, e⟩
    refine (G.desc_miss S tb L last k w h hk hno).mono ?_
    rintro e w' ⟨rfl, rfl⟩
    exact ⟨_, 0, 0, [], .inr ⟨hno, rfl⟩, rfl, IntsAt.nil _ _, by omega, Fr.refl _ _⟩

theorem xdesc (xb : Nat) (iv : Value) (L : List Rec) (last k : Int) (w : World) (h : RefAt w xb iv L last) (hwd : Wood L last) :
    Calls Tryz.prog 28 #[.pointer (some ⟨xb, 0, none⟩), .int .i64 k] w fun e w' => ∃ a n cap xs, handlesOf L k xs ∧ e = .returned (.slice a n cap) ∧ IntsAt w' a n xs ∧ Fr No w w' := by
  by_cases hq : ∃ q ∈ L, q.id = k
  · obtain ⟨q, hq, rfl⟩ := hq
    refine (desc_ref xb iv L last q w h hwd hq).mono ?_
    rintro e w' ⟨a, cap, rfl, hrow, hf⟩
    exact ⟨a, _, cap, (below L q.id L).map Rec.id, .inl ⟨q, hq, rfl, rfl⟩, rfl, IntsAt.row hrow, hf⟩
  · have hno : ∀ r ∈ L, r.id ≠ k := fun r hr e => hq ⟨r, hr, e⟩
    refine (desc_ref_miss xb iv L last k w h hno).mono ?_
    rintro e w' ⟨rfl, rfl⟩
    exact ⟨_, 0, 0, [], .inr ⟨hno, rfl⟩, rfl, IntsAt.nil _ _, Fr.refl _ _⟩

theorem handlesOf.uniq {L : List Rec} {k : Int} {xs ys : List Int} (h1 : handlesOf L k xs) (h2 : handlesOf L k ys) : xs = ys := by
  rcases h1 with ⟨q, hq, he, rfl⟩ | ⟨h1, rfl⟩ <;> rcases h2 with ⟨q', hq', he', rfl⟩ | ⟨h2, rfl⟩
  · rfl
  · exact absurd he (h2 q hq)
  · exact absurd he' (h1 q' hq')
  · rfl

/-- The deadline of a handle, as both tell it. -/
def deadOf (L : List Rec) (k d : Int) (b : Bool) : Prop := (b = true ∧ Dl L k d) ∨ (b = false ∧ d = 0 ∧ ∀ r ∈ L, r.id ≠ k)

theorem deadOf.uniq {L : List Rec} {last k d d' : Int} {b b' : Bool} (h : Wood L last) (h1 : deadOf L k d b) (h2 : deadOf L k d' b') : d = d' ∧ b = b' := by
  rcases h1 with ⟨rfl, h1⟩ | ⟨rfl, rfl, h1⟩ <;> rcases h2 with ⟨rfl, h2⟩ | ⟨rfl, rfl, h2⟩
  · exact ⟨Dl.uniq h h1 h2, rfl⟩
  · obtain ⟨r, hr, he⟩ := h1.mem; exact absurd he (h2 r hr)
  · obtain ⟨r, hr, he⟩ := h2.mem; exact absurd he (h1 r hr)
  · exact ⟨rfl, rfl⟩

theorem tdead (S : Nat → Prop) (tb : Nat) (L : List Rec) (last k : Int) (w : World) (h : G.TI S w tb L last) (hk : (Lit.int .i64 k).wf = true) :
    Calls Tryz.prog 35 #[.pointer (some ⟨tb, 0, none⟩), .int .i64 k] w fun e w' => ∃ d b, deadOf L k d b ∧ e = .returned (.tuple #[.int .u64 d, .bool b]) ∧ Fr No w w' := by
  by_cases hq : ∃ q ∈ L, q.id = k
  · obtain ⟨q, hq, rfl⟩ := hq
    refine (G.deadline_hit S tb L last q w h hq).mono ?_
    rintro e w' ⟨d, rfl, hd, hf⟩
    exact ⟨d, true, .inl ⟨rfl, hd⟩, rfl, hf⟩
  · have hno : ∀ r ∈ L, r.id ≠ k := fun r hr e => hq ⟨r, hr, e⟩
    refine (G.deadline_miss S tb L last k w h hk hno).mono ?_
    rintro e w' ⟨rfl, rfl⟩
    exact ⟨0, false, .inr ⟨rfl, rfl, hno⟩, rfl, Fr.refl _ _⟩

theorem xdead (xb : Nat) (iv : Value) (L : List Rec) (last k : Int) (w : World) (h : RefAt w xb iv L last) (hwd : Wood L last) :
    Calls Tryz.prog 24 #[.pointer (some ⟨xb, 0, none⟩), .int .i64 k] w fun e w' => ∃ d b, deadOf L k d b ∧ e = .returned (.tuple #[.int .u64 d, .bool b]) ∧ w' = w := by
  by_cases hq : ∃ q ∈ L, q.id = k
  · obtain ⟨q, hq, rfl⟩ := hq
    refine (rdead_hit xb iv L last q w h hwd hq).mono ?_
    rintro e w' ⟨d, rfl, hd, rfl⟩
    exact ⟨d, true, .inl ⟨rfl, hd⟩, rfl, rfl⟩
  · have hno : ∀ r ∈ L, r.id ≠ k := fun r hr e => hq ⟨r, hr, e⟩
    refine (rdead_miss xb iv L last k w h hno).mono ?_
    rintro e w' ⟨rfl, rfl⟩
    exact ⟨0, false, .inr ⟨rfl, rfl, hno⟩, rfl, rfl⟩

/-- The earliest deadline, as both tell it. -/
def nextOf (L : List Rec) (d : Int) (b : Bool) : Prop := (b = true ∧ ∃ r, Fst L r ∧ d = r.due) ∨ (b = false ∧ d = 0 ∧ L = [])

theorem tnext (S : Nat → Prop) (tb : Nat) (L : List Rec) (last : Int) (w : World) (h : G.TI S w tb L last) :
    Calls Tryz.prog 29 #[.pointer (some ⟨tb, 0, none⟩)] w fun e w' => ∃ d b, nextOf L d b ∧ e = .returned (.tuple #[.int .u64 d, .bool b]) ∧ Fr No w w' := by
  by_cases hL : L = []
  · subst hL
    refine (G.tnext_none S tb last w h).mono ?_
    rintro e w' ⟨rfl, hf⟩
    exact ⟨0, false, .inr ⟨rfl, rfl, rfl⟩, rfl, hf⟩
  · refine (G.tnext_some S tb L last w h hL).mono ?_
    rintro e w' ⟨r, hr, hm, rfl, hf⟩
    exact ⟨r.due, true, .inl ⟨rfl, r, ⟨hr, hm⟩, rfl⟩, rfl, hf⟩

theorem xnext (xb : Nat) (iv : Value) (L : List Rec) (last : Int) (d : Int) (b : Bool) (w : World) (h : RefAt w xb iv L last) (hwd : Wood L last) (hd : nextOf L d b) :
    Calls Tryz.prog 30 #[.pointer (some ⟨xb, 0, none⟩)] w fun e w' => e = .returned (.tuple #[.int .u64 d, .bool b]) ∧ w' = w := by
  rcases hd with ⟨rfl, r, hr, rfl⟩ | ⟨rfl, rfl, rfl⟩
  · exact next_is xb iv L last r w h hwd hr
  · exact next_none xb iv last w h hwd

set_option maxHeartbeats 8000000 in
set_option maxRecDepth 100000 in
theorem same_any (S X : Nat → Prop) (tb xb : Nat) (L : List Rec) (last : Int) (w : World) (hT : G.TI S w tb L last) (hR : Rf X w xb L last) :
    Calls Tryz.prog 16 #[.pointer (some ⟨tb, 0, none⟩), .pointer (some ⟨xb, 0, none⟩)] w fun e w' => e = .returned (.bool true) ∧ Fr No w w' := by
  obtain ⟨iv, hR, hwd, hX⟩ := hR
  have hlen := hR.len
  obtain ⟨n, hn⟩ : ∃ n, L.length = n := ⟨_, rfl⟩
  obtain ⟨ai, ci, rfl⟩ := hR.form0
  rw [hn] at hR hlen
  have HS := Lib.hid (And.intro hT (And.intro hR (And.intro hwd hn)))
  clear hT hR hwd hX hn
  go_enter Tryz.func16, Tryz.ntmps16
  go_wp2_with fail
  refine (tnext S tb L last _ HS.out.1).mono ?_
  rintro e w1 ⟨d, b, hd, rfl, hf1⟩
  have H1 := Lib.hid (And.intro hd hf1)
  clear hd hf1
  go_wp2_with fail
  refine (xnext xb _ L last d b _ (HS.out.2.1.frNo H1.out.2) HS.out.2.2.1 H1.out.1).mono ?_
  rintro e w2 ⟨rfl, hw2⟩
  have hw2' := hw2.symm
  subst hw2'
  have c0 := (HS.out.2.1.frNo H1.out.2).hcell.1
  have hdd : (d == d) = true := by simp
  have hbb : (b == b) = true := by simp
  clear hw2
  go_wp2_with fail
  go_region_held3 (fun w' => w'.cell? ⟨xb, 0, none⟩ = some (.slice ai n ci)) (go_keep) (first | (go_at_call 31; refine (G.tlen_any S tb L last _ ((HS.out.1.frNo H1.out.2).frNo (Fr.drew No _))).mono ?_; rintro e w3 ⟨rfl, hw3⟩; have k3 : w3.cell? ⟨xb, 0, none⟩ = some (.slice ai n ci) := (by rw [hw3]; exact c0); have H3 : Hid (Fr No w w3) := (by rw [hw3]; exact H1.out.2.trans (Fr.drew No _)); clear hw3; rw [HS.out.2.2.2]) | (go_at_call 33; refine (G.thandles S tb L last _ (HS.out.1.frNo H3.out)).mono ?_; rintro e w4 ⟨a4, c4, rfl, hi4, hf4⟩; have k4 := (HS.out.2.1.frNo (H3.out.trans hf4)).hcell.1; rw [HS.out.2.2.2] at hi4 ⊢; have H4 := Lib.hid (And.intro hi4 (H3.out.trans hf4)); clear hi4 hf4) | (go_at_call 34; refine (handles_ref xb _ L last _ (HS.out.2.1.frNo H4.out.2)).mono ?_; rintro e w5 ⟨a5, c5, rfl, hr5, hf5⟩; have k5 := (HS.out.2.1.frNo (H4.out.2.trans hf5)).hcell.1; rw [HS.out.2.2.2] at hr5 ⊢; have H5 := Lib.hid (And.intro (H4.out.1.frNo hf5) (And.intro (IntsAt.row hr5) (H4.out.2.trans hf5))); clear hr5 hf5) | (go_at_call 32; refine (equal_same a4 a5 n n c4 c5 (L.map Rec.id) _ H5.out.1 H5.out.2.1 hlen).mono ?_; rintro e w6 ⟨rfl, hf6⟩; have k6 := (HS.out.2.1.frNo (H5.out.2.2.trans hf6)).hcell.1; have H6 := Lib.hid (H5.out.2.2.trans hf6); clear hf6))
  all_goals (
    clear c0
    go_wp2_with fail
    go_loopg [9] 28 (fun g s9 wr => ∃ i : Nat, s9 = .int .i64 ((i : Int) - 1) ∧ i ≤ 27 ∧ 27 - i < g ∧ Hid (Fr No w wr))
    case atStart => exact ⟨0, by go_num, by omega, by omega, H6.out⟩
    case round =>
      obtain ⟨i, rfl, hi27, hig, HR⟩ := hrel
      by_cases hi : i < 27
      · obtain ⟨k, hk⟩ : ∃ k : Int, (i : Int) - 1 = k := ⟨_, rfl⟩
        have hkb : -1 ≤ k ∧ k < 26 := by omega
        have wk : (Lit.int .i64 k).wf = true := WalkArith.wf_i64 (by omega)
        have HK := Lib.hid hk
        rw [hk]
        clear hk
        have q1 : k < 26 := hkb.2
        go_wp2_with fail
        refine (tdead S tb L last k _ (HS.out.1.frNo HR.out) wk).mono ?_
        rintro e w7 ⟨d7, b7, hd7, rfl, hf7⟩
        have H7 := Lib.hid (And.intro hd7 (HR.out.trans hf7))
        clear hd7 hf7
        go_wp2_with fail
        refine (xdead xb _ L last k _ (HS.out.2.1.frNo H7.out.2) HS.out.2.2.1).mono ?_
        rintro e w8 ⟨d8, b8, hd8, rfl, hw8⟩
        have hw8' := hw8.symm
        subst hw8'
        obtain ⟨rfl, rfl⟩ := deadOf.uniq HS.out.2.2.1 H7.out.1 hd8
        have hdd7 : (d7 == d7) = true := by simp
        have hbb7 : (b7 == b7) = true := by simp
        clear hd8 hw8
        go_wp2_with fail
        refine (tdesc S tb L last k _ (HS.out.1.frNo H7.out.2) wk).mono ?_
        rintro e w9 ⟨a9, n9, c9, xs9, hx9, rfl, hi9, hn9, hf9⟩
        have H9 := Lib.hid (And.intro hx9 (And.intro hi9 (H7.out.2.trans hf9)))
        clear hx9 hi9 hf9
        go_wp2_with fail
        refine (xdesc xb _ L last k _ (HS.out.2.1.frNo H9.out.2.2) HS.out.2.2.1).mono ?_
        rintro e w10 ⟨a10, n10, c10, xs10, hx10, rfl, hi10, hf10⟩
        obtain rfl := handlesOf.uniq H9.out.1 hx10
        have H10 := Lib.hid (And.intro (H9.out.2.1.frNo hf10) (And.intro hi10 (H9.out.2.2.trans hf10)))
        clear hx10 hi10 hf10
        go_wp2_with fail
        refine (equal_same a9 a10 n9 n10 c9 c10 xs9 _ H10.out.1 H10.out.2.1 hn9).mono ?_
        rintro e w11 ⟨rfl, hf11⟩
        have H11 := Lib.hid (H10.out.2.2.trans hf11)
        clear hf11
        go_wp2_with fail
        go_roundg (27 - i)
        case measure => omega
        case rel => exact ⟨i + 1, by have := HK.out; go_num, by omega, by omega, H11.out⟩
      · obtain rfl : i = 27 := by omega
        go_wp2_with fail
        go_ret
        exact ⟨rfl, HR.out⟩)

end Go.Proofs.YtbgddldkpjeieaaGreat
