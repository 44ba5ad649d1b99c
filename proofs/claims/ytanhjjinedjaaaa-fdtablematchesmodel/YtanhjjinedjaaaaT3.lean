/-
  CONTRACT of Open of the descriptor table, over this seat's translation: what the call returns, what it leaves in memory.
  Conditions: the table lies in memory as TabAt says.
-/
import Derived.Test.YtanhjjinedjaaaaT1
import Derived.Test.YtanhjjinedjaaaaIns3
import Derived.Deep.DeepCutAuto
import Derived.Deep.CutBlock
namespace Go.Proofs.Ytanhjjinedjaaaa
open Go.ChangeShapes Go.WideShapes Go.ChangeAt Go.RowKit
set_option linter.unusedVariables false

theorem sorted_insert {L : List D} {x : D} {i : Nat} (hs : Sorted L) (hp : Place L x.key i) (hn : ∀ d ∈ L, d.key ≠ x.key) : Sorted (L.take i ++ x :: L.drop i) := by
  unfold Sorted
  rw [List.pairwise_append, List.pairwise_cons]
  refine ⟨hs.sublist (List.take_sublist _ _), ⟨fun d hd => ?_, hs.sublist (List.drop_sublist _ _)⟩, fun d hd e he => ?_⟩
  · obtain ⟨j, hj⟩ := List.mem_iff_getElem?.1 hd
    rw [List.getElem?_drop] at hj
    have h1 := hp.2.2 (i + j) d (by omega) hj
    rcases lt_tri d.key x.key with h | h | h
    · exact absurd h h1
    · exact absurd h (hn d (List.mem_of_getElem? hj))
    · exact h
  · obtain ⟨j, hj⟩ := List.mem_iff_getElem?.1 hd
    rw [List.getElem?_take] at hj
    split at hj
    · rename_i hji
      have h1 := hp.2.1 j d hji hj
      rcases List.mem_cons.1 he with rfl | he
      · exact h1
      · obtain ⟨k, hk⟩ := List.mem_iff_getElem?.1 he
        rw [List.getElem?_drop] at hk
        exact sorted_get hs (by omega) hj hk
    · cases hj

theorem Sound.insert {L : List D} {size i : Nat} {x : D} (h : Sound L size) (hp : Place L x.key i) (hn : ∀ d ∈ L, d.key ≠ x.key) (hl : L.length < size) (hr : Least L x.no) : Sound (L.take i ++ x :: L.drop i) size := by
  have hperm : (L.take i ++ x :: L.drop i).Perm (x :: L) := by
    have h1 : (L.take i ++ x :: L.drop i).Perm (x :: (L.take i ++ L.drop i)) := List.perm_middle
    rw [List.take_append_drop] at h1
    exact h1
  have hno : x.no < size := by
    have := pigeon x.no L hr.2
    omega
  refine ⟨sorted_insert h.sorted hp hn, by rw [hperm.length_eq]; simp; omega, h.small, fun d hd => ?_, ?_⟩
  · rcases List.mem_cons.1 (hperm.mem_iff.1 hd) with rfl | h1
    · exact hno
    · exact h.no d h1
  · have h1 : (x :: L).Pairwise (fun d e => d.no ≠ e.no) := List.pairwise_cons.2 ⟨fun d hd => Ne.symm (hr.1 d hd), h.nodup⟩
    exact (hperm.pairwise_iff (fun {a b} h => Ne.symm h)).2 h1

theorem perm_insert (L : List D) (i : Nat) (x : D) : (L.take i ++ x :: L.drop i).Perm (x :: L) := by
  have h1 : (L.take i ++ x :: L.drop i).Perm (x :: (L.take i ++ L.drop i)) := List.perm_middle
  rw [List.take_append_drop] at h1
  exact h1

theorem zero_block {y w5 : World} (hf : Fr No (y.alloc (.cells #[.int .i64 0, .int .i64 0, .int .i64 0, .int .i64 0] 61)) w5) : w5.heap[y.heap.size]? = some (.cells #[.int .i64 0, .int .i64 0, .int .i64 0, .int .i64 0] 61 (0, 0)) ∧
    w5.cell? ⟨y.heap.size, 0, none⟩ = some (.int .i64 0) ∧ w5.cell? ⟨y.heap.size, 1, none⟩ = some (.int .i64 0) ∧ w5.cell? ⟨y.heap.size, 2, none⟩ = some (.int .i64 0) ∧ w5.cell? ⟨y.heap.size, 3, none⟩ = some (.int .i64 0) ∧
    w5.frozen? ⟨y.heap.size, 0, none⟩ = false ∧ w5.frozen? ⟨y.heap.size, 1, none⟩ = false ∧ w5.frozen? ⟨y.heap.size, 2, none⟩ = false ∧ w5.frozen? ⟨y.heap.size, 3, none⟩ = false := by
  have h1 := (hf.block y.heap.size (by simp) (fun h => h)).trans (heap_alloc_new y (.cells #[.int .i64 0, .int .i64 0, .int .i64 0, .int .i64 0] 61))
  refine ⟨h1, ?_, ?_, ?_, ?_, frozen_of_row _ _ _ _ _ h1, frozen_of_row _ _ _ _ _ h1, frozen_of_row _ _ _ _ _ h1, frozen_of_row _ _ _ _ _ h1⟩ <;> rw [cell_of_row _ _ _ _ _ _ h1] <;> rfl

theorem four_set {w : World} {b : Nat} {v0 v1 v2 v3 : Value} {t : TypeId} (h : w.heap[b]? = some (.cells #[v0, v1, v2, v3] t (0, 0))) (x y z u : Value) :
    ((((w.setCell ⟨b, 0, none⟩ x).setCell ⟨b, 1, none⟩ y).setCell ⟨b, 2, none⟩ z).setCell ⟨b, 3, none⟩ u).heap[b]? = some (.cells #[x, y, z, u] t (0, 0)) ∧ Fr (fun k => k = b) w ((((w.setCell ⟨b, 0, none⟩ x).setCell ⟨b, 1, none⟩ y).setCell ⟨b, 2, none⟩ z).setCell ⟨b, 3, none⟩ u) := by
  have h1 : (w.setCell ⟨b, 0, none⟩ x).heap[b]? = some (.cells #[x, v1, v2, v3] t (0, 0)) := by rw [heap_setCell_same w b 0 _ _ x h]; rfl
  have h2 : ((w.setCell ⟨b, 0, none⟩ x).setCell ⟨b, 1, none⟩ y).heap[b]? = some (.cells #[x, y, v2, v3] t (0, 0)) := by rw [heap_setCell_same _ b 1 _ _ y h1]; rfl
  have h3 : (((w.setCell ⟨b, 0, none⟩ x).setCell ⟨b, 1, none⟩ y).setCell ⟨b, 2, none⟩ z).heap[b]? = some (.cells #[x, y, z, v3] t (0, 0)) := by rw [heap_setCell_same _ b 2 _ _ z h2]; rfl
  refine ⟨by rw [heap_setCell_same _ b 3 _ _ u h3]; rfl, ?_⟩
  exact (((Fr.setCell (fun k => k = b) w ⟨b, 0, none⟩ x rfl).trans (Fr.setCell (fun k => k = b) _ ⟨b, 1, none⟩ y rfl)).trans (Fr.setCell (fun k => k = b) _ ⟨b, 2, none⟩ z rfl)).trans (Fr.setCell (fun k => k = b) _ ⟨b, 3, none⟩ u rfl)

theorem One.cells {w : World} {b : Nat} {c a st : Int} {r : Nat} (h : One w b ⟨c, a, r, st⟩) : w.cell? ⟨b, 0, none⟩ = some (.int .i64 c) ∧ w.cell? ⟨b, 1, none⟩ = some (.int .i64 a) ∧ w.cell? ⟨b, 2, none⟩ = some (.int .i64 r) ∧ w.cell? ⟨b, 3, none⟩ = some (.int .i64 st) ∧ w.frozen? ⟨b, 3, none⟩ = false := by
  refine ⟨?_, ?_, ?_, ?_, frozen_of_row _ _ _ _ _ h⟩ <;> rw [cell_of_row _ _ _ _ _ _ h] <;> rfl

/-- What is known behind an insertion. -/
theorem behind {z z1 w6 : World} {hb db n cap size op r : Nat} {a : Option Addr} {L L' : List D} {c at_ st : Int} {e : Ending} (hraw : Raw z hb (.slice a n cap) L size op) (hone : One z db ⟨c, at_, r, st⟩) (hdn : (Value.slice a n cap).ownBlock ≠ some db) (hz : Fr No z z1) (h : Inserted z1 w6 (.slice a n cap) n L' e) :
    w6.cell? ⟨hb, 0, none⟩ = some (.slice a n cap) ∧ w6.cell? ⟨hb, 2, none⟩ = some (.int .i64 op) ∧ w6.frozen? ⟨hb, 0, none⟩ = false ∧ w6.frozen? ⟨hb, 2, none⟩ = false ∧ w6.cell? ⟨db, 2, none⟩ = some (.int .i64 r) := by
  obtain ⟨a2, cap2, _, _, hf, _⟩ := h
  have hf' : Fr (fun k => (Value.slice a n cap).ownBlock = some k) z w6 := (hz.no).trans hf
  have h1 := (hf'.block hb hraw.lt hraw.apart).trans hraw.hdr
  have h2 : One w6 db ⟨c, at_, r, st⟩ := (hf'.block db (Array.getElem?_eq_some_iff.1 hone).1 hdn).trans hone
  refine ⟨?_, ?_, frozen_of_row _ _ _ _ _ h1, frozen_of_row _ _ _ _ _ h1, h2.cells.2.2.1⟩ <;> rw [cell_of_row _ _ _ _ _ _ h1] <;> rfl

def stOf (p : Bool) : Int := if p then 1 else 2

set_option maxHeartbeats 2000000 in
set_option maxRecDepth 100000 in
theorem open_any (S : Nat → Prop) (hb : Nat) (L : List D) (size op : Nat) (xc xa : Int) (p : Bool) (w : World) (h : TabAt S w hb L size op) (hS : ∀ k, w.heap.size ≤ k → S k) (hop : op ≤ 100000) :
    Calls Try.prog 24 #[.pointer (some ⟨hb, 0, none⟩), .agg #[.int .i64 xc, .int .i64 xa], .bool p] w fun e w' => ∃ no r L' k, e = .returned (.tuple #[.int .i64 (no : Nat), .int .i64 r]) ∧ Opn L (xc, xa) (stOf p) size no r L' k ∧ TabAt S w' hb L' size (op + k) ∧ Fr S w w' := by
  have HS := Lib.hid (And.intro (h.frNo (Fr.alloc No w (.cells #[.int .i64 xc, .int .i64 xa] 38))) hS)
  have HX : Hid ((w.alloc (.cells #[.int .i64 xc, .int .i64 xa] 38)).heap[w.heap.size]? = some (.cells #[.int .i64 xc, .int .i64 xa] 38 (0, 0))) := heap_alloc_new w _
  have HF : Hid (Fr No w (w.alloc (.cells #[.int .i64 xc, .int .i64 xa] 38))) := Fr.alloc No _ _
  clear h hS
  go_enter Try.func24, Try.ntmps24
  go_wp2_with fail
  obtain ⟨xb, hxb⟩ : ∃ xb, w.heap.size = xb := ⟨_, rfl⟩
  rw [hxb] at HX HS ⊢
  have HXB := Lib.hid hxb
  clear hxb
  revert HX; revert HF; revert HS
  generalize w.alloc (.cells #[.int .i64 xc, .int .i64 xa] 38) = y
  intro HS HF HX
  by_cases hv : Valid (xc, xa)
  · have HV := Lib.hid hv
    clear hv
    refine (valid_yes xc xa _ HV.out).mono ?_
    rintro e w1 ⟨rfl, hf1⟩
    have hx1 := (hf1.block xb (Array.getElem?_eq_some_iff.1 HX.out).1 (fun h => h)).trans HX.out
    have x0 : w1.cell? ⟨xb, 0, none⟩ = some (.int .i64 xc) := by rw [cell_of_row _ xb _ _ _ _ hx1]; rfl
    have x1 : w1.cell? ⟨xb, 1, none⟩ = some (.int .i64 xa) := by rw [cell_of_row _ xb _ _ _ _ hx1]; rfl
    have H1 := Lib.hid (And.intro hx1 (And.intro (HF.out.trans hf1) (HS.out.1.frNo hf1)))
    clear hx1 hf1 HF HX
    go_wp2_with fail
    obtain ⟨⟨sv, hr, hO⟩, hg⟩ := H1.out.2.2
    have h256 : L.length ≤ 256 := Nat.le_trans hg.len hg.small
    refine (search_any hb sv L size op xc xa _ hr hg.sorted h256).mono ?_
    rintro e w2 ⟨i, b, rfl, hp, hh, hf2⟩
    have hx2 := (hf2.block xb (Array.getElem?_eq_some_iff.1 H1.out.1).1 (fun h => h)).trans H1.out.1
    have hr2 := hr.frNo hf2
    have HP := Lib.hid (And.intro hp (And.intro hh (And.intro hO hg)))
    have H2 := Lib.hid (And.intro hx2 (And.intro (H1.out.2.1.trans hf2) hr2))
    clear hp hh hO hg hr hf2 H1 x0 x1
    cases b with
    | true =>
      clear hx2 hr2
      go_wp2_with fail
      go_ret2
      obtain ⟨d, hd, hk⟩ := HP.out.2.1.1 rfl
      exact ⟨0, 5, L, 0, rfl, .inr (.inl ⟨HV.out, ⟨d, List.mem_of_getElem? hd, hk⟩, rfl, rfl, rfl, rfl⟩), ⟨⟨sv, H2.out.2.2, HP.out.2.2.1⟩, HP.out.2.2.2⟩, H2.out.2.1.no⟩
    | false =>
      have HN := Lib.hid (no_hit HP.out.2.2.2.sorted HP.out.1 HP.out.2.1)
      obtain ⟨a, cap, rfl, -, -⟩ := hr2.row.any
      obtain ⟨c0, c1, c2⟩ := hr2.hcell
      obtain ⟨n, hn⟩ : ∃ n, L.length = n := ⟨_, rfl⟩
      rw [hn] at c0 H2 h256 HP
      have HL := Lib.hid hn
      by_cases hfull : n = size
      · subst hfull
        clear hx2 hr2 hn
        go_wp2_with fail
        go_quiet (fail)
        go_wp2_with fail
        go_ret2
        exact ⟨0, 6, L, 0, rfl, .inr (.inr (.inl ⟨HV.out, HN.out, by have := HL.out; omega, rfl, rfl, rfl, rfl⟩)), ⟨⟨_, H2.out.2.2.frNo (Fr.drewN _ _ _), HP.out.2.2.1⟩, HP.out.2.2.2⟩, (H2.out.2.1.trans (Fr.drewN _ _ _)).no⟩
      · have hfull' : ¬ ((n : Int) = (size : Int)) := by omega
        clear hx2 hr2 hn
        go_wp2_with fail
        go_quiet (fail)
        go_upto_region 8 with fail
        generalize hy : w2.drewN _ = y2
        have HY : Hid (y2.heap[xb]? = some (.cells #[.int .i64 xc, .int .i64 xa] 38 (0, 0)) ∧ Fr No w y2 ∧ Raw y2 hb (.slice a n cap) L size op) := by
          subst hy
          exact ⟨H2.out.1, H2.out.2.1.trans (Fr.drewN _ _ _), H2.out.2.2.frNo (Fr.drewN _ _ _)⟩
        clear hy H2 c0 c1 c2
        go_cut [10] (fun s10 wx => ∃ db r : Nat, s10 = .pointer (some ⟨db, 0, none⟩) ∧ Hid (One wx db ⟨xc, xa, r, 2⟩ ∧ Fr No w wx ∧ Raw wx hb (.slice a n cap) L size op ∧ Least L r ∧ y2.heap.size ≤ db))
        case first =>
          have x0 : y2.cell? ⟨xb, 0, none⟩ = some (.int .i64 xc) := by rw [cell_of_row _ xb _ _ _ _ HY.out.1]; rfl
          have x1 : y2.cell? ⟨xb, 1, none⟩ = some (.int .i64 xa) := by rw [cell_of_row _ xb _ _ _ _ HY.out.1]; rfl
          have hlt : L.length < 256 := by have h1 := HP.out.2.2.2.len; have h2 := HP.out.2.2.2.small; have := HL.out; omega
          have HLT := Lib.hid hlt
          have HK : Hid (∀ w5, Fr No y2 w5 → w5.cell? ⟨xb, 0, none⟩ = some (.int .i64 xc) ∧ w5.cell? ⟨xb, 1, none⟩ = some (.int .i64 xa)) := by
            intro w5 hf
            have hxz := (hf.block xb (Array.getElem?_eq_some_iff.1 HY.out.1).1 (fun h => h)).trans HY.out.1
            exact ⟨by rw [cell_of_row _ xb _ _ _ _ hxz]; rfl, by rw [cell_of_row _ xb _ _ _ _ hxz]; rfl⟩
          have hxlt : xb < y2.heap.size := (Array.getElem?_eq_some_iff.1 HY.out.1).1
          have hxn : ¬ (xb = y2.heap.size) := by omega
          have hnx : ¬ (y2.heap.size = xb) := by omega
          clear hlt hxlt
          go_region_held3 (fun w' => w'.cell? ⟨xb, 0, none⟩ = some (.int .i64 xc) ∧ w'.cell? ⟨xb, 1, none⟩ = some (.int .i64 xa)) (go_keep) (first | (go_at_call 40; refine (unused_any hb _ L size op y2.drew (HY.out.2.2.frNo (Fr.drew No _)) HP.out.2.2.2 HLT.out).mono ?_; rintro e w5 ⟨r, rfl, hr, hf5⟩; have hf6 := (Fr.drew No y2).trans hf5; obtain ⟨k0, k1⟩ := HK.out _ hf6; have H5 := Lib.hid (And.intro hr hf6); clear hr hf5 hf6) | (go_at_call 40; refine (unused_any hb _ L size op (y2.alloc (.cells #[.int .i64 0, .int .i64 0, .int .i64 0, .int .i64 0] 61)).drew (HY.out.2.2.frNo ((Fr.alloc No _ _).trans (Fr.drew No _))) HP.out.2.2.2 HLT.out).mono ?_; rintro e w5 ⟨r, rfl, hr, hf5⟩; have hf6 := ((Fr.alloc No y2 (.cells #[.int .i64 0, .int .i64 0, .int .i64 0, .int .i64 0] 61)).trans (Fr.drew No _)).trans hf5; obtain ⟨k0, k1⟩ := HK.out _ hf6; obtain ⟨hz, j0, j1, j2, j3, f0, f1, f2, f3⟩ := zero_block ((Fr.drew No _).trans hf5); have H6 := Lib.hid (And.intro hr (And.intro hf6 hz)); clear hr hf5 hf6 hz))
          · go_wp2_with fail
            go_meet
            obtain ⟨hr, hf⟩ := H5.out
            exact ⟨_, r, rfl, heap_alloc_new w5 _, (HY.out.2.1.trans hf).trans (Fr.alloc No _ _), (HY.out.2.2.frNo hf).frNo (Fr.alloc No _ _), hr, hf.size⟩
          · go_wp2_with fail
            go_meet
            obtain ⟨hr, hf, hz⟩ := H6.out
            obtain ⟨h1, h2⟩ := four_set hz (.int .i64 xc) (.int .i64 xa) (.int .i64 r) (.int .i64 2)
            exact ⟨_, r, rfl, h1, ((HY.out.2.1.trans hf).ofNew h2 (fun k hk => .inr (by have := HY.out.2.1.size; omega))), (HY.out.2.2.frNo hf).fr h2 (fun k hk he => by have := HY.out.2.2.own_lt hk; omega), hr, Nat.le_refl _⟩
        case rest =>
          obtain ⟨db, r, rfl, HC⟩ := hcut
          have HZ : ∀ st : Int, Hid (∀ z : World, One z db ⟨xc, xa, r, st⟩ → Raw z hb (.slice a n cap) L size op → Calls Try.prog 41 #[.slice a n cap, .int .i64 i, .slice (some ⟨z.heap.size, 0, none⟩) 1 1] (z.alloc (.cells #[.int .i64 xc, .int .i64 xa, .int .i64 r, .int .i64 st] 61)).drew fun e w' => Inserted (z.alloc (.cells #[.int .i64 xc, .int .i64 xa, .int .i64 r, .int .i64 st] 61)).drew w' (.slice a n cap) n (L.take i ++ ⟨xc, xa, r, st⟩ :: L.drop i) e) := by
            intro st z hone hraw
            have hfz : Fr No z (z.alloc (.cells #[.int .i64 xc, .int .i64 xa, .int .i64 r, .int .i64 st] 61)).drew := (Fr.alloc No _ _).trans (Fr.drew No _)
            refine insert_any a n cap i z.heap.size ⟨xc, xa, r, st⟩ L _ (hraw.frNo hfz).row (heap_alloc_new z _) (fun e => ?_) ?_ ?_
            · have := hraw.row.lt e; omega
            · have h1 := HP.out.2.2.2.len; have h2 := HP.out.2.2.2.small; have := HL.out; omega
            · have := HP.out.1.1; have := HL.out; omega
          have hdb : db ≠ hb := fun e => by have := HC.out.2.2.2.2; have h2 := HY.out.2.2.lt; omega
          have hdn : (Value.slice a n cap).ownBlock ≠ some db := fun e => by have := HC.out.2.2.2.2; have h2 := HY.out.2.2.row.lt e; omega
          have HDN := Lib.hid hdn
          clear hdn
          obtain ⟨op1, hop1⟩ : ∃ op1, op1 = op + 1 := ⟨_, rfl⟩
          have e1 : (op : Int) + 1 = (op1 : Int) := by omega
          have hop2 : op1 ≤ 100001 := by omega
          have HO := Lib.hid hop1
          clear hop1
          cases p with
          | true =>
            obtain ⟨d0, d1, d2, d3, d4⟩ := HC.out.1.cells
            go_wp2_with fail
            have HO1 : Hid (One (wc.setCell ⟨db, 3, none⟩ (.int .i64 1)) db ⟨xc, xa, r, 1⟩ ∧ Fr No w (wc.setCell ⟨db, 3, none⟩ (.int .i64 1)) ∧ Raw (wc.setCell ⟨db, 3, none⟩ (.int .i64 1)) hb (.slice a n cap) L size op) := by
              have hf : Fr (fun k => k = db) wc (wc.setCell ⟨db, 3, none⟩ (.int .i64 1)) := Fr.setCell _ _ _ _ rfl
              refine ⟨?_, HC.out.2.1.ofNew hf (fun k hk => .inr ?_), HC.out.2.2.1.fr hf (fun k hk he => ?_)⟩
              · unfold One
                rw [heap_setCell_same _ db 3 _ _ _ HC.out.1]
                rfl
              · have h1 := HC.out.2.2.2.2; have h2 := HY.out.2.1.size; omega
              · have h1 := HC.out.2.2.2.2; have h2 := HY.out.2.2.own_lt hk; omega
            clear d0 d1 d2 d3 d4
            generalize wc.setCell ⟨db, 3, none⟩ (.int .i64 1) = z at HO1 ⊢
            obtain ⟨d0, d1, d2, d3, d4⟩ := HO1.out.1.cells
            obtain ⟨c0, -, -⟩ := HO1.out.2.2.hcell
            have c0' := (HO1.out.2.2.frNo (Fr.alloc No z (.cells #[.int .i64 xc, .int .i64 xa, .int .i64 r, .int .i64 1] 61))).hcell.1
            have hbz : ¬ (hb = z.heap.size) := by have := HO1.out.2.2.lt; omega
            have hzb : ¬ (z.heap.size = hb) := by have := HO1.out.2.2.lt; omega
            have dbz : ¬ (db = z.heap.size) := by have := (Array.getElem?_eq_some_iff.1 HO1.out.1).1; omega
            have hbd : ¬ (hb = db) := Ne.symm hdb
            go_region_law (first | (go_simp; go_at_call 41; refine ((HZ 1).out z HO1.out.1 HO1.out.2.2).mono ?_; intro e w6 hins; obtain ⟨k0, k2, f0, f2, m2⟩ := behind HO1.out.2.2 HO1.out.1 HDN.out ((Fr.alloc No _ _).trans (Fr.drew No _)) hins; obtain ⟨a2, cap2, rfl, hrow, hf6, hat⟩ := hins; have H6 := Lib.hid (And.intro hrow (And.intro hf6 hat)); clear hrow hf6 hat))
            all_goals (
              go_wp2_with fail
              go_ret2
              obtain ⟨hrow, hf6, hat⟩ := H6.out
              obtain ⟨hone, hfz, hraw⟩ := HO1.out
              have hf7 : Fr No z (z.alloc (.cells #[.int .i64 xc, .int .i64 xa, .int .i64 r, .int .i64 1] 61)).drew := (Fr.alloc No _ _).trans (Fr.drew No _)
              have hraw1 := hraw.frNo hf7
              have hraw2 := (hraw1.setRow hf6 hrow hat).setOpened op1
              refine ⟨r, 0, _, 1, rfl, .inr (.inr (.inr ⟨HV.out, HN.out, ?_, rfl, HC.out.2.2.2.1, perm_insert L i _, rfl⟩)), ⟨⟨_, by rw [← HO.out]; exact hraw2, ?_⟩, ?_⟩, ?_⟩
              · have h1 := HP.out.2.2.2.len; have := HL.out; omega
              · rintro q (rfl | hq)
                · exact HP.out.2.2.1 _ (.inl rfl)
                · rcases hat q hq with h1 | h1
                  · exact HP.out.2.2.1 q (.inr h1)
                  · refine HS.out.2 q ?_
                    have h2 := hfz.size
                    have h3 := hf7.size
                    have h4 := HXB.out
                    omega
              · refine HP.out.2.2.2.insert HP.out.1 HN.out ?_ HC.out.2.2.2.1
                have h1 := HP.out.2.2.2.len; have := HL.out; omega
              · have hSh : S hb := HP.out.2.2.1 hb (.inl rfl)
                have hf8 : Fr S w w6 := ((hfz.trans hf7).no).trans (hf6.mono fun k _ hk => HP.out.2.2.1 k (.inr hk))
                exact (hf8.trans (Fr.setCell S _ ⟨hb, 0, none⟩ _ hSh)).trans (Fr.setCell S _ ⟨hb, 2, none⟩ _ hSh))
          | false =>
            go_wp2_with fail
            have HO1 : Hid (One wc db ⟨xc, xa, r, 2⟩ ∧ Fr No w wc ∧ Raw wc hb (.slice a n cap) L size op) := ⟨HC.out.1, HC.out.2.1, HC.out.2.2.1⟩
            obtain ⟨z, hz⟩ : ∃ z, wc = z := ⟨_, rfl⟩
            rw [hz] at HO1 ⊢
            clear hz
            obtain ⟨d0, d1, d2, d3, d4⟩ := HO1.out.1.cells
            obtain ⟨c0, -, -⟩ := HO1.out.2.2.hcell
            have c0' := (HO1.out.2.2.frNo (Fr.alloc No z (.cells #[.int .i64 xc, .int .i64 xa, .int .i64 r, .int .i64 2] 61))).hcell.1
            have hbz : ¬ (hb = z.heap.size) := by have := HO1.out.2.2.lt; omega
            have hzb : ¬ (z.heap.size = hb) := by have := HO1.out.2.2.lt; omega
            have dbz : ¬ (db = z.heap.size) := by have := (Array.getElem?_eq_some_iff.1 HO1.out.1).1; omega
            have hbd : ¬ (hb = db) := Ne.symm hdb
            go_region_law (first | (go_simp; go_at_call 41; refine ((HZ 2).out z HO1.out.1 HO1.out.2.2).mono ?_; intro e w6 hins; obtain ⟨k0, k2, f0, f2, m2⟩ := behind HO1.out.2.2 HO1.out.1 HDN.out ((Fr.alloc No _ _).trans (Fr.drew No _)) hins; obtain ⟨a2, cap2, rfl, hrow, hf6, hat⟩ := hins; have H6 := Lib.hid (And.intro hrow (And.intro hf6 hat)); clear hrow hf6 hat))
            all_goals (
              go_wp2_with fail
              go_ret2
              obtain ⟨hrow, hf6, hat⟩ := H6.out
              obtain ⟨hone, hfz, hraw⟩ := HO1.out
              have hf7 : Fr No z (z.alloc (.cells #[.int .i64 xc, .int .i64 xa, .int .i64 r, .int .i64 2] 61)).drew := (Fr.alloc No _ _).trans (Fr.drew No _)
              have hraw1 := hraw.frNo hf7
              have hraw2 := (hraw1.setRow hf6 hrow hat).setOpened op1
              refine ⟨r, 0, _, 1, rfl, .inr (.inr (.inr ⟨HV.out, HN.out, ?_, rfl, HC.out.2.2.2.1, perm_insert L i _, rfl⟩)), ⟨⟨_, by rw [← HO.out]; exact hraw2, ?_⟩, ?_⟩, ?_⟩
              · have h1 := HP.out.2.2.2.len; have := HL.out; omega
              · rintro q (rfl | hq)
                · exact HP.out.2.2.1 _ (.inl rfl)
                · rcases hat q hq with h1 | h1
                  · exact HP.out.2.2.1 q (.inr h1)
                  · refine HS.out.2 q ?_
                    have h2 := hfz.size
                    have h3 := hf7.size
                    have h4 := HXB.out
                    omega
              · refine HP.out.2.2.2.insert HP.out.1 HN.out ?_ HC.out.2.2.2.1
                have h1 := HP.out.2.2.2.len; have := HL.out; omega
              · have hSh : S hb := HP.out.2.2.1 hb (.inl rfl)
                have hf8 : Fr S w w6 := ((hfz.trans hf7).no).trans (hf6.mono fun k _ hk => HP.out.2.2.1 k (.inr hk))
                exact (hf8.trans (Fr.setCell S _ ⟨hb, 0, none⟩ _ hSh)).trans (Fr.setCell S _ ⟨hb, 2, none⟩ _ hSh))
  · have HV := Lib.hid hv
    clear hv
    refine (valid_no xc xa _ HV.out).mono ?_
    rintro e w1 ⟨rfl, hf1⟩
    have H1 := Lib.hid (And.intro (HF.out.trans hf1) (HS.out.1.frNo hf1))
    clear hf1
    go_wp2_with fail
    go_ret2
    exact ⟨0, 1, L, 0, rfl, .inl ⟨HV.out, rfl, rfl, rfl, rfl⟩, H1.out.2, H1.out.1.no⟩

end Go.Proofs.Ytanhjjinedjaaaa
