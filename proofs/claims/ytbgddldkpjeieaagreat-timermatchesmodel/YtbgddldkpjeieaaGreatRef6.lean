/-
  CONTRACTS of First and NextDeadline of the reference's timers over this seat's translation: which timer expires first.
  Conditions: the reference's timers lie in memory as RefAt says, in the form of a tree.
-/
import Derived.Test.YtbgddldkpjeieaaGreatRef4a
namespace Go.Proofs.YtbgddldkpjeieaaGreat
open Go.ChangeShapes Go.WideShapes Go.ChangeAt Go.RowKit Go.Maps
set_option linter.unusedVariables false

/-- r comes first by its own due time, then by its handle. -/
def Fst (L : List Rec) (r : Rec) : Prop := r ∈ L ∧ ∀ r' ∈ L, r.due < r'.due ∨ (r.due = r'.due ∧ r.id ≤ r'.id)

/-- A deadline is the due time of a timer above, or of the timer itself. -/
theorem Dl.from_ {L : List Rec} {last : Int} (h : Wood L last) {x d : Int} (hd : Dl L x d) : ∃ a ∈ L, a.due = d ∧ a.id ≤ x := by
  induction hd with
  | root r hr h0 => exact ⟨r, hr, rfl, Int.le_refl _⟩
  | step r hr h0 d hd ih =>
    obtain ⟨a, ha, h1, h2⟩ := ih
    have := h.par_lt hr
    by_cases hle : r.due ≤ d
    · exact ⟨r, hr, by omega, Int.le_refl _⟩
    · exact ⟨a, ha, by omega, by omega⟩

theorem Dl.some_ {L : List Rec} {last : Int} (h : Wood L last) : ∀ (m : Nat) (r : Rec), r ∈ L → r.id.toNat ≤ m → ∃ d, Dl L r.id d := by
  intro m
  induction m with
  | zero => intro r hr hm; have := h.id r hr; omega
  | succ m ih =>
    intro r hr hm
    rcases h.par r hr with h0 | ⟨h1, p, hp, he⟩
    · exact ⟨_, .root r hr h0⟩
    · have h2 := h.id p hp
      obtain ⟨d, hd⟩ := ih p hp (by omega)
      rw [he] at hd
      exact ⟨_, .step r hr (by omega) d hd⟩

theorem Fst.dl {L : List Rec} {last : Int} (h : Wood L last) {r : Rec} (hf : Fst L r) : Dl L r.id r.due := by
  obtain ⟨d, hd⟩ := Dl.some_ h r.id.toNat r hf.1 (Nat.le_refl _)
  obtain ⟨a, ha, h1, h2⟩ := Dl.from_ h hd
  have h3 := Dl.le h hf.1 hd
  have h4 := hf.2 a ha
  rw [show r.due = d by omega]
  exact hd

/-- It has the earliest deadline too, and the smallest handle among those. -/
theorem Fst.least {L : List Rec} {last : Int} (h : Wood L last) {r r' : Rec} (hf : Fst L r) (hr' : r' ∈ L) {d : Int} (hd : Dl L r'.id d) : r.due ≤ d ∧ (r.due = d → r.id ≤ r'.id) := by
  obtain ⟨a, ha, h1, h2⟩ := Dl.from_ h hd
  have h4 := hf.2 a ha
  refine ⟨by omega, fun e => by omega⟩

/-- Index a holds the first of the least deadlines among the first m. -/
def Least (L : List Rec) (m a : Nat) (d : Int) : Prop := a < m ∧ (∃ r, L[a]? = some r ∧ Dl L r.id d) ∧ ∀ (j : Nat) (b : Rec) (e : Int), j < m → L[j]? = some b → Dl L b.id e → d ≤ e ∧ (j < a → d < e)

theorem inc_get {L : List Rec} (h : L.Pairwise (fun a b => a.id < b.id)) {i j : Nat} {a b : Rec} (hi : L[i]? = some a) (hj : L[j]? = some b) (hij : i < j) : a.id < b.id := by
  have := List.pairwise_iff_getElem.1 h i j (List.getElem?_eq_some_iff.1 hi).1 (List.getElem?_eq_some_iff.1 hj).1 hij
  rw [(List.getElem?_eq_some_iff.1 hi).2, (List.getElem?_eq_some_iff.1 hj).2] at this
  exact this

theorem Least.fst {L : List Rec} {last : Int} (h : Wood L last) {a : Nat} {d : Int} (hl : Least L L.length a d) {r : Rec} (hf : Fst L r) : L[a]? = some r ∧ d = r.due := by
  obtain ⟨h1, ⟨r0, h2, h3⟩, h4⟩ := hl
  obtain ⟨j, hj⟩ := List.mem_iff_getElem?.1 hf.1
  have hjl := (List.getElem?_eq_some_iff.1 hj).1
  obtain ⟨h5, h6⟩ := h4 j r r.due hjl hj (hf.dl h)
  obtain ⟨h7, h8⟩ := hf.least h (List.mem_of_getElem? h2) h3
  have hd : d = r.due := by omega
  have h9 := h8 hd.symm
  rcases Nat.lt_trichotomy j a with hja | hja | hja
  · have := h6 hja; omega
  · subst hja; exact ⟨hj, hd⟩
  · have := inc_get h.asc h2 hj hja; omega

set_option maxHeartbeats 2000000 in
set_option maxRecDepth 100000 in
theorem first_ref (xb : Nat) (iv : Value) (L : List Rec) (last : Int) (w : World) (h : RefAt w xb iv L last) (hwd : Wood L last) :
    Calls Tryz.prog 23 #[.pointer (some ⟨xb, 0, none⟩)] w fun e w' => w' = w ∧ ((e = .returned (.int .i64 (-1)) ∧ L = []) ∨ ∃ (a : Nat) (d : Int), e = .returned (.int .i64 a) ∧ Least L L.length a d) := by
  have hlen := h.len
  obtain ⟨n, hn⟩ : ∃ n, L.length = n := ⟨_, rfl⟩
  obtain ⟨a, cap, rfl⟩ := h.form0
  have c0 := h.hcell.1
  rw [hn] at h hlen c0 ⊢
  have HS := Lib.hid (And.intro h (And.intro hn hwd))
  clear h hn hwd
  go_enter Tryz.func23, Tryz.ntmps23
  go_wp2_with fail
  go_loopg [3, 4, 5] (n + 1) (fun g s3 s4 s5 wr => ∃ (i : Nat) (t d : Int), s3 = .int .i64 t ∧ s4 = .int .u64 d ∧ s5 = .int .i64 i ∧ i ≤ n ∧ n - i < g ∧ wr = w ∧ Hid ((i = 0 ∧ t = -1) ∨ ∃ b : Nat, t = b ∧ Least L i b d))
  case atStart => exact ⟨0, -1, 18446744073709551615, by go_num, by go_num, by go_num, by omega, by omega, rfl, Or.inl ⟨rfl, rfl⟩⟩
  case round =>
    obtain ⟨i, t, d, rfl, rfl, rfl, hin, hig, rfl, HR⟩ := hrel
    by_cases hi : i < n
    · obtain ⟨r, gi⟩ : ∃ e, L[i]? = some e := ⟨_, List.getElem?_eq_getElem (by have := HS.out.2.1; omega)⟩
      obtain ⟨g, cap', hv⟩ := HS.out.1.form (by have := HS.out.2.1; omega)
      obtain rfl : a = some ⟨g, 0, none⟩ := by cases hv; rfl
      have a0 := (HS.out.1.ecell gi).1
      have p1 : (0 : Int) ≤ (i : Int) := by omega
      have p2 : (i : Int) < (n : Int) := by omega
      have HG := Lib.hid gi
      clear hv gi
      go_wp2_with fail
      refine (rdead_hit xb _ L last r _ HS.out.1 HS.out.2.2 (List.mem_of_getElem? HG.out)).mono ?_
      rintro e w3 ⟨dr, rfl, hdr, hw3⟩
      have hw3' := hw3.symm
      subst hw3'
      have HD := Lib.hid hdr
      clear hdr hw3
      have hnew : Hid ((i = 0 ∨ dr < d) → (i = 0 ∨ ∃ b : Nat, Least L i b d) → Least L (i + 1) i dr) := by
        intro h1 h2
        refine ⟨by omega, ⟨r, HG.out, HD.out⟩, fun j b e hj hb he => ?_⟩
        by_cases hji : j = i
        · subst hji
          rw [HG.out] at hb
          cases hb
          have := Dl.uniq HS.out.2.2 HD.out he
          exact ⟨by omega, fun h => by omega⟩
        · rcases h2 with h2 | ⟨c, h2⟩
          · omega
          · have h3 := h2.2.2 j b e (by omega) hb he
            exact ⟨by omega, fun _ => by omega⟩
      rcases HR.out with ⟨h0, ht⟩ | ⟨b, ht, hL⟩
      · subst h0 ht
        have hd : decide ((-1 : Int) < 0) = true := by decide
        go_wp2_with fail
        go_roundg (n - 0)
        case measure => exact hig
        case rel => exact ⟨0 + 1, 0, dr, by go_num, by go_num, by go_num, by omega, by omega, rfl, Or.inr ⟨0, rfl, hnew.out (.inl (by simp)) (.inl (by simp))⟩⟩
      · subst ht
        have hd : decide ((b : Int) < 0) = false := decide_eq_false (by omega)
        have hd2 : ¬ ((b : Int) < 0) := by omega
        have HL := Lib.hid hL
        clear hL
        by_cases hlt : dr < d
        · go_wp2_with fail
          go_roundg (n - i)
          case measure => exact hig
          case rel => exact ⟨i + 1, i, dr, by go_num, by go_num, by go_num, by omega, by omega, rfl, Or.inr ⟨i, rfl, hnew.out (.inr hlt) (.inr ⟨b, HL.out⟩)⟩⟩
        · go_wp2_with fail
          go_roundg (n - i)
          case measure => exact hig
          case rel =>
            refine ⟨i + 1, b, d, by go_num, by go_num, by go_num, by omega, by omega, rfl, Or.inr ⟨b, rfl, ?_⟩⟩
            obtain ⟨h1, h2, h3⟩ := HL.out
            refine ⟨by omega, h2, fun j c e hj hc he => ?_⟩
            by_cases hji : j = i
            · subst hji
              rw [HG.out] at hc
              cases hc
              have := Dl.uniq HS.out.2.2 HD.out he
              exact ⟨by omega, fun h => by omega⟩
            · exact h3 j c e (by omega) hc he
    · obtain rfl : i = n := by omega
      have p2 : ¬ ((i : Int) < (i : Int)) := by omega
      go_wp2_with fail
      go_ret
      refine ⟨rfl, ?_⟩
      rcases HR.out with ⟨h0, ht⟩ | ⟨b, ht, hL⟩
      · left
        refine ⟨by rw [ht]; rfl, List.eq_nil_of_length_eq_zero (by rw [HS.out.2.1]; exact h0)⟩
      · right
        exact ⟨b, by rw [ht]; rfl, d, hL⟩

theorem first_none (xb : Nat) (iv : Value) (last : Int) (w : World) (h : RefAt w xb iv [] last) (hwd : Wood [] last) :
    Calls Tryz.prog 23 #[.pointer (some ⟨xb, 0, none⟩)] w fun e w' => e = .returned (.int .i64 (-1)) ∧ w' = w := by
  refine (first_ref xb iv [] last w h hwd).mono ?_
  rintro e w' ⟨rfl, h1 | ⟨a, d, _, h1, _⟩⟩
  · exact ⟨h1.1, rfl⟩
  · simp at h1

theorem first_is (xb : Nat) (iv : Value) (L : List Rec) (last : Int) (r : Rec) (w : World) (h : RefAt w xb iv L last) (hwd : Wood L last) (hf : Fst L r) :
    Calls Tryz.prog 23 #[.pointer (some ⟨xb, 0, none⟩)] w fun e w' => ∃ a : Nat, L[a]? = some r ∧ e = .returned (.int .i64 a) ∧ w' = w := by
  refine (first_ref xb iv L last w h hwd).mono ?_
  rintro e w' ⟨rfl, h1 | ⟨a, d, rfl, h1⟩⟩
  · have := hf.1; rw [h1.2] at this; simp at this
  · exact ⟨a, (h1.fst hwd hf).1, rfl, rfl⟩

theorem next_none (xb : Nat) (iv : Value) (last : Int) (w : World) (h : RefAt w xb iv [] last) (hwd : Wood [] last) :
    Calls Tryz.prog 30 #[.pointer (some ⟨xb, 0, none⟩)] w fun e w' => e = .returned (.tuple #[.int .u64 0, .bool false]) ∧ w' = w := by
  have HS := Lib.hid (And.intro h hwd)
  clear h hwd
  go_enter Tryz.func30, Tryz.ntmps30
  go_wp2_with fail
  refine (first_none xb iv last _ HS.out.1 HS.out.2).mono ?_
  rintro e w1 ⟨rfl, rfl⟩
  go_wp2_with fail
  refine bodyPost_ret_by (by simp [results]; rfl) rfl ?_
  exact ⟨rfl, rfl⟩

theorem next_is (xb : Nat) (iv : Value) (L : List Rec) (last : Int) (r : Rec) (w : World) (h : RefAt w xb iv L last) (hwd : Wood L last) (hf : Fst L r) :
    Calls Tryz.prog 30 #[.pointer (some ⟨xb, 0, none⟩)] w fun e w' => e = .returned (.tuple #[.int .u64 r.due, .bool true]) ∧ w' = w := by
  have hlen := h.len
  obtain ⟨n, hn⟩ : ∃ n, L.length = n := ⟨_, rfl⟩
  obtain ⟨g, cap, rfl⟩ := h.form (List.length_pos_of_mem hf.1)
  have c0 := h.hcell.1
  rw [hn] at h hlen c0
  have HS := Lib.hid (And.intro h (And.intro hwd (And.intro hf hn)))
  clear h hwd hf hn
  go_enter Tryz.func30, Tryz.ntmps30
  go_wp2_with fail
  refine (first_is xb _ L last r _ HS.out.1 HS.out.2.1 HS.out.2.2.1).mono ?_
  rintro e w1 ⟨a, ha, rfl, hw1⟩
  have hw1' := hw1.symm
  subst hw1'
  have hal := (List.getElem?_eq_some_iff.1 ha).1
  rw [HS.out.2.2.2] at hal
  have a0 := (HS.out.1.ecell ha).1
  have p1 : (0 : Int) ≤ (a : Int) := by omega
  have p2 : (a : Int) < (n : Int) := by omega
  have p3 : ¬ ((a : Int) < 0) := by omega
  clear ha hw1
  go_wp2_with fail
  refine (rdead_hit xb _ L last r _ HS.out.1 HS.out.2.1 HS.out.2.2.1.1).mono ?_
  rintro e w2 ⟨d, rfl, hd, rfl⟩
  have hd' := Dl.uniq HS.out.2.1 hd (HS.out.2.2.1.dl HS.out.2.1)
  subst hd'
  go_wp2_with fail
  refine bodyPost_ret_by (by simp [results]; rfl) rfl ?_
  exact ⟨rfl, rfl⟩

end Go.Proofs.YtbgddldkpjeieaaGreat
