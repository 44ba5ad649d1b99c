/-
  CONTRACT of Descendants of the reference's timers over this seat's translation.
  Conditions: the reference's timers lie in memory as RefAt says, in the form of a tree.
-/
import Derived.Test.YtbgddldkpjeieaaGreatRef2
namespace Go.Proofs.YtbgddldkpjeieaaGreat
open Go.ChangeShapes Go.WideShapes Go.ChangeAt Go.RowKit Go.Maps
set_option linter.unusedVariables false

/-- r lies below k, and is not k itself. -/
noncomputable def isB (L : List Rec) (k : Int) (r : Rec) : Bool := isU L k r && !(r.id == k)
noncomputable def below (L : List Rec) (k : Int) (K : List Rec) : List Rec := K.filter (isB L k)

theorem isB_iff {L : List Rec} {k : Int} {r : Rec} : isB L k r = true ↔ Under L k r.id ∧ r.id ≠ k := by
  unfold isB; simp [isU_iff]

theorem isB_up {L : List Rec} {last k : Int} (h : Wood L last) (hk : 1 ≤ k) {r : Rec} (hr : r ∈ L) : isB L k r = true ↔ r.par ≠ 0 ∧ Under L k r.par := by
  rw [isB_iff]
  constructor
  · rintro ⟨hu, hne⟩
    rcases h.under_inv hr hu with e | e
    · exact absurd e hne
    · refine ⟨fun h0 => ?_, e⟩
      have := h.under_le hk e
      omega
  · rintro ⟨h0, hu⟩
    refine ⟨.step r hr hu, fun e => ?_⟩
    have h1 := h.under_le hk hu
    have h2 := h.par_lt hr
    omega

theorem below_fam {L : List Rec} {last : Int} (h : Wood L last) {q : Rec} (hq : q ∈ L) : fam L q.id = q :: below L q.id L := by
  have h1 := (h.id q hq).1
  obtain ⟨T, hT⟩ := fam_head h h1 hq rfl
  have h2 : below L q.id L = (fam L q.id).filter (fun r => !(r.id == q.id)) := by
    unfold below fam
    rw [List.filter_filter]
    refine List.filter_congr fun r _ => ?_
    unfold isB
    exact Bool.and_comm _ _
  have h3 : (fam L q.id).Pairwise (fun a b => a.id < b.id) := h.asc.filter _
  rw [hT] at h3 h2
  have h4 : T.filter (fun r => !(r.id == q.id)) = T := List.filter_eq_self.2 fun r hr => by
    have := (List.pairwise_cons.1 h3).1 r hr
    simp
    omega
  rw [h2, hT]
  simp [h4]

theorem desc_ref_miss (xb : Nat) (iv : Value) (L : List Rec) (last k : Int) (w : World) (h : RefAt w xb iv L last) (hno : ∀ r ∈ L, r.id ≠ k) :
    Calls Tryz.prog 28 #[.pointer (some ⟨xb, 0, none⟩), .int .i64 k] w fun e w' => e = .returned (.slice none 0 0) ∧ w' = w := by
  have HS := Lib.hid (And.intro h hno)
  clear h hno
  go_enter Tryz.func28, Tryz.ntmps28
  go_wp2_with fail
  refine (find_miss xb _ L last k _ HS.out.1 HS.out.2).mono ?_
  rintro e w1 ⟨rfl, rfl⟩
  go_wp2_with fail
  go_ret
  exact ⟨rfl, rfl⟩

set_option maxHeartbeats 4000000 in
set_option maxRecDepth 100000 in
theorem desc_ref (xb : Nat) (iv : Value) (L : List Rec) (last : Int) (q : Rec) (w : World) (h : RefAt w xb iv L last) (hwd : Wood L last) (hq : q ∈ L) :
    Calls Tryz.prog 28 #[.pointer (some ⟨xb, 0, none⟩), .int .i64 q.id] w fun e w' => ∃ a cap, e = .returned (.slice a (below L q.id L).length cap) ∧ w'.ownsRow w.heap.size 3 1 (.slice a (below L q.id L).length cap) (below L q.id L).length (((below L q.id L).map Rec.id).map (Value.int .i64)) ∧ Fr No w w' := by
  have hlen := h.len
  have hk1 := (hwd.id q hq).1
  obtain ⟨iq, hiq⟩ := List.mem_iff_getElem?.1 hq
  have hil := (List.getElem?_eq_some_iff.1 hiq).1
  obtain ⟨n, hn⟩ : ∃ n, L.length = n := ⟨_, rfl⟩
  obtain ⟨g, capi, rfl⟩ := h.form (by omega)
  rw [hn] at h hlen hil
  obtain ⟨i0, hi0, hz0, hz1, hz2⟩ := info_parts info3
  have HS := Lib.hid (And.intro h (And.intro hn (And.intro hq (And.intro hiq hwd))))
  have p0 : ¬ ((iq : Int) < 0) := by omega
  clear h hn hq hiq hwd
  go_enter Tryz.func28, Tryz.ntmps28
  go_wp2_with fail
  refine (find_hit xb _ L last iq q _ HS.out.1 HS.out.2.2.2.1).mono ?_
  rintro e w1 ⟨rfl, rfl⟩
  rename World => w
  go_wp2_with fail
  go_loopg [5, 6] (n + 1) (fun gg s5 s6 wr => ∃ (i m : Nat) (a : Option Addr) (cap : Nat), s5 = .slice a m cap ∧ s6 = .int .i64 i ∧ i ≤ n ∧ n - i < gg ∧ m ≤ i ∧ Hid (m = (below L q.id (L.take i)).length ∧ Fr No w wr ∧ wr.ownsRow w.heap.size 3 1 (.slice a m cap) m (((below L q.id (L.take i)).map Rec.id).map (Value.int .i64))))
  case atStart => exact ⟨0, 0, none, 0, rfl, by go_num, by omega, by omega, by omega, rfl, Fr.refl _ _, World.ownsRow_nil _ _ _ _⟩
  case round =>
    obtain ⟨i, m, a, cap, rfl, rfl, hin, hig, hmi, HR⟩ := hrel
    have hx1 := HS.out.1.frNo HR.out.2.1
    have c0 := hx1.hcell.1
    have HX := Lib.hid hx1
    clear hx1
    by_cases hi : i < n
    · obtain ⟨r, gi⟩ : ∃ e, L[i]? = some e := ⟨_, List.getElem?_eq_getElem (by have := HS.out.2.1; omega)⟩
      have hr := List.mem_of_getElem? gi
      have a0 := (HX.out.ecell gi).1
      have a1 := (HX.out.ecell gi).2.1
      have hsz := HR.out.2.1.size
      have hstep : below L q.id (L.take (i + 1)) = below L q.id (L.take i) ++ (if isB L q.id r then [r] else []) := by
        unfold below
        rw [List.take_add_one, gi, List.filter_append]
        congr 1
        cases hb : isB L q.id r <;> simp [hb]
      have HG := Lib.hid (And.intro gi (And.intro hr hstep))
      have p1 : (0 : Int) ≤ (i : Int) := by omega
      have p2 : (i : Int) < (n : Int) := by omega
      have hup := isB_up HS.out.2.2.2.2 hk1 hr
      have HUP := Lib.hid hup
      rcases HS.out.2.2.2.2.par r hr with hp | ⟨hlt, p, hp, hpe⟩
      · have hbf : isB L q.id r = false := by
          cases hb : isB L q.id r with
          | false => rfl
          | true => exact absurd hp (hup.1 hb).1
        rw [hp] at a1
        have HB := Lib.hid hbf
        clear gi hr hstep hup hp hbf
        go_wp2_with fail
        refine (find_miss xb _ L last 0 _ HX.out (fun r hr => by have := HS.out.2.2.2.2.id r hr; omega)).mono ?_
        rintro e w3 ⟨rfl, hw3⟩
        subst hw3
        go_wp2_with fail
        refine wp_loop_rounds 1 ?_
        rw [rounds_succ]
        go_wp2_with fail
        go_roundg (n - i)
        case measure => exact hig
        case rel =>
          refine ⟨i + 1, m, a, cap, rfl, by go_num, by omega, by omega, by omega, ?_, HR.out.2.1, ?_⟩
          · rw [HG.out.2.2, HB.out]; simpa using HR.out.1
          · rw [HG.out.2.2, HB.out]; simpa using HR.out.2.2
      · obtain ⟨jp, hjp⟩ := List.mem_iff_getElem?.1 hp
        have hjpl := (List.getElem?_eq_some_iff.1 hjp).1
        rw [HS.out.2.1] at hjpl
        have hp1 := HS.out.2.2.2.2.id p hp
        rw [← hpe] at a1
        have hiff : isB L q.id r = true ↔ Under L q.id p.id := by
          rw [hup, ← hpe]
          exact ⟨fun h => h.2, fun h => ⟨by omega, h⟩⟩
        have HP := Lib.hid (And.intro hp (And.intro hjp hiff))
        clear gi hr hstep hup hp hpe hjp hiff hlt
        go_wp2_with fail
        refine (find_hit xb _ L last jp p _ HX.out HP.out.2.1).mono ?_
        rintro e w3 ⟨rfl, hw3⟩
        subst hw3
        go_wp2_with fail
        rename World => wo
        go_loopg [5, 7] (p.id.toNat + 2) (fun gg s5 s7 wr => wr = wo ∧ s5 = .slice a m cap ∧ ((∃ (x : Rec) (jx : Nat), s7 = .int .i64 jx ∧ jx < n ∧ x.id.toNat + 1 < gg ∧ Hid (L[jx]? = some x ∧ (isB L q.id r = true ↔ Under L q.id x.id))) ∨ (s7 = .int .i64 (-1) ∧ 0 < gg ∧ Hid (isB L q.id r = false))))
        case atStart => exact ⟨rfl, rfl, .inl ⟨p, jp, rfl, hjpl, by omega, HP.out.2⟩⟩
        case round =>
          obtain ⟨rfl, rfl, ⟨x, jx, rfl, hjx, hxg, HX2⟩ | ⟨rfl, hgg, HB⟩⟩ := hrel
          · have hxm := List.mem_of_getElem? HX2.out.1
            have b0 := (HX.out.ecell HX2.out.1).1
            have b1 := (HX.out.ecell HX2.out.1).2.1
            have q1 : (0 : Int) ≤ (jx : Int) := by omega
            have q2 : (jx : Int) < (n : Int) := by omega
            have hx1 := HS.out.2.2.2.2.id x hxm
            by_cases hxk : x.id = q.id
            · have hbt : isB L q.id r = true := HX2.out.2.2 (by rw [hxk]; exact .self)
              have HB := Lib.hid hbt
              rw [hxk] at b0
              have hqq : (q.id == q.id) = true := by simp
              clear hbt hxm
              go_wp2_with (first
                | (at_builtin; refine wpList_append_own _ rfl (.tmp 53) (.tmp 62) 64 rfl w.heap.size 3 i0 (.int .i64 0) 1 8 Tryz.underlying64 hi0 hz0 hz1 hz2 rfl (by decide) (.slice a m cap) m _ rfl (HR.out.2.2.alloc _) ⟨wr.heap.size, 0, none⟩ 1 1 [.int .i64 r.id] rfl rfl (one_cell wr r.id) (one_one r.id) (by unfold maxLen; omega) (by omega) (by simp; omega) ?_; intro v8 w8 hown8 hgrow8 _)
                | go_in)
              obtain ⟨a8, cap8, rfl⟩ := own_form1 hown8
              have H8 := Lib.hid (And.intro hown8 hgrow8)
              clear hown8 hgrow8
              go_wp2_with fail
              go_roundg (n - i)
              case measure => exact hig
              case rel =>
                refine ⟨i + 1, m + 1, a8, cap8, rfl, by go_num, by omega, by omega, by omega, ?_, fr_grown_base (base := 0) HR.out.2.1 HR.out.2.2 _ H8.out.2, ?_⟩
                · rw [HG.out.2.2, HB.out]; have := HR.out.1; simp; omega
                · have := H8.out.1
                  rw [HG.out.2.2, HB.out]
                  simpa using this
            · have hxk2 : (x.id == q.id) = false := by simpa using hxk
              rcases HS.out.2.2.2.2.par x hxm with hp | ⟨hlt, y, hym, hye⟩
              · have hbf : isB L q.id r = false := by
                  cases hb : isB L q.id r with
                  | false => rfl
                  | true =>
                    rcases HS.out.2.2.2.2.under_inv hxm (HX2.out.2.1 hb) with e | e
                    · exact absurd e hxk
                    · rw [hp] at e
                      have := HS.out.2.2.2.2.under_le hk1 e
                      omega
                have HB := Lib.hid hbf
                rw [hp] at b1
                clear hbf hp hxm
                go_wp2_with fail
                refine (find_miss xb _ L last 0 _ HX.out (fun r hr => by have := HS.out.2.2.2.2.id r hr; omega)).mono ?_
                rintro e w5 ⟨rfl, hw5⟩
                subst hw5
                go_wp2_with fail
                go_roundg 1
                case measure => omega
                case rel => exact ⟨rfl, rfl, .inr ⟨rfl, by omega, HB.out⟩⟩
              · obtain ⟨jy, hjy⟩ := List.mem_iff_getElem?.1 hym
                have hjyl := (List.getElem?_eq_some_iff.1 hjy).1
                rw [HS.out.2.1] at hjyl
                have hy1 := HS.out.2.2.2.2.id y hym
                rw [← hye] at b1
                have hiff : isB L q.id r = true ↔ Under L q.id y.id := by
                  rw [HX2.out.2]
                  constructor
                  · intro hu
                    rcases HS.out.2.2.2.2.under_inv hxm hu with e | e
                    · exact absurd e hxk
                    · rw [hye]; exact e
                  · intro hu
                    exact .step x hxm (by rw [← hye]; exact hu)
                have hlt' : y.id < x.id := by rw [hye]; exact hlt
                have HY := Lib.hid (And.intro hjy hiff)
                clear hjy hiff hye hlt hxm hym
                go_wp2_with fail
                refine (find_hit xb _ L last jy y _ HX.out HY.out.1).mono ?_
                rintro e w5 ⟨rfl, hw5⟩
                subst hw5
                go_wp2_with fail
                go_roundg (x.id.toNat + 1)
                case measure => omega
                case rel => exact ⟨rfl, rfl, .inl ⟨y, jy, rfl, hjyl, by omega, HY.out⟩⟩
          · go_wp2_with fail
            go_roundg (n - i)
            case measure => exact hig
            case rel =>
              refine ⟨i + 1, m, a, cap, rfl, by go_num, by omega, by omega, by omega, ?_, HR.out.2.1, ?_⟩
              · rw [HG.out.2.2, HB.out]; simpa using HR.out.1
              · rw [HG.out.2.2, HB.out]; simpa using HR.out.2.2
    · obtain rfl : i = n := by omega
      have p2 : ¬ ((i : Int) < (i : Int)) := by omega
      go_wp2_with fail
      go_ret
      have h1 := HR.out.1
      have h2 := HR.out.2.2
      rw [List.take_of_length_le (by rw [HS.out.2.1]; exact Nat.le_refl _)] at h1 h2
      rw [← h1]
      refine ⟨a, cap, rfl, ?_, HR.out.2.1⟩
      first
        | exact h2
        | simpa using h2

end Go.Proofs.YtbgddldkpjeieaaGreat
