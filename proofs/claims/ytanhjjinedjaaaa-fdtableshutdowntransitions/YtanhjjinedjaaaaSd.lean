/-
  CONTRACT of the law's shutdown, over this seat's translation: it is LocalShutdown or RemoteShutdown.
  Conditions: the table lies in memory.
-/
import Derived.Test.YtanhjjinedjaaaaAwake
namespace Go.Proofs.Ytanhjjinedjaaaa
open Go.ChangeShapes Go.WideShapes Go.ChangeAt Go.RowKit
set_option linter.unusedVariables false

def shC (p : Bool) : Int := if p then 2 else 1

theorem duo_shutdown {w0 w : World} {Z : Nat → Prop} {hb size op : Nat} {L : List D} {B : (Nat → Prop) → World → Prop} (h : Duo w0 w Z (Tab hb L size op) B) (xc xa : Int) (p : Bool) :
    Calls Try.prog 28 #[.pointer (some ⟨hb, 0, none⟩), .agg #[.int .i64 xc, .int .i64 xa], .bool p] w fun e w' => ∃ r L', e = .returned (.int .i64 r) ∧ Ap (shC p) L (xc, xa) r L' ∧ Duo w0 w' Z (Tab hb L' size op) B ∧ ∀ k, Z k → w'.heap[k]? = w.heap[k]? := by
  have hf : Fr No w (w.alloc (.cells #[.int .i64 xc, .int .i64 xa] 38)) := Fr.alloc No _ _
  have H := Lib.hid (And.intro (h.frNo hf) (fun k (hk : Z k) => hf.block k (h.zlt hk).2 (fun h => h)))
  clear h hf
  cases p with
  | true =>
    go_enter Try.func28, Try.ntmps28
    go_wp2_with fail
    refine (duo_local_ H.out.1 xc xa).mono ?_
    rintro e w1 ⟨r, L', rfl, hA, hD, hK⟩
    have H1 := Lib.hid (And.intro hA (And.intro hD (fun k (hk : Z k) => (hK k hk).trans (H.out.2 k hk))))
    clear hA hD hK
    go_wp2_with fail
    go_ret
    exact ⟨r, L', rfl, H1.out.1, H1.out.2.1, H1.out.2.2⟩
  | false =>
    go_enter Try.func28, Try.ntmps28
    go_wp2_with fail
    refine (duo_remote H.out.1 xc xa).mono ?_
    rintro e w1 ⟨r, L', rfl, hA, hD, hK⟩
    have H1 := Lib.hid (And.intro hA (And.intro hD (fun k (hk : Z k) => (hK k hk).trans (H.out.2 k hk))))
    clear hA hD hK
    go_wp2_with fail
    go_ret
    exact ⟨r, L', rfl, H1.out.1, H1.out.2.1, H1.out.2.2⟩

end Go.Proofs.Ytanhjjinedjaaaa
