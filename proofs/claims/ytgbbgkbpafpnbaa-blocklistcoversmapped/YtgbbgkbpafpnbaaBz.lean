/-
  THE LAW BlocklistCoversMapped: its walk, of its cases.
  Conditions: the four are bytes.
-/
import Derived.Test.YtgbbgkbpafpnbaaBx0
import Derived.Test.YtgbbgkbpafpnbaaBx1
import Derived.Test.YtgbbgkbpafpnbaaBx2
import Derived.Test.YtgbbgkbpafpnbaaBx3
import Derived.Test.YtgbbgkbpafpnbaaBx4
import Derived.Test.YtgbbgkbpafpnbaaBx5
import Derived.Test.YtgbbgkbpafpnbaaBx6
import Derived.Test.YtgbbgkbpafpnbaaBx7
namespace Go.Proofs.Ytgbbgkbpafpnbaa
open Go.ChangeShapes Go.WideShapes Go.ChangeAt Go.RowKit
set_option linter.unusedVariables false

theorem covers_walk (a b c d : Nat) (w : World) (ha : a < 256) (hb : b < 256) (hc : c < 256) (hd : d < 256) :
    Calls Try.prog 5 #[.int .u8 a, .int .u8 b, .int .u8 c, .int .u8 d] w fun e w' => e = .returned (.bool true) ∧ Fr No w w' := by
  have h : (a = 0) ∨ (a = 10) ∨ (a = 127) ∨ (224 ≤ a) ∨ (a = 100 ∧ b < 64) ∨ (a = 100 ∧ 64 ≤ b ∧ b < 128) ∨ (a = 100 ∧ 128 ≤ b) ∨ (a = 169 ∧ b = 254) ∨ (a = 169 ∧ b ≠ 254) ∨ (a = 172 ∧ b < 16) ∨ (a = 172 ∧ 16 ≤ b ∧ b < 32) ∨ (a = 172 ∧ 32 ≤ b) ∨ (a = 192 ∧ b = 168) ∨ (a = 192 ∧ b ≠ 168) ∨ (a ≠ 0 ∧ a ≠ 10 ∧ a ≠ 127 ∧ a < 224 ∧ a ≠ 100 ∧ a ≠ 169 ∧ a ≠ 172 ∧ a ≠ 192) := by omega
  rcases h with h | h | h | h | h | h | h | h | h | h | h | h | h | h | h
  · exact covers_0 a b c d ha hb hc hd h w
  · exact covers_1 a b c d ha hb hc hd h w
  · exact covers_2 a b c d ha hb hc hd h w
  · exact covers_3 a b c d ha hb hc hd h w
  · exact covers_4 a b c d ha hb hc hd h w
  · exact covers_5 a b c d ha hb hc hd h w
  · exact covers_6 a b c d ha hb hc hd h w
  · exact covers_7 a b c d ha hb hc hd h w
  · exact covers_8 a b c d ha hb hc hd h w
  · exact covers_9 a b c d ha hb hc hd h w
  · exact covers_10 a b c d ha hb hc hd h w
  · exact covers_11 a b c d ha hb hc hd h w
  · exact covers_12 a b c d ha hb hc hd h w
  · exact covers_13 a b c d ha hb hc hd h w
  · exact covers_14 a b c d ha hb hc hd h w
end Go.Proofs.Ytgbbgkbpafpnbaa
