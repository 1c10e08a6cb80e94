/- The law of products. -/
import Derived.Test.YtdfobaggdeoggaaRefDiv
namespace Go.Proofs.Ytdfobaggdeoggaa
open Go.RowKit
set_option maxRecDepth 100000 in
set_option maxHeartbeats 2000000 in
theorem products_walk (a b : Int) (ha : I64 a) (hb : I64 b) (w : World) : Calls Try.prog 4 #[.int .i64 a, .int .i64 b] w fun e w' => OutT w e w' := by
  have h9 : Hid (∀ W, Calls Try.prog 9 #[] W fun e w' => OutT W e w') := awake_any
  have k1 := hid (div_any a b ha hb)
  have k2 := hid (refDiv_any a b ha hb)
  have k3 := hid (mul_any a b ha hb)
  have k4 := hid (refMul_any a b ha hb)
  generalize mulV a b = v1 at *
  generalize divV a b = v2 at *
  generalize divE b = v3 at *
  have HB : Hid (Below w.heap.size w w) := Below.refl _ _
  clear ha hb
  go_enter Try.func4, Try.ntmps4
  go_wp2_with (first
    | (go_at_call 9; (first | (with_reducible refine Calls.mono (h9.out _) ?_)); rintro e w1 ⟨rfl, hbz⟩; replace HB := hid (HB.out.trans (hbz.mono HB.out.size)); clear hbz)
    | (go_at_call 18; (first | (with_reducible refine Calls.mono (k1.out _) ?_)); rintro e w1 ⟨rfl, hbz⟩; replace HB := hid (HB.out.trans (hbz.mono HB.out.size)); clear hbz)
    | (go_at_call 19; (first | (with_reducible refine Calls.mono (k2.out _) ?_)); rintro e w1 ⟨rfl, hbz⟩; replace HB := hid (HB.out.trans (hbz.mono HB.out.size)); clear hbz)
    | (go_at_call 20; (first | (with_reducible refine Calls.mono (k3.out _) ?_)); rintro e w1 ⟨rfl, hbz⟩; replace HB := hid (HB.out.trans (hbz.mono HB.out.size)); clear hbz)
    | (go_at_call 21; (first | (with_reducible refine Calls.mono (k4.out _) ?_)); rintro e w1 ⟨rfl, hbz⟩; replace HB := hid (HB.out.trans (hbz.mono HB.out.size)); clear hbz))
  go_ret
  exact ⟨rfl, HB.out⟩
end Go.Proofs.Ytdfobaggdeoggaa
