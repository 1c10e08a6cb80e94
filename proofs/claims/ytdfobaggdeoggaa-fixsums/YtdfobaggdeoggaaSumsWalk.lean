/- The law of sums. -/
import Derived.Test.YtdfobaggdeoggaaSum
namespace Go.Proofs.Ytdfobaggdeoggaa
open Go.RowKit
set_option maxRecDepth 100000 in
set_option maxHeartbeats 2000000 in
theorem sums_walk (a b : Int) (ha : I64 a) (hb : I64 b) (w : World) : Calls Try.prog 3 #[.int .i64 a, .int .i64 b] w fun e w' => OutT w e w' := by
  have h9 : Hid (∀ W, Calls Try.prog 9 #[] W fun e w' => OutT W e w') := awake_any
  have k1 := hid (of_any a ha)
  have k2 := hid (refOf_any a ha)
  have k3 := hid (floor_any a ha)
  have k4 := hid (refFloor_any a ha)
  have k5 := hid (add_any a b ha hb)
  have k6 := hid (refAdd_any a b ha hb)
  have k7 := hid (sub_any a b ha hb)
  have k8 := hid (refSub_any a b ha hb)
  generalize hold (a * 4294967296) = v1 at *
  generalize a / 4294967296 = v2 at *
  generalize hold (a + b) = v3 at *
  generalize hold (a - b) = v4 at *
  have HB : Hid (Below w.heap.size w w) := Below.refl _ _
  clear ha hb
  go_enter Try.func3, Try.ntmps3
  go_wp2_with (first
    | (go_at_call 9; (first | (with_reducible refine Calls.mono (h9.out _) ?_)); rintro e w1 ⟨rfl, hbz⟩; replace HB := hid (HB.out.trans (hbz.mono HB.out.size)); clear hbz)
    | (go_at_call 10; (first | (with_reducible refine Calls.mono (k1.out _) ?_)); rintro e w1 ⟨rfl, hbz⟩; replace HB := hid (HB.out.trans (hbz.mono HB.out.size)); clear hbz)
    | (go_at_call 11; (first | (with_reducible refine Calls.mono (k2.out _) ?_)); rintro e w1 ⟨rfl, hbz⟩; replace HB := hid (HB.out.trans (hbz.mono HB.out.size)); clear hbz)
    | (go_at_call 12; (first | (with_reducible refine Calls.mono (k3.out _) ?_)); rintro e w1 ⟨rfl, hbz⟩; replace HB := hid (HB.out.trans (hbz.mono HB.out.size)); clear hbz)
    | (go_at_call 13; (first | (with_reducible refine Calls.mono (k4.out _) ?_)); rintro e w1 ⟨rfl, hbz⟩; replace HB := hid (HB.out.trans (hbz.mono HB.out.size)); clear hbz)
    | (go_at_call 14; (first | (with_reducible refine Calls.mono (k5.out _) ?_)); rintro e w1 ⟨rfl, hbz⟩; replace HB := hid (HB.out.trans (hbz.mono HB.out.size)); clear hbz)
    | (go_at_call 15; (first | (with_reducible refine Calls.mono (k6.out _) ?_)); rintro e w1 ⟨rfl, hbz⟩; replace HB := hid (HB.out.trans (hbz.mono HB.out.size)); clear hbz)
    | (go_at_call 16; (first | (with_reducible refine Calls.mono (k7.out _) ?_)); rintro e w1 ⟨rfl, hbz⟩; replace HB := hid (HB.out.trans (hbz.mono HB.out.size)); clear hbz)
    | (go_at_call 17; (first | (with_reducible refine Calls.mono (k8.out _) ?_)); rintro e w1 ⟨rfl, hbz⟩; replace HB := hid (HB.out.trans (hbz.mono HB.out.size)); clear hbz))
  go_ret
  exact ⟨rfl, HB.out⟩
end Go.Proofs.Ytdfobaggdeoggaa
