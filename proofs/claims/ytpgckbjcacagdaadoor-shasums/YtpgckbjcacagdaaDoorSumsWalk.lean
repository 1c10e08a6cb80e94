/- The walk of the law ShaSums: it answers true. -/
import Derived.Test.YtpgckbjcacagdaaDoorAwake
import Derived.Test.YtpgckbjcacagdaaDoorParts
import Derived.Test.YtpgckbjcacagdaaDoorRefSum
import Derived.Test.YtpgckbjcacagdaaDoorEqlD
import Derived.Deep.RegionHeld3
import Derived.Deep.DeepCutAuto
namespace Go.Proofs.YtpgckbjcacagdaaDoor
open Go.RowKit
attribute [local go_sem] eqGuard_D neqGuard_D
set_option maxHeartbeats 1000000 in
theorem shaSums_walk (parts : List (List Byte)) (v : Value) (w : World) (ht : Tab w) (hP : PartsB w v parts) (hn : parts.length ≤ 9223372036854775807) (hl : ∀ i, i < parts.length → (parts.getD i []).length ≤ 9223372036854775807) :
    Calls Tryd.prog 3 #[v] w fun e w' => e = .returned (.bool true) ∧ Below w.heap.size w w' := by
  have haw : Hid (∀ W, Below w.heap.size w W → Calls Tryd.prog 9 #[] W fun e w' => e = .returned (.bool true) ∧ Below W.heap.size W w') := fun W hW => awake_any W (ht.below hW ht.pos)
  have hfew : Hid (∀ W, Below w.heap.size w W → Calls Tryd.prog 10 #[v] W fun e w' => FewOk parts e ∧ Below W.heap.size W w') := fun W hW => few_any parts v W (hP.below hW) hn hl
  have HT : Hid (Tab w) := ht
  have HP : Hid (PartsB w v parts) := hP
  clear ht hP hl
  go_enter Tryd.func3, Tryd.ntmps3
  go_wp2_with fail
  refine (haw.out w (Below.refl _ _)).mono ?_
  rintro e w1 ⟨rfl, hb1⟩
  go_wp2_with fail
  refine (hfew.out w1 hb1).mono ?_
  rintro e w2 ⟨⟨b, rfl, hb⟩, hb2⟩
  have hbe2 : Below w.heap.size w w2 := hb1.trans (hb2.mono hb1.size)
  cases b
  · clear hb
    go_wp2_with fail
    refine (haw.out w2 hbe2).mono ?_
    rintro e w3 ⟨rfl, hb3⟩
    go_wp2
    go_ret
    exact ⟨rfl, hbe2.trans (hb3.mono hbe2.size)⟩
  · have hsz := hb rfl
    clear hb
    have hex : ∃ D : List Byte, D.length = 32 ∧ Hid (∀ X, X = parts.flatten → digest X = D) := ⟨digest parts.flatten, digest_length _, by rintro X rfl; rfl⟩
    obtain ⟨D, hDl, HD⟩ := hex
    have hsum : Hid (Calls Tryd.prog 11 #[v] w2 fun e w' => e = .returned (.agg (D.map B8).toArray) ∧ Below w2.heap.size w2 w') := by
      have hP2 := HP.out.below hbe2
      have := shaSum_any parts v w2 (HT.out.below hbe2 HT.out.pos) (hP2.at (by omega)) (by omega) (by omega)
      rw [HD.out _ rfl] at this; exact this
    go_wp2_with fail
    refine hsum.out.mono ?_
    rintro e w3 ⟨rfl, hb3⟩
    have hbe3 : Below w.heap.size w w3 := hbe2.trans (hb3.mono hbe2.size)
    have hjoin : Hid (Calls Tryd.prog 13 #[v] w3 fun e w' => JoinOk parts e w' ∧ Below w3.heap.size w3 w') := join_any parts v w3 (HP.out.below hbe3) (by omega) (by omega)
    clear hsum
    go_wp2_with fail
    refine hjoin.out.mono ?_
    rintro e w4 ⟨⟨q, N, c, hN, rfl, hB4⟩, hb4⟩
    have hbe4 : Below w.heap.size w w4 := hbe3.trans (hb4.mono hbe3.size)
    have href : Hid (Calls Tryd.prog 12 #[.slice q N c] w4 fun e w' => e = .returned (.agg (D.map B8).toArray) ∧ Below w4.heap.size w4 w') := by
      subst hN
      have := refSum_any parts.flatten q c w4 hB4 (by omega)
      rw [HD.out _ rfl] at this; exact this
    clear hjoin hB4 hN
    go_wp2_with fail
    refine href.out.mono ?_
    rintro e w5 ⟨rfl, hb5⟩
    have hDD : ∀ w', (binOp .eql 26 (.agg (D.map B8).toArray) (.agg (D.map B8).toArray)).run Tryd.prog w' = .ok (.bool true) w' := fun w' => by rw [run_eql_D w' D D hDl hDl]; simp
    have hu26 := Tryd.underlying26
    clear href
    go_wp2
    go_ret
    exact ⟨rfl, hbe4.trans (hb5.mono hbe4.size)⟩
end Go.Proofs.YtpgckbjcacagdaaDoor
