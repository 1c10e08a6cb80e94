/- Of no index: within 30, Closest 19. -/
import Derived.Test.YtnilgnnlobiojaaTake
namespace Go.Proofs.Ytnilgnnlobiojaa
open Go.RowKit
theorem within_nil (x y r : Int) (w : World) : Calls Try.prog 30 #[.pointer none, C x y, .int .i64 r] w fun e w' => Out w (.slice none 0 0) e w' := by
  unfold C Out
  go_enter Try.func30, Try.ntmps30
  go_wp2
  go_ret
  exact ⟨rfl, (Below.refl _ _).alloc (Nat.le_refl _) _⟩
theorem closest_nil (x y r but : Int) (w : World) : Calls Try.prog 19 #[.pointer none, C x y, .int .i64 r, .int .i64 but] w fun e w' => Out w (.tuple #[.int .i64 0, .bool false]) e w' := by
  have hw := fun W => within_nil x y r W
  have HW := hid hw
  obtain ⟨g, hg⟩ : ∃ g, g = w.heap.size := ⟨_, rfl⟩
  obtain ⟨V, hV⟩ : ∃ V, V = (w.alloc (.cells #[.int .i64 x, .int .i64 y] 32)).alloc (.cells #[.int .i64 0, .int .i64 0] 64) := ⟨_, rfl⟩
  have hb : Below w.heap.size w V := by rw [hV]; exact ((Below.refl _ _).alloc (Nat.le_refl _) _).alloc (by simp) _
  have h1 : Blk V g [.int .i64 x, .int .i64 y] 32 := by rw [hV]; exact (Blk.new' _ _ _ _ hg).alloc _
  have h2 : Blk V (g + 1) [.int .i64 0, .int .i64 0] 64 := by rw [hV]; exact Blk.new' _ _ _ _ (by rw [hg]; simp)
  have HB := hid hb
  have H1 := hid h1
  have H2 := hid h2
  have c0 : V.cell? ⟨g, 0, none⟩ = some (.int .i64 x) := h1.cell 0
  have c1 : V.cell? ⟨g, 1, none⟩ = some (.int .i64 y) := h1.cell 1
  clear hw hb h1 h2
  unfold Out
  unfold C at *
  go_enter Try.func19, Try.ntmps19
  go_upto_region 3 with fail
  rw [← hV, ← hg]
  clear hV hg
  go_upto_region 4 with fail
  refine Calls.mono (HW.out _) ?_
  rintro _ W1 ⟨rfl, hb1⟩
  have HB1 := hid (HB.out.trans (hb1.mono HB.out.size))
  have h3 := H2.out.below hb1 H2.out.lt
  have c2 : W1.cell? ⟨g + 1, 0, none⟩ = some (.int .i64 0) := h3.cell 0
  clear hb1 h3 c0 c1
  go_wp2
  refine wp_loop_rounds 1 ?_
  rw [rounds_succ]
  go_wp2
  go_ret2
  exact ⟨rfl, HB1.out⟩
end Go.Proofs.Ytnilgnnlobiojaa
