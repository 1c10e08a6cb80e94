/- Around 15 of no index. -/
import Derived.Test.YtnilgnnlobiojaaNil
import Derived.Test.YtnilgnnlobiojaaSort
namespace Go.Proofs.Ytnilgnnlobiojaa
open Go.RowKit
theorem around_nil (x y r : Int) (w : World) : Calls Try.prog 15 #[.pointer none, C x y, .int .i64 r] w fun e w' => OutI w [] e w' := by
  have HW := hid (fun W => within_nil x y r W)
  have HS := hid (fun W => sort_nil W none 0 (.func (.func 32) #[] #[]))
  obtain ⟨g, hg⟩ : ∃ g, g = w.heap.size := ⟨_, rfl⟩
  obtain ⟨V, hV⟩ : ∃ V, V = w.alloc (.cells #[.int .i64 x, .int .i64 y] 32) := ⟨_, rfl⟩
  have hb : Below w.heap.size w V := by rw [hV]; exact (Below.refl _ _).alloc (Nat.le_refl _) _
  have h1 : Blk V g [.int .i64 x, .int .i64 y] 32 := by rw [hV]; exact Blk.new' _ _ _ _ hg
  have HB := hid hb
  have c0 : V.cell? ⟨g, 0, none⟩ = some (.int .i64 x) := h1.cell 0
  have c1 : V.cell? ⟨g, 1, none⟩ = some (.int .i64 y) := h1.cell 1
  clear hb h1
  unfold C at *
  go_enter Try.func15, Try.ntmps15
  go_upto_region 1 with fail
  rw [← hV, ← hg]
  clear hV hg
  go_upto_region 2 with fail
  refine Calls.mono (HW.out _) ?_
  rintro _ W1 ⟨rfl, hb1⟩
  have HB1 := hid (HB.out.trans (hb1.mono HB.out.size))
  clear hb1 c0 c1
  go_upto_region 3 with fail
  refine Calls.mono (HS.out _) ?_
  rintro _ W2 ⟨rfl, h2⟩
  replace h2 := h2.symm
  subst h2
  go_wp2
  refine wp_loop_rounds 1 ?_
  rw [rounds_succ]
  go_wp2
  go_ret
  exact ⟨none, 0, rfl, OwnI.nil _ _, HB1.out⟩
end Go.Proofs.Ytnilgnnlobiojaa
