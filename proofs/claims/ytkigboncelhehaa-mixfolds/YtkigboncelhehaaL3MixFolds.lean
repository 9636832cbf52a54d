/-
  The law MixFolds: any text folded into any block, and any octets' block, or why not; the text stays as it was. Condition: the slice holds octets.
-/
import Derived.Test.YtkigboncelhehaaB15
namespace Go.Proofs.Ytkigboncelhehaa
open Go.RowKit
set_option maxRecDepth 100000 in
set_option maxHeartbeats 4000000 in
theorem mixFolds_walk (c : M.Blk) (L : List Int) (v : Value) (w : World) (hu : Bs w v L) :
    Calls Try.prog 4 #[blkV c, v] w fun e w' => e = .returned (.bool true) ∧ Below w.heap.size w w' := by
  have hq := eqB
  have Xa0 := Bx2.new w c
  have hB0 := below_one (Below.refl _ w) (o := .cells #[.int .u64 (M.nu c.1), .int .u64 (M.nu c.2)] 24)
  have HU := hid' hu
  obtain ⟨ao, cap, rfl, q1, q2, q3, q4⟩ := hu
  obtain ⟨x, hx⟩ : ∃ x, M.foldV c L = x := ⟨_, rfl⟩
  obtain ⟨n, hn⟩ : ∃ n, M.foldE L = n := ⟨_, rfl⟩
  obtain ⟨y, hy⟩ : ∃ y, M.ofV L = y := ⟨_, rfl⟩
  obtain ⟨k, hk⟩ : ∃ k, M.ofE L = k := ⟨_, rfl⟩
  obtain ⟨s, hs⟩ : ∃ s, M.strOf L = s := ⟨_, rfl⟩
  have F1 := hid' hx
  have F2 := hid' hn
  have F3 := hid' hy
  have F4 := hid' hk
  have HS := hid' hs
  clear hx hn hy hk hs q3 q4
  generalize L.length = m at *
  unfold blkV
  by_cases h1 : 500 < m
  · by_cases h2 : m ≤ 65536
    · go_enter Try.func4, Try.ntmps4
      go_wp2_with (first | (go_at_call 11; refine (live_any _).mono ?_; rintro r w1 ⟨rfl, hb1⟩; have Ya1 := Xa0.below hb1; have ca1 := Ya1.cells; have la1 := Ya1.lt; have Xa1 := Ya1; have hB1 := below_trans hB0 hb1; clear hb1; have cv1 := conv_bs (HU.out.below hB1); rw [HS.out] at cv1))
      go_ret
      exact ⟨rfl, hB1⟩
    · by_cases h3 : 70000 < m
      · go_enter Try.func4, Try.ntmps4
        go_wp2_with (first | (go_at_call 11; refine (live_any _).mono ?_; rintro r w1 ⟨rfl, hb1⟩; have Ya1 := Xa0.below hb1; have ca1 := Ya1.cells; have la1 := Ya1.lt; have Xa1 := Ya1; have hB1 := below_trans hB0 hb1; clear hb1; have cv1 := conv_bs (HU.out.below hB1); rw [HS.out] at cv1))
        go_ret
        exact ⟨rfl, hB1⟩
      · go_enter Try.func4, Try.ntmps4
        go_wp2_with (first | (go_at_call 11; refine (live_any _).mono ?_; rintro r w1 ⟨rfl, hb1⟩; have Ya1 := Xa0.below hb1; have ca1 := Ya1.cells; have la1 := Ya1.lt; have Xa1 := Ya1; have hB1 := below_trans hB0 hb1; clear hb1; have cv1 := conv_bs (HU.out.below hB1); rw [HS.out] at cv1) | (go_at_call 20; refine (fold_eq F1.out F2.out _ (HU.out.below hB1)).mono ?_; rintro r w2 ⟨rfl, hb2⟩; have Ya2 := Xa1.below hb2; have ca2 := Ya2.cells; have la2 := Ya2.lt; have Xa2 := Ya2.alloc (.cells #[.int .u64 (M.nu x.1), .int .u64 (M.nu x.2)] 24); have Xx2 := Bx2.new w2 x; have hB2 := below_one (below_trans hB1 hb2) (o := (.cells #[.int .u64 (M.nu x.1), .int .u64 (M.nu x.2)] 24)); clear hb2) | (go_at_call 21; refine (rfold_eq F1.out F2.out _ (HU.out.below hB2)).mono ?_; rintro r w3 ⟨rfl, hb3⟩; have Ya3 := Xa2.below hb3; have ca3 := Ya3.cells; have la3 := Ya3.lt; have Xa3 := Ya3.alloc (.cells #[.int .u64 (M.nu x.1), .int .u64 (M.nu x.2)] 24); have Yx3 := Xx2.below hb3; have cx3 := Yx3.cells; have lx3 := Yx3.lt; have Xx3 := Yx3.alloc (.cells #[.int .u64 (M.nu x.1), .int .u64 (M.nu x.2)] 24); have Xz3 := Bx2.new w3 x; have hB3 := below_one (below_trans hB2 hb3) (o := (.cells #[.int .u64 (M.nu x.1), .int .u64 (M.nu x.2)] 24)); clear hb3) | (go_at_call 22; refine (of_eq F3.out F4.out _ (HU.out.below hB3)).mono ?_; rintro r w4 ⟨rfl, hb4⟩; have Ya4 := Xa3.below hb4; have ca4 := Ya4.cells; have la4 := Ya4.lt; have Xa4 := Ya4.alloc (.cells #[.int .u64 (M.nu y.1), .int .u64 (M.nu y.2)] 24); have Yx4 := Xx3.below hb4; have cx4 := Yx4.cells; have lx4 := Yx4.lt; have Xx4 := Yx4.alloc (.cells #[.int .u64 (M.nu y.1), .int .u64 (M.nu y.2)] 24); have Yz4 := Xz3.below hb4; have cz4 := Yz4.cells; have lz4 := Yz4.lt; have Xz4 := Yz4.alloc (.cells #[.int .u64 (M.nu y.1), .int .u64 (M.nu y.2)] 24); have Xy4 := Bx2.new w4 y; have hB4 := below_one (below_trans hB3 hb4) (o := (.cells #[.int .u64 (M.nu y.1), .int .u64 (M.nu y.2)] 24)); clear hb4) | (go_at_call 23; refine (rof_eq F3.out F4.out _ (HU.out.below hB4)).mono ?_; rintro r w5 ⟨rfl, hb5⟩; have Ya5 := Xa4.below hb5; have ca5 := Ya5.cells; have la5 := Ya5.lt; have Xa5 := Ya5.alloc (.cells #[.int .u64 (M.nu y.1), .int .u64 (M.nu y.2)] 24); have Yx5 := Xx4.below hb5; have cx5 := Yx5.cells; have lx5 := Yx5.lt; have Xx5 := Yx5.alloc (.cells #[.int .u64 (M.nu y.1), .int .u64 (M.nu y.2)] 24); have Yz5 := Xz4.below hb5; have cz5 := Yz5.cells; have lz5 := Yz5.lt; have Xz5 := Yz5.alloc (.cells #[.int .u64 (M.nu y.1), .int .u64 (M.nu y.2)] 24); have Yy5 := Xy4.below hb5; have cy5 := Yy5.cells; have ly5 := Yy5.lt; have Xy5 := Yy5.alloc (.cells #[.int .u64 (M.nu y.1), .int .u64 (M.nu y.2)] 24); have Xu5 := Bx2.new w5 y; have hB5 := below_one (below_trans hB4 hb5) (o := (.cells #[.int .u64 (M.nu y.1), .int .u64 (M.nu y.2)] 24)); clear hb5; have cv5 := conv_bs (HU.out.below hB5); rw [HS.out] at cv5))
        go_ret
        exact ⟨rfl, hB5⟩
  · go_enter Try.func4, Try.ntmps4
    go_wp2_with (first | (go_at_call 11; refine (live_any _).mono ?_; rintro r w1 ⟨rfl, hb1⟩; have Ya1 := Xa0.below hb1; have ca1 := Ya1.cells; have la1 := Ya1.lt; have Xa1 := Ya1; have hB1 := below_trans hB0 hb1; clear hb1; have cv1 := conv_bs (HU.out.below hB1); rw [HS.out] at cv1) | (go_at_call 20; refine (fold_eq F1.out F2.out _ (HU.out.below hB1)).mono ?_; rintro r w2 ⟨rfl, hb2⟩; have Ya2 := Xa1.below hb2; have ca2 := Ya2.cells; have la2 := Ya2.lt; have Xa2 := Ya2.alloc (.cells #[.int .u64 (M.nu x.1), .int .u64 (M.nu x.2)] 24); have Xx2 := Bx2.new w2 x; have hB2 := below_one (below_trans hB1 hb2) (o := (.cells #[.int .u64 (M.nu x.1), .int .u64 (M.nu x.2)] 24)); clear hb2) | (go_at_call 21; refine (rfold_eq F1.out F2.out _ (HU.out.below hB2)).mono ?_; rintro r w3 ⟨rfl, hb3⟩; have Ya3 := Xa2.below hb3; have ca3 := Ya3.cells; have la3 := Ya3.lt; have Xa3 := Ya3.alloc (.cells #[.int .u64 (M.nu x.1), .int .u64 (M.nu x.2)] 24); have Yx3 := Xx2.below hb3; have cx3 := Yx3.cells; have lx3 := Yx3.lt; have Xx3 := Yx3.alloc (.cells #[.int .u64 (M.nu x.1), .int .u64 (M.nu x.2)] 24); have Xz3 := Bx2.new w3 x; have hB3 := below_one (below_trans hB2 hb3) (o := (.cells #[.int .u64 (M.nu x.1), .int .u64 (M.nu x.2)] 24)); clear hb3) | (go_at_call 22; refine (of_eq F3.out F4.out _ (HU.out.below hB3)).mono ?_; rintro r w4 ⟨rfl, hb4⟩; have Ya4 := Xa3.below hb4; have ca4 := Ya4.cells; have la4 := Ya4.lt; have Xa4 := Ya4.alloc (.cells #[.int .u64 (M.nu y.1), .int .u64 (M.nu y.2)] 24); have Yx4 := Xx3.below hb4; have cx4 := Yx4.cells; have lx4 := Yx4.lt; have Xx4 := Yx4.alloc (.cells #[.int .u64 (M.nu y.1), .int .u64 (M.nu y.2)] 24); have Yz4 := Xz3.below hb4; have cz4 := Yz4.cells; have lz4 := Yz4.lt; have Xz4 := Yz4.alloc (.cells #[.int .u64 (M.nu y.1), .int .u64 (M.nu y.2)] 24); have Xy4 := Bx2.new w4 y; have hB4 := below_one (below_trans hB3 hb4) (o := (.cells #[.int .u64 (M.nu y.1), .int .u64 (M.nu y.2)] 24)); clear hb4) | (go_at_call 23; refine (rof_eq F3.out F4.out _ (HU.out.below hB4)).mono ?_; rintro r w5 ⟨rfl, hb5⟩; have Ya5 := Xa4.below hb5; have ca5 := Ya5.cells; have la5 := Ya5.lt; have Xa5 := Ya5.alloc (.cells #[.int .u64 (M.nu y.1), .int .u64 (M.nu y.2)] 24); have Yx5 := Xx4.below hb5; have cx5 := Yx5.cells; have lx5 := Yx5.lt; have Xx5 := Yx5.alloc (.cells #[.int .u64 (M.nu y.1), .int .u64 (M.nu y.2)] 24); have Yz5 := Xz4.below hb5; have cz5 := Yz5.cells; have lz5 := Yz5.lt; have Xz5 := Yz5.alloc (.cells #[.int .u64 (M.nu y.1), .int .u64 (M.nu y.2)] 24); have Yy5 := Xy4.below hb5; have cy5 := Yy5.cells; have ly5 := Yy5.lt; have Xy5 := Yy5.alloc (.cells #[.int .u64 (M.nu y.1), .int .u64 (M.nu y.2)] 24); have Xu5 := Bx2.new w5 y; have hB5 := below_one (below_trans hB4 hb5) (o := (.cells #[.int .u64 (M.nu y.1), .int .u64 (M.nu y.2)] 24)); clear hb5; have cv5 := conv_bs (HU.out.below hB5); rw [HS.out] at cv5))
    go_ret
    exact ⟨rfl, hB5⟩
end Go.Proofs.Ytkigboncelhehaa
