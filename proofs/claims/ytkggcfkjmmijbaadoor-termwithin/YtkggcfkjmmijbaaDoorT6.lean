/-
  What the document's own text and Text come to. Conditions: the slice holds terms that may be; there is room for no more than MaxText.
-/
import Derived.Test.YtkggcfkjmmijbaaDoorT5
namespace Go.Proofs.YtkggcfkjmmijbaaDoor
open Go.RowKit
theorem rnumber_eq {n : Nat} {D : List UInt8} (h : Lib.decDigits n = D) (hn : n ≤ 2097152) (w : World) :
    Calls Tryd.prog 42 #[.int .i64 n] w fun e w' => e = .returned (.string (M.str D)) ∧ Below w.heap.size w w' := by subst h; exact rnumber_any n hn w
theorem rthere_eq {A : List M.Tm} {i : Int} {r : Bool} (h : M.thr A i = r) {v : Value} (w : World) (u : Ts w v A) :
    Calls Tryd.prog 34 #[v, .int .i64 i] w fun e w' => e = .returned (.bool r) ∧ Below w.heap.size w w' := by subst h; exact rthere_any A i v w u
/-- what text comes to -/
def TxtC (A : List M.Tm) (v : Value) (i : Nat) (room : Int) (w : World) : Prop :=
  Calls Tryd.prog 35 #[v, .int .i64 i, .int .i64 room] w fun e w' => ∃ s, e = .returned (.tuple #[.string s, .bool (decide (((M.txt A i).length : Int) ≤ room))]) ∧ (((M.txt A i).length : Int) ≤ room → s = M.str (M.txt A i)) ∧ Below w.heap.size w w'
theorem M.size_lit (L : List UInt8) : (⟨L.toArray⟩ : ByteArray).size = L.length := M.str_size L
set_option maxRecDepth 100000 in
set_option maxHeartbeats 4000000 in
theorem rtext_atom (A : List M.Tm) (hA : M.Ok A) (i : Nat) (hi : i < A.length) (h1 : (M.at_ A i).1 = 1) (room : Int) (v : Value) (w : World) (u : Ts w v A) : TxtC A v i room w := by
  unfold TxtC
  have hm := (hA.2 i hi).1
  have hl := hA.1
  rcases M.may_kind hm with ⟨_, k2, k3, _⟩ | ⟨k1, _⟩ | ⟨k1, _⟩
  · have ht := M.txt_atom hm h1
    obtain ⟨a, ha⟩ : ∃ a : Nat, (M.at_ A i).2.1 = a := ⟨(M.at_ A i).2.1.toNat, by omega⟩
    rw [ha, Int.toNat_natCast] at ht
    obtain ⟨ao, cap, rfl, q1, q2, q4⟩ := u.form
    obtain ⟨b, off, rfl⟩ := q4 (by omega)
    obtain ⟨x1, x2, x3⟩ := Ts.cell u hi
    rw [h1] at x1
    rw [ha] at x2
    obtain ⟨T, hT⟩ : ∃ T, M.txt A i = T := ⟨_, rfl⟩
    obtain ⟨D, hD⟩ : ∃ D, Lib.decDigits a = D := ⟨_, rfl⟩
    rw [hT] at ht ⊢
    rw [hD] at ht
    have dl : D.length ≤ 20 := by rw [← hD, Lib.decDigits_length]; exact Lib.nDigits_le20 a (by omega)
    have hadd : (⟨#[97]⟩ : ByteArray) ++ M.str D = M.str T := by rw [ht]; exact M.str_append [97] D
    have hz : ¬ 9223372036854775807 < (⟨#[97]⟩ : ByteArray).size + (M.str D).size := by rw [M.str_size, show (⟨#[97]⟩ : ByteArray).size = 1 from rfl]; omega
    have hz2 : ¬ 9223372036854775807 < 1 + (M.str D).size := by rw [M.str_size]; omega
    have hsz := M.str_size T
    have N := hidq (rnumber_eq hD (by omega))
    have hin : (i : Int) < A.length := by omega
    generalize hn : A.length = n at *
    generalize (M.at_ A i).2.2 = b3 at *
    clear hT ht hD hm h1 ha hA u
    go_enter Tryd.func35, Tryd.ntmps35
    go_wp2_with (first | (go_at_call 42; refine (N.out _).mono ?_; rintro r w1 ⟨rfl, hb1⟩))
    go_ret2
    exact ⟨_, rfl, fun _ => rfl, below_trans (below_one (Below.refl _ _)) hb1⟩
  · omega
  · omega
/-- the text of a term with one part -/
theorem M.txt_len1 {A : List M.Tm} {i : Nat} (h : M.mayB (M.at_ A i) i = true) (h1 : (M.at_ A i).1 = 2 ∨ (M.at_ A i).1 = 3 ∨ (M.at_ A i).1 = 4) : (M.txt A i).length = (M.txt A (M.at_ A i).2.1.toNat).length + 3 := by
  rw [M.txt_one h (by omega) (by omega)]
  rcases h1 with h | h | h <;> rw [h] <;> simp [M.head_]
theorem M.txt_len2 {A : List M.Tm} {i : Nat} (h : M.mayB (M.at_ A i) i = true) (h5 : (M.at_ A i).1 = 5) : (M.txt A i).length = (M.txt A (M.at_ A i).2.1.toNat).length + (M.txt A (M.at_ A i).2.2.toNat).length + 4 := by
  rw [M.txt_two h h5]
  simp; omega
set_option maxRecDepth 100000 in
set_option maxHeartbeats 4000000 in
/-- one part: the walk, by what the part's text comes to -/
theorem rtext_one (A : List M.Tm) (k : Int) (a i : Nat) (b3 : Int) (c0 c1 : UInt8) (hk : (k = 2 ∧ c0 = 76 ∧ c1 = 40) ∨ (k = 3 ∧ c0 = 82 ∧ c1 = 40) ∨ (k = 4 ∧ c0 = 75 ∧ c1 = 40)) (n b off cap : Nat) (room : Int) (r0 : -262144 ≤ room) (r1 : room ≤ 65536) (w : World)
    (hin : i < n) (_ : n ≤ cap) (x1 : w.cell? ⟨b, off + i * 3, none⟩ = some (.int .i64 k)) (x2 : w.cell? ⟨b, off + i * 3 + 1, none⟩ = some (.int .i64 a)) (x3 : w.cell? ⟨b, off + i * 3 + 2, none⟩ = some (.int .i64 b3)) (u : Ts w (.slice (some ⟨b, off, none⟩) n cap) A)
    (ih : ∀ w, Ts w (.slice (some ⟨b, off, none⟩) n cap) A → TxtC A (.slice (some ⟨b, off, none⟩) n cap) a (room - 2 - 1) w) (T : List UInt8) (hT : T = [c0, c1] ++ M.txt A a ++ [41]) :
    Calls Tryd.prog 35 #[.slice (some ⟨b, off, none⟩) n cap, .int .i64 i, .int .i64 room] w fun e w' => ∃ s, e = .returned (.tuple #[.string s, .bool (decide ((T.length : Int) ≤ room))]) ∧ ((T.length : Int) ≤ room → s = M.str T) ∧ Below w.heap.size w w' := by
  have hw1 := wrap64 (x := room - 2) (by omega) (by omega)
  have hw2 := wrap64 (x := room - 2 - 1) (by omega) (by omega)
  have IH := hidq ih
  have U := hidq (fun X (hb : Below w.heap.size w X) => u.below hb)
  have XW := hidq (fun o : Obj => (Bx3.new w (k, a, b3)).alloc o)
  have hini : (i : Int) < n := by omega
  have hlen : T.length = (M.txt A a).length + 3 := by rw [hT]; simp
  obtain ⟨ta, hta⟩ : ∃ ta, M.txt A a = ta := ⟨_, rfl⟩
  unfold TxtC at IH
  rw [hta] at IH hT hlen
  clear ih u hta
  by_cases hok : ((ta.length : Int) ≤ room - 2 - 1)
  · have e1 : decide ((T.length : Int) ≤ room) = true := by rw [decide_eq_true_eq]; omega
    rw [e1]
    have hd : decide ((ta.length : Int) ≤ room - 2 - 1) = true := decide_eq_true hok
    have HOK := hidq hok
    rw [hd] at IH
    have hadd1 : (⟨#[c0, c1]⟩ : ByteArray) ++ M.str ta = M.str ([c0, c1] ++ ta) := M.str_append [c0, c1] ta
    have hadd2 : M.str ([c0, c1] ++ ta) ++ (⟨#[41]⟩ : ByteArray) = M.str T := by rw [hT]; exact M.str_append _ [41]
    obtain ⟨S, hS⟩ : ∃ S, [c0, c1] ++ ta = S := ⟨_, rfl⟩
    rw [hS] at hadd1 hadd2
    have hSl : S.length = ta.length + 2 := by rw [← hS]; simp
    have hz1 : ¬ 9223372036854775807 < (⟨#[c0, c1]⟩ : ByteArray).size + (M.str ta).size := by rw [M.str_size, show (⟨#[c0, c1]⟩ : ByteArray).size = 2 from rfl]; omega
    have hz2 : ¬ 9223372036854775807 < 2 + (M.str ta).size := by rw [M.str_size]; omega
    have hz3 : ¬ 9223372036854775807 < (M.str S).size + (⟨#[41]⟩ : ByteArray).size := by rw [M.str_size, show (⟨#[41]⟩ : ByteArray).size = 1 from rfl]; omega
    have hz4 : ¬ 9223372036854775807 < (M.str S).size + 1 := by rw [M.str_size]; omega
    have hsz := M.str_size S
    have hlt : (S.length : Int) < room := by omega
    have sz2 : (⟨#[c0, c1]⟩ : ByteArray).size = 2 := rfl
    have HL := hidq hlen
    clear hS hT hSl hlen hok
    rcases hk with ⟨rfl, rfl, rfl⟩ | ⟨rfl, rfl, rfl⟩ | ⟨rfl, rfl, rfl⟩
    all_goals go_enter Tryd.func35, Tryd.ntmps35
    all_goals go_wp2_with (first | (go_at_call 35; refine (IH.out _ (U.out _ (below_one (below_one (Below.refl _ _))))).mono ?_; rintro r w1 ⟨s1, rfl, hs1, hb1⟩; obtain rfl := hs1 HOK.out; have X1 := (XW.out _).below hb1; have c1 := X1.cells))
    all_goals go_ret2
    all_goals exact ⟨_, rfl, fun _ => rfl, below_trans (below_one (below_one (Below.refl _ _))) hb1⟩
  · have e1 : decide ((T.length : Int) ≤ room) = false := by rw [decide_eq_false_iff_not]; omega
    rw [e1]
    have hd : decide ((ta.length : Int) ≤ room - 2 - 1) = false := decide_eq_false hok
    rw [hd] at IH
    have sz2 : (⟨#[c0, c1]⟩ : ByteArray).size = 2 := rfl
    have HN := hidq (show ¬ (T.length : Int) ≤ room by omega)
    clear hT hlen hok
    rcases hk with ⟨rfl, rfl, rfl⟩ | ⟨rfl, rfl, rfl⟩ | ⟨rfl, rfl, rfl⟩
    all_goals go_enter Tryd.func35, Tryd.ntmps35
    all_goals go_wp2_with (first | (go_at_call 35; refine (IH.out _ (U.out _ (below_one (below_one (Below.refl _ _))))).mono ?_; rintro r w1 ⟨s1, rfl, hs1, hb1⟩))
    all_goals go_ret2
    all_goals exact ⟨_, rfl, fun h => by have := HN.out; omega, below_trans (below_one (below_one (Below.refl _ _))) hb1⟩
set_option maxRecDepth 100000 in
set_option maxHeartbeats 4000000 in
/-- two parts -/
theorem rtext_two (A : List M.Tm) (a d i : Nat) (n b off cap : Nat) (room : Int) (r0 : -262144 ≤ room) (r1 : room ≤ 65536) (w : World)
    (hin : i < n) (_ : n ≤ cap) (x1 : w.cell? ⟨b, off + i * 3, none⟩ = some (.int .i64 5)) (x2 : w.cell? ⟨b, off + i * 3 + 1, none⟩ = some (.int .i64 a)) (x3 : w.cell? ⟨b, off + i * 3 + 2, none⟩ = some (.int .i64 d)) (u : Ts w (.slice (some ⟨b, off, none⟩) n cap) A)
    (ih : ∀ w, Ts w (.slice (some ⟨b, off, none⟩) n cap) A → TxtC A (.slice (some ⟨b, off, none⟩) n cap) a (room - 2 - 1) w)
    (jh : ∀ m : Nat, m = (M.txt A a).length + 2 → (m : Int) < room → ∀ w, Ts w (.slice (some ⟨b, off, none⟩) n cap) A → TxtC A (.slice (some ⟨b, off, none⟩) n cap) d (room - m - 2) w)
    (T : List UInt8) (hT : T = [87, 40] ++ M.txt A a ++ 44 :: M.txt A d ++ [41]) :
    Calls Tryd.prog 35 #[.slice (some ⟨b, off, none⟩) n cap, .int .i64 i, .int .i64 room] w fun e w' => ∃ s, e = .returned (.tuple #[.string s, .bool (decide ((T.length : Int) ≤ room))]) ∧ ((T.length : Int) ≤ room → s = M.str T) ∧ Below w.heap.size w w' := by
  have hw1 := wrap64 (x := room - 2) (by omega) (by omega)
  have hw2 := wrap64 (x := room - 2 - 1) (by omega) (by omega)
  have IH := hidq ih
  have U := hidq (fun X (hb : Below w.heap.size w X) => u.below hb)
  have XW := hidq (fun o : Obj => (Bx3.new w (5, a, d)).alloc o)
  have hini : (i : Int) < n := by omega
  have hlen : T.length = (M.txt A a).length + (M.txt A d).length + 4 := by rw [hT]; simp; omega
  obtain ⟨ta, hta⟩ : ∃ ta, M.txt A a = ta := ⟨_, rfl⟩
  obtain ⟨td, htd⟩ : ∃ td, M.txt A d = td := ⟨_, rfl⟩
  obtain ⟨S, hS⟩ : ∃ S, [87, 40] ++ ta = S := ⟨_, rfl⟩
  have hSl : S.length = ta.length + 2 := by rw [← hS]; simp
  unfold TxtC at IH
  have JH := jh S.length (by rw [hta, hSl])
  unfold TxtC at JH
  rw [hta] at IH hT hlen
  rw [htd] at hT hlen JH
  clear ih u hta jh htd
  have T1 := hidq trivial
  have hadd1 : (⟨#[87, 40]⟩ : ByteArray) ++ M.str ta = M.str S := by rw [← hS]; exact M.str_append [87, 40] ta
  by_cases hok : ((ta.length : Int) ≤ room - 2 - 1)
  · have hd : decide ((ta.length : Int) ≤ room - 2 - 1) = true := decide_eq_true hok
    have HOK := hidq hok
    rw [hd] at IH
    have hlt : (S.length : Int) < room := by omega
    have JH := hidq (JH hlt)
    have hw3 := wrap64 (x := room - S.length) (by omega) (by omega)
    have hw4 := wrap64 (x := room - S.length - 2) (by omega) (by omega)
    have hz1 : ¬ 9223372036854775807 < (⟨#[87, 40]⟩ : ByteArray).size + (M.str ta).size := by rw [M.str_size, show (⟨#[87, 40]⟩ : ByteArray).size = 2 from rfl]; omega
    have hz2 : ¬ 9223372036854775807 < 2 + (M.str ta).size := by rw [M.str_size]; omega
    have hsz := M.str_size S
    by_cases hok2 : ((td.length : Int) ≤ room - S.length - 2)
    · have e1 : decide ((T.length : Int) ≤ room) = true := by rw [decide_eq_true_eq]; omega
      rw [e1]
      have hd2 : decide ((td.length : Int) ≤ room - S.length - 2) = true := decide_eq_true hok2
      have HOK2 := hidq hok2
      rw [hd2] at JH
      obtain ⟨S2, hS2⟩ : ∃ S2, S ++ [44] = S2 := ⟨_, rfl⟩
      obtain ⟨S3, hS3⟩ : ∃ S3, S2 ++ td = S3 := ⟨_, rfl⟩
      have l2 : S2.length = S.length + 1 := by rw [← hS2]; simp
      have l3 : S3.length = S2.length + td.length := by rw [← hS3]; simp
      have hadd2 : M.str S ++ (⟨#[44]⟩ : ByteArray) = M.str S2 := by rw [← hS2]; exact M.str_append S [44]
      have hadd3 : M.str S2 ++ M.str td = M.str S3 := by rw [← hS3]; exact M.str_append S2 td
      have hadd4 : M.str S3 ++ (⟨#[41]⟩ : ByteArray) = M.str T := by rw [hT, hS, ← hS3, ← hS2]; rw [show S ++ 44 :: td ++ [41] = (S ++ [44] ++ td) ++ [41] by simp]; exact M.str_append _ [41]
      have hz3 : ¬ 9223372036854775807 < (M.str S).size + (⟨#[44]⟩ : ByteArray).size := by rw [M.str_size, show (⟨#[44]⟩ : ByteArray).size = 1 from rfl]; omega
      have hz4 : ¬ 9223372036854775807 < S.length + 1 := by omega
      have hz5 : ¬ 9223372036854775807 < (M.str S2).size + (M.str td).size := by rw [M.str_size, M.str_size]; omega
      have hz6 : ¬ 9223372036854775807 < S3.length + 1 := by omega
      have hsz3 := M.str_size S3
      have hlt3 : (S3.length : Int) < room := by omega
      clear hS hT hSl hlen hok hok2 hS2 hS3 l2 l3 hlt
      go_enter Tryd.func35, Tryd.ntmps35
      go_wp2_with (first | (go_at_call 35; clear T1; refine (IH.out _ (U.out _ (below_one (below_one (Below.refl _ _))))).mono ?_; rintro r w1 ⟨s1, rfl, hs1, hb1⟩; obtain rfl := hs1 HOK.out; have X1 := (XW.out _).below hb1; have c1 := X1.cells; have B1 := hidq (below_trans (below_one (below_one (Below.refl _ _))) hb1); clear hb1) | (go_at_call 35; refine (JH.out _ (U.out _ B1.out)).mono ?_; rintro r w2 ⟨s2, rfl, hs2, hb2⟩; obtain rfl := hs2 HOK2.out; have X2 := X1.below hb2; have c2 := X2.cells; have B2 := hidq (below_trans B1.out hb2); clear hb2))
      go_ret2
      exact ⟨_, rfl, fun _ => rfl, B2.out⟩
    · have e1 : decide ((T.length : Int) ≤ room) = false := by rw [decide_eq_false_iff_not]; omega
      rw [e1]
      have hd2 : decide ((td.length : Int) ≤ room - S.length - 2) = false := decide_eq_false hok2
      rw [hd2] at JH
      have HN := hidq (show ¬ (T.length : Int) ≤ room by omega)
      clear hS hT hSl hlen hok hok2 hlt
      go_enter Tryd.func35, Tryd.ntmps35
      go_wp2_with (first | (go_at_call 35; clear T1; refine (IH.out _ (U.out _ (below_one (below_one (Below.refl _ _))))).mono ?_; rintro r w1 ⟨s1, rfl, hs1, hb1⟩; obtain rfl := hs1 HOK.out; have X1 := (XW.out _).below hb1; have c1 := X1.cells; have B1 := hidq (below_trans (below_one (below_one (Below.refl _ _))) hb1); clear hb1) | (go_at_call 35; refine (JH.out _ (U.out _ B1.out)).mono ?_; rintro r w2 ⟨s2, rfl, hs2, hb2⟩;  have X2 := X1.below hb2; have c2 := X2.cells; have B2 := hidq (below_trans B1.out hb2); clear hb2))
      go_ret2
      exact ⟨_, rfl, fun h => by have := HN.out; omega, B2.out⟩
  · have e1 : decide ((T.length : Int) ≤ room) = false := by rw [decide_eq_false_iff_not]; omega
    rw [e1]
    have hd : decide ((ta.length : Int) ≤ room - 2 - 1) = false := decide_eq_false hok
    rw [hd] at IH
    have HN := hidq (show ¬ (T.length : Int) ≤ room by omega)
    clear hT hlen hok JH
    go_enter Tryd.func35, Tryd.ntmps35
    go_wp2_with (first | (go_at_call 35; clear T1; refine (IH.out _ (U.out _ (below_one (below_one (Below.refl _ _))))).mono ?_; rintro r w1 ⟨s1, rfl, hs1, hb1⟩;  have X1 := (XW.out _).below hb1; have c1 := X1.cells; have B1 := hidq (below_trans (below_one (below_one (Below.refl _ _))) hb1); clear hb1))
    go_ret2
    exact ⟨_, rfl, fun h => by have := HN.out; omega, B1.out⟩
/-- whatever the term -/
theorem rtext_any (A : List M.Tm) (hA : M.Ok A) (n b off cap : Nat) : ∀ (m i : Nat), i < m → i < A.length → ∀ (room : Int) (w : World), -(4 * (65536 - (i : Int))) ≤ room → room ≤ 65536 → Ts w (.slice (some ⟨b, off, none⟩) n cap) A → TxtC A (.slice (some ⟨b, off, none⟩) n cap) i room w := by
  intro m
  induction m with
  | zero => intro i h; omega
  | succ m ih =>
    intro i him hi room w r0 r1 u
    have hl := hA.1
    have hm := (hA.2 i hi).1
    have hf := u.form
    obtain ⟨ao, cap', e, q1, q2, _⟩ := hf
    simp only [Value.slice.injEq] at e
    obtain ⟨_, e2, e3⟩ := e
    obtain ⟨x1, x2, x3⟩ := Ts.cell u hi
    rcases M.may_kind hm with ⟨k1, k2, k3, k4⟩ | ⟨k1, k2, k3, k4⟩ | ⟨k1, k2, k3, k4, k5⟩
    · exact rtext_atom A hA i hi k1 room _ w u
    · obtain ⟨a, ha⟩ : ∃ a : Nat, (M.at_ A i).2.1 = a := ⟨(M.at_ A i).2.1.toNat, by omega⟩
      have ht := M.txt_one hm (by omega) (by omega)
      rw [ha, Int.toNat_natCast] at ht
      rw [ha] at x2 k3
      unfold TxtC
      rcases k1 with k1 | k1 | k1
      · rw [k1] at x1 ht
        exact rtext_one A 2 a i _ 76 40 (.inl ⟨rfl, rfl, rfl⟩) n b off cap room (by omega) r1 w (by omega) (by omega) x1 x2 x3 u (fun w u => ih a (by omega) (by omega) _ w (by omega) (by omega) u) _ ht
      · rw [k1] at x1 ht
        exact rtext_one A 3 a i _ 82 40 (.inr (.inl ⟨rfl, rfl, rfl⟩)) n b off cap room (by omega) r1 w (by omega) (by omega) x1 x2 x3 u (fun w u => ih a (by omega) (by omega) _ w (by omega) (by omega) u) _ ht
      · rw [k1] at x1 ht
        exact rtext_one A 4 a i _ 75 40 (.inr (.inr ⟨rfl, rfl, rfl⟩)) n b off cap room (by omega) r1 w (by omega) (by omega) x1 x2 x3 u (fun w u => ih a (by omega) (by omega) _ w (by omega) (by omega) u) _ ht
    · obtain ⟨a, ha⟩ : ∃ a : Nat, (M.at_ A i).2.1 = a := ⟨(M.at_ A i).2.1.toNat, by omega⟩
      obtain ⟨d, hd⟩ : ∃ d : Nat, (M.at_ A i).2.2 = d := ⟨(M.at_ A i).2.2.toNat, by omega⟩
      have ht := M.txt_two hm k1
      rw [ha, hd, Int.toNat_natCast, Int.toNat_natCast] at ht
      rw [ha] at x2 k3
      rw [hd] at x3 k5
      rw [k1] at x1
      unfold TxtC
      exact rtext_two A a d i n b off cap room (by omega) r1 w (by omega) (by omega) x1 x2 x3 u (fun w u => ih a (by omega) (by omega) _ w (by omega) (by omega) u) (fun q _ hq2 w u => ih d (by omega) (by omega) _ w (by omega) (by omega) u) _ ht
/-- Text -/
def M.textE (A : List M.Tm) (i : Int) : Int := if M.thr A i = true then (if (M.txt A i.toNat).length ≤ 65536 then 0 else 3) else 1
def M.textV (A : List M.Tm) (i : Int) : List UInt8 := if M.textE A i = 0 then M.txt A i.toNat else []
theorem M.thr_iff {A : List M.Tm} {i : Int} : M.thr A i = true ↔ M.Ok A ∧ 0 ≤ i ∧ i < A.length := by
  unfold M.thr; rw [Bool.and_eq_true, decide_eq_true_eq, M.ahd_iff]
set_option maxRecDepth 100000 in
set_option maxHeartbeats 4000000 in
theorem rText_any (A : List M.Tm) (i : Int) (v : Value) (w : World) (u : Ts w v A) :
    Calls Tryd.prog 18 #[v, .int .i64 i] w fun e w' => e = .returned (.tuple #[.string (M.str (M.textV A i)), .int .i64 (M.textE A i)]) ∧ Below w.heap.size w w' := by
  by_cases ht : M.thr A i = true
  · obtain ⟨hA, h0, h1⟩ := M.thr_iff.1 ht
    obtain ⟨k, rfl⟩ : ∃ k : Nat, i = k := ⟨i.toNat, by omega⟩
    have HT := hidq ht
    obtain ⟨ao, cap, rfl, q1, q2, q4⟩ := u.form
    obtain ⟨b, off, rfl⟩ := q4 (by omega)
    have U := hidq (fun X (hb : Below w.heap.size w X) => u.below hb)
    have TX := hidq (fun X (hb : Below w.heap.size w X) => rtext_any A hA A.length b off cap (k + 1) k (by omega) (by omega) 65536 X (by have := hA.1; omega) (by omega) (u.below hb))
    unfold TxtC at TX
    have hte : M.textE A k = if (M.txt A k).length ≤ 65536 then 0 else 3 := by unfold M.textE; rw [if_pos ht, Int.toNat_natCast]
    by_cases hl : (M.txt A k).length ≤ 65536
    · rw [if_pos hl] at hte
      have htv : M.textV A k = M.txt A k := by unfold M.textV; rw [if_pos hte, Int.toNat_natCast]
      rw [hte, htv]
      have hd : decide (((M.txt A k).length : Int) ≤ 65536) = true := decide_eq_true (by omega)
      have HL := hidq (show ((M.txt A k).length : Int) ≤ 65536 by omega)
      rw [hd] at TX
      clear u hte htv ht hA hl h1
      generalize A.length = n at *
      generalize M.txt A k = T at *
      go_enter Tryd.func18, Tryd.ntmps18
      go_wp2_with (first | (go_at_call 34; refine (rthere_eq HT.out _ (U.out _ (Below.refl _ _))).mono ?_; rintro r w1 ⟨rfl, hb1⟩; have B1 := hidq hb1; clear hb1) | (go_at_call 35; refine (TX.out _ B1.out).mono ?_; rintro r w2 ⟨s2, rfl, hs2, hb2⟩; obtain rfl := hs2 HL.out; have B2 := hidq (below_trans B1.out hb2); clear hb2))
      go_ret2
      exact ⟨rfl, B2.out⟩
    · rw [if_neg hl] at hte
      have htv : M.textV A k = [] := by unfold M.textV; rw [if_neg (by omega)]
      rw [hte, htv]
      have hd : decide (((M.txt A k).length : Int) ≤ 65536) = false := decide_eq_false (by omega)
      rw [hd] at TX
      clear u hte htv ht hA hl h1
      generalize A.length = n at *
      go_enter Tryd.func18, Tryd.ntmps18
      go_wp2_with (first | (go_at_call 34; refine (rthere_eq HT.out _ (U.out _ (Below.refl _ _))).mono ?_; rintro r w1 ⟨rfl, hb1⟩; have B1 := hidq hb1; clear hb1) | (go_at_call 35; refine (TX.out _ B1.out).mono ?_; rintro r w2 ⟨s2, rfl, hs2, hb2⟩; have B2 := hidq (below_trans B1.out hb2); clear hb2))
      go_ret2
      exact ⟨rfl, B2.out⟩
  · have hte : M.textE A i = 1 := by unfold M.textE; rw [if_neg ht]
    have htv : M.textV A i = [] := by unfold M.textV; rw [if_neg (by omega)]
    rw [hte, htv]
    have HT := hidq (show M.thr A i = false by simpa using ht)
    have U := hidq u
    clear u ht hte htv
    go_enter Tryd.func18, Tryd.ntmps18
    go_wp2_with (first | (go_at_call 34; refine (rthere_eq HT.out _ U.out).mono ?_; rintro r w1 ⟨rfl, hb1⟩; have B1 := hidq hb1; clear hb1))
    go_ret2
    exact ⟨rfl, B1.out⟩
end Go.Proofs.YtkggcfkjmmijbaaDoor
