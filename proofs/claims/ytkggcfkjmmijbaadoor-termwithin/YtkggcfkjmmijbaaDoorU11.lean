/-
  What the program's Text comes to at every input. Conditions: the slice holds terms; the two tables read as their texts lay them.
-/
import Derived.Test.YtkggcfkjmmijbaaDoorU10
import Derived.Laws.IdiomStrings
namespace Go.Proofs.YtkggcfkjmmijbaaDoor
open Go.RowKit
theorem conv_own {W : World} {B : Nat} {v : Value} {L : List UInt8} (h : W.ownsRow B 5 1 v L.length (Lib.byteCells L)) (h0 : 0 < L.length) : (convert 54 9 v).run Tryd.prog W = .ok (.string (M.str L)) W := by
  rcases h.2 with ⟨_, h2⟩ | ⟨g, cap, cur, rfl, _⟩
  · omega
  · refine run_convert_bytes_back W _ _ 5 ⟨g, 0, none⟩ cap L Tryd.underlying54 Tryd.underlying5 Tryd.underlying9 ?_
    intro j hj
    rw [Addr.add_lit, Nat.zero_add, h.cellAt j (by omega)]
    unfold Lib.byteCells
    rw [List.getElem?_map, List.getElem?_eq_getElem hj]
    rfl
theorem txt_pos {A : List M.Tm} (hA : M.Ok A) {i : Nat} (hi : i < A.length) : 0 < (M.txt A i).length := by
  have hm := (hA.2 i hi).1
  rcases M.may_kind hm with ⟨k1, _⟩ | ⟨k1, _⟩ | ⟨k1, _⟩
  · rw [M.txt_atom hm k1]; simp
  · rw [M.txt_one hm (by omega) (by omega)]; simp; omega
  · rw [M.txt_two hm k1]; simp
set_option maxRecDepth 100000 in
set_option maxHeartbeats 4000000 in
theorem text_any (A : List M.Tm) (i : Int) (v : Value) (w : World) (hT : Tab w) (u : Ts w v A) :
    Calls Tryd.prog 17 #[v, .int .i64 i] w fun e w' => e = .returned (.tuple #[.string (M.str (M.textV A i)), .int .i64 (M.textE A i)]) ∧ Below w.heap.size w w' := by
  have U0 := hidq u
  have EN := hidq (show Env A v w.heap.size w from fun X hb => ⟨hT.below hb, u.below hb⟩)
  by_cases ht : M.thr A i = true
  · obtain ⟨hA, h0, h1⟩ := M.thr_iff.1 ht
    obtain ⟨m, rfl⟩ : ∃ m : Nat, i = m := ⟨i.toNat, by omega⟩
    have HE : Hid (M.deepE A m = 0) := if_pos ht
    have hp := txt_pos hA (i := m) (by omega)
    obtain ⟨ao, cap, rfl, q1, q2, q4⟩ := u.form
    obtain ⟨b, off, rfl⟩ := q4 (by omega)
    have AC := hidq (app_any A hA b off cap w.heap.size (m + 1) m (by omega) (by omega))
    by_cases hl : (M.txt A m).length ≤ 65536
    · have e1 : M.textE A m = 0 := by unfold M.textE; rw [if_pos ht, Int.toNat_natCast, if_pos hl]
      have e2 : M.textV A m = M.txt A m := by unfold M.textV; rw [if_pos e1, Int.toNat_natCast]
      rw [e1, e2]
      unfold AppC AppQ at AC
      obtain ⟨T, hTT⟩ : ∃ T, M.txt A m = T := ⟨_, rfl⟩
      rw [hTT] at AC hl hp ⊢
      have HL := hidq hl
      have HP := hidq hp
      have hli : ¬ (65536 : Int) < T.length := by omega
      clear u hT ht hA h0 h1 q4 e1 e2 hTT hl hp
      go_enter Tryd.func17, Tryd.ntmps17
      go_wp2_with (first | (go_at_call 32; refine (checkPlace_eq HE.out _ U0.out).mono ?_; rintro r w1 ⟨rfl, hb1⟩; have B1 := hidq hb1; have S1 := hidq hb1.size; have E1 := hidq (EN.out.on hb1); clear hb1) | (go_at_call 33; refine (AC.out [] _ _ (World.ownsRow_nil _ _ _ _) S1.out (by simp) E1.out).mono ?_; rintro r w2 ⟨v2, ys, rfl, ho2, hr2, hb2, _⟩; obtain rfl : ys = T := (by have := hr2.2.1 (by simpa using HL.out); simpa using this); have hcv := conv_own ho2 HP.out; obtain ⟨ao2, cap2, rfl, hs2⟩ := own_formq ho2; have B2 := hidq (B1.out.trans hb2); clear ho2 hr2 hb2 hs2))
      go_ret2
      exact ⟨rfl, B2.out⟩
    · have e1 : M.textE A m = 3 := by unfold M.textE; rw [if_pos ht, Int.toNat_natCast, if_neg hl]
      have e2 : M.textV A m = [] := by unfold M.textV; rw [if_neg (by rw [e1]; decide)]
      rw [e1, e2]
      unfold AppC AppQ at AC
      have HL := hidq (show 65536 < ([] : List UInt8).length + (M.txt A m).length by simp; omega)
      clear u hT ht hA h0 h1 q4 e1 e2 hl hp
      have hst : M.str [] = ⟨#[]⟩ := rfl
      rw [hst]
      go_enter Tryd.func17, Tryd.ntmps17
      go_wp2_with (first | (go_at_call 32; refine (checkPlace_eq HE.out _ U0.out).mono ?_; rintro r w1 ⟨rfl, hb1⟩; have B1 := hidq hb1; have S1 := hidq hb1.size; have E1 := hidq (EN.out.on hb1); clear hb1) | (go_at_call 33; refine (AC.out [] _ _ (World.ownsRow_nil _ _ _ _) S1.out (by simp) E1.out).mono ?_; rintro r w2 ⟨v2, ys, rfl, ho2, hr2, hb2, _⟩; have hy : (65536 : Int) < ys.length := (by have := hr2.2.2.1 HL.out; omega); obtain ⟨ao2, cap2, rfl, hs2⟩ := own_formq ho2; have B2 := hidq (B1.out.trans hb2); clear ho2 hr2 hb2 hs2))
      go_ret2
      exact ⟨rfl, B2.out⟩
  · have e1 : M.textE A i = 1 := by unfold M.textE; rw [if_neg ht]
    have e2 : M.textV A i = [] := by unfold M.textV; rw [if_neg (by rw [e1]; decide)]
    have HE : Hid (M.deepE A i = 1) := if_neg ht
    rw [e1, e2]
    clear u hT ht e1 e2
    have hst : M.str [] = ⟨#[]⟩ := rfl
    rw [hst]
    go_enter Tryd.func17, Tryd.ntmps17
    go_wp2_with (first | (go_at_call 32; refine (checkPlace_eq HE.out _ U0.out).mono ?_; rintro r w1 ⟨rfl, hb1⟩; have B1 := hidq hb1; have S1 := hidq hb1.size; have E1 := hidq (EN.out.on hb1); clear hb1))
    go_ret2
    exact ⟨rfl, B1.out⟩
theorem text_eq {A : List M.Tm} {i n : Int} {T : List UInt8} (h : M.textV A i = T) (hn : M.textE A i = n) {v : Value} (w : World) (hT : Tab w) (u : Ts w v A) :
    Calls Tryd.prog 17 #[v, .int .i64 i] w fun e w' => e = .returned (.tuple #[.string (M.str T), .int .i64 n]) ∧ Below w.heap.size w w' := by subst h; subst hn; exact text_any A i v w hT u
end Go.Proofs.YtkggcfkjmmijbaaDoor
