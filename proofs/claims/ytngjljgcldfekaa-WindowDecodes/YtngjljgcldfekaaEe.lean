/-
  The document's Encode.
-/
import Derived.Test.YtngjljgcldfekaaEc
namespace Go.Proofs.Ytngjljgcldfekaa
open Go.RowKit
set_option linter.unusedVariables false
/-- Bytes that were laid since w0. -/
def Bst (w0 w : World) (v : Value) (l : List UInt8) : Prop := Owns 5 w v l ∧ Fresh w0 v ∧ Kept [] w0 w
section
variable {w0 w : World} {p q : Nat} {l : List UInt8} {v : Value} {qs : List Cq}
theorem Bst.form (h : Bst w0 w v l) : ∃ a n c, v = .slice a n c := by
  rcases h.1.2 with ⟨rfl, _⟩ | ⟨g, cap, cur, rfl, _⟩
  · exact ⟨_, _, _, rfl⟩
  · exact ⟨_, _, _, rfl⟩
theorem bst_num (h : Bst w0 w v l) {n : Nat} (hn : U64 n) (hb : l.length ≤ 100000) : Calls Try.prog 36 #[v, Uv n] w fun e w' => ∃ v', e = .returned v' ∧ Bst w0 w' v' (l ++ enc n) := by
  obtain ⟨h1, h2, h3⟩ := h
  refine (refnum_any v l n w h1 hn (by omega)).mono ?_
  rintro e w' ⟨v', rfl, i1, i2, i3⟩
  refine ⟨v', rfl, i1, fun g hg => ?_, h3.trans i2 (fun x hx => by rw [Option.mem_toList] at hx; exact .inr (h2 x hx))⟩
  rcases i3 g hg with h | h
  · exact h2 g h
  · have := h3.size; omega
set_option maxRecDepth 100000 in
set_option maxHeartbeats 2000000 in
theorem rencode20 (hB : IsF w p v qs) (hg : Good (mx qs)) : Calls Try.prog 20 #[.pointer (some ⟨p, 0, none⟩)] w fun e w' => NewB w (encW (mx qs)) e w' := by
  obtain ⟨av, cv, rfl, hv1, hv2⟩ := hB.row.form
  have HB := Hid.mk hB
  have HG := Hid.mk hg
  have hl64 : qs.length ≤ 64 := by have := hg.len; rwa [mx, List.length_map] at this
  have hc := cell_of_one hB.box
  clear hB hg
  generalize hn : qs.length = n at *
  have HN := Hid.mk hn
  have he := enc_length n
  clear hn
  have H0 := Hid.mk (bst_num (w0 := w) (w := w) (v := .slice none 0 0) (l := []) ⟨Owns.nil 5 w, fun g hg => by simp [Value.ownBlock] at hg, Kept.refl [] w⟩ (n := n) (by unfold U64; omega) (by simp))
  go_enter Try.func20, Try.ntmps20
  go_wp2_with fail
  refine H0.out.mono ?_
  rintro e w1 ⟨v1, rfl, h1⟩
  rw [List.nil_append] at h1
  have hc1 := h1.2.2.cell_eq hc
  have H1 := Hid.mk h1
  clear h1 hc
  go_wp2_with fail
  go_loopw [3, 18] (fun u i wr => ∃ j : Nat, i = .int .i64 (j : Int) ∧ j ≤ n ∧ Hid (Bst w wr u (enc n ++ (mx (qs.take j)).flatMap encC))) (fun _ i _ => n - (intOf i).toNat)
  case atStart => exact ⟨0, rfl, by omega, Hid.mk (by simpa [mx] using H1.out)⟩
  case round =>
    clear hc1
    obtain ⟨j, rfl, hj, hH⟩ := hrel
    by_cases hlt : j < n
    · have hjI : (j : Int) < (n : Int) := by omega
      obtain ⟨y, hy⟩ : ∃ y, qs[j]? = some y := ⟨_, List.getElem?_eq_getElem (by have := HN.out; omega)⟩
      have hyL : (mx qs)[j]? = some y.x := by rw [mx, List.getElem?_map, hy]; rfl
      have hym := List.mem_of_getElem? hyL
      have hyn := HG.out.num y.x hym
      have hy4 := HG.out.four y.x hym
      obtain ⟨b, o, rfl, -, -⟩ := HB.out.row.at hy
      have HS : Hid (∀ W, Kept [] w W → W.cell? ⟨p, 0, none⟩ = some (.slice (some ⟨b, o, none⟩) n cv) ∧ W.cell? ⟨b, o + j * 2, none⟩ = some (Uv y.x.c) ∧ W.cell? ⟨b, o + j * 2 + 1, none⟩ = some y.sl ∧ ReadsU W y.sl y.x.s) := fun W k => by
        have hB' := HB.out.kept0 k
        obtain ⟨b', o', e, d0, d1⟩ := hB'.row.at hy
        injection e with e
        injection e with e1 e2 _
        subst e1 e2
        exact ⟨cell_of_one hB'.box, d0, d1, hB'.vals y (List.mem_of_getElem? hy)⟩
      have hls := encA_length (L := mx (qs.take j)) (fun z hz => HG.out.four z (by obtain ⟨z', hz', rfl⟩ := List.mem_map.1 hz; exact List.mem_map.2 ⟨z', List.mem_of_mem_take hz', rfl⟩))
      rw [mx, List.length_map, List.length_take] at hls
      change ((mx (qs.take j)).flatMap encC).length ≤ _ at hls
      have hls' : (enc n ++ (mx (qs.take j)).flatMap encC).length ≤ 4000 := by rw [List.length_append]; omega
      have HF : Hid (enc n ++ (mx (qs.take (j + 1))).flatMap encC = enc n ++ (mx (qs.take j)).flatMap encC ++ encC y.x) := by
        show _ = _
        rw [List.take_add_one, hy]; simp [mx]
      generalize enc n ++ (mx (qs.take j)).flatMap encC = l0 at *
      have e1 := enc_length y.x.c
      have e2 := enc_length y.x.s.length
      obtain ⟨s0, s1, s2, s3⟩ := HS.out _ hH.out.2.2
      have HA := Hid.mk (bst_num hH.out hyn.1 (by omega))
      have HYN := Hid.mk hyn.2
      have hsl := s3.bound
      clear hls hy hyL hym hyn hH s3 hsl
      obtain ⟨yx, ya, yc⟩ := y
      obtain ⟨yc0, ys⟩ := yx
      dsimp only at *
      have hy0 : (0 : Int) ≤ (ys.length : Int) := by omega
      go_wp2_with fail
      refine HA.out.mono ?_
      rintro e w4 ⟨v4, rfl, h4⟩
      clear s0 s1 s2
      obtain ⟨s0, s1, s2, s3⟩ := HS.out _ h4.2.2
      have HA4 := Hid.mk (bst_num h4 (n := ys.length) (by unfold U64; omega) (by rw [List.length_append]; omega))
      clear s3 h4
      go_wp2_with fail
      refine HA4.out.mono ?_
      rintro e w5 ⟨v5, rfl, h5⟩
      clear s0 s1 s2
      obtain ⟨s0, s1, s2, s3⟩ := HS.out _ h5.2.2
      have H5 := Hid.mk h5
      clear s3 h5
      go_wp2_with fail
      clear s0 s1 s2
      go_loopw [3, 52] (fun u i wr => ∃ k : Nat, i = .int .i64 (k : Int) ∧ k ≤ ys.length ∧ Hid (Bst w wr u (l0 ++ enc yc0 ++ enc ys.length ++ encS (ys.take k)))) (fun _ i _ => ys.length - (intOf i).toNat)
      case atStart => exact ⟨0, rfl, by omega, Hid.mk (by simpa [encS] using H5.out)⟩
      case round =>
        obtain ⟨k, rfl, hk, hK⟩ := hrel
        by_cases hlk : k < ys.length
        · have hkI : (k : Int) < (ys.length : Int) := by omega
          obtain ⟨m, hm⟩ : ∃ m, ys[k]? = some m := ⟨_, List.getElem?_eq_getElem hlk⟩
          obtain ⟨s0, s1, s2, s3⟩ := HS.out _ hK.out.2.2
          obtain ⟨hs3a, hs3b, hs3c⟩ := s3.bound
          obtain ⟨b', o', rfl, d0⟩ := s3.at hm
          have s4 : wr.cell? ⟨b, o + j * 2 + 1, none⟩ = some (.slice (some ⟨b', o', none⟩) ys.length yc) := s2
          clear s2
          have hlS := encS_length (ys.take k)
          rw [List.length_take] at hlS
          have HA6 := bst_num hK.out (n := m) (HYN.out m (List.mem_of_getElem? hm)) (by simp only [List.length_append]; omega)
          rw [show l0 ++ enc yc0 ++ enc ys.length ++ encS (ys.take k) ++ enc m = l0 ++ enc yc0 ++ enc ys.length ++ encS (ys.take (k + 1)) by rw [List.take_add_one, hm]; simp [encS]] at HA6
          have HA6 := Hid.mk HA6
          clear s3 hK hlS hm hs3a
          go_wp2_with fail
          refine HA6.out.mono ?_
          rintro e w6 ⟨v6, rfl, h6⟩
          have H6 := Hid.mk h6
          clear h6 s0 s1 s4 d0
          go_wp2_with fail
          go_roundw
          case rel => exact ⟨k + 1, by go_num, by omega, H6⟩
          case measure => simp [intOf]; omega
        · obtain rfl : k = ys.length := by omega
          have hKK := hK.out
          rw [List.take_length] at hKK
          have HR : Hid (Bst w wr u3 (enc n ++ (mx (qs.take (j + 1))).flatMap encC)) := by
            rw [HF.out]
            unfold encC
            rw [← List.append_assoc, ← List.append_assoc]
            exact hKK
          clear hK hKK
          go_wp2_with fail
          go_roundw
          case rel => exact ⟨j + 1, by go_num, by omega, HR⟩
          case measure => simp [intOf]; omega
    · obtain rfl : j = n := by omega
      have hW := hH.out
      rw [List.take_of_length_le (by rw [HN.out]; exact Nat.le_refl _)] at hW
      go_wp2_with fail
      go_ret
      exact ⟨_, rfl, by unfold encW; rw [mx, List.length_map, HN.out]; exact hW.1, hW.2.2, hW.2.1⟩
end
end Go.Proofs.Ytngjljgcldfekaa
