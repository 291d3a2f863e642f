/-
  Encode of a window, and the document's.
-/
import Derived.Test.YtngjljgcldfekaaDp
import Derived.Test.YtngjljgcldfekaaSy
import Derived.Test.YtngjljgcldfekaaWBytes
import Derived.Test.YtngjljgcldfekaaAwake
import Derived.Test.YtngjljgcldfekaaRef
namespace Go.Proofs.Ytngjljgcldfekaa
open Go.RowKit
set_option linter.unusedVariables false
/-- A Writer that was made since w0. -/
def Wst (w0 w : World) (q : Nat) (l : List UInt8) : Prop := ∃ v, IsW 79 5 w q v l ∧ w0.heap.size ≤ q ∧ Fresh w0 v ∧ Kept [] w0 w
theorem Wst.kept {w0 w : World} {q : Nat} {l : List UInt8} (h : Wst w0 w q l) : Kept [] w0 w := by
  obtain ⟨v, -, -, -, k⟩ := h
  exact k
theorem Wst.kept0 {w0 w w' : World} {q : Nat} {l : List UInt8} (h : Wst w0 w q l) (k : Kept [] w w') : Wst w0 w' q l := by
  obtain ⟨v, h1, h2, h3, h4⟩ := h
  exact ⟨v, h1.kept k (by simp) (by simp), h2, h3, h4.trans k (by simp)⟩
section
variable {w0 w : World} {p q : Nat} {l : List UInt8} {L : List Cl}
theorem wst_num (h : Wst w0 w q l) {n : Nat} (hn : U64 n) (hb : l.length ≤ 100000) : Calls Try.prog 33 #[.pointer (some ⟨q, 0, none⟩), Uv n] w fun e w' => e = .returned (.tuple #[]) ∧ Wst w0 w' q (l ++ enc n) := by
  obtain ⟨v, h1, h2, h3, h4⟩ := h
  refine (wnum_any q v l n w h1 hn (by omega)).mono ?_
  rintro e w' ⟨rfl, v', i1, i2, i3⟩
  refine ⟨rfl, v', i1, h2, fun g hg => ?_, h4.trans i2 (fun x hx => ?_)⟩
  · rcases i3 g hg with h | h
    · exact h3 g h
    · have := h4.size; omega
  · rcases mem_foot.1 hx with rfl | h
    · exact .inr h2
    · exact .inr (h3 x h)
theorem wst_new (k : Kept [] w0 w) : Calls Try.prog 32 #[] w fun e w' => ∃ q, e = .returned (.pointer (some ⟨q, 0, none⟩)) ∧ Wst w0 w' q [] := by
  refine (new_w w).mono fun e w' ⟨he, hw⟩ => ?_
  subst hw
  exact ⟨_, he, _, new_isW w, k.size, (fun g hg => by simp [Value.ownBlock] at hg), k.alloc _⟩
set_option maxRecDepth 100000 in
set_option maxHeartbeats 1000000 in
theorem write34 {o : Nat} {x : Cl} (hr : RecAt w0 p o x) (h4 : x.s.length ≤ 4) (hu : U64 x.c ∧ ∀ n ∈ x.s, U64 n) (h : Wst w0 w q l) (hb : l.length ≤ 10000) : Calls Try.prog 34 #[.pointer (some ⟨p, o, none⟩), .pointer (some ⟨q, 0, none⟩)] w fun e w' => e = .returned (.tuple #[]) ∧ Wst w0 w' q (l ++ encC x) := by
  have e1 := enc_length x.c
  have e2 := enc_length x.s.length
  have HR := Hid.mk hr
  have HW := Hid.mk h
  have HU := Hid.mk hu
  have hc := (hr.kept0 h.kept).client
  clear hr h hu
  go_enter Try.func34, Try.ntmps34
  go_wp2_with fail
  refine (wst_num HW.out HU.out.1 (by omega)).mono ?_
  rintro e w1 ⟨rfl, h1⟩
  have hc1 := (HR.out.kept0 h1.kept).count h4
  have H1 := Hid.mk (wst_num h1 (n := x.s.length) (by unfold U64; omega) (by simp; omega))
  have h0 : (0 : Int) ≤ (x.s.length : Int) := by omega
  have h44 : (x.s.length : Int) ≤ 4 := by omega
  clear h1 hc
  go_wp2_with fail
  refine H1.out.mono ?_
  rintro e w2 ⟨rfl, h2⟩
  clear hc1
  go_wp2_with fail
  refine (all30 (HR.out.kept0 h2.kept) h4).mono ?_
  rintro e w3 ⟨rfl, k3⟩
  have h3 := h2.kept0 k3
  have hlen : (l ++ enc x.c ++ enc x.s.length).length ≤ 10018 := by simp; omega
  clear h2 k3
  go_wp2_with fail
  go_loopw [22] (fun i wr => ∃ j : Nat, i = .int .i64 (j : Int) ∧ j ≤ x.s.length ∧ Hid (Wst w0 wr q (l ++ enc x.c ++ enc x.s.length ++ encS (x.s.take j)))) (fun i _ => x.s.length - (intOf i).toNat)
  case atStart => exact ⟨0, rfl, by omega, Hid.mk (by simpa [encS] using h3)⟩
  case round =>
    clear h3
    obtain ⟨j, rfl, hj, hH⟩ := hrel
    by_cases hlt : j < x.s.length
    · have hjI : (j : Int) < (x.s.length : Int) := by omega
      obtain ⟨n, hn⟩ : ∃ n, x.s[j]? = some n := ⟨_, List.getElem?_eq_getElem hlt⟩
      obtain ⟨b', o', e, d0⟩ := ((HR.out.kept0 hH.out.kept).row h4).at hn
      injection e with e
      injection e with eb eo _
      subst eb eo
      have hls := encS_length (x.s.take j)
      rw [List.length_take] at hls
      have HA := wst_num hH.out (n := n) (HU.out.2 n (List.mem_of_getElem? hn)) (by rw [List.length_append]; omega)
      rw [show l ++ enc x.c ++ enc x.s.length ++ encS (x.s.take j) ++ enc n = l ++ enc x.c ++ enc x.s.length ++ encS (x.s.take (j + 1)) by rw [List.take_add_one, hn]; simp [encS]] at HA
      have HA := Hid.mk HA
      clear hH hls hn
      go_wp2_with fail
      refine HA.out.mono ?_
      rintro e w4 ⟨rfl, h5⟩
      have H5 := Hid.mk h5
      clear h5 d0
      go_wp2_with fail
      go_roundw
      case rel => exact ⟨j + 1, by go_num, by omega, H5⟩
      case measure => simp [intOf]; omega
    · obtain rfl : j = x.s.length := by omega
      go_wp2_with fail
      go_end0
      refine ⟨rfl, ?_⟩
      have := hH.out
      rw [List.take_length] at this
      unfold encC
      rw [← List.append_assoc, ← List.append_assoc]
      exact this
/-- Bytes in new memory. -/
def NewB (w : World) (l : List UInt8) (e : Ending) (w' : World) : Prop := ∃ v, e = .returned v ∧ Owns 5 w' v l ∧ Kept [] w w' ∧ Fresh w v
set_option maxRecDepth 100000 in
set_option maxHeartbeats 1000000 in
theorem encode19 (hB : IsWd w p L) (hg : Good L) : Calls Try.prog 19 #[.pointer (some ⟨p, 0, none⟩)] w fun e w' => NewB w (encW L) e w' := by
  have HB := Hid.mk hB
  have HG := Hid.mk hg
  have hl64 := hg.len
  have hc := hB.count
  clear hB hg
  generalize hn : L.length = n at *
  have HN := Hid.mk hn
  have he := enc_length n
  clear hn
  go_enter Try.func19, Try.ntmps19
  go_wp2_with fail
  refine (wst_new (Kept.refl [] w)).mono ?_
  rintro e w1 ⟨q, rfl, h1⟩
  have hc1 := h1.kept.cell_eq hc
  have H1 := Hid.mk (wst_num h1 (n := n) (by unfold U64; omega) (by simp))
  clear h1 hc
  go_wp2_with fail
  refine H1.out.mono ?_
  rintro e w2 ⟨rfl, h2⟩
  have hc2 := (HB.out.kept0 h2.kept).count
  rw [HN.out] at hc2
  rw [List.nil_append] at h2
  have H2 := Hid.mk h2
  clear h2 hc1
  go_wp2_with fail
  go_loopw [19] (fun i wr => ∃ j : Nat, i = .int .i64 (j : Int) ∧ j ≤ n ∧ Hid (Wst w wr q (enc n ++ (L.take j).flatMap encC))) (fun i _ => n - (intOf i).toNat)
  case atStart => exact ⟨0, rfl, by omega, Hid.mk (by simpa using H2.out)⟩
  case round =>
    clear hc2
    obtain ⟨j, rfl, hj, hH⟩ := hrel
    by_cases hlt : j < n
    · have hjI : (j : Int) < (n : Int) := by omega
      have hj0 : (0 : Int) ≤ (j : Int) := by omega
      have hj6 : (j : Int) < 64 := by omega
      obtain ⟨x, hx⟩ : ∃ x, L[j]? = some x := ⟨_, List.getElem?_eq_getElem (by have := HN.out; omega)⟩
      have hxm := List.mem_of_getElem? hx
      have hls := encA_length (L := L.take j) (fun y hy => HG.out.four y (List.mem_of_mem_take hy))
      rw [List.length_take] at hls
      have HA := write34 (HB.out.rc hx) (HG.out.four x hxm) (HG.out.num x hxm) hH.out (by rw [List.length_append]; omega)
      rw [show enc n ++ (L.take j).flatMap encC ++ encC x = enc n ++ (L.take (j + 1)).flatMap encC by rw [List.take_add_one, hx]; simp] at HA
      have HA := Hid.mk HA
      clear hH hls hx hxm
      go_wp2_with fail
      refine HA.out.mono ?_
      rintro e w4 ⟨rfl, h5⟩
      have H5 := Hid.mk h5
      clear h5
      go_wp2_with fail
      go_roundw
      case rel => exact ⟨j + 1, by go_num, by omega, H5⟩
      case measure => simp [intOf]; omega
    · obtain rfl : j = n := by omega
      have hW := hH.out
      rw [List.take_of_length_le (by rw [HN.out]; exact Nat.le_refl _)] at hW
      have hls := encW_length HG.out.fit
      rw [encW, HN.out] at hls
      obtain ⟨v, i1, i2, i3, i4⟩ := hW
      have HY := Hid.mk (wbytes_any q v _ wr i1 (by omega))
      have HK := Hid.mk i4
      clear i1 hls
      go_wp2_with fail
      refine HY.out.mono ?_
      rintro e w4 ⟨v4, rfl, hO, k4, hf⟩
      go_wp2_with fail
      go_ret
      exact ⟨v4, rfl, by unfold encW; rw [HN.out]; exact hO, HK.out.trans k4 (by simp), fun g hg => by have := hf g hg; have := HK.out.size; omega⟩
end
end Go.Proofs.Ytngjljgcldfekaa
