/-
  SumTurned: the walk.
-/
import Derived.Test.YtapbeemgkbimcaaSealsWalk
namespace Go.Proofs.Ytapbeemgkbimcaa
open Go.RowKit
set_option linter.unusedVariables false

set_option maxRecDepth 100000 in
set_option maxHeartbeats 400000 in
theorem turned_long (x y z t : Int) (a : Option Addr) (n cap : Nat) (w : World) (hn : 242 < n) : Calls Try.prog 6 #[.int .u8 x, .int .u32 y, .slice a n cap, .int .u8 z, .int .u8 t] w fun e w' => e = .returned (.bool true) ∧ Kept [] w w' := by
  go_enter Try.func6, Try.ntmps6
  go_wp2_with fail
  refine (awake_any w).mono ?_
  rintro e w1 ⟨rfl, hk⟩
  go_wp2_with fail
  refine (awake_any w1).mono ?_
  rintro e w2 ⟨rfl, hk2⟩
  go_wp2_with fail
  go_ret
  exact ⟨rfl, hk.trans hk2 (by simp)⟩

theorem Hid.mk {p : Prop} (h : p) : Hid p := h
theorem opened_yes {kind : UInt8} {place : Nat} {B : List UInt8} {w w' : World} {e : Ending} (h : Opened kind place B w e w') (hF : Fits kind place B) : ∃ v', e = .returned (.tuple #[v', .bool true]) ∧ Reads w' v' (payloadOf B) ∧ Kept [] w w' := by
  obtain ⟨v', ok, p, rfl, h1, h2, ⟨rfl, _, rfl⟩ | ⟨_, h3, _⟩⟩ := h
  · exact ⟨v', rfl, h1, h2⟩
  · exact absurd hF h3
theorem opened_no {kind : UInt8} {place : Nat} {B : List UInt8} {w w' : World} {e : Ending} (h : Opened kind place B w e w') (hF : ¬ Fits kind place B) : ∃ v', e = .returned (.tuple #[v', .bool false]) ∧ Kept [] w w' := by
  obtain ⟨v', ok, p, rfl, h1, h2, ⟨_, h3, _⟩ | ⟨rfl, _, _⟩⟩ := h
  · exact absurd h3 hF
  · exact ⟨v', rfl, h2⟩

theorem kind_next (kind : UInt8) : ((kind.toNat : Int) + 1) % 256 = ((kind + 1).toNat : Int) := by
  rw [UInt8.toNat_add]
  simp
theorem kind_other (kind : UInt8) : kind + 1 ≠ kind := by
  intro h
  have h2 := congrArg UInt8.toNat h
  rw [UInt8.toNat_add] at h2
  have := kind.toNat_lt
  simp at h2
  omega

set_option maxRecDepth 100000 in
set_option maxHeartbeats 1000000 in
theorem turned_fit (kind d : UInt8) (x : UInt8) (place pos : Nat) (p L : List UInt8) (a : Option Addr) (n cap : Nat) (w : World) (hl : n ≤ 242) (hat : pos < 256) (hp : place < 4294967296) (hr : Reads w (.slice a n cap) p)
    (hLl : Hid (L.length = 256)) (HX : Hid (L[pos]? = some x))
    (hseal : ∀ W, Reads W (.slice a n cap) p → Calls Try.prog 11 #[.int .u8 (kind.toNat : Int), .int .u32 (place : Int), .slice a n cap] W fun e w' => ∃ v', e = .returned (.tuple #[v', .int .i64 0]) ∧ Sealed W w' v' L)
    (hopen1 : ∀ v W, Reads W v L → Calls Try.prog 13 #[.int .u8 (kind.toNat : Int), .int .u32 (place : Int), v] W fun e w' => ∃ v', e = .returned (.tuple #[v', .bool true]) ∧ Reads w' v' p ∧ Kept [] W w')
    (hopen2 : ∀ v W, Reads W v L → Calls Try.prog 13 #[.int .u8 (((kind.toNat : Int) + 1) % 256), .int .u32 (place : Int), v] W fun e w' => ∃ v', e = .returned (.tuple #[v', .bool false]) ∧ Kept [] W w')
    (hopen3 : ∀ v W, Reads W v L → Calls Try.prog 13 #[.int .u8 (kind.toNat : Int), .int .u32 (((place : Int) + 1) % 4294967296), v] W fun e w' => ∃ v', e = .returned (.tuple #[v', .bool false]) ∧ Kept [] W w')
    (hopen4 : ∀ v W, Reads W v (L.set pos (x ^^^ d)) → Calls Try.prog 13 #[.int .u8 (kind.toNat : Int), .int .u32 (place : Int), v] W fun e w' => ∃ v', e = .returned (.tuple #[v', .bool (((d.toNat : Nat) : Int) == 0)]) ∧ Kept [] W w') :
    Calls Try.prog 6 #[.int .u8 (kind.toNat : Int), .int .u32 (place : Int), .slice a n cap, .int .u8 (pos : Int), .int .u8 (d.toNat : Int)] w fun e w' => e = .returned (.bool true) ∧ Kept [] w w' := by
  have H1 := Hid.mk hseal
  have H2 := Hid.mk hopen1
  have H3 := Hid.mk hopen2
  have H4 := Hid.mk hopen3
  have H5 := Hid.mk hopen4
  clear hseal hopen1 hopen2 hopen3 hopen4
  go_enter Try.func6, Try.ntmps6
  go_wp2_with fail
  refine (awake_any w).mono ?_
  rintro e w1 ⟨rfl, hk1⟩
  have hr1 := hr.kept hk1 (by simp)
  clear hr
  go_wp2_with fail
  refine (H1.out _ hr1).mono ?_
  rintro e w2 ⟨v2, rfl, hS⟩
  have hk2 := hk1.trans hS.kept (by simp)
  have hr2 := hr1.kept hS.kept (by simp)
  obtain ⟨g, rfl, hg, hR2, _, _⟩ := hS
  have hg2 : w.heap.size ≤ g := Nat.le_trans hk1.size hg
  clear hk1 hr1 hg
  go_wp2_with fail
  refine (H2.out _ w2 (hR2.reads_all hLl.out)).mono ?_
  rintro e w3 ⟨v3, rfl, hv3, hk23⟩
  have hk3 := hk2.trans hk23 (by simp)
  have hr3 := hr2.kept hk23 (by simp)
  have hR3 := hR2.kept hk23 (by simp)
  clear hk2 hr2 hR2 hk23
  go_wp2_with fail
  refine (H3.out _ w3 (hR3.reads_all hLl.out)).mono ?_
  rintro e w4 ⟨v4, rfl, hk34⟩
  have hk4 := hk3.trans hk34 (by simp)
  have hr4 := hr3.kept hk34 (by simp)
  have hR4 := hR3.kept hk34 (by simp)
  have hv4 := hv3.kept hk34 (by simp)
  clear hk3 hr3 hR3 hk34 hv3
  go_wp2_with fail
  refine (H4.out _ w4 (hR4.reads_all hLl.out)).mono ?_
  rintro e w5 ⟨v5, rfl, hk45⟩
  have hk5 := hk4.trans hk45 (by simp)
  have hr5 := hr4.kept hk45 (by simp)
  have hR5 := hR4.kept hk45 (by simp)
  have hv5 := hv4.kept hk45 (by simp)
  clear hk4 hr4 hR4 hk45 hv4
  have s1 := string_of (P := Try.prog) 22 5 Try.underlying22 9 Try.underlying5 Try.underlying9 _ _ w5 hv5
  have s2 := string_of (P := Try.prog) 22 5 Try.underlying22 9 Try.underlying5 Try.underlying9 _ _ w5 hr5
  generalize (⟨p.toArray⟩ : ByteArray) = s at s1 s2
  have hc := hR5.cell pos x HX.out
  have hf := hR5.free pos
  have hR6 := hR5.set pos (x ^^^ d)
  unfold B8 at hc
  have hxb := x.toNat_lt
  have hxd : IntKind.u8 = IntKind.u8 := rfl
  have HXD : Hid (Value.int .u8 (bits .xor .u8 (x.toNat : Int) (d.toNat : Int)) = B8 (x ^^^ d)) := by
    show _ = _
    rw [u8_xor_nat x.toNat d.toNat x.toNat_lt d.toNat_lt]
    unfold B8
    rw [UInt8.toNat_xor]
  clear hr5 hv5 hR5 hxd
  have hat2 : (pos : Int) < 256 := by omega
  go_wp2_with fail
  rw [HXD.out]
  have hk6 := hk5.setCell (p := ⟨g, pos, none⟩) (.inr hg2) (B8 (x ^^^ d))
  generalize w5.setCell ⟨g, pos, none⟩ (B8 (x ^^^ d)) = w6 at hk6 hR6 ⊢
  clear s1 s2 hc hf HXD hk5
  refine (H5.out _ w6 (hR6.reads_all (by rw [List.length_set]; exact hLl.out))).mono ?_
  rintro e w7 ⟨v7, rfl, hk67⟩
  have hk7 := hk6.trans hk67 (by simp)
  clear hk6 hk67 hR6
  go_wp2_with fail
  go_ret
  exact ⟨by simp, hk7⟩

theorem xor_same (x d : UInt8) (h : x ^^^ d = x) : d = 0 := by
  have h2 := congrArg UInt8.toNat h
  rw [UInt8.toNat_xor, Nat.xor_comm] at h2
  have h3 := xor_cancel d.toNat 0 x.toNat (by rw [h2, Nat.zero_xor])
  exact UInt8.toNat_inj.1 h3

theorem turned_walk (k d1 place pos : Nat) (v : Value) (p : List UInt8) (w : World) (hk : k ≤ 255) (hp : place ≤ 4294967295) (hat : pos ≤ 255) (hd : d1 ≤ 255) (hr : Reads w v p) :
    Calls Try.prog 6 #[.int .u8 (k : Int), .int .u32 (place : Int), v, .int .u8 (pos : Int), .int .u8 (d1 : Int)] w fun e w' => e = .returned (.bool true) ∧ Kept [] w w' := by
  by_cases hl : p.length ≤ 242
  · obtain ⟨kind, e⟩ := u8_of k hk
    obtain ⟨d, e2⟩ := u8_of d1 hd
    rw [e, e2]
    have hr' := hr
    obtain ⟨a, cap, rfl, _⟩ := hr
    have hp' : place < 4294967296 := by omega
    have hLl := sealedL_length kind place p hl
    obtain ⟨x, hx⟩ : ∃ x, (sealedL kind place p)[pos]? = some x := ⟨(sealedL kind place p)[pos]'(by omega), by simp⟩
    refine turned_fit kind d x place pos p (sealedL kind place p) a p.length cap w hl (by omega) hp' hr' hLl hx (fun W h => seal_any kind place _ p W hp' hl h) ?_ ?_ ?_ ?_
    · intro v W h
      refine (open_any kind place v _ W hp' h).mono fun e w' hO => ?_
      have := opened_yes hO (fits_sealed kind place p hl)
      rw [sealedL_payload kind place p hl] at this
      exact this
    · intro v W h
      rw [kind_next kind]
      exact (open_any (kind + 1) place v _ W hp' h).mono fun e w' hO => opened_no hO (fun hF => kind_other kind (fits_other kind _ place _ p hl hp' hp' hF).1)
    · intro v W h
      have hp2 : (place + 1) % 4294967296 < 4294967296 := by omega
      have e3 : ((place : Int) + 1) % 4294967296 = (((place + 1) % 4294967296 : Nat) : Int) := by omega
      rw [e3]
      exact (open_any kind ((place + 1) % 4294967296) v _ W hp2 h).mono fun e w' hO => opened_no hO (fun hF => by have := (fits_other kind _ place _ p hl hp' hp2 hF).2; omega)
    · intro v W h
      have hat2 : pos < (sealedL kind place p).length := by omega
      have hx2 : (sealedL kind place p)[pos] = x := by
        have := hx
        rw [List.getElem?_eq_getElem hat2] at this
        injection this
      by_cases hd0 : d = 0
      · subst hd0
        have e4 : (sealedL kind place p).set pos (x ^^^ 0) = sealedL kind place p := by
          rw [show x ^^^ (0 : UInt8) = x from UInt8.toNat_inj.1 (by rw [UInt8.toNat_xor]; simp), ← hx2, List.set_getElem_self]
        rw [e4] at h
        refine (open_any kind place v _ W hp' h).mono fun e w' hO => ?_
        obtain ⟨v', he, _, hk⟩ := opened_yes hO (fits_sealed kind place p hl)
        exact ⟨v', he, hk⟩
      · have e5 : (((d.toNat : Nat) : Int) == 0) = false := by
          have : d.toNat ≠ 0 := fun h => hd0 (UInt8.toNat_inj.1 h)
          simp
          omega
        rw [e5]
        exact (open_any kind place v _ W hp' h).mono fun e w' hO => opened_no hO (fun hF => hd0 (xor_same x d ((fits_turned kind place p pos (x ^^^ d) hl hat2 hF).trans hx2)))
  · obtain ⟨a, cap, rfl, _⟩ := hr
    exact turned_long _ _ _ _ a p.length cap w (by omega)

end Go.Proofs.Ytapbeemgkbimcaa
