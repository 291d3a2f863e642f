import Derived.Test.YtdadloaifebdiaaQ03
import Derived.Test.YtdadloaifebdiaaQ04
import Derived.Test.YtdadloaifebdiaaQ08
import Derived.Test.YtdadloaifebdiaaQ10
/-
  Outboxes, without memory: what a Send and a Pop leave.
-/
namespace Go.Proofs.Ytdadloaifebdiaa
set_option maxRecDepth 100000
set_option linter.unusedVariables false
/-- A letter that is sent: the next serial to that key. -/
def sendO (o : Ob) (to : List UInt8) (kind : Int) (args : List Int) : Ob :=
  ⟨o.own, setK o.K to (ser o.K to + 1), o.L ++ [⟨to, ⟨o.own, ser o.K to + 1, kind, args⟩⟩]⟩
/-- The first one is gone. -/
def popO (o : Ob) : Ob := ⟨o.own, o.K, o.L.drop 1⟩
theorem GoodO.new {own : List UInt8} (h : isKey own = true) : GoodO ⟨own, [], []⟩ := ⟨h, by simp, by simp, by simp, by simp [Rise], by simp, rfl⟩
theorem ordR_pre (k : List UInt8) (y : Ot) : ∀ (A : List Ot) (s : Nat), ordR k (A ++ [y]) s = true → ordR k A s = true
  | [], s, _ => rfl
  | x :: A, s, h => by
    rw [List.cons_append, ordR] at h
    rw [ordR]
    split at h
    · rename_i hx
      rw [if_pos hx]
      simp only [Bool.and_eq_true] at h ⊢
      exact ⟨h.1, ordR_pre k y A (s - 1) h.2⟩
    · rename_i hx
      rw [if_neg hx]
      exact ordR_pre k y A s h
theorem ordR_none (k : List UInt8) : ∀ (A : List Ot) (s : Nat), (∀ y ∈ A, y.to ≠ k) → ordR k A s = true
  | [], s, _ => rfl
  | x :: A, s, h => by
    rw [ordR, if_neg (h x (by simp))]
    exact ordR_none k A s fun y hy => h y (by simp [hy])
theorem GoodO.pop {o : Ob} (h : GoodO o) : GoodO (popO o) := by
  obtain ⟨own, K, L⟩ := o
  cases L with
  | nil => exact h
  | cons y L =>
    refine ⟨h.own, h.kn, ?_, h.key, h.rise, fun z hz => h.lets z (List.mem_of_mem_drop hz), ?_⟩
    · have := h.ln
      simp [popO] at this ⊢
      omega
    · have := h.ord
      unfold ordO at this ⊢
      rw [List.all_eq_true] at this ⊢
      intro z hz
      have h1 := this z hz
      simp only [List.reverse_cons] at h1
      exact ordR_pre _ y _ _ h1
theorem GoodO.send {o : Ob} (h : GoodO o) {to : List UInt8} {kind : Int} {args : List Int} (hto : isKey to = true) (hk : I64 kind) (ha : ∀ z ∈ args, I64 z) (h4 : args.length ≤ 4) (h32 : o.L.length < 32) (h64 : hasK o.K to = true ∨ o.K.length < 64) (hs : U64 (ser o.K to + 1)) : GoodO (sendO o to kind args) := by
  obtain ⟨own, K, L⟩ := o
  dsimp only at *
  have hown := (isKey_iff _).1 h.own
  have hrise := Rise.setK (to := to) (ser K to + 1) h.rise
  refine ⟨h.own, ?_, ?_, fun y hy => ?_, hrise, fun y hy => ?_, ?_⟩
  · show (setK K to (ser K to + 1)).length ≤ 64
    have := h.kn
    dsimp only at this
    rw [setK_length]
    split
    · exact this
    · rename_i hno
      rcases h64 with h | h
      · exact absurd h hno
      · omega
  · show (L ++ [_]).length ≤ 32
    simp
    omega
  · rcases setK_mem hy with rfl | hy
    · exact ⟨hto, by simp, hs⟩
    · exact h.key y hy
  · show y.x.ok ∧ y.x.formed = true ∧ y.x.fr = own ∧ hasK (setK K to (ser K to + 1)) y.to = true
    rcases List.mem_append.1 hy with hy | hy
    · obtain ⟨i1, i2, i3, i4⟩ := h.lets y hy
      refine ⟨i1, i2, i3, ?_⟩
      by_cases e : y.to = to
      · rw [e]; exact (ser_set_same K to _).2
      · rw [(ser_set_other _ h.rise e).2]; exact i4
    · simp at hy
      subst hy
      refine ⟨⟨hs, hk, ha⟩, ?_, rfl, (ser_set_same K to _).2⟩
      simp [Lt.formed, hown.2, h4]
  · show ordO (setK K to (ser K to + 1)) (L ++ [⟨to, ⟨own, ser K to + 1, kind, args⟩⟩]) = true
    have hord := h.ord
    unfold ordO at hord ⊢
    rw [List.all_eq_true] at hord ⊢
    intro y hy
    rw [List.reverse_append]
    show ordR y.k (⟨to, ⟨own, ser K to + 1, kind, args⟩⟩ :: L.reverse) y.s = true
    rw [ordR]
    dsimp only
    by_cases e : to = y.k
    · rw [if_pos e]
      have hys : y.s = ser K to + 1 := by
        have := ser_mem hrise hy
        rw [← e, (ser_set_same K to _).1] at this
        exact this.symm
      rw [hys]
      have hrest : ordR y.k L.reverse (ser K to) = true := by
        cases hh : hasK K to with
        | true =>
          obtain ⟨z, hz, hzk⟩ := (has_mem h.rise).1 hh
          have := hord z hz
          rw [← ser_mem h.rise hz, hzk] at this
          rw [← e]
          exact this
        | false =>
          refine ordR_none _ _ _ fun z hz e2 => ?_
          have := (h.lets z (by simpa using hz)).2.2.2
          rw [e2, ← e, hh] at this
          cases this
      simp [hrest]
    · rw [if_neg e]
      rcases setK_mem hy with rfl | hy
      · exact absurd rfl e
      · exact hord y hy
end Go.Proofs.Ytdadloaifebdiaa
/-
  Letters: what a letter is, its bytes, the letter that bytes begin with; and letters in memory.
-/
namespace Go.Proofs.Ytdadloaifebdiaa
open Go.RowKit
set_option linter.unusedVariables false
theorem rt28 : RowT 22 50 4 56 (.agg #[.string ⟨#[]⟩, .int .u64 0, .int .i64 0, .slice none 0 0]) := ⟨Try.underlying22, by kernel_rfl, rfl, by omega, by omega⟩
end Go.Proofs.Ytdadloaifebdiaa
/-
  Pack, and the document's.
-/
namespace Go.Proofs.Ytdadloaifebdiaa
open Go.RowKit
set_option linter.unusedVariables false
/-- Letters' bytes, one behind the other. -/
def encA (l : List Lq) : List UInt8 := l.flatMap fun q => encL q.x
def allF (l : List Lq) : Bool := l.all fun q => q.x.formed
def packB (l : List Lq) : List UInt8 := if allF l = true then enc l.length ++ encA l else []
def packE (l : List Lq) : Int := if allF l = true then 0 else 1
theorem encA_take (l : List Lq) (j : Nat) (q : Lq) (h : l[j]? = some q) : encA (l.take (j + 1)) = encA (l.take j) ++ encL q.x := by
  rw [List.take_add_one, h]
  simp [encA]
theorem encA_len (l : List Lq) (h : ∀ q ∈ l, q.x.formed = true) : (encA l).length ≤ 112 * l.length := by
  induction l with
  | nil => simp [encA]
  | cons q l ih =>
    have h1 := encL_length q.x
    have h2 := formed_le (h q (by simp))
    have h3 := ih (fun y hy => h y (by simp [hy]))
    have e : encA (q :: l) = encL q.x ++ encA l := rfl
    rw [e, List.length_append, List.length_cons]
    omega
theorem take_mem {l : List Lq} {j : Nat} {q : Lq} (h : l[j]? = some q) {P : Lq → Prop} (hp : ∀ y ∈ l.take j, P y) (hq : P q) : ∀ y ∈ l.take (j + 1), P y := by
  intro y hy
  rw [List.take_add_one, h] at hy
  rcases List.mem_append.1 hy with hy | hy
  · exact hp y hy
  · simp at hy; subst hy; exact hq
section
variable {w : World}
set_option maxRecDepth 100000 in
set_option maxHeartbeats 1000000 in
theorem pack20 {a : Option Addr} {n c : Nat} {l : List Lq} (hr : RowQ w (.slice a n c) l) (hv : ValsQ w l) (hok : ∀ q ∈ l, q.x.ok) (hl : n ≤ 1000000) :
    Calls Try.prog 27 #[.slice a n c] w fun e w' => TwoB w (packB l) (packE l) e w' := by
  obtain ⟨hn, hc1, hc2⟩ := hr.bound
  have HN := Hid.mk hn
  have HR := Hid.mk hr
  have HV := Hid.mk hv
  clear hr hn hv
  have hel := enc_length n
  have HY : Hid ((∀ q ∈ l, q.x.formed = true) → packB l = enc n ++ encA l ∧ packE l = 0) := fun h => by
    have : allF l = true := by unfold allF; rw [List.all_eq_true]; exact h
    unfold packB packE
    rw [if_pos this, if_pos this, HN.out]
    exact ⟨rfl, rfl⟩
  have HO : Hid (∀ q ∈ l, q.x.formed = false → packB l = [] ∧ packE l = 1) := fun q hq h => by
    have : ¬ allF l = true := by unfold allF; rw [List.all_eq_true]; intro h2; have := h2 q hq; rw [h] at this; cases this
    unfold packB packE
    rw [if_neg this, if_neg this]
    exact ⟨rfl, rfl⟩
  generalize packB l = PB at HY HO
  generalize packE l = PE at HY HO
  go_enter Try.func27, Try.ntmps27
  go_wp2_with fail
  refine (newW _).mono ?_
  rintro e w1 ⟨p, rfl, hW1, k1, hp1⟩
  go_wp2_with fail
  refine (wnum_any p _ [] n _ hW1 (by omega) (by simp)).mono ?_
  rintro e w2 ⟨rfl, v2, hW2, k2, n2⟩
  rw [List.nil_append] at hW2
  rw [foot_nil] at k2
  have k02 : Kept [] w w2 := k1.trans k2 (by simp; omega)
  have hf2 : Fresh w v2 := fun g hg => by have := new_nil n2 g hg; have := k1.size; omega
  go_wp2_with fail
  have HK := Hid.mk hok
  clear k1 hW1 k2 n2 hok
  go_loopw [15] (fun i wr => ∃ (j : Nat) (v' : Value), i = .int .i64 (j : Int) ∧ j ≤ n ∧ Hid (∀ q ∈ l.take j, q.x.formed = true) ∧ Hid (IsW 122 5 wr p v' (enc n ++ encA (l.take j))) ∧ Hid (Kept [] w wr) ∧ Hid (Fresh w v')) (fun i _ => n - (intOf i).toNat)
  case atStart => exact ⟨0, v2, rfl, by omega, Hid.mk (by simp), Hid.mk (by simpa [encA] using hW2), Hid.mk k02, Hid.mk hf2⟩
  case round =>
    obtain ⟨j, v', rfl, hj, hall, hW, kk, hf⟩ := hrel
    by_cases hlt : j < n
    · obtain ⟨q, hq⟩ : ∃ q, l[j]? = some q := ⟨_, List.getElem?_eq_getElem (by have := HN.out; omega)⟩
      have hmem := List.mem_of_getElem? hq
      obtain ⟨b, o, rfl, d0, d1, d2, d3⟩ := (HR.out.kept kk.out (by simp)).at hq
      have hjI : (j : Int) < (n : Int) := by omega
      have HQ := Hid.mk hq
      have HM := Hid.mk hmem
      clear hq hmem
      go_wp2_with fail
      obtain ⟨W0, e0, k0, hz0, hb0⟩ := box1 wr (.cells #[Sv q.x.fr, .int .u64 (q.x.ser : Int), .int .i64 q.x.kind, .slice q.ad q.x.args.length q.cap] 50)
      rw [e0]
      clear e0 d0 d1 d2 d3
      refine (formed13 q.x q.ad q.cap).mono ?_
      rintro e w3 ⟨rfl, k3⟩
      have k03 := (kk.out.trans k0 (by simp)).trans k3 (by simp)
      cases hfm : q.x.formed with
      | false =>
        obtain ⟨rfl, rfl⟩ := HO.out q HM.out hfm
        go_wp2_with fail
        go_ret2
        exact ⟨_, rfl, Owns.nil 5 _, k03, fresh_nil w 0⟩
      | true =>
        have hfl := formed_le hfm
        have HFM := Hid.mk hfm
        clear hfm
        have hb3 := k3.keeps hb0 (by simp)
        obtain ⟨c0, c1, c2, c3⟩ := cells4 hb3
        have hW3 := (hW.out.kept k0 (by simp) (by simp)).kept k3 (by simp) (by simp)
        have hR3 := (HV.out q HM.out).kept k03 (by simp)
        have hlen := encA_len _ hall.out
        rw [List.length_take] at hlen
        go_wp2_with fail
        refine (lay27 p v' _ q.x q.ad q.cap hW3 hR3 (fun hne g hg hm => ?_) (HK.out q HM.out) (by simp only [List.length_append]; omega)).mono ?_
        · have := (HV.out q HM.out).ltg hne hg
          rcases mem_foot.1 hm with h | h
          · omega
          · have := hf.out g h; omega
        rintro e w4 ⟨rfl, v4, hW4, k4, n4⟩
        have k04 : Kept [] w w4 := k03.trans k4 (fun y hy => by
          rcases mem_foot.1 hy with h | h
          · exact .inr (by omega)
          · exact .inr (hf.out y h))
        have hf4 : Fresh w v4 := fun g hg => by
          rcases n4 g hg with h | h
          · exact hf.out g h
          · have := k03.size; omega
        go_wp2_with fail
        go_roundw
        case rel =>
          refine ⟨j + 1, v4, by go_num, by omega, Hid.mk (take_mem HQ.out hall.out HFM.out), Hid.mk ?_, Hid.mk k04, Hid.mk hf4⟩
          rw [encA_take _ _ _ HQ.out, ← List.append_assoc]
          exact hW4
        case measure => simp [intOf]; omega
    · obtain rfl : j = n := by omega
      have hall' : ∀ q ∈ l, q.x.formed = true := by have := hall.out; rwa [HN.out, List.take_length] at this
      obtain ⟨rfl, rfl⟩ := HY.out hall'
      have hlen := encA_len l hall'
      rw [← HN.out] at hlen
      have hW' := hW.out
      rw [show l.take j = l by rw [HN.out, List.take_length]] at hW'
      go_wp2_with fail
      refine (wbytes_any p _ _ _ hW' (by simp only [List.length_append]; omega)).mono ?_
      rintro e w4 ⟨v4, rfl, hO4, k4, hF4⟩
      go_wp2_with fail
      go_ret2
      exact ⟨v4, rfl, hO4, kk.out.trans k4 (by simp), fun g hg => by have := hF4 g hg; have := kk.out.size; omega⟩
set_option maxRecDepth 100000 in
set_option maxHeartbeats 1000000 in
theorem pack21 {a : Option Addr} {n c : Nat} {l : List Lq} (hr : RowQ w (.slice a n c) l) (hv : ValsQ w l) (hok : ∀ q ∈ l, q.x.ok) (hl : n ≤ 1000000) :
    Calls Try.prog 36 #[.slice a n c] w fun e w' => TwoB w (packB l) (packE l) e w' := by
  obtain ⟨hn, hc1, hc2⟩ := hr.bound
  have HN := Hid.mk hn
  have HR := Hid.mk hr
  have HV := Hid.mk hv
  clear hr hn hv
  have hel := enc_length n
  have HY : Hid ((∀ q ∈ l, q.x.formed = true) → packB l = enc n ++ encA l ∧ packE l = 0) := fun h => by
    have : allF l = true := by unfold allF; rw [List.all_eq_true]; exact h
    unfold packB packE
    rw [if_pos this, if_pos this, HN.out]
    exact ⟨rfl, rfl⟩
  have HO : Hid (∀ q ∈ l, q.x.formed = false → packB l = [] ∧ packE l = 1) := fun q hq h => by
    have : ¬ allF l = true := by unfold allF; rw [List.all_eq_true]; intro h2; have := h2 q hq; rw [h] at this; cases this
    unfold packB packE
    rw [if_neg this, if_neg this]
    exact ⟨rfl, rfl⟩
  generalize packB l = PB at HY HO
  generalize packE l = PE at HY HO
  go_enter Try.func36, Try.ntmps36
  go_wp2_with fail
  refine (refnum_any (.slice none 0 0) [] n _ (Owns.nil 5 w) (by omega) (by simp)).mono ?_
  rintro e w2 ⟨v2, rfl, hO2, k2, n2⟩
  rw [List.nil_append] at hO2
  have k02 : Kept [] w w2 := k2.mono (by simp [Value.ownBlock])
  have hf2 : Fresh w v2 := new_nil n2
  have HK := Hid.mk hok
  clear k2 n2 hok
  go_wp2_with fail
  go_loopw [4, 12] (fun v' i wr => ∃ (j : Nat), i = .int .i64 (j : Int) ∧ j ≤ n ∧ Hid (∀ q ∈ l.take j, q.x.formed = true) ∧ Hid (Owns 5 wr v' (enc n ++ encA (l.take j))) ∧ Hid (Kept [] w wr) ∧ Hid (Fresh w v')) (fun _ i _ => n - (intOf i).toNat)
  case atStart => exact ⟨0, rfl, by omega, Hid.mk (by simp), Hid.mk (by simpa [encA] using hO2), Hid.mk k02, Hid.mk hf2⟩
  case round =>
    obtain ⟨j, rfl, hj, hall, hW, kk, hf⟩ := hrel
    by_cases hlt : j < n
    · obtain ⟨q, hq⟩ : ∃ q, l[j]? = some q := ⟨_, List.getElem?_eq_getElem (by have := HN.out; omega)⟩
      have hmem := List.mem_of_getElem? hq
      obtain ⟨b, o, rfl, d0, d1, d2, d3⟩ := (HR.out.kept kk.out (by simp)).at hq
      have hjI : (j : Int) < (n : Int) := by omega
      have HQ := Hid.mk hq
      have HM := Hid.mk hmem
      clear hq hmem
      go_wp2_with fail
      refine (formed14 q.x q.ad q.cap).mono ?_
      rintro e w3 ⟨rfl, k3⟩
      have k03 := kk.out.trans k3 (by simp)
      cases hfm : q.x.formed with
      | false =>
        obtain ⟨rfl, rfl⟩ := HO.out q HM.out hfm
        go_wp2_with fail
        go_ret2
        exact ⟨_, rfl, Owns.nil 5 _, k03, fresh_nil w 0⟩
      | true =>
        have hfl := formed_le hfm
        have HFM := Hid.mk hfm
        clear hfm
        have d0' := k3.cell_eq d0
        have d1' := k3.cell_eq d1
        have d2' := k3.cell_eq d2
        have d3' := k3.cell_eq d3
        clear d0 d1 d2 d3
        have hW3 := hW.out.kept k3 (by simp)
        have hR3 := (HV.out q HM.out).kept k03 (by simp)
        have hlen := encA_len _ hall.out
        rw [List.length_take] at hlen
        go_wp2_with fail
        refine (lay29 _ _ q.x q.ad q.cap hW3 hR3 (fun hne g hg hm => ?_) (HK.out q HM.out) (by simp only [List.length_append]; omega)).mono ?_
        · have := (HV.out q HM.out).ltg hne hg
          have := hf.out g hm; omega
        rintro e w4 ⟨v4, rfl, hW4, k4, n4⟩
        have k04 : Kept [] w w4 := k03.trans k4 (fun y hy => by
          rw [Option.mem_toList] at hy
          exact .inr (hf.out y hy))
        have hf4 : Fresh w v4 := fun g hg => by
          rcases n4 g hg with h | h
          · exact hf.out g h
          · have := k03.size; omega
        go_wp2_with fail
        go_roundw
        case rel =>
          refine ⟨j + 1, by go_num, by omega, Hid.mk (take_mem HQ.out hall.out HFM.out), Hid.mk ?_, Hid.mk k04, Hid.mk hf4⟩
          rw [encA_take _ _ _ HQ.out, ← List.append_assoc]
          exact hW4
        case measure => simp [intOf]; omega
    · obtain rfl : j = n := by omega
      have hall' : ∀ q ∈ l, q.x.formed = true := by have := hall.out; rwa [HN.out, List.take_length] at this
      obtain ⟨rfl, rfl⟩ := HY.out hall'
      have hW' := hW.out
      rw [show l.take j = l by rw [HN.out, List.take_length]] at hW'
      go_wp2_with fail
      go_ret2
      exact ⟨_, rfl, hW', kk.out, hf.out⟩
end
end Go.Proofs.Ytdadloaifebdiaa
/-
  Lists of letters as bytes: what Unpack reads. No program.
-/
namespace Go.Proofs.Ytdadloaifebdiaa
open Go.RowKit
set_option linter.unusedVariables false
/-- j letters that bytes begin with, what is left, and whether all was there; none, if one of them isn't there. -/
def rlN_I : Nat → List UInt8 → Bool → Option (List Lt × List UInt8 × Bool)
  | 0, l, b => some ([], l, b)
  | j + 1, l, b => (rlN_I j l b).bind fun r => (rlet r.2.1 r.2.2).1.map fun x => (r.1 ++ [x], (rlet r.2.1 r.2.2).2.1, (rlet r.2.1 r.2.2).2.2)
/-- The list that bytes are. -/
def decP (l : List UInt8) : Option (List Lt) :=
  (rlN_I (rnum l false).1 (rnum l false).2.1 (rnum l false).2.2).bind fun r => if (!r.2.2 && r.2.1.isEmpty) = true then some r.1 else none
theorem rlet_some {l : List UInt8} {b : Bool} {x : Lt} (h : (rlet l b).1 = some x) : (rlet l b).2.2 = false := by
  unfold rlet at h ⊢
  dsimp only at h ⊢
  split at h
  · cases h
  · split at h
    · cases h
    · rename_i h1 h2
      rw [if_neg h1, if_neg h2]
      simp at h2
      exact h2.1
theorem encL_four (x : Lt) : 4 ≤ (encL x).length := by
  have h1 := enc_length x.fr.length
  have h2 := enc_length x.ser
  have h3 := enc_length (fold x.kind)
  have h4 := enc_length x.args.length
  simp only [encL, List.length_append]
  omega
theorem rlN_stop {j : Nat} {l : List UInt8} {b : Bool} (h : rlN_I j l b = none) : ∀ n, j ≤ n → rlN_I n l b = none := by
  intro n hn
  induction n with
  | zero =>
    have : j = 0 := by omega
    subst this
    exact h
  | succ n ih =>
    rcases Nat.eq_or_lt_of_le hn with h1 | h1
    · subst h1; exact h
    · simp only [rlN_I, ih (by omega), Option.bind_none]
theorem rlN_none {j : Nat} {l : List UInt8} {b : Bool} {r : List Lt × List UInt8 × Bool} (h : rlN_I j l b = some r) (hx : (rlet r.2.1 r.2.2).1 = none) : rlN_I (j + 1) l b = none := by
  simp only [rlN_I, h, Option.bind_some, hx, Option.map_none]
theorem rlN_next {j : Nat} {l : List UInt8} {b : Bool} {r : List Lt × List UInt8 × Bool} (h : rlN_I j l b = some r) {x : Lt} (hx : (rlet r.2.1 r.2.2).1 = some x) : rlN_I (j + 1) l b = some (r.1 ++ [x], (rlet r.2.1 r.2.2).2.1, (rlet r.2.1 r.2.2).2.2) := by
  simp only [rlN_I, h, Option.bind_some, hx, Option.map_some]
/-- Letters' bytes. -/
def encT (l : List Lt) : List UInt8 := l.flatMap encL
theorem rlN_fwd (j : Nat) : ∀ {l : List UInt8} {b : Bool} {r : List Lt × List UInt8 × Bool}, rlN_I j l b = some r → r.1.length = j ∧ l = encT r.1 ++ r.2.1 ∧ (0 < j → r.2.2 = false ∧ b = false) ∧ (j = 0 → r.2.2 = b) ∧ (∀ x ∈ r.1, x.ok ∧ x.formed = true) := by
  induction j with
  | zero => intro l b r h; cases h; exact ⟨rfl, rfl, by omega, fun _ => rfl, by simp⟩
  | succ j ih =>
    intro l b r h
    simp only [rlN_I, Option.bind_eq_some_iff, Option.map_eq_some_iff] at h
    obtain ⟨s, hs, x, hx, rfl⟩ := h
    obtain ⟨h1, h2, h3, h4, h5⟩ := ih hs
    have hb := rlet_some hx
    have he := rlet_fwd (l := s.2.1) (bad := s.2.2) (x := x) (rest := (rlet s.2.1 s.2.2).2.1) (by
      rw [← hx, ← hb])
    refine ⟨by simp [h1], ?_, fun _ => ⟨hb, ?_⟩, by omega, ?_⟩
    · have e1 : encT (s.1 ++ [x]) = encT s.1 ++ encL x := by simp [encT]
      dsimp only
      rw [e1, List.append_assoc, ← he.2]
      exact h2
    · rcases Nat.eq_zero_or_pos j with h | h
      · rw [← h4 h]; exact he.1
      · exact (h3 h).2
    · intro y hy
      simp at hy
      rcases hy with hy | rfl
      · exact h5 y hy
      · exact rlet_ok hx
theorem encT_len (l : List Lt) : 4 * l.length ≤ (encT l).length := by
  induction l with
  | nil => simp
  | cons x l ih =>
    have := encL_four x
    have e : encT (x :: l) = encL x ++ encT l := rfl
    rw [e, List.length_append, List.length_cons]
    omega
theorem rlN_len {j : Nat} {l : List UInt8} {b : Bool} {r : List Lt × List UInt8 × Bool} (h : rlN_I j l b = some r) : 4 * j ≤ l.length := by
  obtain ⟨h1, h2, -⟩ := rlN_fwd j h
  have := encT_len r.1
  have := congrArg List.length h2
  rw [List.length_append] at this
  omega
theorem rnum_rest_I (l : List UInt8) (b : Bool) : (rnum l b).2.1.length ≤ l.length := by
  unfold rnum
  split
  · simp
  · simp
/-- What was packed is unpacked as it was. -/
theorem rlN_back (l : List Lt) (hl : ∀ x ∈ l, x.ok ∧ x.formed = true) : ∀ rest, rlN_I l.length (encT l ++ rest) false = some (l, rest, false) := by
  suffices h : ∀ j, j ≤ l.length → ∀ rest, rlN_I j (encT l ++ rest) false = some (l.take j, encT (l.drop j) ++ rest, false) by
    intro rest
    have := h l.length (Nat.le_refl _) rest
    simpa [encT] using this
  intro j
  induction j with
  | zero => intro _ rest; simp [rlN_I]
  | succ j ih =>
    intro hj rest
    have hlt : j < l.length := by omega
    have hx := hl l[j] (List.getElem_mem hlt)
    have e : encT (l.drop j) = encL l[j] ++ encT (l.drop (j + 1)) := by
      rw [List.drop_eq_getElem_cons hlt]
      rfl
    have hb := rlet_back l[j] hx.1 hx.2 (encT (l.drop (j + 1)) ++ rest)
    simp only [rlN_I, ih (by omega) rest, Option.bind_some]
    rw [e, List.append_assoc, hb]
    simp only [Option.map_some, Option.some.injEq, Prod.mk.injEq, and_true]
    rw [List.take_add_one, List.getElem?_eq_getElem hlt]
    rfl
theorem decP_pack (l : List Lq) (hok : ∀ q ∈ l, q.x.ok) (hf : ∀ q ∈ l, q.x.formed = true) (hl : l.length < 18446744073709551616) : decP (enc l.length ++ encA l) = some (l.map (·.x)) := by
  have e : encA l = encT (l.map (·.x)) := by simp [encA, encT, List.flatMap_map]
  have h1 := rnum_back l.length hl (encA l)
  have h2 := rlN_back (l.map (·.x)) (fun x hx => by
    obtain ⟨q, hq, rfl⟩ := List.mem_map.1 hx
    exact ⟨hok q hq, hf q hq⟩) []
  unfold decP
  rw [h1]
  dsimp only
  rw [e]
  rw [List.append_nil, List.length_map] at h2
  rw [h2]
  rfl
/-- More letters than bytes there are not. -/
theorem decP_many {l : List UInt8} (h : l.length < (rnum l false).1) : decP l = none := by
  unfold decP
  cases hr : rlN_I (rnum l false).1 (rnum l false).2.1 (rnum l false).2.2 with
  | none => rfl
  | some r =>
    have h1 := rlN_len hr
    have h2 := rnum_rest_I l false
    omega
theorem decP_bad {l : List UInt8} (h : (rnum l false).2.2 = true) : decP l = none := by
  have h0 := rnum_none (l := l) (bad := false) (by simp) h
  unfold decP
  rw [h0.2, h]
  rfl
theorem decP_ok {l : List UInt8} {xs : List Lt} (h : decP l = some xs) : ∀ x ∈ xs, x.ok ∧ x.formed = true := by
  unfold decP at h
  cases hr : rlN_I (rnum l false).1 (rnum l false).2.1 (rnum l false).2.2 with
  | none => rw [hr] at h; cases h
  | some r =>
    rw [hr] at h
    simp only [Option.bind_some] at h
    split at h
    · cases h
      exact (rlN_fwd _ hr).2.2.2.2
    · cases h
theorem decP_len (l : List UInt8) : 4 * ((decP l).getD []).length ≤ l.length := by
  cases h : decP l with
  | none => simp
  | some xs =>
    unfold decP at h
    cases hr : rlN_I (rnum l false).1 (rnum l false).2.1 (rnum l false).2.2 with
    | none => rw [hr] at h; cases h
    | some r =>
      rw [hr] at h
      simp only [Option.bind_some] at h
      split at h
      · cases h
        have h1 := rlN_len hr
        have h2 := (rlN_fwd _ hr).1
        have h3 := rnum_rest_I l false
        simp only [Option.getD_some]
        omega
      · cases h
end Go.Proofs.Ytdadloaifebdiaa
