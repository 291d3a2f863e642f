import Derived.Test.YthlemapneangeaaQ05
import Derived.Test.YthlemapneangeaaQ13
/-
  Rows of integers that are stored into; what OutboxNil has in its hands.
-/
namespace Go.Proofs.Ythlemapneangeaa
set_option maxRecDepth 100000
open Go.RowKit
set_option linter.unusedVariables false
/-- The first n cells of the row are integers, and may be stored into. -/
def IntRow (w : World) (a : Option Addr) (n : Nat) : Prop := ∀ k, k < n → ∃ b z, a = some ⟨b, 0, none⟩ ∧ w.cell? ⟨b, k, none⟩ = some (.int .i64 z) ∧ w.frozen? ⟨b, k, none⟩ = false
theorem OwnsJ.row {w : World} {a : Option Addr} {c : Nat} {l : List Int} (h : OwnsJ w (.slice a l.length c) l) : IntRow w a l.length := by
  intro k hk
  have hr := h.reads
  obtain ⟨z, hz⟩ : ∃ z, l[k]? = some z := ⟨_, List.getElem?_eq_getElem hk⟩
  obtain ⟨b, o, rfl, hc⟩ := hr.at hz
  rcases h.2 with ⟨h0, _⟩ | ⟨g, cap, cur, h0, _, hg, h1, h2, h3, h4⟩
  · cases h0
  · injection h0 with h0 _ _
    injection h0 with h0
    injection h0 with hb ho _
    subst hb ho
    rw [Nat.zero_add] at hc
    exact ⟨b, z, rfl, hc, by simp [World.frozen?, hg]⟩
theorem IntRow.store {w : World} {b n : Nat} (h : IntRow w (some ⟨b, 0, none⟩) n) (j : Nat) (y : Int) : IntRow (w.setCell ⟨b, j, none⟩ (.int .i64 y)) (some ⟨b, 0, none⟩) n := by
  intro k hk
  obtain ⟨b', z, e, h1, h2⟩ := h k hk
  injection e with e
  injection e with e _ _
  subst e
  by_cases hkj : j = k
  · subst hkj
    exact ⟨b, y, rfl, World.cell?_setCell_same _ _ _ h1, by rw [World.frozen?_setCell]; exact h2⟩
  · exact ⟨b, z, rfl, by rw [World.cell?_setCell_other _ _ _ _ (by intro e; injection e; omega)]; exact h1, by rw [World.frozen?_setCell]; exact h2⟩
theorem OwnsJ.old {w : World} {v : Value} {l : List Int} (h : OwnsJ w v l) {g : Nat} (hg : v.ownBlock = some g) : g < w.heap.size := by
  obtain ⟨cs, hb⟩ := ownsJ_type h hg
  exact lt_of_block hb
/-- A zero outbox at pz, an outbox with one letter at p. -/
structure BagO (w W : World) (pz p : Nat) (own : List UInt8) (K : List La) (q : Yq) : Prop where
  zero : IsO W pz [] [] []
  one : IsO W p own K [q]
  kept : Kept [] w W
  pw : w.heap.size ≤ p
section
variable {w W W' : World} {pz p : Nat} {own : List UInt8} {K : List La} {q : Yq}
theorem BagO.kept0 (h : BagO w W pz p own K q) (k : Kept [] W W') : BagO w W' pz p own K q := ⟨h.zero.kept0 k, h.one.kept0 k, h.kept.trans k (by simp), h.pw⟩
/-- A row of integers that is younger than all of it is stored into. -/
theorem BagO.stored (h : BagO w W pz p own K q) {v : Value} {l : List Int} (ho : OwnsJ W v l) (k : Kept v.ownBlock.toList W W') (hq : ∀ g, v.ownBlock = some g → q.q.sl.ownBlock ≠ some g) (hw : Fresh w v) : BagO w W' pz p own K q := by
  obtain ⟨cs1, hb1⟩ := h.zero.bx
  obtain ⟨cs2, hb2⟩ := h.one.bx
  exact ⟨h.zero.kept k (by rw [Option.mem_toList]; exact ownsJ_ne ho hb1 (by decide)) (by simp),
    h.one.kept k (by rw [Option.mem_toList]; exact ownsJ_ne ho hb2 (by decide)) (fun y hy g hg hm => by
      rw [Option.mem_toList] at hm
      simp at hy
      subst hy
      exact hq g hm hg), h.kept.trans k (fun y hy => by rw [Option.mem_toList] at hy; exact .inr (hw y hy)), h.pw⟩
theorem zeroE63 : Try.zeroCells63 = (zeroO []).toArray := by kernel_rfl
set_option maxHeartbeats 1000000 in
theorem encode14_nil : Calls Try.prog 14 #[.pointer none] W fun e w' => e = .returned (.slice none 0 0) ∧ W = w' := by
  go_enter Try.func14, Try.ntmps14
  go_wp2_with fail
  refine owned34_nil.mono ?_
  rintro e w1 ⟨rfl, rfl⟩
  go_wp2_with fail
  go_ret
  exact ⟨rfl, rfl⟩
end
end Go.Proofs.Ythlemapneangeaa
/-
  OutboxNil: the walk.
-/
namespace Go.Proofs.Ythlemapneangeaa
set_option maxRecDepth 100000
open Go.RowKit
set_option linter.unusedVariables false
section
variable {w : World}
set_option maxHeartbeats 2000000 in
theorem nil_walk (to : List UInt8) (args : List Int) (a : Option Addr) (c : Nat) (hx : ReadsJ w (.slice a args.length c) args) (hto : to.length ≤ 281474976710656) :
    Calls Try.prog 8 #[Sv to, .slice a args.length c] w fun e w' => e = .returned (.bool true) ∧ Kept [] w w' := by
  have HX := Hid.mk hx
  obtain ⟨-, hac, hcc⟩ := hx.bound
  clear hx
  go_enter Try.func8, Try.ntmps8
  go_wp2_with fail
  refine awake9.mono ?_
  rintro e w1 ⟨rfl, k1⟩
  by_cases h4 : 4 < args.length
  · have g4 : (4 : Int) < (args.length : Int) := by omega
    go_wp2_with fail
    refine awake9.mono ?_
    rintro e w2 ⟨rfl, k2⟩
    go_wp2_with fail
    go_ret
    exact ⟨rfl, k1.trans k2 (by simp)⟩
  · have g4 : ((4 : Int) < (args.length : Int)) = False := eq_false (by omega)
    by_cases h40 : 1000 < to.length
    · have g40 : (1000 : Int) < (to.length : Int) := by omega
      go_wp2_with fail
      refine awake9.mono ?_
      rintro e w2 ⟨rfl, k2⟩
      go_wp2_with fail
      go_ret
      exact ⟨rfl, k1.trans k2 (by simp)⟩
    · have g40 : ((1000 : Int) < (to.length : Int)) = False := eq_false (by omega)
      go_wp2_with fail
      rw [zeroE63]
      have hZ := IsO.new [] w1
      obtain ⟨W1, e1, k1', hz1, -⟩ := box1 w1 (.cells (zeroO []).toArray 63)
      rw [e1] at hZ ⊢
      have k01 := k1.trans k1' (by simp)
      clear k1 k1' hz1 e1
      generalize w1.heap.size = pz at *
      refine (send20_arg to 0 a args.length c none hto false owned34_nil (by omega) (.inl rfl)).mono ?_
      rintro e w2 ⟨rfl, rfl⟩
      go_wp2_with fail
      refine (send20_arg to 0 a args.length c _ hto false (owned34 hZ) (by omega) (.inl rfl)).mono ?_
      rintro e w2 ⟨rfl, rfl⟩
      go_wp2_with fail
      refine first23_nil.mono ?_
      rintro e w3 ⟨a3, c3, rfl, -, k3, -⟩
      go_wp2_with fail
      obtain ⟨W3, e3, k3', -, -⟩ := box1 w3 (.cells #[.string { data := #[] }, .string { data := #[] }, .int .u64 0, .int .i64 0, .slice a3 0 c3] 48)
      rw [e3]
      clear e3
      have hZ3 := (hZ.kept0 k3).kept0 k3'
      refine (pop19_none (fun W kW => first23_none (hZ3.kept0 kW))).mono ?_
      rintro e w4 ⟨a4, c4, rfl, -, k4, -⟩
      go_wp2_with fail
      obtain ⟨W4, e4, k4', -, -⟩ := box1 w4 (.cells #[.string { data := #[] }, .string { data := #[] }, .int .u64 0, .int .i64 0, .slice a4 0 c4] 48)
      rw [e4]
      clear e4
      have k04 := (((k01.trans k3 (by simp)).trans k3' (by simp)).trans k4 (by simp)).trans k4' (by simp)
      have hZ4 := (hZ3.kept0 k4).kept0 k4'
      clear hZ hZ3 k3 k3' k4 k4' k01
      refine (new11 [109, 101] rfl).mono ?_
      rintro e w5 ⟨p, rfl, hB5, k5, hp5⟩
      have k05 := k04.trans k5 (by simp)
      have hZ5 := hZ4.kept0 k5
      have hO : OwnsR 2 1 (w5.alloc (.cells #[] 2)) (.slice (some ⟨w5.heap.size, 0, none⟩) 0 0) [] := World.ownsRow_made (base := 0) (e := 2) (size := 1) w5 #[] 0 (Nat.zero_le _) (by simp) (by simp)
      have k5a := (Kept.refl [] w5).alloc (.cells #[] 2)
      obtain ⟨a6, c6, w6, hrun, hO6, hg6, hN6⟩ := run_appendR rt23 _ 44 _ [] hO _ (CJ args) (CJ_wide _) (HX.out.kept (k05.trans k5a (by simp)) (by simp)) (by rw [CJ_length]; simp; omega)
      rw [List.nil_append, List.length_nil, Nat.zero_add, CJ_length] at *
      have k6 : Kept [] w5 w6 := k5a.grown hg6 (by simp [Value.ownBlock])
      have hf6 : Fresh w5 (.slice a6 args.length c6) := fun g hg => by
        rcases hN6 g hg with h | h
        · simp [Value.ownBlock] at h; omega
        · simp at h; omega
      have k06 := k05.trans k6 (by simp)
      have hB6 := hB5.kept0 k6
      have hZ6 := hZ5.kept0 k6
      have hO6 : OwnsJ w6 (.slice a6 args.length c6) args := hO6
      obtain ⟨-, hac6, hcc6⟩ := hO6.reads.bound
      have hnp : pz ≠ p := by
        have := hZ4.lt
        omega
      have hpw : w.heap.size ≤ p := by have := k04.size; omega
      clear hO k5a hg6 hN6 k5 hB5 hZ4 hZ5 k04
      go_wp2_with (at_builtin; refine wpList_append_run 44 44 _ _ rfl (by rfl) _ _ rfl rfl _ _ hrun ?_)
      clear hrun
      refine (send20_ok hB6 List.Pairwise.nil (by simp) (by simp) [120] ⟨[109, 101], 1, 0, args⟩ a6 c6 rfl (by simp; omega) (fun W kW => hO6.reads.kept kW (fun g hg hm => by simp at hm; subst hm; obtain ⟨cs, hb⟩ := hB6.bx; exact ownsJ_ne hO6 hb (by decide) hg)) rfl rfl (by simp) (.inr (by simp)) (by simp [ser])).mono ?_
      rintro e w7 ⟨rfl, a7, c7, hB7, k7, hf7⟩
      have hO7 : OwnsJ w7 (.slice a6 args.length c6) args := hO6.kept k7 (fun g hg hm => by simp at hm; subst hm; obtain ⟨cs, hb⟩ := hB6.bx; exact ownsJ_ne hO6 hb (by decide) hg)
      have hZ7 := hZ6.kept k7 (by simp; exact hnp) (by simp)
      have bag7 : BagO w w7 pz p [109, 101] (setK [] [120] (ser [] [120] + 1)) ⟨[120], ⟨[109, 101], 1, 0, args⟩, a7, c7⟩ := ⟨hZ7, hB7, k06.trans k7 (fun x hx => .inr (by simp at hx; subst hx; exact hpw)), hpw⟩
      have HB1 : Hid (∀ W, Kept (Value.slice a6 args.length c6).ownBlock.toList w7 W → BagO w W pz p [109, 101] (setK [] [120] (ser [] [120] + 1)) ⟨[120], ⟨[109, 101], 1, 0, args⟩, a7, c7⟩) := fun W k =>
        bag7.stored hO7 k (fun g hg hg' => by have := hf7 g hg'; have := hO6.old hg; omega) (fun g hg => by have := hf6 g hg; have := k05.size; omega)
      have HR1 : Hid (IntRow w7 a6 args.length) := hO7.row
      clear hO6 hf6 k6 k06 hB6 hZ6 hB7 k7 hf7 hO7 hZ7 bag7 k05 hp5 hpw hnp
      go_wp2_with fail
      go_loopw [75] (fun i wr => ∃ j : Nat, i = .int .i64 (j : Int) ∧ j ≤ args.length ∧ Hid (IntRow wr a6 args.length) ∧ Hid (Kept (Value.slice a6 args.length c6).ownBlock.toList w7 wr)) (fun i _ => args.length - (intOf i).toNat)
      case atStart => exact ⟨0, rfl, by omega, HR1, Hid.mk (Kept.refl _ _)⟩
      case round =>
        obtain ⟨j, rfl, hj, hI, kk⟩ := hrel
        by_cases hlt : j < args.length
        · obtain ⟨b, z, rfl, hc, hfz⟩ := hI.out j hlt
          have hjI : (j : Int) < (args.length : Int) := by omega
          go_wp2_with fail
          go_roundw
          case rel => exact ⟨j + 1, by go_num, by omega, Hid.mk (hI.out.store j _), Hid.mk (kk.out.setCell (.inl (by simp [Value.ownBlock])) _)⟩
          case measure => simp [intOf]; omega
        · obtain rfl : j = args.length := by omega
          have HB8 := Hid.mk (HB1.out _ kk.out)
          have hft : Fitq [⟨[120], ⟨[109, 101], 1, 0, args⟩, a7, c7⟩] := fun y hy => by simp at hy; subst hy; simp; omega
          have HF8 := Hid.mk (first23_some HB8.out.one hft)
          have HFT := Hid.mk hft
          clear HB1 HR1 hI kk hft
          go_wp2_with fail
          refine HF8.out.mono ?_
          rintro e w8 ⟨a8, c8, rfl, hO8, k8, hf8⟩
          obtain ⟨W8, e8, k8', hz8, hb8⟩ := box1 w8 (.cells #[Sv [120], Sv [109, 101], .int .u64 1, .int .i64 0, .slice a8 args.length c8] 48)
          have bag9 := (HB8.out.kept0 k8).kept0 k8'
          have hO9 : OwnsJ W8 (.slice a8 args.length c8) args := hO8.kept k8' (by simp)
          have HB9 : Hid (∀ W, Kept (Value.slice a8 args.length c8).ownBlock.toList W8 W → BagO w W pz p [109, 101] (setK [] [120] (ser [] [120] + 1)) ⟨[120], ⟨[109, 101], 1, 0, args⟩, a7, c7⟩ ∧ W.cell? ⟨w8.heap.size, 4, none⟩ = some (.slice a8 args.length c8)) := fun W k =>
            ⟨bag9.stored hO9 k (fun g hg hg' => by have := (HB8.out.one.args _ (by simp)).old hg'; have := hf8 g hg; omega) (fun g hg => by have := hf8 g hg; have := HB8.out.kept.size; omega), (cells5 (k.keeps hb8 (by rw [Option.mem_toList]; exact ownsJ_ne hO9 hb8 (by decide)))).2.2.2.2⟩
          have HR9 : Hid (IntRow W8 a8 args.length) := hO9.row
          obtain ⟨-, hac8, hcc8⟩ := hO9.reads.bound
          have HE8 := Hid.mk e8
          clear hO8 k8 hf8 k8' hz8 hb8 bag9 hO9 e8 HF8
          go_wp2_with fail
          rw [HE8.out]
          go_loopw [94] (fun i wr => ∃ j : Nat, i = .int .i64 (j : Int) ∧ j ≤ args.length ∧ Hid (IntRow wr a8 args.length) ∧ Hid (Kept (Value.slice a8 args.length c8).ownBlock.toList W8 wr)) (fun i _ => args.length - (intOf i).toNat)
          case atStart => exact ⟨0, rfl, by omega, HR9, Hid.mk (Kept.refl _ _)⟩
          case round =>
            clear hlt
            obtain ⟨j, rfl, hj, hI, kk⟩ := hrel
            by_cases hlt : j < args.length
            · obtain ⟨b, z, rfl, hc, hfz⟩ := hI.out j hlt
              have r4 := (HB9.out _ kk.out).2
              have hjI : (j : Int) < (args.length : Int) := by omega
              go_wp2_with fail
              go_roundw
              case rel => exact ⟨j + 1, by go_num, by omega, Hid.mk (hI.out.store j _), Hid.mk (kk.out.setCell (.inl (by simp [Value.ownBlock])) _)⟩
              case measure => simp [intOf]; omega
            · obtain rfl : j = args.length := by omega
              have HB10 := Hid.mk (HB9.out _ kk.out).1
              have HP := Hid.mk (pop19_some HB10.out.one HFT.out)
              clear HB9 HR9 hI kk HB8 HE8
              go_wp2_with fail
              refine HP.out.mono ?_
              rintro e w11 ⟨a11, c11, rfl, hO11, k11, hf11, -⟩
              obtain ⟨W11, e11, k11', hz11, hb11⟩ := box1 w11 (.cells #[Sv [120], Sv [109, 101], .int .u64 1, .int .i64 0, .slice a11 args.length c11] 48)
              have hpz : pz ≠ p := fun e => by
                subst e
                have h1 := HB10.out.zero.count
                have h2 := HB10.out.one.count
                rw [h1] at h2
                simp at h2
              have hZ11 := (HB10.out.zero.kept k11 (by simp; exact hpz) (by simp)).kept0 k11'
              have hpw := HB10.out.pw
              have K11 := Hid.mk ((HB10.out.kept.trans k11 (fun x hx => .inr (by simp at hx; subst hx; exact hpw))).trans k11' (by simp))
              have hO12 : OwnsJ W11 (.slice a11 args.length c11) args := hO11.kept k11' (by simp)
              have HE11 := Hid.mk e11
              clear hO11 k11 hf11 k11' hz11 e11 HB10 HP HFT
              go_wp2_with fail
              rw [HE11.out]
              refine owner24_nil.mono ?_
              rintro e w12 ⟨rfl, rfl⟩
              go_wp2_with fail
              refine (serial22 hZ11 List.Pairwise.nil to).mono ?_
              rintro e w13 ⟨rfl, k13⟩
              go_wp2_with fail
              refine (all21 (hZ11.kept0 k13) (by simp [Fitq])).mono ?_
              rintro e w14 ⟨v14, rfl, qs14, hm14, hY14, k14⟩
              obtain ⟨a14, c14, rfl, -, -⟩ := rowY_form hY14.row
              obtain rfl : qs14 = [] := by simpa using hm14
              go_wp2_with fail
              refine encode14_nil.mono ?_
              rintro e w15 ⟨rfl, rfl⟩
              have k1114 := k13.trans k14 (by simp)
              have r4 := (cells5 (k1114.keeps hb11 (by simp))).2.2.2.2
              go_wp2_with fail
              have hs := sameInts31 (hO12.reads.kept k1114 (by simp)) (HX.out.kept (K11.out.trans k1114 (by simp)) (by simp)) (Hid.mk rfl) (Hid.mk rfl) (by omega)
              rw [decide_eq_true rfl] at hs
              refine hs.mono ?_
              rintro e w16 ⟨rfl, k16⟩
              go_wp2_with fail
              go_ret
              exact ⟨rfl, (K11.out.trans k1114 (by simp)).trans k16 (by simp)⟩
end
end Go.Proofs.Ythlemapneangeaa
/-
  Integers that came in, opened.
-/
namespace Go.Proofs.Ythlemapneangeaa
open Go.RowKit Go.Deep Go.ChangeShapes
set_option linter.unusedVariables false
/-- Integers that came in. -/
def IntsIn (W : World) (v : Value) (l : List Int) : Prop := ReadsJ W v l ∧ ∀ z ∈ l, I64 z
theorem open_intsI {H : Type} {enc : TypeId × Value → H} {W : World} {fuel : Nat} {cs : List Value} {x : DataW H × List MemPlace} (h : DataW.trod enc Try.prog W 0 (fun _ => true) true fuel 44 cs = some x) : ∃ v l, cs = [v] ∧ IntsIn W v l := by
  rcases open_ints Try.underlying44 Try.underlying2 (by kernel_rfl) h with ⟨hcs, hx⟩ | ⟨y, l, c, zs, hcs, _, hl, hm, hz, hx, hcell, hwz⟩
  · exact ⟨_, [], hcs, ReadsJ.nil W, by simp⟩
  · obtain ⟨B, hB, hBl, _⟩ := readsJ_of_row W y zs hl hm (by simpa using hz) hcell hwz
    exact ⟨_, B, hcs, hB, hBl⟩
theorem nil_str {w : World} (s : ByteArray) {v : Value} {l : List Int} (hs : s.size ≤ 140737488351232) (hr : IntsIn w v l) : Calls Try.prog 8 #[.string s, v] w fun e w' => e = .returned (.bool true) ∧ Kept [] w w' := by
  have e : Sv s.data.toList = .string s := by
    obtain ⟨d⟩ := s
    simp
  have hl : s.data.toList.length = s.size := by simp
  rw [← e]
  obtain ⟨a, c, rfl, -, -⟩ := hr.1.form
  exact nil_walk _ l a c hr.1 (by omega)
end Go.Proofs.Ythlemapneangeaa
