import Derived.Laws.CopyRow
import Derived.Test.YtdadloaifebdiaaGreatQ11
import Derived.Test.YtdadloaifebdiaaGreatQ12
import Derived.Test.YtdadloaifebdiaaGreatQ13
import Derived.Test.YtdadloaifebdiaaGreatQ20
/-
  Unpack, and the document's.
-/
namespace Go.Proofs.YtdadloaifebdiaaGreat
open Go.RowKit
set_option linter.unusedVariables false
/-- Letters in memory of their own: the slice v owns the letters qs, each one's Args are a row of its own; all of it new since w0. -/
structure OwnL (w0 w : World) (v : Value) (qs : List Lq) : Prop where
  own : OwnsR 90 4 w v (CQ qs)
  args : ∀ q ∈ qs, OwnsJ w q.sl q.x.args
  fr : Fresh w0 v
  fra : ∀ q ∈ qs, Fresh w0 q.sl
theorem OwnL.nil (w0 w : World) : OwnL w0 w (.slice none 0 0) [] := ⟨OwnsR.nil 90 4 w, by simp, fresh_nil w0 0, by simp⟩
theorem OwnL.kept {S : List Nat} {w0 w w' : World} {v : Value} {qs : List Lq} (h : OwnL w0 w v qs) (k : Kept S w w') (hS : ∀ y ∈ S, v.ownBlock ≠ some y ∧ ∀ q ∈ qs, q.sl.ownBlock ≠ some y) : OwnL w0 w' v qs :=
  ⟨h.own.kept k (fun g hg hm => (hS g hm).1 hg), fun q hq => (h.args q hq).kept k (fun g hg hm => (hS g hm).2 q hq hg), h.fr, h.fra⟩
theorem OwnL.kept0 {w0 w w' : World} {v : Value} {qs : List Lq} (h : OwnL w0 w v qs) (k : Kept [] w w') : OwnL w0 w' v qs := h.kept k (by simp)
theorem OwnL.row {w0 w : World} {v : Value} {qs : List Lq} (h : OwnL w0 w v qs) : RowQ w v qs := h.own.reads (CQ_wide qs)
theorem OwnL.vals {w0 w : World} {v : Value} {qs : List Lq} (h : OwnL w0 w v qs) : ValsQ w qs := fun q hq => (h.args q hq).reads
/-- 'append(v, letter)'. -/
theorem OwnL.app {w0 w : World} {v : Value} {qs : List Lq} (h : OwnL w0 w v qs) (q : Lq) (hq : OwnsJ w q.sl q.x.args) (hf : Fresh w0 q.sl) (hs : w0.heap.size ≤ w.heap.size) (hn : qs.length ≤ 900000) : ∃ ad c w', (Builtin.append_ #[35, 35] 35 #[v, .slice (some ⟨w.heap.size, 0, none⟩) 1 1]).run Tryz.prog (w.alloc (.cells #[Sv q.x.fr, .int .u64 (q.x.ser : Int), .int .i64 q.x.kind, q.sl] 90)) = .ok (.slice ad (qs.length + 1) c) w' ∧ OwnL w0 w' (.slice ad (qs.length + 1) c) (qs ++ [q]) ∧ Kept v.ownBlock.toList w w' := by
  obtain ⟨ad, c, w', hrun, ho, k, hN⟩ := append_rowR rt28 h.own (cellsQ q) rfl (fun u hu => by simp [cellsQ] at hu; rcases hu with rfl | rfl | rfl | rfl <;> rfl) (by rw [CQ_length]; exact hn) 90 (0, 0) 35
  rw [CQ_length] at *
  refine ⟨ad, c, w', hrun, ⟨?_, fun y hy => ?_, fun g hg => ?_, fun y hy => ?_⟩, k⟩
  · rw [CQ_append]; exact ho
  · have hy' : OwnsJ w y.sl y.x.args := by
      rcases List.mem_append.1 hy with hy | hy
      · exact h.args y hy
      · simp at hy; subst hy; exact hq
    exact hy'.kept k (fun g hg hm => by rw [Option.mem_toList] at hm; exact own_apart hy' h.own (by decide) hg hm)
  · rcases hN g hg with h1 | h1
    · exact h.fr g h1
    · omega
  · rcases List.mem_append.1 hy with hy | hy
    · exact h.fra y hy
    · simp at hy; subst hy; exact hf
theorem OwnL.elder {w0 w1 w : World} {v : Value} {qs : List Lq} (h : OwnL w1 w v qs) (hs : w0.heap.size ≤ w1.heap.size) : OwnL w0 w v qs :=
  ⟨h.own, h.args, fun g hg => Nat.le_trans hs (h.fr g hg), fun q hq g hg => Nat.le_trans hs (h.fra q hq g hg)⟩
/-- What Unpack answers. -/
def UnAt (w : World) (l : List UInt8) (e : Ending) (w' : World) : Prop :=
  ∃ (v : Value) (qs : List Lq), e = .returned (.tuple #[v, .int .i64 (if (decP l).isSome = true then 0 else 2)]) ∧ qs.map (·.x) = (decP l).getD [] ∧ OwnL w w' v qs ∧ Kept [] w w'
theorem unAt_none {w w' : World} {l : List UInt8} (h : decP l = none) (k : Kept [] w w') : UnAt w l (.returned (.tuple #[.slice none 0 0, .int .i64 2])) w' := by
  unfold UnAt
  rw [h]
  exact ⟨_, [], rfl, rfl, OwnL.nil w w', k⟩
theorem unAt_some {w w' : World} {l : List UInt8} {v : Value} {qs : List Lq} (h : decP l = some (qs.map (·.x))) (ho : OwnL w w' v qs) (k : Kept [] w w') : UnAt w l (.returned (.tuple #[v, .int .i64 0])) w' := by
  unfold UnAt
  rw [h]
  exact ⟨v, qs, rfl, rfl, ho, k⟩
section
variable {w : World}
set_option maxRecDepth 100000 in
set_option maxHeartbeats 1000000 in
theorem unpack22 (v : Value) (l : List UInt8) (hr : Reads w v l) (hl : l.length ≤ 3000000) : Calls Tryz.prog 76 #[v] w fun e w' => UnAt w l e w' := by
  go_enter Tryz.func76, Tryz.ntmps76
  go_wp2_with fail
  refine (newr_in v l w hr (by omega)).mono ?_
  rintro e w1 ⟨p, v1, rfl, hR1, k1, hf1, hp1, hin⟩
  go_wp2_with fail
  refine (rnum_any p v1 l false _ hR1).mono ?_
  rintro e w2 ⟨rfl, v2, hR2, k2, hV2⟩
  have hcn := rnum_lt l false
  have hrest := rnum_rest_I l false
  generalize hn : rnum l false = nr at hR2 hcn hrest
  have HN := Hid.mk hn
  clear hn
  go_wp2_with fail
  have k12 : Kept [] w w2 := k1.trans k2 (by simp; omega)
  have hp2 : p < w1.heap.size := hR1.lt
  have hz12 := k2.size
  have HIN : Hid (∀ g, v1.ownBlock = some g → g < w1.heap.size) := hin
  have HS : Hid (w.heap.size ≤ w1.heap.size) := k1.size
  clear hin k1 k2 hR1 hf1
  go_loopw [6, 14] (fun u i wr => ∃ (j : Nat) (qs : List Lq) (vi : Value) (r : List UInt8) (b : Bool), i = .int .u64 (j : Int) ∧ j ≤ nr.1 ∧ Hid (rlN_I j nr.2.1 nr.2.2 = some (qs.map (·.x), r, b)) ∧ Hid (IsR 122 wr p vi r b) ∧ Hid (Within v1 vi) ∧ Hid (OwnL w1 wr u qs) ∧ Hid (Kept [] w wr) ∧ Hid (w1.heap.size ≤ wr.heap.size)) (fun _ i _ => nr.1 - (intOf i).toNat)
  case atStart => exact ⟨0, [], v2, nr.2.1, nr.2.2, rfl, by omega, Hid.mk rfl, Hid.mk hR2, Hid.mk hV2, Hid.mk (OwnL.nil w1 w2), Hid.mk k12, Hid.mk hz12⟩
  case round =>
    obtain ⟨j, qs, vi, r, b, rfl, hj, hrl, hR, hV, hO, kk, hz⟩ := hrel
    by_cases hlt : j < nr.1
    · have hjI : (j : Int) < (nr.1 : Int) := by omega
      go_wp2_with fail
      refine (read34 p vi r b hR.out (fun g hg => by have := HIN.out g (hV.out g hg); have := hz.out; omega)).mono ?_
      rintro e w3 ⟨x, ax, cx, rfl, hx, hOx, hFx, v3, hR3, k3, hV3⟩
      have hO3 : OwnL w1 w3 _ qs := hO.out.kept k3 (fun y hy => by
        simp at hy
        subst hy
        exact ⟨fun h => by have := hO.out.fr y h; omega, fun q hq h => by have := hO.out.fra q hq y h; omega⟩)
      have k03 : Kept [] w w3 := kk.out.trans k3 (by simp; omega)
      have hz3 : w1.heap.size ≤ w3.heap.size := by have := hz.out; have := k3.size; omega
      cases hrx : (rlet r b).1 with
      | none =>
        have hN : decP l = none := by
          unfold decP
          rw [HN.out, rlN_stop (rlN_none hrl.out hrx) nr.1 (by omega)]
          rfl
        dsimp only [Option.isSome]
        clear hx hrx
        go_wp2_with fail
        go_ret2
        exact unAt_none hN (k03.alloc _)
      | some y =>
        obtain rfl := hx y hrx
        have hrn := rlN_next hrl.out hrx
        have hlen := rlN_len hrn
        dsimp only [Option.isSome]
        have HX := Hid.mk hrn
        clear hx hrx hrn
        obtain ⟨W3, e3, kW3, hzW3, hb3⟩ := box1 w3 (.cells #[Sv x.fr, .int .u64 (x.ser : Int), .int .i64 x.kind, .slice ax x.args.length cx] 90)
        have hql : qs.length = j := by have := (rlN_fwd j hrl.out).1; simpa using this
        obtain ⟨ad, c4, w4, hrun, hO4, k4⟩ := (hO3.kept0 kW3).app ⟨x, ax, cx⟩ (hOx.kept kW3 (by simp)) (fun g hg => by have := hFx g hg; have := hz.out; omega) (by omega) (by omega)
        rw [hzW3, ← e3] at hrun
        have k04 : Kept [] w w4 := (k03.trans kW3 (by simp)).trans k4 (fun y hy => by
          rw [Option.mem_toList] at hy
          have := hO.out.fr y hy
          have := HS.out
          exact .inr (by omega))
        have hR4 : IsR 122 w4 p v3 _ _ := (hR3.kept kW3 (by simp) (by simp)).kept k4 (fun hm => by
          rw [Option.mem_toList] at hm
          have := hO.out.fr p hm; omega) (fun g hg hm => by
          rw [Option.mem_toList] at hm
          have := hO.out.fr g hm
          have := HIN.out g (hV.out g (hV3 g hg))
          omega)
        have H4 : Hid (Kept [] w w4 ∧ IsR 122 w4 p v3 (rlet r b).2.1 (rlet r b).2.2 ∧ OwnL w1 w4 (.slice ad (qs.length + 1) c4) (qs ++ [⟨x, ax, cx⟩]) ∧ w1.heap.size ≤ w4.heap.size) := ⟨k04, hR4, hO4, by have := k4.size; omega⟩
        have HV4 : Hid (Within v1 v3) := hV.out.trans hV3
        clear e3 kW3 hzW3 hb3 hO4 k4 k04 hR4 hO3 hOx hFx hR3 k3 hV3 hql
        go_wp2_with (at_builtin; refine wpList_append_run 35 35 _ _ rfl (by rfl) _ _ rfl rfl _ _ hrun ?_)
        go_roundw
        case rel =>
          refine ⟨j + 1, qs ++ [⟨x, ax, cx⟩], v3, (rlet r b).2.1, (rlet r b).2.2, by go_num, by omega, Hid.mk ?_, Hid.mk H4.out.2.1, HV4, Hid.mk H4.out.2.2.1, Hid.mk H4.out.1, Hid.mk H4.out.2.2.2⟩
          rw [HX.out]
          simp
        case measure => simp [intOf]; omega
    · obtain rfl : j = nr.1 := by omega
      have HD : Hid (decP l = if (!b && r.isEmpty) = true then some (qs.map (·.x)) else none) := by
        show _ = _
        unfold decP
        rw [HN.out, hrl.out]
        rfl
      go_wp2_with fail
      refine (end_any p vi r b _ hR.out).mono ?_
      rintro e w4 ⟨rfl, rfl⟩
      cases hq : (!b && r.isEmpty) with
      | false =>
        rw [hq] at HD
        clear hq
        go_wp2_with fail
        go_ret2
        exact unAt_none HD.out kk.out
      | true =>
        rw [hq] at HD
        clear hq
        go_wp2_with fail
        go_ret2
        exact unAt_some HD.out (hO.out.elder HS.out) kk.out
set_option maxRecDepth 100000 in
set_option maxHeartbeats 1000000 in
theorem unpack23 (v : Value) (l : List UInt8) (hr : Reads w v l) (hin : Inside w v) (hl : l.length ≤ 3000000) : Calls Tryz.prog 27 #[v] w fun e w' => UnAt w l e w' := by
  obtain ⟨av, cv, hve, hv2, hv3⟩ : ∃ a c, v = .slice a l.length c ∧ l.length ≤ c ∧ c ≤ 9223372036854775807 := by
    obtain ⟨a, c, h1, h2, h3, _⟩ := id hr
    exact ⟨a, c, h1, h2, h3⟩
  subst hve
  go_enter Tryz.func27, Tryz.ntmps27
  go_wp2_with fail
  refine (of_any _ l w hr hin).mono ?_
  rintro e w1 ⟨p, rfl, hR1, k1, hp1⟩
  generalize hv1 : Value.slice av l.length cv = v1 at *
  have hin1 : ∀ g, v1.ownBlock = some g → g < w1.heap.size := fun g hg => by have := hin g hg; have := k1.size; omega
  have HV1 := Hid.mk hv1.symm
  clear hv1
  go_wp2_with fail
  refine (refr_any p v1 l false _ hR1).mono ?_
  rintro e w2 ⟨rfl, v2, hR2, k2, hV2⟩
  have hcn := rnum_lt l false
  have hrest := rnum_rest_I l false
  generalize hn : rnum l false = nr at hR2 hcn hrest
  have HN := Hid.mk hn
  clear hn
  have k12 : Kept [] w w2 := k1.trans k2 (by simp; omega)
  have hp2 : p < w1.heap.size := hR1.lt
  have hz12 := k2.size
  have HIN : Hid (∀ g, v1.ownBlock = some g → g < w1.heap.size) := hin1
  have HS : Hid (w.heap.size ≤ w1.heap.size) := k1.size
  clear hin hin1 k1 k2 hR1 hr
  obtain ⟨b0, b1⟩ := cell_of_two hR2.box
  obtain rfl := HV1.out
  cases hbd : nr.2.2 with
  | true =>
    rw [hbd] at b1
    have hN : Hid (decP l = none) := decP_bad (by rw [HN.out]; exact hbd)
    clear hbd
    go_wp2_with fail
    go_ret2
    exact unAt_none hN.out k12
  | false =>
    rw [hbd] at b1
    have HB := Hid.mk hbd
    clear hbd
    by_cases hlen : l.length < nr.1
    · have hN : Hid (decP l = none) := decP_many (by rw [HN.out]; exact hlen)
      have hnI : (l.length : Int) < (nr.1 : Int) := by omega
      go_wp2_with fail
      go_ret2
      exact unAt_none hN.out k12
    · have hnI : ((l.length : Int) < (nr.1 : Int)) = False := eq_false (by omega)
      go_wp2_with fail
      generalize hq1 : Value.slice av l.length cv = v1 at HIN hV2
      clear hq1 b0 b1 hnI hlen
      go_loopw [6, 25] (fun u i wr => ∃ (j : Nat) (qs : List Lq) (vi : Value) (r : List UInt8) (b : Bool), i = .int .u64 (j : Int) ∧ j ≤ nr.1 ∧ Hid (rlN_I j nr.2.1 nr.2.2 = some (qs.map (·.x), r, b)) ∧ Hid (IsR 132 wr p vi r b) ∧ Hid (Within v1 vi) ∧ Hid (OwnL w1 wr u qs) ∧ Hid (Kept [] w wr) ∧ Hid (w1.heap.size ≤ wr.heap.size)) (fun _ i _ => nr.1 - (intOf i).toNat)
      case atStart => exact ⟨0, [], v2, nr.2.1, nr.2.2, rfl, by omega, Hid.mk rfl, Hid.mk hR2, Hid.mk hV2, Hid.mk (OwnL.nil w1 w2), Hid.mk k12, Hid.mk hz12⟩
      case round =>
        obtain ⟨j, qs, vi, r, b, rfl, hj, hrl, hR, hV, hO, kk, hz⟩ := hrel
        by_cases hlt : j < nr.1
        · have hjI : (j : Int) < (nr.1 : Int) := by omega
          go_wp2_with fail
          refine (take37 p vi r b hR.out (fun g hg => by have := HIN.out g (hV.out g hg); have := hz.out; omega)).mono ?_
          rintro e w3 ⟨x, ax, cx, rfl, hx, hOx, hFx, v3, hR3, k3, hV3⟩
          have hO3 : OwnL w1 w3 _ qs := hO.out.kept k3 (fun y hy => by
            simp at hy
            subst hy
            exact ⟨fun h => by have := hO.out.fr y h; omega, fun q hq h => by have := hO.out.fra q hq y h; omega⟩)
          have k03 : Kept [] w w3 := kk.out.trans k3 (by simp; omega)
          have hz3 : w1.heap.size ≤ w3.heap.size := by have := hz.out; have := k3.size; omega
          cases hrx : (rlet r b).1 with
          | none =>
            have hN : decP l = none := by
              unfold decP
              rw [HN.out, rlN_stop (rlN_none hrl.out hrx) nr.1 (by omega)]
              rfl
            dsimp only [Option.isSome]
            clear hx hrx
            go_wp2_with fail
            go_ret2
            exact unAt_none hN (k03.alloc _)
          | some y =>
            obtain rfl := hx y hrx
            have hrn := rlN_next hrl.out hrx
            have hlen := rlN_len hrn
            dsimp only [Option.isSome]
            have HX := Hid.mk hrn
            clear hx hrx hrn
            obtain ⟨W3, e3, kW3, hzW3, hb3⟩ := box1 w3 (.cells #[Sv x.fr, .int .u64 (x.ser : Int), .int .i64 x.kind, .slice ax x.args.length cx] 90)
            have hql : qs.length = j := by have := (rlN_fwd j hrl.out).1; simpa using this
            obtain ⟨ad, c4, w4, hrun, hO4, k4⟩ := (hO3.kept0 kW3).app ⟨x, ax, cx⟩ (hOx.kept kW3 (by simp)) (fun g hg => by have := hFx g hg; have := hz.out; omega) (by omega) (by omega)
            rw [hzW3, ← e3] at hrun
            have k04 : Kept [] w w4 := (k03.trans kW3 (by simp)).trans k4 (fun y hy => by
              rw [Option.mem_toList] at hy
              have := hO.out.fr y hy
              have := HS.out
              exact .inr (by omega))
            have hR4 : IsR 132 w4 p v3 _ _ := (hR3.kept kW3 (by simp) (by simp)).kept k4 (fun hm => by
              rw [Option.mem_toList] at hm
              have := hO.out.fr p hm; omega) (fun g hg hm => by
              rw [Option.mem_toList] at hm
              have := hO.out.fr g hm
              have := HIN.out g (hV.out g (hV3 g hg))
              omega)
            have H4 : Hid (Kept [] w w4 ∧ IsR 132 w4 p v3 (rlet r b).2.1 (rlet r b).2.2 ∧ OwnL w1 w4 (.slice ad (qs.length + 1) c4) (qs ++ [⟨x, ax, cx⟩]) ∧ w1.heap.size ≤ w4.heap.size) := ⟨k04, hR4, hO4, by have := k4.size; omega⟩
            have HV4 : Hid (Within v1 v3) := hV.out.trans hV3
            clear e3 kW3 hzW3 hb3 hO4 k4 k04 hR4 hO3 hOx hFx hR3 k3 hV3 hql
            go_wp2_with (at_builtin; refine wpList_append_run 35 35 _ _ rfl (by rfl) _ _ rfl rfl _ _ hrun ?_)
            go_roundw
            case rel =>
              refine ⟨j + 1, qs ++ [⟨x, ax, cx⟩], v3, (rlet r b).2.1, (rlet r b).2.2, by go_num, by omega, Hid.mk ?_, Hid.mk H4.out.2.1, HV4, Hid.mk H4.out.2.2.1, Hid.mk H4.out.1, Hid.mk H4.out.2.2.2⟩
              rw [HX.out]
              simp
            case measure => simp [intOf]; omega
        · obtain rfl : j = nr.1 := by omega
          have HD : Hid (decP l = if (!b && r.isEmpty) = true then some (qs.map (·.x)) else none) := by
            show _ = _
            unfold decP
            rw [HN.out, hrl.out]
            rfl
          go_wp2_with fail
          refine (refr_end p vi r b _ hR.out).mono ?_
          rintro e w4 ⟨rfl, rfl⟩
          cases hq : (!b && r.isEmpty) with
          | false =>
            rw [hq] at HD
            clear hq
            go_wp2_with fail
            go_ret2
            exact unAt_none HD.out kk.out
          | true =>
            rw [hq] at HD
            clear hq
            go_wp2_with fail
            go_ret2
            exact unAt_some HD.out (hO.out.elder HS.out) kk.out
end
end Go.Proofs.YtdadloaifebdiaaGreat
/-
  An inbox in memory: a block of eight letters and their count. And 'copy' of rows of k cells, over any program.
-/
namespace Go.Proofs.YtdadloaifebdiaaGreat
open Go.RowKit
set_option linter.unusedVariables false
section
variable {P : Program}
end
theorem put4_cell (w : World) (p o : Nat) (v0 v1 v2 v3 : Value) {a : Addr} (h : a.block = p → a.off < o ∨ o + 4 ≤ a.off) : ((((w.setCell ⟨p, o, none⟩ v0).setCell ⟨p, o + 1, none⟩ v1).setCell ⟨p, o + 2, none⟩ v2).setCell ⟨p, o + 3, none⟩ v3).cell? a = w.cell? a := by
  rw [World.cell?_setCell_other, World.cell?_setCell_other, World.cell?_setCell_other, World.cell?_setCell_other]
  all_goals (intro e; subst e; have := h rfl; simp at this; omega)
/-- A struct of four cells that is stored whole, into a row. -/
theorem putL {w : World} {p o : Nat} {L : List Value} {t : TypeId} (h : w.heap[p]? = some (.cells L.toArray t (0, 0))) (x0 x1 x2 x3 : Value) : ∃ W, (((w.setCell ⟨p, o, none⟩ x0).setCell ⟨p, o + 1, none⟩ x1).setCell ⟨p, o + 2, none⟩ x2).setCell ⟨p, o + 3, none⟩ x3 = W ∧ Kept [p] w W ∧ W.heap[p]? = some (.cells ((((L.set o x0).set (o + 1) x1).set (o + 2) x2).set (o + 3) x3).toArray t (0, 0)) ∧ W.heap.size = w.heap.size :=
  ⟨_, rfl, ((((Kept.refl [p] w).setCell (p := ⟨p, o, none⟩) (.inl (by simp)) x0).setCell (p := ⟨p, o + 1, none⟩) (.inl (by simp)) x1).setCell (p := ⟨p, o + 2, none⟩) (.inl (by simp)) x2).setCell (p := ⟨p, o + 3, none⟩) (.inl (by simp)) x3, set_list (set_list (set_list (set_list h))), by simp⟩
/-- No letter. -/
def zq : Lq := ⟨⟨[], 0, 0, []⟩, none, 0⟩
/-- The eight places. -/
def padQ (qs : List Lq) : List Lq := qs ++ List.replicate (8 - qs.length) zq
/-- An inbox' cells. -/
def cellsB (qs : List Lq) : List Value := (CQ (padQ qs)).flatten ++ [.int .i64 (qs.length : Int)]
theorem padQ_length {qs : List Lq} (h : qs.length ≤ 8) : (padQ qs).length = 8 := by simp [padQ]; omega
theorem flatB_length {qs : List Lq} (h : qs.length ≤ 8) : (CQ (padQ qs)).flatten.length = 32 := by rw [(CQ_wide _).flat_length, CQ_length, padQ_length h]
theorem cellsB_length {qs : List Lq} (h : qs.length ≤ 8) : (cellsB qs).length = 33 := by simp only [cellsB, List.length_append, flatB_length h]; rfl
theorem cellsB_count {qs : List Lq} (h : qs.length ≤ 8) : (cellsB qs)[32]? = some (.int .i64 (qs.length : Int)) := by
  rw [cellsB, List.getElem?_append_right (by rw [flatB_length h]; omega), flatB_length h]
  rfl
theorem cellsB_at {qs : List Lq} (h : qs.length ≤ 8) {j : Nat} {q : Lq} (hj : (padQ qs)[j]? = some q) {i : Nat} {v : Value} (hi : (cellsQ q)[i]? = some v) : (cellsB qs)[j * 4 + i]? = some v := by
  have h1 : j < 8 := by
    have := (List.getElem?_eq_some_iff.1 hj).1
    rw [padQ_length h] at this; exact this
  have h2 : i < 4 := (List.getElem?_eq_some_iff.1 hi).1
  rw [cellsB, List.getElem?_append_left (by rw [flatB_length h]; omega)]
  exact (CQ_wide _).at j (cellsQ q) (by simp [CQ, hj]) i v hi
theorem padQ_get {qs : List Lq} {j : Nat} {q : Lq} (hj : qs[j]? = some q) : (padQ qs)[j]? = some q := by
  rw [padQ, List.getElem?_append_left (List.getElem?_eq_some_iff.1 hj).1]; exact hj
/-- A letter more. -/
theorem cellsB_push (qs : List Lq) (q : Lq) (h : qs.length < 8) : (((((cellsB qs).set (qs.length * 4) (Sv q.x.fr)).set (qs.length * 4 + 1) (.int .u64 (q.x.ser : Int))).set (qs.length * 4 + 2) (.int .i64 q.x.kind)).set (qs.length * 4 + 3) q.sl).set 32 (.int .i64 ((qs.length + 1 : Nat) : Int)) = cellsB (qs ++ [q]) := by
  match qs, h with
  | [], _ => rfl
  | [_], _ => rfl
  | [_, _], _ => rfl
  | [_, _, _], _ => rfl
  | [_, _, _, _], _ => rfl
  | [_, _, _, _, _], _ => rfl
  | [_, _, _, _, _, _], _ => rfl
  | [_, _, _, _, _, _, _], _ => rfl
  | _ :: _ :: _ :: _ :: _ :: _ :: _ :: _ :: _, h => simp at h; omega
/-- A letter less. -/
theorem cellsB_pop (q : Lq) (qs : List Lq) (h : qs.length < 8) : ((((((CQ qs).flatten ++ (cellsB (q :: qs)).drop (CQ qs).flatten.length).set 32 (.int .i64 (qs.length : Int))).set (qs.length * 4) (Sv [])).set (qs.length * 4 + 1) (.int .u64 0)).set (qs.length * 4 + 2) (.int .i64 0)).set (qs.length * 4 + 3) (.slice none 0 0) = cellsB qs := by
  match qs, h with
  | [], _ => rfl
  | [_], _ => rfl
  | [_, _], _ => rfl
  | [_, _, _], _ => rfl
  | [_, _, _, _], _ => rfl
  | [_, _, _, _, _], _ => rfl
  | [_, _, _, _, _, _], _ => rfl
  | [_, _, _, _, _, _, _], _ => rfl
  | _ :: _ :: _ :: _ :: _ :: _ :: _ :: _ :: _, h => simp at h; omega
/-- Letters that are laid into an inbox of none. -/
theorem cellsB_fill (qs : List Lq) (h : qs.length ≤ 8) : (CQ qs).flatten ++ ((cellsB []).set 32 (.int .i64 (qs.length : Int))).drop (CQ qs).flatten.length = cellsB qs := by
  match qs, h with
  | [], _ => rfl
  | [_], _ => rfl
  | [_, _], _ => rfl
  | [_, _, _], _ => rfl
  | [_, _, _, _], _ => rfl
  | [_, _, _, _, _], _ => rfl
  | [_, _, _, _, _, _], _ => rfl
  | [_, _, _, _, _, _, _], _ => rfl
  | [_, _, _, _, _, _, _, _], _ => rfl
  | _ :: _ :: _ :: _ :: _ :: _ :: _ :: _ :: _ :: _, h => simp at h
/-- The inbox at block p has the letters qs. -/
structure IsB (w : World) (p : Nat) (qs : List Lq) : Prop where
  box : w.heap[p]? = some (.cells (cellsB qs).toArray 153 (0, 0))
  len : qs.length ≤ 8
  good : ∀ q ∈ qs, q.x.ok ∧ q.x.formed = true
  args : ∀ q ∈ qs, OwnsJ w q.sl q.x.args
section
variable {w w' : World} {p : Nat} {qs : List Lq}
theorem IsB.lt (h : IsB w p qs) : p < w.heap.size := lt_of_block h.box
theorem IsB.kept {S : List Nat} (h : IsB w p qs) (k : Kept S w w') (hp : p ∉ S) (hq : ∀ q ∈ qs, ∀ g, q.sl.ownBlock = some g → g ∉ S) : IsB w' p qs :=
  ⟨k.keeps h.box hp, h.len, h.good, fun q hm => (h.args q hm).kept k (hq q hm)⟩
theorem IsB.kept0 (h : IsB w p qs) (k : Kept [] w w') : IsB w' p qs := h.kept k (by simp) (by simp)
theorem IsB.cell (h : IsB w p qs) {i : Nat} {v : Value} (hi : (cellsB qs)[i]? = some v) : w.cell? ⟨p, i, none⟩ = some v := by
  unfold World.cell?
  rw [h.box]
  simpa using hi
theorem IsB.free (h : IsB w p qs) (i : Nat) : w.frozen? ⟨p, i, none⟩ = false := by
  simp [World.frozen?, h.box]
theorem IsB.count (h : IsB w p qs) : w.cell? ⟨p, 32, none⟩ = some (.int .i64 (qs.length : Int)) := h.cell (cellsB_count h.len)
theorem IsB.at (h : IsB w p qs) {j : Nat} {q : Lq} (hj : qs[j]? = some q) : w.cell? ⟨p, j * 4, none⟩ = some (Sv q.x.fr) ∧ w.cell? ⟨p, j * 4 + 1, none⟩ = some (.int .u64 (q.x.ser : Int)) ∧ w.cell? ⟨p, j * 4 + 2, none⟩ = some (.int .i64 q.x.kind) ∧ w.cell? ⟨p, j * 4 + 3, none⟩ = some q.sl :=
  ⟨h.cell (cellsB_at h.len (padQ_get hj) (i := 0) rfl), h.cell (cellsB_at h.len (padQ_get hj) (i := 1) rfl), h.cell (cellsB_at h.len (padQ_get hj) (i := 2) rfl), h.cell (cellsB_at h.len (padQ_get hj) (i := 3) rfl)⟩
theorem IsB.any (h : IsB w p qs) {i : Nat} (hi : i < 33) : ∃ v, w.cell? ⟨p, i, none⟩ = some v :=
  ⟨_, h.cell (List.getElem?_eq_getElem (by rw [cellsB_length h.len]; exact hi))⟩
/-- The letters of an inbox as a row. -/
theorem IsB.row (h : IsB w p qs) : RowQ w (.slice (some ⟨p, 0, none⟩) qs.length 8) qs := by
  refine ⟨some ⟨p, 0, none⟩, 8, by rw [CQ_length], by rw [CQ_length]; exact h.len, by unfold maxLen; omega, by simp, fun _ => ⟨p, 0, rfl, fun j r hr i x hx => ?_⟩⟩
  rw [CQ, List.getElem?_map, Option.map_eq_some_iff] at hr
  obtain ⟨q, hq, rfl⟩ := hr
  rw [Nat.zero_add]
  exact h.cell (cellsB_at h.len (padQ_get hq) hx)
theorem IsB.vals (h : IsB w p qs) : ValsQ w qs := fun q hq => (h.args q hq).reads
theorem IsB.new (w : World) : IsB (w.alloc (.cells (cellsB []).toArray 153)) w.heap.size [] :=
  ⟨heap_alloc_new w _, by simp, by simp, by simp⟩
end
end Go.Proofs.YtdadloaifebdiaaGreat
