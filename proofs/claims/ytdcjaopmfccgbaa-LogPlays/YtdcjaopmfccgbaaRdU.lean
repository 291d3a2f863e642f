/-
  readUnit: the unit that lies behind those taken in.
-/
import Derived.Test.YtdcjaopmfccgbaaMm
import Derived.BigQuiet
namespace Go.Proofs.Ytdcjaopmfccgbaa
open Go.RowKit
set_option linter.unusedVariables false

/-- What readUnit answers, and leaves. -/
def UnitAt (R : List UInt8) (w : World) (e : Ending) (w' : World) : Prop := ∃ v', e = .returned (.tuple #[v', .int .i64 0]) ∧ Owns 5 w' v' R ∧ Kept [] w w' ∧ Fresh w v'

set_option maxRecDepth 100000 in
set_option maxHeartbeats 1000000 in
theorem rdu_any {w : World} {F G : List Nat} {p q fr ct ep st : Nat} {us : List (List UInt8)} {over : Bool} {s : St} (hD : IsD w F q s) (hL : IsL w G p q fr ct ep us st over) (hd : s.down = false) (ha : fr + ct ≤ s.nb) (hst : st ≤ ct) :
    Calls Try.prog 32 #[.pointer (some ⟨p, 0, none⟩)] w fun e w' => UnitAt (rdU (blk s.ws) fr ep st (ct - st) st []) w e w' := by
  have hnb := hD.ok.nb
  obtain ⟨R, hR⟩ : ∃ R, Hid (rdU (blk s.ws) fr ep st (ct - st) st [] = R) := ⟨_, rfl⟩
  rw [hR.out]
  have fin : ∀ v' w', Owns 5 w' v' R → Kept [] w w' → Fresh w v' → UnitAt R w (.returned (.tuple #[v', .int .i64 0])) w' := fun v' w' h1 h2 h3 => ⟨v', rfl, h1, h2, h3⟩
  generalize UnitAt R w = Z at fin
  obtain ⟨c0, c1, c2, c3, c5, c6⟩ := hL.cells
  go_enter Try.func32, Try.ntmps32
  go_wp2_with fail
  clear c0 c1 c2 c3 c5 c6
  go_loopw [4, 5] (fun v i wr => ∃ (n j : Nat) (acc : List UInt8), i = .int .i64 (j : Int) ∧ st ≤ j ∧ j + n = ct ∧ Owns 5 wr v acc ∧ Fresh w v ∧ acc.length ≤ 233 * j ∧ Kept [] w wr ∧ rdU (blk s.ws) fr ep st n j acc = R) (fun _ i _ => (ct - (intOf i).toNat))
  case atStart => exact ⟨ct - st, st, [], rfl, Nat.le_refl _, by omega, Owns.nil 5 w, by intro g hg; simp [Value.ownBlock] at hg, by simp, Kept.refl [] w, hR.out⟩
  case round =>
    obtain ⟨n, j, acc, rfl, h1, h2, hO, hF, hal, hk, hrd⟩ := hrel
    clear hR
    have hDr := hD.kept hk (by simp)
    have hLr := hL.kept hk (by simp)
    obtain ⟨c0, c1, c2, c3, c5, c6⟩ := hLr.cells
    cases n with
    | zero =>
      have hj : j = ct := by omega
      subst hj
      have hR0 : R = [] := hrd.symm
      have fin' := Hid.mk (fin (.slice none 0 0) wr (by rw [hR0]; exact Owns.nil 5 wr) hk (by intro g hg; simp [Value.ownBlock] at hg))
      clear fin hrd hO hF hk hDr hLr
      have hnl : ¬ (j : Int) < (j : Int) := by omega
      go_wp2
      exact fin'.out
    | succ n =>
      have hjc : (j : Int) < (ct : Int) := by omega
      have hrdr := read_ok (hDr.kept (Kept.refl [] wr).drew (by simp)) (fr + j) hd (by omega)
      rw [Int.natCast_add] at hrdr
      unfold rdU at hrd
      have hrd' := Hid.mk hrd
      have hbl := blk_len s.nb s.ws hD.ok.ws (fr + j)
      generalize hB : blk s.ws (fr + j) = B at hrdr hrd' hbl
      clear hrd
      go_wp2_with fail
      have S0 : wr.drew.cell? ⟨p, 0, none⟩ = some (.pointer (some ⟨q, 0, none⟩)) ∧ wr.drew.cell? ⟨p, 1, none⟩ = some (.int .i64 (fr : Int)) := ⟨c0, c1⟩
      have hplt := hLr.lt p hLr.pG
      have hwr : IntKind.i64.wrap ((fr : Int) + (j : Int)) = (fr : Int) + (j : Int) := by rw [IntKind.wrap_i64]; omega
      go_region_held3 (fun w' => w'.cell? ⟨p, 0, none⟩ = some (.pointer (some ⟨q, 0, none⟩)) ∧ w'.cell? ⟨p, 1, none⟩ = some (.int .i64 (fr : Int))) (first | exact S0 | exact S1) (first | (go_at_call 36; refine hrdr.mono ?_; rintro e w1 ⟨rfl, hR1, k1⟩; have S1 : w1.cell? ⟨p, 0, none⟩ = some (.pointer (some ⟨q, 0, none⟩)) ∧ w1.cell? ⟨p, 1, none⟩ = some (.int .i64 (fr : Int)) := ⟨by rw [k1.cell hplt (by simp)]; exact S0.1, by rw [k1.cell hplt (by simp)]; exact S0.2⟩))
      have hrd1 := hR1.reads_all hbl
      have kd1 : Kept [] wr w1 := ((Kept.refl [] wr).drew).trans k1 (by simp)
      have hx : wr.drew.heap.size = wr.heap.size := rfl
      rw [hx] at hrd1
      have hL1 := hLr.kept kd1 (by simp)
      have hO1 := hO.kept kd1 (by simp)
      have kk1 := hk.trans kd1 (by simp)
      clear hrdr hR1 hLr hO k1 S0 S1 hDr hk c0 c1 c2 c3 c5 c6 hwr hx
      obtain ⟨c0, c1, c2, c3, c5, c6⟩ := hL1.cells
      have hpl := place_any p fr st j w1 c1 c5 (by omega) (by omega)
      clear c0 c1 c2 c3 c5 c6
      generalize wr.heap.size = bb at hrd1
      go_wp2_with fail
      refine hpl.mono ?_
      rintro e w2 ⟨rfl, k2⟩
      have hL2 := hL1.kept k2 (by simp)
      have hO2 := hO1.kept k2 (by simp)
      have kk2 := kk1.trans k2 (by simp)
      have hpin := pin_any (plc st (fr + j)) _ B w2 (plc_lt (by omega) (by omega)) (hrd1.kept k2 (by simp))
      clear hpl hrd1 hL1 hO1 kk1 k2
      go_wp2_with fail
      refine hpin.mono ?_
      rintro e w3 ⟨v3, rfl, hr3, k3⟩
      have hL3 := hL2.kept k3 (by simp)
      have hO3 := hO2.kept k3 (by simp)
      have kk3 := kk2.trans k3 (by simp)
      have hok := partOf_ok (plc st (fr + j)) B
      clear hpin hL2 hO2 kk2 k3
      generalize partOf (plc st (fr + j)) B = P at hrd' hr3 hok
      obtain ⟨E, la, l⟩ := P
      simp only at hrd' hr3 hok
      obtain ⟨a3, cp3, rfl, hlc, hmc, -⟩ := id hr3
      have k4 := (Kept.refl [] w3).alloc (.cells #[.int .u64 (E : Int), .bool la, .slice a3 l.length cp3] 70)
      have hb4 : Boxed (w3.alloc (.cells #[.int .u64 (E : Int), .bool la, .slice a3 l.length cp3] 70)) w3.heap.size E la (.slice a3 l.length cp3) := heap_alloc_new w3 _
      have hL4 := hL3.kept k4 (by simp)
      have hO4 := hO3.kept k4 (by simp)
      have hr4 := hr3.kept k4 (by simp)
      have kk4 := kk3.trans k4 (by simp)
      go_wp2_with fail
      generalize w3.alloc (.cells #[.int .u64 (E : Int), .bool la, .slice a3 l.length cp3] 70) = w4 at k4 hb4 hL4 hO4 hr4 kk4
      generalize w3.heap.size = bx at hb4
      clear hr3 hL3 hO3 kk3 k4
      have kd4 : ∀ N, Kept [] w4 (w4.drewN N) := fun N => (Kept.refl [] w4).drewN N
      have hL5 := hL4.kept (kd4 1) (by simp)
      have kk5 := fun N => kk4.trans (kd4 N) (by simp)
      obtain ⟨x0, x1, x2⟩ := hb4.cells
      obtain ⟨-, -, -, y3, -, -⟩ := hL4.cells
      have finN := fun W (k : Kept [] w W) (hz : R = []) => fin (.slice none 0 0) W (by rw [hz]; exact Owns.nil 5 W) k (by intro g hg; simp [Value.ownBlock] at hg)
      by_cases hE : E = ep
      · have hne : ((E : Int) != (ep : Int)) = false := by simp [hE]
        by_cases hl0 : l.length = 0
        · have hz : R = [] := by
            rw [if_pos (.inr (List.eq_nil_of_length_eq_zero hl0))] at hrd'
            exact hrd'.out.symm
          have hz2 : ((l.length : Int) == 0) = true := by simp [hl0]
          have fin' := fun N => Hid.mk (finN (w4.drewN N) (kk5 N) hz)
          generalize l.length = n0 at hz2 x2
          clear fin finN hrd' hO4 hr4 hb4 hL hD kd4
          go_quiet (fail)
          go_wp2
          exact (fin' _).out
        · have hz2 : ((l.length : Int) == 0) = false := by simp; intro h; subst h; simp at hl0
          rw [if_neg (by simp [hE]; intro h; subst h; simp at hl0)] at hrd'
          clear finN
          have fin' := Hid.mk fin
          have hlen : Hid (l.length ≤ 233) := hok.2
          obtain ⟨n0, hn0⟩ : ∃ n0, Hid (l.length = n0) := ⟨_, rfl⟩
          rw [hn0.out] at hb4 hr4 hz2 x2
          clear fin hok hl0
          have HL := Hid.mk hL
          have HD := Hid.mk hD
          have HL4 := Hid.mk hL4
          clear hL hD hL4
          go_quiet (fail)
          have hb5 := hb4.kept (kd4 nq) (by simp)
          have hO5 := hO4.kept (kd4 nq) (by simp)
          have hr5 := hr4.kept (kd4 nq) (by simp)
          have kk6 := kk5 nq
          clear hb4 hO4 hr4 kk4 kk5 kd4 hL5 x0 x1 x2 y3
          generalize w4.drewN nq = w5 at hb5 hO5 hr5 kk6
          have hbd : acc.length + l.length ≤ 140737488355328 := by have := hlen.out; omega
          obtain ⟨ad, n1, c1, w6, hrun, hO6, hg6, hN6⟩ := run_append_reads w5 35 u4 acc hO5 _ l hr5 hbd
          have k6 : Kept u4.ownBlock.toList w5 w6 := (Kept.refl _ w5).grown hg6 (fun x hx => .inl (by rw [Option.mem_toList]; exact hx))
          have hbx : bx ∉ u4.ownBlock.toList := by
            rw [Option.mem_toList]
            intro e
            rcases hO5.2 with ⟨rfl, _⟩ | ⟨g, cap, cur, rfl, _, hg, _⟩
            · simp [Value.ownBlock] at e
            · simp [Value.ownBlock] at e
              subst e
              unfold Boxed at hb5
              rw [hg] at hb5
              injection hb5 with hb5
              injection hb5 with _ hb5
              cases hb5
          have hb6 := hb5.kept k6 hbx
          have kk7 : Kept [] w w6 := kk6.grown hg6 (fun x hx => .inr (hF x hx))
          have hF6 : Fresh w (.slice ad n1 c1) := fun g hg => by
            rcases hN6 g hg with h | h
            · exact hF g h
            · exact Nat.le_trans kk6.size h
          obtain ⟨x0, x1, x2⟩ := hb5.cells
          obtain ⟨z0, z1, z2⟩ := hb6.cells
          have hlen6 : Hid ((acc ++ l).length ≤ 233 * (j + 1)) := by show (acc ++ l).length ≤ _; rw [List.length_append]; have := hlen.out; omega
          clear hO5 hr5 kk6 hg6 hN6 k6 hbx hb5 hb6 hbd z0 z2
          cases la with
          | true =>
            have hz : R = acc ++ l := by
              rw [if_pos rfl] at hrd'
              exact hrd'.out.symm
            have fin2 := Hid.mk (fin'.out (.slice ad n1 c1) w6 (by rw [hz]; exact hO6) kk7 hF6)
            clear fin' hrd' hO6 hF6 kk7 hz
            go_wp2_with (at_builtin; refine wpList_append_run 35 _ _ rfl rfl _ _ rfl rfl _ _ hrun ?_)
            exact fin2.out
          | false =>
            rw [if_neg (by simp)] at hrd'
            have hO7 := Hid.mk hO6
            have hF7 := Hid.mk hF6
            have kk8 := Hid.mk kk7
            clear fin' hO6 hF6 kk7
            go_wp2_with (at_builtin; refine wpList_append_run 35 _ _ rfl rfl _ _ rfl rfl _ _ hrun ?_)
            go_roundw
            case rel => exact ⟨n, j + 1, acc ++ l, by go_num, by omega, by omega, hO7.out, hF7.out, hlen6.out, kk8.out, hrd'.out⟩
            case measure => simp [intOf]; omega
      · have hne : ((E : Int) != (ep : Int)) = true := by simp; omega
        have hz : R = [] := by
          rw [if_pos (.inl hE)] at hrd'
          exact hrd'.out.symm
        have fin' := fun N => Hid.mk (finN (w4.drewN N) (kk5 N) hz)
        clear fin finN hrd' hO4 hr4 hb4 hL hD kd4
        go_quiet (fail)
        go_wp2
        exact (fin' _).out
end Go.Proofs.Ytdcjaopmfccgbaa
