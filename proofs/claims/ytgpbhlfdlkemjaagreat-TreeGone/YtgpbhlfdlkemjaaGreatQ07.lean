import Derived.RangeFuncNested
import Derived.RangeFuncBound
import Derived.RangeFuncCalls
import Derived.RangeFuncLeaves
import Derived.Shelf.Abstract
import Derived.Shelf.RegionOpen
import Derived.OwnWalkIn
import Derived.TacticsInMore
import Derived.LoopNIn
import Derived.LoopIn
import Derived.OrdersIn
import Derived.OrdersHeld
import Derived.Test.YtgpbhlfdlkemjaaGreatQ06
/-
  read: the text of a name that lies on the disk.
-/
namespace Go.Proofs.YtgpbhlfdlkemjaaGreat
open Go.RowKit
set_option linter.unusedVariables false
/-- What read answers of a text that is there. -/
def ReadAt (bs : List Nat) (l : List UInt8) (w : World) (e : Ending) (w' : World) : Prop :=
  ∃ v1 v2, e = .returned (.tuple #[v1, v2, .int .i64 0]) ∧ OwnsI w' v1 bs ∧ Owns 5 w' v2 l ∧ Kept [] w w' ∧ Fresh w v1 ∧ Fresh w v2
theorem row_ne {w : World} {e t : TypeId} {sz n b : Nat} {v : Value} {xs : List Value} {cs : Array Value} {fr : Nat × Nat} (h : w.ownsRow 0 e sz v n xs) (hb : w.heap[b]? = some (.cells cs t fr)) (hne : e ≠ t) : v.ownBlock ≠ some b := fun hg => by
  rcases h.2 with ⟨rfl, _⟩ | ⟨g, cap, cur, rfl, _, hg', _⟩
  · simp [Value.ownBlock] at hg
  · simp [Value.ownBlock] at hg
    subst hg
    rw [hg'] at hb
    injection hb with hb
    injection hb with _ hb
    exact hne hb
theorem rows_ne {w : World} {e t : TypeId} {sz sz' n n' : Nat} {v u : Value} {xs ys : List Value} (h : w.ownsRow 0 e sz v n xs) (h' : w.ownsRow 0 t sz' u n' ys) (hne : e ≠ t) (g : Nat) (hv : v.ownBlock = some g) : u.ownBlock ≠ some g := fun hu => by
  rcases h'.2 with ⟨rfl, _⟩ | ⟨g', cap, cur, rfl, _, hg', _⟩
  · simp [Value.ownBlock] at hu
  · simp [Value.ownBlock] at hu
    subst hu
    exact row_ne h hg' hne hv
/-- The length of a slice. -/
def lenOf : Value → Nat
  | .slice _ n _ => n
  | _ => 0
theorem take_getD {bs : List Nat} {k : Nat} (h : k < bs.length) : bs.take (k + 1) = bs.take k ++ [bs.getD k 0] := by
  rw [List.take_succ_eq_append_getElem h, List.getD_eq_getElem?_getD, List.getElem?_eq_getElem h]
  rfl
theorem pin_lies {b : Nat → List UInt8} {nm : Nat} {bs : List Nat} {l : List UInt8} (t : Bool) (h : Lies b nm bs l) (ht : ∀ k, k < bs.length → b (bs.getD k 0) = pblk t nm bs l k) (hnm : nm < 65536) (k : Nat) (hk : k < bs.length) (v : Value) (w : World) (hr : Reads w v (b (bs.getD k 0))) :
    Calls Tryz.prog 96 #[.int .i64 (nm : Int), .int .i64 (bs.getD k 0 : Int), v] w fun e w' => ∃ v', e = .returned (.tuple #[ptV t (l.length - 238 * k) (bs.getD (k + 1) 0) v', .bool true]) ∧ Reads w' v' (chk l k) ∧ Kept [] w w' ∧ Fresh w v' := by
  have hp := pblk_part t nm bs l k h.small h.long
  have := pin_any nm (bs.getD k 0) v _ w hnm (getD_lt h.small k) hr
  refine this.mono ?_
  rintro e w' ⟨v', rfl, h1, h2⟩
  rw [ht k hk, hp.2] at h1 ⊢
  rw [decide_eq_true hp.1]
  exact ⟨v', rfl, h1, h2⟩
set_option maxRecDepth 100000 in
set_option maxHeartbeats 4000000 in
theorem rd_yes {w : World} {F G : List Nat} {p q fr ct : Nat} {T : List (Nat × List Nat)} {fl : List Nat} {s : St} (hD : IsD w F q s) (hP : IsP w G p q fr ct T fl) (hd : s.down = false) (ha : fr + ct ≤ s.nb) (nm : Nat) (bs : List Nat) (l : List UInt8) (hL : Lies (blk s.ws) nm bs l) (hin : ∀ x ∈ bs, fr ≤ x ∧ x < fr + ct) :
    Calls Tryz.prog 64 #[.pointer (some ⟨p, 0, none⟩), .int .i64 (nm : Int)] w fun e w' => ReadAt bs l w e w' := by
  have hnb := hD.ok.nb
  have hlen := hL.len
  have hlong := hL.long
  have hbk := bks_pos l.length
  have hb85 := bks_le hL.long
  obtain ⟨t, ht⟩ := hL.blocks
  have h0 : nm = bs.getD 0 0 := by
    have := hL.first
    rw [List.getD_eq_getElem?_getD, ← List.head?_eq_getElem?, this]
    rfl
  have hnm : nm < 65536 := by rw [h0]; exact getD_lt hL.small 0
  have fin : ∀ v1 v2 w', OwnsI w' v1 bs → Owns 5 w' v2 l → Kept [] w w' → Fresh w v1 → Fresh w v2 → ReadAt bs l w (.returned (.tuple #[v1, v2, .int .i64 0])) w' := fun v1 v2 w' h1 h2 h3 h4 h5 => ⟨v1, v2, rfl, h1, h2, h3, h4, h5⟩
  generalize ReadAt bs l w = Z at fin
  have k0 := kept_alloc w (.cells #[.bool false, .int .i64 0, .int .i64 0, .slice none 0 0] 161)
  have hb0 : Bx (w.alloc (.cells #[.bool false, .int .i64 0, .int .i64 0, .slice none 0 0] 161)) w.heap.size false 0 0 (.slice none 0 0) := heap_alloc_new w _
  go_enter Tryz.func64, Tryz.ntmps64
  go_wp2_with fail
  generalize hw0 : w.alloc (.cells #[.bool false, .int .i64 0, .int .i64 0, .slice none 0 0] 161) = w0 at k0 hb0
  generalize hlb : w.heap.size = lb at hb0
  clear hw0
  go_loopw [7, 8, 10] (fun v7 v8 i wr => ∃ (k : Nat) (a7 : Option Addr) (c7 : Nat) (tt : Bool) (nn xx : Nat) (a : Option Addr) (m c : Nat), k < bs.length ∧ v7 = .slice a7 k c7 ∧ i = .int .i64 (bs.getD k 0 : Int) ∧ OwnsI wr (.slice a7 k c7) (bs.take k) ∧ Owns 5 wr v8 (l.take (238 * k)) ∧ Fresh w (.slice a7 k c7) ∧ Fresh w v8 ∧ (Value.slice a7 k c7).ownBlock ≠ some lb ∧ v8.ownBlock ≠ some lb ∧ Kept [] w wr ∧ Bx wr lb tt nn xx (.slice a m c) ∧ (0 < k → tt = t ∧ nn = l.length - 238 * (k - 1))) (fun v7 _ _ _ => bs.length - lenOf v7)
  case atStart => exact ⟨0, none, 0, false, 0, 0, none, 0, 0, by omega, rfl, by rw [h0], OwnsI.nil w0, Owns.nil 5 w0, by intro g hg; simp [Value.ownBlock] at hg, by intro g hg; simp [Value.ownBlock] at hg, by simp [Value.ownBlock], by simp [Value.ownBlock], k0, hb0, by omega⟩
  case round =>
    obtain ⟨k, a7, c7, tt, nn, xx, a, m, c, hk, rfl, rfl, hO7, hO8, hF7, hF8, hn7, hn8, kk, hbx, hfo⟩ := hrel
    clear hb0 k0
    have hat := hin _ (getD_mem hk)
    have hnxs : bs.getD k 0 < 65536 := by omega
    have hDr := hD.kept kk (by simp)
    have hPr := hP.kept kk (by simp)
    obtain ⟨c0, c1, c2⟩ := hPr.cells
    have hh := has_in p fr ct (bs.getD k 0) wr c1 c2 hat.1 hat.2 (by omega)
    have hpl := fun v W hr => pin_lies t hL ht hnm k hk v W hr
    have hbl := blk_len s.nb s.ws hD.ok.ws (bs.getD k 0)
    have hbl1 : k + 1 = bs.length ↔ l.length - 238 * k ≤ 238 := by rw [hlen]; exact bks_last (by omega)
    have htk := take_getD hk
    have hck := chk_take l k
    have hcl := chk_len l k
    obtain ⟨A, hA⟩ : ∃ A, Hid (bs.getD k 0 = A) := ⟨_, rfl⟩
    obtain ⟨NX, hNX⟩ : ∃ NX, Hid (bs.getD (k + 1) 0 = NX) := ⟨_, rfl⟩
    rw [hA.out, hNX.out] at hpl
    rw [hA.out] at hat hnxs hh hbl htk ⊢
    clear c0 c1 c2 hL ht h0
    have Hfin := Hid.mk fin
    clear fin
    go_wp2_with fail
    refine hh.mono ?_
    rintro e w1 ⟨rfl, k1⟩
    have hrdr := read_ok (hDr.kept k1 (by simp)) A hd (by omega)
    have hO7 := hO7.kept k1 (by simp)
    have hO8 := hO8.kept k1 (by simp)
    have hbx := hbx.kept k1 (by simp)
    have hPr := hPr.kept k1 (by simp)
    have kk := kk.trans k1 (by simp)
    clear hh k1 hDr
    obtain ⟨c0, -, -⟩ := hPr.cells
    go_wp2_with fail
    refine hrdr.mono ?_
    rintro e w2 ⟨rfl, hR2, k2⟩
    have hr2 := hR2.reads_all hbl
    have hO7 := hO7.kept k2 (by simp)
    have hO8 := hO8.kept k2 (by simp)
    have hbx := hbx.kept k2 (by simp)
    have kk := kk.trans k2 (by simp)
    have hp2 := hpl _ w2 hr2
    clear hrdr hR2 hr2 k2 hPr c0 hpl hbl
    generalize w1.heap.size = rb at hp2
    go_wp2_with fail
    refine hp2.mono ?_
    rintro e w3 ⟨v3, rfl, hr3, k3, hFr3⟩
    have h73 : ∀ g, (Value.slice a7 k c7).ownBlock = some g → g < w2.heap.size := fun g hg => hO7.lt hg
    have hO7 := hO7.kept k3 (by simp)
    have hO8 := hO8.kept k3 (by simp)
    have hbx := hbx.kept k3 (by simp)
    have kk := kk.trans k3 (by simp)
    clear hp2 k3
    obtain ⟨a3, cp3, rfl, hlc3, hmc3, -⟩ := id hr3
    obtain ⟨n3, hn3⟩ : ∃ n3, Hid ((chk l k).length = n3) := ⟨_, rfl⟩
    obtain ⟨LF, hLF⟩ : ∃ LF, Hid (l.length - 238 * k = LF) := ⟨_, rfl⟩
    rw [hn3.out] at hr3 hlc3 hFr3 ⊢
    rw [hLF.out] at hbl1 hcl ⊢
    have k4 := kept_alloc w3 (.cells #[.bool t, .int .i64 (LF : Int), .int .i64 (NX : Int), .slice a3 n3 cp3] 161)
    have hb4 : Bx (w3.alloc (.cells #[.bool t, .int .i64 (LF : Int), .int .i64 (NX : Int), .slice a3 n3 cp3] 161)) w3.heap.size t LF NX (.slice a3 n3 cp3) := heap_alloc_new w3 _
    have hO7 := hO7.kept k4 (by simp)
    have hO8 := hO8.kept k4 (by simp)
    have hbxlt := hbx.lt
    have hbx := hbx.kept k4 (by simp)
    have hr4 := hr3.kept k4 (by simp)
    have kk := kk.trans k4 (by simp)
    have hbl4 : lb ≠ w3.heap.size := by omega
    obtain ⟨w4, hw4⟩ : ∃ w4, w3.alloc (.cells #[.bool t, .int .i64 (LF : Int), .int .i64 (NX : Int), .slice a3 n3 cp3] 161) = w4 := ⟨_, rfl⟩
    obtain ⟨fb, hfb⟩ : ∃ fb, w3.heap.size = fb := ⟨_, rfl⟩
    rw [hw4] at k4 hb4 hO7 hO8 hbx hr4 kk
    rw [hfb] at hb4 hbl4
    clear k4 hr3 hlc3 hmc3
    by_cases hk0 : k = 0
    · have hki : (0 < k) = False := eq_false (by omega)
      have hki2 : ((0 : Int) < (k : Int)) = False := eq_false (by omega)
      clear hfo hk0
      have hO7l : (bs.take k).length = k := by rw [List.length_take]; omega
      obtain ⟨ad7, d7, w6, hrun6, hO6, k6, hN6⟩ := append_int hO7 A (by rw [hO7l]; omega)
      rw [hO7l] at hrun6 hO6 hN6
      rw [← htk] at hO6
      have hx6 : (Value.slice a7 k c7).ownBlock ≠ some fb := row_ne hO7 (id hb4) (by decide)
      have hb6 := hb4.kept k6 (by rw [Option.mem_toList]; exact hx6)
      have hbx6 := hbx.kept k6 (by rw [Option.mem_toList]; exact hn7)
      have hO86 := hO8.kept k6 (fun g hg => by rw [Option.mem_toList]; exact fun e => rows_ne hO7 hO8 (by decide) g e hg)
      have hr6 := hr4.kept k6 (fun g hg => by rw [Option.mem_toList]; exact fun e => by have := hFr3 g hg; have := h73 g e; omega)
      have kk6 : Kept [] w w6 := kk.trans k6 (fun x hx => .inr (hF7 x (by rw [Option.mem_toList] at hx; exact hx)))
      have hF6 : Fresh w (.slice ad7 (k + 1) d7) := fun g hg => by
        rcases hN6 g hg with h | h
        · exact hF7 g h
        · have := kk.size; omega
      have hn6 : (Value.slice ad7 (k + 1) d7).ownBlock ≠ some lb := fun h => by
        rcases hN6 _ h with h | h
        · exact hn7 h
        · have := hbx.lt; omega
      have h6f : (Value.slice ad7 (k + 1) d7).ownBlock ≠ some fb := row_ne hO6 hb6 (by decide)
      obtain ⟨ad8, n8, d8, w7, hrun7, hO87, hg7, hN7⟩ := run_append_reads w6 48 u8 _ hO86 _ _ hr6 (by rw [List.length_take]; have := hn3.out; omega)
      rw [hck] at hO87
      have k7 : Kept u8.ownBlock.toList w6 w7 := (Kept.refl _ w6).grown hg7 (fun x hx => .inl (by rw [Option.mem_toList]; exact hx))
      have h8f : u8.ownBlock ≠ some fb := row_ne hO8 hb4 (by decide)
      have hb7 := hb6.kept k7 (by rw [Option.mem_toList]; exact h8f)
      have hbx7 := hbx6.kept k7 (by rw [Option.mem_toList]; exact hn8)
      have hO67 := OwnsI.kept hO6 k7 (fun g hg => by rw [Option.mem_toList]; exact rows_ne hO6 hO86 (by decide) g hg)
      have kk7 : Kept [] w w7 := kk6.trans k7 (fun x hx => .inr (hF8 x (by rw [Option.mem_toList] at hx; exact hx)))
      have hF78 : Fresh w (.slice ad8 n8 d8) := fun g hg => by
        rcases hN7 g hg with h | h
        · exact hF8 g h
        · have := kk6.size; omega
      have hn78 : (Value.slice ad8 n8 d8).ownBlock ≠ some lb := fun h => by
        rcases hN7 _ h with h | h
        · exact hn8 h
        · have := hbx6.lt; omega
      obtain ⟨y0, y1, y2, y3⟩ := hb6.cells
      obtain ⟨z0, z1, z2, z3⟩ := hb7.cells
      have hil := isLast_any t LF NX a3 n3 cp3 w7
      clear hO7 hO8 hb4 hbx hr4 kk k6 hN6 hb6 hbx6 hO86 hr6 kk6 hg7 hN7 k7 hO6
      have HO67 := Hid.mk hO67
      have HO87 := Hid.mk hO87
      clear hO67 hO87
      go_wp2_with (at_builtin; first | refine wpList_append_run 41 (.tmp 53) (.tmp 55) rfl rfl _ _ rfl rfl _ _ hrun6 ?_ | refine wpList_append_run 48 (.tmp 57) (.tmp 59) rfl rfl _ _ rfl rfl _ _ hrun7 ?_)
      refine hil.mono ?_
      rintro e w8 ⟨rfl, k8⟩
      have hb8 := hb7.kept k8 (by simp)
      have hbx8 := hbx7.kept k8 (by simp)
      have kk8 := kk7.trans k8 (by simp)
      have HO68 := Hid.mk (HO67.out.kept k8 (by simp))
      have HO88 := Hid.mk (HO87.out.kept k8 (by simp))
      clear hil hrun6 hrun7 y0 y1 y2 y3 z0 z1 z2 z3 hb7 hbx7 kk7 k8 HO67 HO87
      by_cases hlast : LF ≤ 238
      · have hkl : k + 1 = bs.length := hbl1.2 hlast
        have hdl : decide (LF ≤ 238) = true := by simp [hlast]
        have e1 : bs.take (k + 1) = bs := by rw [hkl]; simp
        have e2 : l.take (238 * (k + 1)) = l := by
          apply List.take_of_length_le
          have := hLF.out
          omega
        rw [e1] at HO68
        rw [e2] at HO88
        have hf := Hid.mk (Hfin.out _ _ w8 HO68.out HO88.out kk8 hF6 hF78)
        clear Hfin hkl e1 e2
        go_wp2
        refine bodyPost_ret (results_tmp3 rfl _ _ _) rfl ?_
        exact hf.out
      · have hdl : decide (LF ≤ 238) = false := by simp [hlast]
        obtain ⟨y0, y1, y2, y3⟩ := hb8.cells
        obtain ⟨z0, z1, z2, z3⟩ := hbx8.cells
        have f0 := hbx8.free 0
        have f1 := hbx8.free 1
        have f2 := hbx8.free 2
        have f3 := hbx8.free 3
        obtain ⟨hbx9, k9⟩ := hbx8.set t LF NX (.slice a3 n3 cp3)
        have kk9 := kk8.trans k9 (fun x hx => .inr (by simp at hx; omega))
        have HO69 := Hid.mk (HO68.out.kept k9 (fun g hg => by simp; intro e; subst e; exact hn6 hg))
        have HO89 := Hid.mk (HO88.out.kept k9 (fun g hg => by simp; intro e; subst e; exact hn78 hg))
        have HB9 := Hid.mk hbx9
        have HK9 := Hid.mk kk9
        unfold Bx at hb8 hbx8
        have hk1 : k + 1 < bs.length := by
          have : ¬ k + 1 = bs.length := fun h => hlast (hbl1.1 h)
          omega
        clear hbx9 k9 kk9 kk8 HO68 HO88 Hfin
        go_wp2
        go_roundw
        case rel => exact ⟨k + 1, ad7, d7, t, LF, NX, a3, n3, cp3, hk1, rfl, by rw [hNX.out], HO69.out, HO89.out, hF6, hF78, hn6, hn78, HK9.out, HB9.out, fun _ => ⟨rfl, by rw [Nat.add_sub_cancel, hLF.out]⟩⟩
        case measure => simp only [lenOf]; omega
    · obtain ⟨rfl, hnn⟩ := hfo (by omega)
      have hki : (0 < k) = True := eq_true (by omega)
      have hki2 : ((0 : Int) < (k : Int)) = True := eq_true (by omega)
      obtain ⟨x0, x1, x2, x3⟩ := hbx.cells
      obtain ⟨y0, y1, y2, y3⟩ := hb4.cells
      have h238 : 238 * k < l.length := (lt_bks (by omega)).1 (by omega)
      have hfl := follows_yes tt LF NX nn xx a3 a n3 cp3 m c w4 (by have := hLF.out; omega) (by omega)
      clear hnn h238 hfo
      go_wp2_with fail
      refine hfl.mono ?_
      rintro e w5 ⟨rfl, k5⟩
      clear hw4 hfb hfl x0 x1 x2 x3 y0 y1 y2 y3
      have hO7 := hO7.kept k5 (by simp)
      have hO8 := hO8.kept k5 (by simp)
      have hb4 := hb4.kept k5 (by simp)
      have hbx := hbx.kept k5 (by simp)
      have hr4 := hr4.kept k5 (by simp)
      have kk := kk.trans k5 (by simp)
      clear k5
      have hO7l : (bs.take k).length = k := by rw [List.length_take]; omega
      obtain ⟨ad7, d7, w6, hrun6, hO6, k6, hN6⟩ := append_int hO7 A (by rw [hO7l]; omega)
      rw [hO7l] at hrun6 hO6 hN6
      rw [← htk] at hO6
      have hx6 : (Value.slice a7 k c7).ownBlock ≠ some fb := row_ne hO7 (id hb4) (by decide)
      have hb6 := hb4.kept k6 (by rw [Option.mem_toList]; exact hx6)
      have hbx6 := hbx.kept k6 (by rw [Option.mem_toList]; exact hn7)
      have hO86 := hO8.kept k6 (fun g hg => by rw [Option.mem_toList]; exact fun e => rows_ne hO7 hO8 (by decide) g e hg)
      have hr6 := hr4.kept k6 (fun g hg => by rw [Option.mem_toList]; exact fun e => by have := hFr3 g hg; have := h73 g e; omega)
      have kk6 : Kept [] w w6 := kk.trans k6 (fun x hx => .inr (hF7 x (by rw [Option.mem_toList] at hx; exact hx)))
      have hF6 : Fresh w (.slice ad7 (k + 1) d7) := fun g hg => by
        rcases hN6 g hg with h | h
        · exact hF7 g h
        · have := kk.size; omega
      have hn6 : (Value.slice ad7 (k + 1) d7).ownBlock ≠ some lb := fun h => by
        rcases hN6 _ h with h | h
        · exact hn7 h
        · have := hbx.lt; omega
      have h6f : (Value.slice ad7 (k + 1) d7).ownBlock ≠ some fb := row_ne hO6 hb6 (by decide)
      obtain ⟨ad8, n8, d8, w7, hrun7, hO87, hg7, hN7⟩ := run_append_reads w6 48 u8 _ hO86 _ _ hr6 (by rw [List.length_take]; have := hn3.out; omega)
      rw [hck] at hO87
      have k7 : Kept u8.ownBlock.toList w6 w7 := (Kept.refl _ w6).grown hg7 (fun x hx => .inl (by rw [Option.mem_toList]; exact hx))
      have h8f : u8.ownBlock ≠ some fb := row_ne hO8 hb4 (by decide)
      have hb7 := hb6.kept k7 (by rw [Option.mem_toList]; exact h8f)
      have hbx7 := hbx6.kept k7 (by rw [Option.mem_toList]; exact hn8)
      have hO67 := OwnsI.kept hO6 k7 (fun g hg => by rw [Option.mem_toList]; exact rows_ne hO6 hO86 (by decide) g hg)
      have kk7 : Kept [] w w7 := kk6.trans k7 (fun x hx => .inr (hF8 x (by rw [Option.mem_toList] at hx; exact hx)))
      have hF78 : Fresh w (.slice ad8 n8 d8) := fun g hg => by
        rcases hN7 g hg with h | h
        · exact hF8 g h
        · have := kk6.size; omega
      have hn78 : (Value.slice ad8 n8 d8).ownBlock ≠ some lb := fun h => by
        rcases hN7 _ h with h | h
        · exact hn8 h
        · have := hbx6.lt; omega
      obtain ⟨y0, y1, y2, y3⟩ := hb6.cells
      obtain ⟨z0, z1, z2, z3⟩ := hb7.cells
      have hil := isLast_any tt LF NX a3 n3 cp3 w7
      clear hO7 hO8 hb4 hbx hr4 kk k6 hN6 hb6 hbx6 hO86 hr6 kk6 hg7 hN7 k7 hO6
      have HO67 := Hid.mk hO67
      have HO87 := Hid.mk hO87
      clear hO67 hO87
      go_wp2_with (at_builtin; first | refine wpList_append_run 41 (.tmp 53) (.tmp 55) rfl rfl _ _ rfl rfl _ _ hrun6 ?_ | refine wpList_append_run 48 (.tmp 57) (.tmp 59) rfl rfl _ _ rfl rfl _ _ hrun7 ?_)
      refine hil.mono ?_
      rintro e w8 ⟨rfl, k8⟩
      have hb8 := hb7.kept k8 (by simp)
      have hbx8 := hbx7.kept k8 (by simp)
      have kk8 := kk7.trans k8 (by simp)
      have HO68 := Hid.mk (HO67.out.kept k8 (by simp))
      have HO88 := Hid.mk (HO87.out.kept k8 (by simp))
      clear hil hrun6 hrun7 y0 y1 y2 y3 z0 z1 z2 z3 hb7 hbx7 kk7 k8 HO67 HO87
      by_cases hlast : LF ≤ 238
      · have hkl : k + 1 = bs.length := hbl1.2 hlast
        have hdl : decide (LF ≤ 238) = true := by simp [hlast]
        have e1 : bs.take (k + 1) = bs := by rw [hkl]; simp
        have e2 : l.take (238 * (k + 1)) = l := by
          apply List.take_of_length_le
          have := hLF.out
          omega
        rw [e1] at HO68
        rw [e2] at HO88
        have hf := Hid.mk (Hfin.out _ _ w8 HO68.out HO88.out kk8 hF6 hF78)
        clear Hfin hkl e1 e2
        go_wp2
        refine bodyPost_ret (results_tmp3 rfl _ _ _) rfl ?_
        exact hf.out
      · have hdl : decide (LF ≤ 238) = false := by simp [hlast]
        obtain ⟨y0, y1, y2, y3⟩ := hb8.cells
        obtain ⟨z0, z1, z2, z3⟩ := hbx8.cells
        have f0 := hbx8.free 0
        have f1 := hbx8.free 1
        have f2 := hbx8.free 2
        have f3 := hbx8.free 3
        obtain ⟨hbx9, k9⟩ := hbx8.set tt LF NX (.slice a3 n3 cp3)
        have kk9 := kk8.trans k9 (fun x hx => .inr (by simp at hx; omega))
        have HO69 := Hid.mk (HO68.out.kept k9 (fun g hg => by simp; intro e; subst e; exact hn6 hg))
        have HO89 := Hid.mk (HO88.out.kept k9 (fun g hg => by simp; intro e; subst e; exact hn78 hg))
        have HB9 := Hid.mk hbx9
        have HK9 := Hid.mk kk9
        unfold Bx at hb8 hbx8
        have hk1 : k + 1 < bs.length := by
          have : ¬ k + 1 = bs.length := fun h => hlast (hbl1.1 h)
          omega
        clear hbx9 k9 kk9 kk8 HO68 HO88 Hfin
        go_wp2
        go_roundw
        case rel => exact ⟨k + 1, ad7, d7, tt, LF, NX, a3, n3, cp3, hk1, rfl, by rw [hNX.out], HO69.out, HO89.out, hF6, hF78, hn6, hn78, HK9.out, HB9.out, fun _ => ⟨rfl, by rw [Nat.add_sub_cancel, hLF.out]⟩⟩
        case measure => simp only [lenOf]; omega
end Go.Proofs.YtgpbhlfdlkemjaaGreat
/-
  A region inside a round of a range over a function, walked as anywhere; slices.Backward's iterator. Nothing of the first part speaks of the program.
-/
namespace Go.Proofs.YtgpbhlfdlkemjaaGreat
open Go.RowKit Go.Shelf
set_option linter.unusedVariables false
section
variable {P : Program} {ops : Array Oper} {Q : Exit → Act → World → Prop} {l n : Nat}
theorem rows_round {row : String} {args : Array Value} {w : World} {R : Value → World → Prop} (h : Rows P row args w R) : RowsIn (Fence.wide.inRound l) n P row args w R := fun c cs _ => by
  obtain ⟨v, w', r, s⟩ := h c cs
  exact ⟨v, w', r, stepsIn_wide.2 s⟩
theorem upon_round {o : Oper} {a : Act} {next : Act → World → Prop} : ∀ (r : Result Next), o.upon P a next Q r → o.uponIn (Fence.wide.inRound l) n P a next Q r := by
  intro r h
  cases r with
  | ok x w' =>
    cases x with
    | value v => exact h
    | skip => exact h
    | defer d => exact h
    | enter f args => exact ⟨(fun hd => absurd hd (by simp [Fence.inRound, Fence.wide])), CallsIn.inRound l (callsIn_wide.2 h)⟩
    | row r args => exact ⟨(fun hd => absurd hd (by simp [Fence.inRound, Fence.wide])), rows_round h⟩
    | _ => exact h.elim
  | halt x w' =>
    cases x with
    | panic v => exact h
    | _ => exact h.elim
theorem wpOp_round (hnd : ∀ (i : Nat) (o : Oper), ops[i]? = some o → ∀ c, o.op ≠ .defer c) (hQ : ¬ LetsOut Q) {i : Nat} {K : Act → World → Prop} {a : Act} {w : World} (h : wpOp P ops Q i K a w) : wpOpIn (Fence.wide.inRound l) n P ops Q i K a w := by
  unfold wpOp at h
  unfold wpOpIn
  cases ho : ops[i]? with
  | none => rw [ho] at h; exact h
  | some o =>
    rw [ho] at h
    simp only at h ⊢
    by_cases hw : Region.wanted o (yielded ops a.tmps) = true
    · rw [if_pos hw] at h ⊢
      rcases h with h | h
      · refine ⟨fun _ _ => trivial, ?_⟩
        rw [Fence.inRound_round, Oper.semAt_some l _ _ (hnd i o ho)]
        exact upon_round _ h
      · exact absurd h.2 hQ
    · rw [if_neg hw] at h ⊢
      exact ⟨fun _ _ => trivial, h⟩
theorem wpAny_round {md : Region.Mode} (hnd : ∀ (i : Nat) (o : Oper), ops[i]? = some o → ∀ c, o.op ≠ .defer c) (hQ : ¬ LetsOut Q) : ∀ (fuel : Nat) (listed : Array Bool) (a : Act) (w : World), wpAny P md ops Q fuel listed a w → wpAnyIn (Fence.wide.inRound l) n P md ops Q fuel listed a w
  | 0, _, _, _, h => h
  | fuel + 1, _, _, _, h => ⟨h.1, fun i hi => wpOpIn_mono (fun a w => wpAny_round hnd hQ fuel _ a w) (wpOp_round hnd hQ (h.2 i hi))⟩
/-- No operation is a defer statement. -/
def noDefer (o : Oper) : Bool := match o.op with
  | .defer _ => false
  | _ => true
theorem noDefer_all (h : ops.all noDefer = true) : ∀ (i : Nat) (o : Oper), ops[i]? = some o → ∀ c, o.op ≠ .defer c := fun i o ho c hc => by
  obtain ⟨hi, rfl⟩ := Array.getElem?_eq_some_iff.1 ho
  have := (Array.all_eq_true.1 h) i hi
  unfold noDefer at this
  rw [hc] at this
  cases this
/-- A drawn region of a round: S is shown of the world behind the draw. -/
theorem wpIn_region_held {id : Nat} {a : Act} {w : World} {S : World → Prop} (hm : P.follows .mixedOrders = true) (hnd : ops.all noDefer = true) (hQ : ¬ LetsOut Q) (hS : S w.drew)
    (h : S w.drew → wpAnyH P .any ops Q S ops.size (Array.replicate ops.size false) a w.drew) : (Code.region id ops true).wpIn (Fence.wide.inRound l) n P Q a w :=
  wpIn_region_any hm (wpAny_round (noDefer_all hnd) hQ _ _ _ _ (wpAny_of_held _ _ _ _ (h hS)))
end
attribute [local go_sem] Oper.semAt_some
/-- The number of an int. -/
def numOf : Value → Int
  | .int _ a => a
  | _ => 0
/-- The blocks A and B are as they were. -/
def KpB (b1 b2 : Nat) (W W' : World) : Prop := W'.heap[b1]? = W.heap[b1]? ∧ W'.heap[b2]? = W.heap[b2]?
theorem kpB_t {b1 b2 : Nat} {A B C : World} (h : KpB b1 b2 A B) (k : KpB b1 b2 B C) : KpB b1 b2 A C := ⟨k.1.trans h.1, k.2.trans h.2⟩
/-- An index of bs. -/
abbrev Ix (bs : List Nat) := { j : Nat // j < bs.length }
/-- What has come when k rounds of the backward walk are over. -/
def back (bs : List Nat) (h : 0 < bs.length) (k : Nat) : List (Ix bs) := (List.range k).map fun j => ⟨bs.length - 1 - j, by omega⟩
theorem back_succ (bs : List Nat) (h : 0 < bs.length) (k : Nat) : back bs h (k + 1) = back bs h k ++ [⟨bs.length - 1 - k, by omega⟩] := by simp [back, List.range_succ]
theorem back_length (bs : List Nat) (h : 0 < bs.length) (k : Nat) : (back bs h k).length = k := by simp [back]
set_option maxRecDepth 100000 in
set_option maxHeartbeats 2000000 in
theorem backward1 (n : Nat) (l Bs b off cap : Nat) (bs : List Nat) (hp : 0 < bs.length) (hbig : bs.length ≤ 1000000) (J Jx : List (Ix bs) → World → Prop)
    (hY : ∀ pre x W, J pre W → pre.length < bs.length → YieldAt Fence.wide (n - 1) Tryz.prog l #[.int .i64 (x.1 : Int), .int .i64 (bs.getD x.1 0 : Int)] W fun e W' =>
      (e = .returned (.bool true) ∧ J (pre ++ [x]) W' ∧ KpB Bs b W W') ∨ (e = .returned (.bool false) ∧ Jx (pre ++ [x]) W'))
    (W : World) (hBs : W.heap[Bs]? = some (.cells #[.slice (some ⟨b, off, none⟩) bs.length cap] 41 (0, 0))) (hc : ∀ j, j < bs.length → W.cell? ⟨b, off + j, none⟩ = some (.int .i64 (bs.getD j 0 : Int))) (h0 : J [] W) :
    CallsIn Fence.wide n Tryz.prog 181 #[.func (.yield l) #[] #[], .pointer (some ⟨Bs, 0, none⟩)] W fun e W' => (∃ v, e = .returned v) ∧
      ((∃ ys, ys = back bs hp bs.length ∧ J ys W') ∨ (∃ pre, (∃ k, k ≤ bs.length ∧ pre = back bs hp k) ∧ Jx pre W')) := by
  refine callsIn_of_wp Tryz.func181 rfl trivial ?_ rfl
  simp only [Tryz.ntmps181, List.size_toArray, List.length_cons, List.length_nil, Nat.reduceAdd, Nat.reduceSub, Array.replicate_succ, Array.replicate_zero, List.push_toArray, List.append_toArray, List.nil_append, List.cons_append]
  have hBc : W.cell? ⟨Bs, 0, none⟩ = some (.slice (some ⟨b, off, none⟩) bs.length cap) := by simp [World.cell?, hBs]
  gi_wp2
  gi_loopw [3] (fun i wr => ∃ k : Nat, k ≤ bs.length ∧ i = .int .i64 ((bs.length : Int) - 1 - (k : Int)) ∧ J (back bs hp k) wr ∧ KpB Bs b W wr)
    (fun i _ => (numOf i + 1).toNat)
  case atStart => exact ⟨0, Nat.zero_le _, by simp, h0, rfl, rfl⟩
  case round =>
    obtain ⟨k, hk, rfl, hJs, hnx⟩ := hrel
    have hBr : wr.cell? ⟨Bs, 0, none⟩ = some (.slice (some ⟨b, off, none⟩) bs.length cap) := (World.cell?_of_block (w := W) hnx.1).trans hBc
    by_cases hlt : k < bs.length
    · have hj : (bs.length : Int) - 1 - (k : Int) = ((bs.length - 1 - k : Nat) : Int) := by omega
      have hcx : wr.cell? ⟨b, off + (bs.length - 1 - k), none⟩ = some (.int .i64 (bs.getD (bs.length - 1 - k) 0 : Int)) := (World.cell?_of_block (w := W) hnx.2).trans (hc _ (by omega))
      obtain ⟨fn, tmps, assign, body, hy, hR⟩ := hY _ ⟨bs.length - 1 - k, by omega⟩ wr hJs (by rw [back_length]; exact hlt)
      dsimp only at hy
      rw [hj]
      have Hbk := Hid.mk (back_succ bs hp k)
      rw [← Hbk.out] at hR
      have hjl : ((bs.length - 1 - k : Nat) : Int) < (bs.length : Int) := by omega
      have Hje : Hid (((bs.length - 1 - k : Nat) : Int) - 1 = (bs.length : Int) - 1 - ((k + 1 : Nat) : Int)) := by show _ = _; omega
      have hjk : bs.length - 1 - k < 1000000 := by omega
      clear Hbk hj
      generalize bs.length - 1 - k = j at hcx hy hR hjl Hje hjk ⊢
      generalize bs.getD j 0 = A at hcx hy hR
      gi_wp2
      refine ⟨fun hd => absurd hd (by simp [Fence.wide]), hR.mono ?_⟩
      rintro e W3 (⟨rfl, hJ3, hk3⟩ | ⟨rfl, hJx3⟩)
      · gi_wp2
        go_roundw
        case rel => exact ⟨k + 1, by omega, by rw [Hje.out], hJ3, kpB_t hnx hk3⟩
        case measure => simp only [numOf]; omega
      · gi_wp2
        refine bodyPost_ret (results_none rfl _ _ _) rfl ?_
        exact ⟨⟨_, rfl⟩, .inr ⟨_, ⟨k + 1, by omega, rfl⟩, hJx3⟩⟩
    · obtain rfl : k = bs.length := by omega
      have hneg : (bs.length : Int) - 1 - (bs.length : Int) = -1 := by omega
      rw [hneg]
      gi_wp2
      go_end0
      exact ⟨⟨_, rfl⟩, .inl ⟨_, rfl, hJs⟩⟩
set_option maxHeartbeats 1000000 in
theorem backward_in (n : Nat) (a : Option Addr) (len cap : Nat) (w : World) :
    CallsIn Fence.wide n Tryz.prog 177 #[.slice a len cap] w fun e w' => e = .returned (.func (.func 181) #[] #[.pointer (some ⟨w.heap.size, 0, none⟩)]) ∧ w' = w.alloc (.cells #[.slice a len cap] 41) := by
  refine callsIn_of_wp Tryz.func177 rfl trivial ?_ rfl
  simp only [Tryz.ntmps177, List.size_toArray, List.length_cons, List.length_nil, Nat.reduceAdd, Nat.reduceSub, Array.replicate_succ, Array.replicate_zero, List.push_toArray, List.append_toArray, List.nil_append, List.cons_append]
  gi_wp2
  go_ret
  exact ⟨rfl, rfl⟩
/-- slices.Backward(bs) hands back what gives the pairs of index and element, the last first; it leans on its box and on the row. -/
theorem backward_stops (n : Nat) (Bs b off cap : Nat) (bs : List Nat) (hp : 0 < bs.length) (hbig : bs.length ≤ 1000000) (w : World) (hbl : b < w.heap.size)
    (hBs : w.heap[Bs]? = some (.cells #[.slice (some ⟨b, off, none⟩) bs.length cap] 41 (0, 0))) (hc : ∀ j, j < bs.length → w.cell? ⟨b, off + j, none⟩ = some (.int .i64 (bs.getD j 0 : Int))) :
    SeqStopsK Fence.wide n Tryz.prog 181 #[.pointer (some ⟨Bs, 0, none⟩)] (fun x : Ix bs => #[Value.int .i64 (x.1 : Int), Value.int .i64 (bs.getD x.1 0 : Int)]) (KpB Bs b) (fun ys => ys = back bs hp bs.length) (fun pre => ∃ k, k ≤ bs.length ∧ pre = back bs hp k) bs.length w := fun l J Jx W hW _ _ hY h0 =>
  backward1 n l Bs b off cap bs hp hbig J Jx hY W ((hW.block Bs (lt_of_block hBs)).trans hBs) (fun j hj => (hW.cell (p := ⟨b, off + j, none⟩) hbl).trans (hc j hj)) h0
end Go.Proofs.YtgpbhlfdlkemjaaGreat
/-
  read: of a name at which no text lies.
-/
namespace Go.Proofs.YtgpbhlfdlkemjaaGreat
open Go.RowKit
set_option linter.unusedVariables false
/-- What read answers where there is none. -/
def ReadNo (w : World) (e : Ending) (w' : World) : Prop := e = .returned (.tuple #[.slice none 0 0, .slice none 0 0, .int .i64 0]) ∧ Kept [] w w'
set_option maxRecDepth 100000 in
set_option maxHeartbeats 1000000 in
theorem rd_out {w : World} {F G : List Nat} {p q fr ct : Nat} {T : List (Nat × List Nat)} {fl : List Nat} (hP : IsP w G p q fr ct T fl) (ha : fr + ct ≤ 65536) (nm : Nat) (ho : nm < fr ∨ fr + ct ≤ nm) (hb : nm < 4611686018427387904) :
    Calls Tryz.prog 64 #[.pointer (some ⟨p, 0, none⟩), .int .i64 (nm : Int)] w fun e w' => ReadNo w e w' := by
  have fin : ∀ w', Kept [] w w' → ReadNo w (.returned (.tuple #[.slice none 0 0, .slice none 0 0, .int .i64 0])) w' := fun w' h => ⟨rfl, h⟩
  generalize ReadNo w = Z at fin
  have k0 := kept_alloc w (.cells #[.bool false, .int .i64 0, .int .i64 0, .slice none 0 0] 161)
  obtain ⟨-, c1, c2⟩ := (hP.kept k0 (by simp)).cells
  have hh := has_out p fr ct nm _ c1 c2 ho ha hb
  clear c1 c2
  go_enter Tryz.func64, Tryz.ntmps64
  go_wp2_with fail
  generalize w.alloc (.cells #[.bool false, .int .i64 0, .int .i64 0, .slice none 0 0] 161) = w0 at k0 hh
  go_loopw [10] (fun i wr => i = .int .i64 (nm : Int) ∧ wr = w0) (fun _ _ => 0)
  case atStart => exact ⟨rfl, rfl⟩
  case round =>
    obtain ⟨rfl, rfl⟩ := hrel
    go_wp2_with fail
    refine hh.mono ?_
    rintro e w1 ⟨rfl, k1⟩
    have hf := Hid.mk (fin _ (k0.trans k1 (by simp)))
    clear fin
    go_wp2
    refine bodyPost_ret (results_tmp3 rfl _ _ _) rfl ?_
    exact hf.out
set_option maxRecDepth 100000 in
set_option maxHeartbeats 1000000 in
theorem rd_none {w : World} {F G : List Nat} {p q fr ct : Nat} {T : List (Nat × List Nat)} {fl : List Nat} {s : St} (hD : IsD w F q s) (hP : IsP w G p q fr ct T fl) (hd : s.down = false) (ha : fr + ct ≤ s.nb) (nm : Nat) (h1 : fr ≤ nm) (h2 : nm < fr + ct) (hn : ¬ isPart (plc nm nm) (blk s.ws nm)) :
    Calls Tryz.prog 64 #[.pointer (some ⟨p, 0, none⟩), .int .i64 (nm : Int)] w fun e w' => ReadNo w e w' := by
  have hnb := hD.ok.nb
  have fin : ∀ w', Kept [] w w' → ReadNo w (.returned (.tuple #[.slice none 0 0, .slice none 0 0, .int .i64 0])) w' := fun w' h => ⟨rfl, h⟩
  generalize ReadNo w = Z at fin
  have k0 := kept_alloc w (.cells #[.bool false, .int .i64 0, .int .i64 0, .slice none 0 0] 161)
  have hP0 := hP.kept k0 (by simp)
  have hD0 := hD.kept k0 (by simp)
  obtain ⟨-, c1, c2⟩ := hP0.cells
  have hh := has_in p fr ct nm _ c1 c2 h1 h2 (by omega)
  have hbl := blk_len s.nb s.ws hD.ok.ws nm
  clear c1 c2
  go_enter Tryz.func64, Tryz.ntmps64
  go_wp2_with fail
  generalize w.alloc (.cells #[.bool false, .int .i64 0, .int .i64 0, .slice none 0 0] 161) = w0 at k0 hh hP0 hD0
  go_loopw [10] (fun i wr => i = .int .i64 (nm : Int) ∧ wr = w0) (fun _ _ => 0)
  case atStart => exact ⟨rfl, rfl⟩
  case round =>
    obtain ⟨rfl, rfl⟩ := hrel
    go_wp2_with fail
    refine hh.mono ?_
    rintro e w1 ⟨rfl, k1⟩
    have hrdr := read_ok (hD0.kept k1 (by simp)) nm hd (by omega)
    have hP1 := hP0.kept k1 (by simp)
    have kk := k0.trans k1 (by simp)
    obtain ⟨c0, -, -⟩ := hP1.cells
    clear hh k1 hD0 hP0
    go_wp2_with fail
    refine hrdr.mono ?_
    rintro e w2 ⟨rfl, hR2, k2⟩
    have hp2 := pin_any nm nm _ _ w2 (by omega) (by omega) (hR2.reads_all hbl)
    have kk := kk.trans k2 (by simp)
    clear hrdr hR2 k2 c0
    generalize w1.heap.size = rb at hp2
    go_wp2_with fail
    refine hp2.mono ?_
    rintro e w3 ⟨v3, rfl, hr3, k3, -⟩
    rw [decide_eq_false hn]
    obtain ⟨a3, cp3, rfl, -⟩ := hr3
    have kk := kk.trans k3 (by simp)
    clear hp2 k3
    generalize partOf (plc nm nm) (blk s.ws nm) = P at kk
    obtain ⟨t, lf, nx, l⟩ := P
    simp only
    have hf := Hid.mk (fin _ (kk.alloc (.cells #[.bool t, .int .i64 (lf : Int), .int .i64 (nx : Int), .slice a3 l.length cp3] 161)))
    clear fin kk
    generalize l.length = n3 at hf
    go_wp2
    refine bodyPost_ret (results_tmp3 rfl _ _ _) rfl ?_
    exact hf.out
end Go.Proofs.YtgpbhlfdlkemjaaGreat
/-
  The writes of a text in whatever order its parts come, and turnFor.
-/
namespace Go.Proofs.YtgpbhlfdlkemjaaGreat
open Go.RowKit
set_option linter.unusedVariables false
/-- The writes when the parts come in this order; nx is the block that the next one names. -/
def gw (t : Bool) (nm : Nat) (bs : List Nat) (l : List UInt8) : Nat → List Nat → List Wr
  | _, [] => []
  | nx, j :: r => (bs.getD j 0, blkP t (l.length - 238 * j) nx nm (bs.getD j 0) (chk l j)) :: gw t nm bs l (bs.getD j 0) r
def lastAt (bs : List Nat) : Nat → List Nat → Nat
  | nx, [] => nx
  | _, j :: r => lastAt bs (bs.getD j 0) r
theorem lastAt_snoc (bs : List Nat) (j : Nat) : ∀ (pre : List Nat) (nx : Nat), lastAt bs nx (pre ++ [j]) = bs.getD j 0
  | [], nx => rfl
  | i :: r, nx => by simp only [List.cons_append, lastAt]; exact lastAt_snoc bs j r _
theorem lastAt_lt {bs : List Nat} (h : ∀ x ∈ bs, x < 65536) : ∀ (pre : List Nat) (nx : Nat), nx < 65536 → lastAt bs nx pre < 65536
  | [], nx, hn => hn
  | i :: r, nx, hn => lastAt_lt h r _ (getD_lt h i)
theorem gw_snoc (t : Bool) (nm : Nat) (bs : List Nat) (l : List UInt8) (j : Nat) : ∀ (pre : List Nat) (nx : Nat), gw t nm bs l nx (pre ++ [j]) = gw t nm bs l nx pre ++ [(bs.getD j 0, blkP t (l.length - 238 * j) (lastAt bs nx pre) nm (bs.getD j 0) (chk l j))]
  | [], nx => rfl
  | i :: r, nx => by simp only [List.cons_append, gw, lastAt]; rw [gw_snoc t nm bs l j r]
theorem gw_length (t : Bool) (nm : Nat) (bs : List Nat) (l : List UInt8) : ∀ (pre : List Nat) (nx : Nat), (gw t nm bs l nx pre).length = pre.length
  | [], nx => rfl
  | i :: r, nx => by simp only [gw, List.length_cons]; rw [gw_length t nm bs l r]
theorem gw_append (t : Bool) (nm : Nat) (bs : List Nat) (l : List UInt8) (b : List Nat) : ∀ (a : List Nat) (nx : Nat), ∃ r, gw t nm bs l nx (a ++ b) = gw t nm bs l nx a ++ r
  | [], nx => ⟨_, rfl⟩
  | i :: a, nx => by
    obtain ⟨r, hr⟩ := gw_append t nm bs l b a (bs.getD i 0)
    exact ⟨r, by simp only [List.cons_append, gw, hr]⟩
/-- The parts from the last to the first: those are the text's writes. -/
def down (n k : Nat) : List Nat := (List.range k).map fun j => n - 1 - j
theorem down_succ (n k : Nat) : down n (k + 1) = down n k ++ [n - 1 - k] := by simp [down, List.range_succ]
theorem lastAt_down (bs : List Nat) (k : Nat) (h : k ≤ bs.length) : lastAt bs 0 (down bs.length k) = bs.getD (bs.length - k) 0 := by
  cases k with
  | zero => simp [down, lastAt]
  | succ k =>
    rw [down_succ, lastAt_snoc]
    congr 1
    omega
theorem gw_down (t : Bool) (nm : Nat) (bs : List Nat) (l : List UInt8) : ∀ k, k ≤ bs.length → wsOf t nm bs l bs.length = gw t nm bs l 0 (down bs.length k) ++ wsOf t nm bs l (bs.length - k) := by
  intro k
  induction k with
  | zero => intro _; simp [down, gw]
  | succ k ih =>
    intro hk
    rw [ih (by omega), down_succ, gw_snoc, lastAt_down bs k (by omega), List.append_assoc]
    congr 1
    rw [show bs.length - k = (bs.length - 1 - k) + 1 by omega]
    simp only [wsOf, List.singleton_append]
    have e1 : bs.length - 1 - k + 1 = bs.length - k := by omega
    have e2 : bs.length - 1 - k = bs.length - (k + 1) := by omega
    unfold pblk
    rw [e1, e2]
theorem gw_all (t : Bool) (nm : Nat) (bs : List Nat) (l : List UInt8) : wsOf t nm bs l bs.length = gw t nm bs l 0 (down bs.length bs.length) := by
  have := gw_down t nm bs l bs.length (Nat.le_refl _)
  rw [Nat.sub_self] at this
  simpa [wsOf] using this
theorem back_down (bs : List Nat) (h : 0 < bs.length) (k : Nat) : (back bs h k).map (·.1) = down bs.length k := by simp [back, down]
theorem wrAll_snoc (x : Wr) : ∀ (r : List Wr) (s sk : St), wrAll s r = (0, sk) → wrAll s (r ++ [x]) = if wrE sk (x.1 : Int) x.2.length = 0 then (0, wrS sk (x.1 : Int) x.2) else (wrE sk (x.1 : Int) x.2.length, wrS sk (x.1 : Int) x.2)
  | [], s, sk, h => by
    simp only [wrAll, Prod.mk.injEq, true_and] at h
    subst h
    rfl
  | y :: r, s, sk, h => by
    simp only [wrAll] at h
    simp only [List.cons_append, wrAll]
    split at h
    · rename_i h0
      rw [if_pos h0]
      exact wrAll_snoc x r _ sk h
    · rename_i h0
      simp only [Prod.mk.injEq] at h
      exact absurd h.1 h0
theorem wrAll_stop (r' : List Wr) : ∀ (r : List Wr) (s : St), (wrAll s r).1 ≠ 0 → wrAll s (r ++ r') = wrAll s r
  | [], s, h => by simp [wrAll] at h
  | y :: r, s, h => by
    simp only [wrAll] at h
    simp only [List.cons_append, wrAll]
    split
    · rename_i h0
      rw [if_pos h0] at h
      exact wrAll_stop r' r _ h
    · rfl
theorem wrAll_len : ∀ (r : List Wr) (s : St), (wrAll s r).2.ws.length ≤ s.ws.length + r.length
  | [], s => by simp [wrAll]
  | y :: r, s => by
    simp only [wrAll, List.length_cons]
    have h1 := wrS_len s (y.1 : Int) y.2
    split
    · have := wrAll_len r (wrS s (y.1 : Int) y.2)
      omega
    · show (wrS s (y.1 : Int) y.2).ws.length ≤ _
      omega
theorem wrAll_nb : ∀ (r : List Wr) (s : St), (wrAll s r).2.nb = s.nb
  | [], s => rfl
  | y :: r, s => by
    simp only [wrAll]
    split
    · rw [wrAll_nb r, wrS_nb]
    · exact wrS_nb _ _ _
set_option maxRecDepth 100000 in
set_option maxHeartbeats 1000000 in
/-- turnFor. -/
theorem turn_any {w : World} {F : List Nat} {p q : Nat} {s : St} (hD : IsD w F q s) (c0 : w.cell? ⟨p, 0, none⟩ = some (.pointer (some ⟨q, 0, none⟩))) (hd : s.down = false) (nm : Nat) (hn : nm < s.nb) :
    Calls Tryz.prog 176 #[.pointer (some ⟨p, 0, none⟩), .int .i64 (nm : Int)] w fun e w' => ∃ t : Bool, e = .returned (.tuple #[.bool t, .int .i64 0]) ∧ Kept [] w w' := by
  have hnb := hD.ok.nb
  have hrdr := read_ok hD nm hd hn
  have hbl := blk_len s.nb s.ws hD.ok.ws nm
  go_enter Tryz.func176, Tryz.ntmps176
  go_wp2_with fail
  refine hrdr.mono ?_
  rintro e w2 ⟨rfl, hR2, k2⟩
  have hr2 := hR2.reads_all hbl
  have hp2 := pin_any nm nm _ _ w2 (by omega) (by omega) hr2
  clear hrdr hR2 hr2 hbl
  generalize w.heap.size = rb at hp2
  go_wp2_with fail
  refine hp2.mono ?_
  rintro e w3 ⟨v3, rfl, hr3, k3, -⟩
  obtain ⟨a3, cp3, rfl, -⟩ := hr3
  clear hp2
  have kk := k2.trans k3 (by simp)
  clear k2 k3
  generalize partOf (plc nm nm) (blk s.ws nm) = P
  generalize decide (isPart (plc nm nm) (blk s.ws nm)) = Z
  obtain ⟨t, lf, nx, l⟩ := P
  simp only
  have hfin := Hid.mk (kk.alloc (.cells #[.bool t, .int .i64 (lf : Int), .int .i64 (nx : Int), .slice a3 l.length cp3] 161))
  clear kk
  generalize l.length = n3 at hfin
  go_wp2
  go_ret2
  exact ⟨_, rfl, hfin.out⟩
end Go.Proofs.YtgpbhlfdlkemjaaGreat
