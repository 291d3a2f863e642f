/-
  Open: the pages with the texts of these names.
-/
import Derived.Test.YtilelklcfgemoaaTk
namespace Go.Proofs.Ytilelklcfgemoaa
open Go.RowKit
set_option linter.unusedVariables false

/-- Other free blocks. -/
theorem IsP.setFree {w : World} {G : List Nat} {p q fr ct : Nat} {T : List (Nat × List Nat)} {fl : List Nat} (h : IsP w G p q fr ct T fl) (v : Value) (fl' : List Nat) (hv : FrS w v fl') (hg : ∀ g, v.ownBlock = some g → g ∉ G) :
    ∃ G', IsP (w.setCell ⟨p, 4, none⟩ v) G' p q fr ct T fl' ∧ Kept [p] w (w.setCell ⟨p, 4, none⟩ v) ∧ (∀ x ∈ G', x ∈ G ∨ v.ownBlock = some x) ∧ ∃ u, w.cell? ⟨p, 4, none⟩ = some u := by
  obtain ⟨mb, vf, M, rfl, h1, h2, h3, h4, h5, h6, h7, h8⟩ := h
  have k : Kept [p] w (w.setCell ⟨p, 4, none⟩ v) := (Kept.refl [p] w).setCell (.inl (by simp)) _
  have hvp : v.ownBlock ≠ some p := fun e => hg p e (by simp)
  have hvm : v.ownBlock ≠ some mb := fun e => hg mb e (by simp)
  refine ⟨p :: mb :: (v.ownBlock.toList ++ obs (M.map (·.2.2))), ⟨mb, v, M, rfl, by rw [heap_setCell_same w p 4 _ 62 _ h1]; rfl, h2.kept k (by simp; omega), h3, fun x hx => ⟨(h4 x hx).1.kept k (fun g hg' => by simp; exact ((h4 x hx).2 g hg').2.1), fun g hg' => ?_⟩, hv.kept k (fun g hg' => by simp; rintro rfl; exact hvp hg'), h6, hvp, hvm⟩, k, fun x hx => ?_, vf, by simp [World.cell?, h1]⟩
  · have := (h4 x hx).2 g hg'
    refine ⟨Nat.lt_of_lt_of_le this.1 k.size, this.2.1, this.2.2.1, fun e => hg g e ?_⟩
    simp only [List.mem_cons, List.mem_append, mem_obs, List.mem_map]
    exact .inr (.inr (.inr ⟨_, ⟨x, hx, rfl⟩, hg'⟩))
  · simp only [List.mem_cons, List.mem_append, Option.mem_toList] at hx ⊢
    rcases hx with h | h | h | h
    · exact .inl (.inl h)
    · exact .inl (.inr (.inl h))
    · exact .inr h
    · exact .inl (.inr (.inr (.inr h)))
set_option maxRecDepth 100000 in
theorem open_zero (d : Option Addr) (fr : Nat) (v : Value) (w : World) : Calls Try.prog 11 #[.pointer d, .int .i64 (fr : Int), .int .i64 0, v] w fun e w' => e = .returned (.tuple #[.pointer none, .int .i64 1]) ∧ w = w' := by
  have h0 : ((fr : Int) < 0) = False := eq_false (by omega)
  go_enter Try.func11, Try.ntmps11
  go_wp2
  go_ret2
  exact ⟨rfl, rfl⟩
set_option maxRecDepth 100000 in
theorem open_nild (v : Value) (w : World) : Calls Try.prog 11 #[.pointer none, .int .i64 0, .int .i64 1, v] w fun e w' => e = .returned (.tuple #[.pointer none, .int .i64 1]) ∧ w = w' := by
  have hb := blocks_nil w
  go_enter Try.func11, Try.ntmps11
  go_wp2_with fail
  refine hb.mono ?_
  rintro e w' ⟨rfl, rfl⟩
  go_wp2
  go_ret2
  exact ⟨rfl, rfl⟩
/-- No text of that name is there, or it has come already. -/
def Bad (s : St) (fr ct : Nat) (Ts : List (Nat × List Nat)) (nm : Nat) : Prop := nm ∈ Ts.map (·.1) ∨ (nm < fr ∨ fr + ct ≤ nm) ∨ ¬ isPart (plc nm nm) (blk s.ws nm)
/-- The texts are there. -/
structure Good (s : St) (fr ct : Nat) (Ts : List (Nat × List Nat)) : Prop where
  lies : ∀ x ∈ Ts, ∃ l, Lies (blk s.ws) x.1 x.2 l
  area : ∀ x ∈ Ts, ∀ b ∈ x.2, fr ≤ b ∧ b < fr + ct
  nodup : (Ts.map (·.1)).Nodup
/-- What Open answers, and leaves. -/
def OpenAt (q fr ct : Nat) (Ts : List (Nat × List Nat)) (all : Bool) (w : World) (e : Ending) (w' : World) : Prop :=
  Kept [] w w' ∧ (all = true ∧ (∃ p G, e = .returned (.tuple #[.pointer (some ⟨p, 0, none⟩), .int .i64 0]) ∧ IsP w' G p q fr ct Ts (freeOf fr ct Ts) ∧ ∀ x ∈ G, w.heap.size ≤ x) ∨ all = false ∧ e = .returned (.tuple #[.pointer none, .int .i64 2]))
set_option maxRecDepth 100000 in
set_option maxHeartbeats 2000000 in
theorem openP_any {w : World} {F : List Nat} {q fr ct : Nat} {s : St} (hD : IsD w F q s) (hd : s.down = false) (h1 : 1 ≤ ct) (ha : fr + ct ≤ s.nb) (ns : List Nat) (hns : ns.length ≤ 1000) (hsm : ∀ x ∈ ns, x < 65536) (a : Option Addr) (c : Nat) (hr : ReadsI w (.slice a ns.length c) ns) (Ts : List (Nat × List Nat)) (hG : Good s fr ct Ts) (all : Bool) (hpre : ∀ k, k < Ts.length → ns[k]? = (Ts[k]?).map (·.1)) (hend : all = true ∧ Ts.length = ns.length ∨ all = false ∧ ∃ nm, ns[Ts.length]? = some nm ∧ Bad s fr ct Ts nm) :
    Calls Try.prog 11 #[.pointer (some ⟨q, 0, none⟩), .int .i64 (fr : Int), .int .i64 (ct : Int), .slice a ns.length c] w fun e w' => OpenAt q fr ct Ts all w e w' := by
  have hnb := hD.ok.nb
  have hTl : Ts.length ≤ ns.length := by
    rcases hend with ⟨_, h⟩ | ⟨_, nm, h, _⟩
    · omega
    · have := (List.getElem?_eq_some_iff.1 h).1; omega
  have hb := blocks_any hD
  have f1 : ((fr : Int) < 0) = False := eq_false (by omega)
  have f2 : ((ct : Int) < 1) = False := eq_false (by omega)
  have f3 : ((s.nb : Int) - (fr : Int) < (ct : Int)) = False := eq_false (by omega)
  have hmm := @run_makeMap Try.prog
  have kN : Kept [] w ((w.alloc (.map #[] 0)).alloc (.cells #[.pointer (some ⟨q, 0, none⟩), .int .i64 (fr : Int), .int .i64 (ct : Int), .map (some w.heap.size), .slice none 0 0] 62)) := (kept_alloc w _).alloc _
  have hPN := IsP.new w q fr ct
  have hDn := down_any (hD.kept kN (by simp))
  rw [hd] at hDn
  have HZ : Hid (∀ e w', (Kept [] w w' ∧ (all = true ∧ (∃ p G, e = .returned (.tuple #[.pointer (some ⟨p, 0, none⟩), .int .i64 0]) ∧ IsP w' G p q fr ct Ts (freeOf fr ct Ts) ∧ ∀ x ∈ G, w.heap.size ≤ x) ∨ all = false ∧ e = .returned (.tuple #[.pointer none, .int .i64 2]))) → OpenAt q fr ct Ts all w e w') := fun e w' h => h
  generalize OpenAt q fr ct Ts all w = R at HZ
  go_enter Try.func11, Try.ntmps11
  go_wp2_with fail
  refine hb.mono ?_
  rintro e w' ⟨rfl, rfl⟩
  clear hb
  go_wp2_with fail
  refine hDn.mono ?_
  rintro e w' ⟨rfl, rfl⟩
  clear hDn hmm
  have hG0 : ∀ x ∈ [w.heap.size + 1, w.heap.size], w.heap.size ≤ x := by simp
  generalize hw1 : (w.alloc (.map #[] 0)).alloc (.cells #[.pointer (some ⟨q, 0, none⟩), .int .i64 (fr : Int), .int .i64 (ct : Int), .map (some w.heap.size), .slice none 0 0] 62) = w1 at kN hPN
  clear hw1
  generalize [w.heap.size + 1, w.heap.size] = G0 at hPN hG0
  obtain ⟨p, hp⟩ : ∃ p, Hid (w.heap.size + 1 = p) := ⟨_, rfl⟩
  rw [hp.out] at hPN ⊢
  go_wp2_with fail
  go_loopw [44] (fun i wr => ∃ (k : Nat) (G : List Nat), k ≤ Ts.length ∧ i = .int .i64 (k : Int) ∧ IsP wr G p q fr ct (Ts.take k) [] ∧ Kept [] w wr ∧ ∀ x ∈ G, w.heap.size ≤ x) (fun i _ => ns.length - (numOf i).toNat)
  case atStart => exact ⟨0, G0, Nat.zero_le _, rfl, hPN, kN, hG0⟩
  case round =>
    clear hPN kN hG0
    obtain ⟨k, G, hk, rfl, hP, kk, hGw⟩ := hrel
    have hDr := hD.kept kk (by simp)
    have hrr := hr.kept kk (by simp)
    by_cases hkT : k < Ts.length
    · have hkn : (k : Int) < (ns.length : Int) := by omega
      obtain ⟨x, hx⟩ : ∃ x, Ts[k]? = some x := ⟨Ts[k], by simp [hkT]⟩
      have hnk : ns[k]? = some x.1 := by rw [hpre k hkT, hx]; rfl
      obtain ⟨gb, ob, cb, hve, hck⟩ := hrr.at k _ hnk
      injection hve with q1 q2 q3
      subst q1 q3
      have hxm : x ∈ Ts := List.mem_of_getElem? hx
      obtain ⟨l, hL⟩ := hG.lies x hxm
      have htk : Ts.take (k + 1) = Ts.take k ++ [(x.1, x.2)] := by rw [List.take_add_one, hx]; rfl
      have hnT : x.1 ∉ (Ts.take k).map (·.1) := fun hm => by
        have hnd := hG.nodup
        have hsub : ((Ts.take (k + 1)).map (·.1)).Nodup := ((List.take_sublist _ _).map _).nodup hnd
        rw [htk, List.map_append, List.nodup_append] at hsub
        exact hsub.2.2 _ hm x.1 (by simp) rfl
      have htake := take_ok hDr hP hd ha x.1 x.2 l hL (hG.area x hxm) hnT (by rw [List.length_take]; omega)
      rw [← htk] at htake
      obtain ⟨X, hX⟩ : ∃ X, Hid (x.1 = X) := ⟨_, rfl⟩
      rw [hX.out] at htake hck
      clear hP hDr hrr hpre hend hG
      go_wp2_with fail
      refine htake.mono ?_
      rintro e w2 ⟨rfl, G2, hP2, k2, hN2⟩
      have kk2 : Kept [] w w2 := kk.trans k2 (fun y hy => .inr (hGw y hy))
      have Hf := Hid.mk (And.intro hP2 (And.intro kk2 (fun y hy => by
        rcases hN2 y hy with h | h
        · exact hGw y h
        · exact Nat.le_trans kk.size h : ∀ y ∈ G2, w.heap.size ≤ y)))
      clear htake hP2 k2 hN2 kk2 kk hGw
      go_wp2
      go_roundw
      case rel => exact ⟨k + 1, G2, by omega, by go_num, Hf.out⟩
      case measure => simp [numOf]; omega
    · obtain rfl : k = Ts.length := by omega
      rw [List.take_of_length_le (Nat.le_refl _)] at hP
      rcases hend with ⟨rfl, he⟩ | ⟨rfl, nm, hnk, hbad⟩
      · have hni : ¬ (Ts.length : Int) < (ns.length : Int) := by omega
        have hun := un_any hP (by omega) (by omega) hG.area (fun x hx => by
          obtain ⟨l, hL⟩ := hG.lies x hx
          rw [hL.len]
          have := bks_le hL.long
          omega)
        have hplt := hP.lt p hP.pG
        have hPG := hP.pG
        have hGlt := hP.lt
        go_wp2_with fail
        refine hun.mono ?_
        rintro e w2 ⟨v, rfl, hO, k2, hF⟩
        have hP2 := hP.kept k2 (by simp)
        obtain ⟨G3, hP3, k3, hG3, u, hu⟩ := hP2.setFree v _ hO.frs (fun g hg hm => by have := hF g hg; have := hGlt g hm; omega)
        obtain ⟨av, cv, rfl, -⟩ := id hO.form
        have f4 := hP2.free 4
        have kk3 : Kept [] w (w2.setCell ⟨p, 4, none⟩ (.slice av (freeOf fr ct Ts).length cv)) := (kk.trans k2 (by simp)).trans k3 (fun y hy => .inr (by simp at hy; subst hy; exact hGw _ hPG))
        have hfin := HZ.out (.returned (.tuple #[.pointer (some ⟨p, 0, none⟩), .int .i64 0])) _ ⟨kk3, .inl ⟨(by first | rfl | trivial), p, G3, rfl, hP3, fun y hy => by
          rcases hG3 y hy with h | h
          · exact hGw y h
          · exact Nat.le_trans kk.size (hF y h)⟩⟩
        have Hf := Hid.mk hfin
        clear hfin hP hP2 hP3 hO hun hG3 kk3 k3 k2 HZ
        generalize (freeOf fr ct Ts).length = L at Hf ⊢
        go_wp2
        exact Hf.out
      · have hlt := (List.getElem?_eq_some_iff.1 hnk).1
        have hkn : (Ts.length : Int) < (ns.length : Int) := by omega
        obtain ⟨gb, ob, cb, hve, hck⟩ := hrr.at _ _ hnk
        injection hve with q1 q2 q3
        subst q1 q3
        have hnm : nm < 65536 := hsm nm (List.mem_of_getElem? hnk)
        have htake : Calls Try.prog 30 #[.pointer (some ⟨p, 0, none⟩), .int .i64 (nm : Int)] wr fun e w' => e = .returned (.int .i64 2) ∧ Kept [] wr w' := by
          by_cases hm : nm ∈ Ts.map (·.1)
          · obtain ⟨x, hx, rfl⟩ := List.mem_map.1 hm
            exact take_twice hP x.1 x.2 hx
          · rcases hbad with h | h | h
            · exact absurd h hm
            · exact take_no hP nm hnm hm (rd_out (F := []) hP (by omega) nm h (by omega))
            · by_cases ho : nm < fr ∨ fr + ct ≤ nm
              · exact take_no hP nm hnm hm (rd_out (F := []) hP (by omega) nm ho (by omega))
              · exact take_no hP nm hnm hm (rd_none hDr hP hd ha nm (by omega) (by omega) h)
        clear hP hDr hrr hpre hG hbad hnk
        go_wp2_with fail
        refine htake.mono ?_
        rintro e w2 ⟨rfl, k2⟩
        have hfin := HZ.out (.returned (.tuple #[.pointer none, .int .i64 2])) w2 ⟨kk.trans k2 (by simp), .inr ⟨(by first | rfl | trivial), rfl⟩⟩
        have Hf := Hid.mk hfin
        clear hfin HZ htake
        go_wp2
        exact Hf.out
end Go.Proofs.Ytilelklcfgemoaa
