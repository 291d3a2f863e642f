/-
  A disk and a Super of it, with all that was saved, also while the power is gone: SetFuse, a Save that is lost, Restart.
-/
import Derived.Test.YthjdlbejfaejkaaLists
namespace Go.Proofs.Ythjdlbejfaejkaa
open Go.RowKit
set_option linter.unusedVariables false

/-- As Has, whatever the disk's fuse, whether it is down and whether a Save was lost. -/
def HasG (w0 w : World) (q p nb : Nat) (saves : List (List UInt8)) (down : Bool) (fuse : Int) (over : Bool) : Prop :=
  ∃ F s v, Sys w F q s p v (saves.length, lastS saves) over ∧ Hist s.ws saves ∧ s.down = down ∧ s.fuse = fuse ∧ s.nb = nb ∧ Kept [] w0 w ∧ (∀ x ∈ F, w0.heap.size ≤ x) ∧ w0.heap.size ≤ p
theorem HasG.k {w0 w : World} {q p nb : Nat} {saves : List (List UInt8)} {d : Bool} {f : Int} {o : Bool} (h : HasG w0 w q p nb saves d f o) : Kept [] w0 w := by
  obtain ⟨F, s, v, h1, h2, h3, h4, h5, h6, h7, h8⟩ := h
  exact h6
theorem HasG.keep {w0 w w' : World} {q p nb : Nat} {saves : List (List UInt8)} {d : Bool} {f : Int} {o : Bool} (h : HasG w0 w q p nb saves d f o) (k : Kept [] w w') : HasG w0 w' q p nb saves d f o := by
  obtain ⟨F, s, v, h1, h2, h3, h4, h5, h6, h7, h8⟩ := h
  exact ⟨F, s, v, h1.kept k, h2, h3, h4, h5, h6.trans k (by simp), h7, h8⟩
theorem HasG.dsk {w0 w : World} {q p nb : Nat} {saves : List (List UInt8)} {o : Bool} (h : HasG w0 w q p nb saves false (-1) o) : Dsk w0 w q nb saves := by
  obtain ⟨F, s, v, h1, h2, h3, h4, h5, h6, h7, _⟩ := h
  exact ⟨F, s, h1.dsk, h2, h3, h4, h5, h6, h7⟩

theorem Sys.frame {w w' : World} {F : List Nat} {q : Nat} {s s' : St} {p : Nat} {v : Value} {r : Rc} {over : Bool} (h : Sys w F q s p v r over) (hD : IsD w' F q s') (k : Kept F w w') : Sys w' F q s' p v r over :=
  ⟨hD, h.sup.kept k h.pF h.vF, h.pF, h.vF⟩

/-- SetFuse(0). -/
theorem fuse_has {w0 w : World} {q p nb : Nat} {saves : List (List UInt8)} (h : Has w0 w q p nb saves) : Calls Try.prog 16 #[.pointer (some ⟨q, 0, none⟩), .int .i64 0] w fun e w' => e = .returned (.tuple #[]) ∧ HasG w0 w' q p nb saves false 0 false := by
  obtain ⟨F, s, v, h1, h2, h3, h4, h5, h6, h7, h8⟩ := h
  exact (setfuse_any h1.dsk 0 (by omega) (by omega)).mono fun e w' ⟨he, hD, k⟩ => ⟨he, F, _, v, h1.frame hD k, h2, h3, rfl, h5, h6.trans k (fun x hx => .inr (h7 x hx)), h7, h8⟩
/-- Restart. -/
theorem restart_has {w0 w : World} {q p nb : Nat} {saves : List (List UInt8)} {d : Bool} {f : Int} {o : Bool} (h : HasG w0 w q p nb saves d f o) : Calls Try.prog 17 #[.pointer (some ⟨q, 0, none⟩)] w fun e w' => e = .returned (.tuple #[]) ∧ HasG w0 w' q p nb saves false (-1) o := by
  obtain ⟨F, s, v, h1, h2, h3, h4, h5, h6, h7, h8⟩ := h
  exact (restart_any h1.dsk).mono fun e w' ⟨he, hD, k⟩ => ⟨he, F, _, v, h1.frame hD k, h2, rfl, rfl, h5, h6.trans k (fun x hx => .inr (h7 x hx)), h7, h8⟩
/-- Open, of a disk that is down. -/
theorem open_gone {w0 w : World} {q p nb : Nat} {saves : List (List UInt8)} {f : Int} {o : Bool} (h : HasG w0 w q p nb saves true f o) (hn : 2 ≤ nb) : Calls Try.prog 9 #[.pointer (some ⟨q, 0, none⟩)] w fun e w' => e = .returned (.tuple #[.pointer none, .int .i64 9]) ∧ Kept [] w w' := by
  obtain ⟨F, s, v, h1, h2, h3, h4, h5, h6, h7, h8⟩ := h
  exact opn_down h1.dsk (by omega) h3
/-- Save, behind one that was lost. -/
theorem save_behind {w0 w : World} {q p nb : Nat} {saves : List (List UInt8)} {d : Bool} {f : Int} (h : HasG w0 w q p nb saves d f true) (v : Value) (l : List UInt8) (hr : Reads w v l) (hl : l.length ≤ 200) : Calls Try.prog 12 #[.pointer (some ⟨p, 0, none⟩), v] w fun e w' => e = .returned (.int .i64 9) ∧ w = w' := by
  obtain ⟨F, s, vp, h1, h2, h3, h4, h5, h6, h7, h8⟩ := h
  obtain ⟨a, cap, rfl, _⟩ := hr
  exact save_over h1.sup a l.length cap hl
theorem wrE_fuse {s : St} {i : Nat} (h1 : s.down = false) (h2 : s.fuse = 0) (h3 : i < s.nb) : wrE s (i : Int) 256 = 9 := by
  unfold wrE
  rw [h1, if_neg (by simp), if_neg (by omega), h2, if_pos rfl]
theorem wrS_fuse {s : St} {i : Nat} {l : List UInt8} (h1 : s.down = false) (h2 : s.fuse = 0) (h3 : i < s.nb) (h4 : l.length = 256) : wrS s (i : Int) l = { s with down := true } := by
  unfold wrS
  rw [h1, if_neg (by simp), if_neg (by omega), h2, if_pos rfl]
/-- Save, where the fuse has ended. -/
theorem save_gone {w0 w : World} {q p nb : Nat} {saves : List (List UInt8)} (h : HasG w0 w q p nb saves false 0 false) (hn : 2 ≤ nb) (hs : saves.length ≤ 500) (v : Value) (l : List UInt8) (hr : Reads w v l) (hl : l.length ≤ 200) :
    Calls Try.prog 12 #[.pointer (some ⟨p, 0, none⟩), v] w fun e w' => e = .returned (.int .i64 9) ∧ HasG w0 w' q p nb saves true 0 true := by
  obtain ⟨F, s, vp, h1, h2, h3, h4, h5, h6, h7, h8⟩ := h
  have hlt : plc (saves.length + 1) < s.nb := by have := plc_lt (saves.length + 1); omega
  have hr' := hr
  obtain ⟨a, cap, rfl, _⟩ := hr
  have hws : s.ws.length = saves.length := h2.1
  refine (save_lost h1 a l.length cap l hr' rfl hl (show saves.length ≤ 1000 by omega) (by omega) (wrE_fuse h3 h4 hlt)).mono fun e w' ⟨he, F', hY, hk, hN⟩ => ⟨he, ?_⟩
  have hY' : Sys w' F' q (wrS s (plc (saves.length + 1) : Int) (blkOf (saves.length + 1) l)) p vp (saves.length, lastS saves) true := hY
  rw [wrS_fuse h3 h4 hlt (blkOf_length _ l hl)] at hY'
  refine ⟨F', { s with down := true }, vp, hY', h2, rfl, h4, h5, h6.trans hk (fun x hx => ?_), fun x hx => ?_, h8⟩
  · rcases List.mem_cons.1 hx with rfl | hx
    · exact .inr h8
    · exact .inr (h7 x hx)
  · rcases hN x hx with h | h
    · exact h7 x h
    · exact Nat.le_trans h6.size h
theorem gen_hasG {w0 w : World} {q p nb : Nat} {saves : List (List UInt8)} {d : Bool} {f : Int} {o : Bool} (h : HasG w0 w q p nb saves d f o) : Calls Try.prog 10 #[.pointer (some ⟨p, 0, none⟩)] w fun e w' => e = .returned (.int .u64 (saves.length : Int)) ∧ w = w' := by
  obtain ⟨F, s, v, h1, _⟩ := h
  exact gen_any h1.sup
theorem text_hasG {w0 w : World} {q p nb : Nat} {saves : List (List UInt8)} {d : Bool} {f : Int} {o : Bool} (h : HasG w0 w q p nb saves d f o) : Calls Try.prog 11 #[.pointer (some ⟨p, 0, none⟩)] w fun e w' => ∃ a c, e = .returned (.slice a (lastS saves).length c) ∧ (convert 32 9 (.slice a (lastS saves).length c)).run Try.prog w' = .ok (.string ⟨(lastS saves).toArray⟩) w' ∧ Kept [] w w' := by
  obtain ⟨F, s, v, h1, _⟩ := h
  refine (pay_any h1.sup).mono fun e w' ⟨v', he, hO, k, f⟩ => ?_
  obtain ⟨a, c, hv⟩ := hO.form
  subst hv
  exact ⟨a, c, he, str34 _ _ w' hO.reads, k⟩

end Go.Proofs.Ythjdlbejfaejkaa
