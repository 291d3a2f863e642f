import Derived.Test.YtgpbhlfdlkemjaaGreatH25
/-
 tree: the root's node behind changes.
-/
namespace Go.Proofs.YtgpbhlfdlkemjaaGreat
open Go.RowKit
set_option linter.unusedVariables false
abbrev AT:=Option (Sigma Tr)
def itsT:AT→List Itm
 | none=>[]
 | some n=>its n.2
def nmsT (ρ:Rho):AT→List Nat
 | none=>[]
 | some n=>nms ρ n.2
def ptrT:AT→Value
 | none=>.pointer none
 | some n=>Pp (adr n.2)
def IsT (w:World) (F:Nat→Prop) (ρ:Rho):AT→Prop
 | none=>True
 | some n=>IsN w F ρ n.2∧Wf n.2∧Top n.2
def lenV:Value→Nat
 | .slice _ n _=>n
 | _=>0
def TreePost (F:Nat→Prop) (ρ:Rho) (w:World) (ub:Nat) (vl:Value) (left:List Nat) (is:List Itm) (nin:List Nat) (cs:List Chg) (e:Ending) (w':World):Prop :=
 ∃(vl':Value) (dl:List Nat) (t:AT),e=.returned (ptrT t)∧IsT w' (Fw F w [vl']) ρ t∧itsT t=mrg is cs∧nin.Perm (nmsT ρ t++dl)∧IsU w' ub vl' (left++dl)∧Kept (uf ub vl) w w'∧New w vl vl'∧∀n,t=some n→w.heap.size≤adr n.2
structure Lev (F:Nat→Prop) (ρ:Rho) (w:World) (ub:Nat) (vl:Value) (left:List Nat) (is:List Itm) (nin:List Nat) (cs:List Chg) (wr:World) (v:Value) {j:Nat} (L:List (Tr j)) (vr:Value) (dl:List Nat):Prop where
 low:j+L.length≤90000
 own:OwnsP 77 wr v (L.map adr)
 fresh:Fresh w v
 upd:IsU wr ub vr (left++dl)
 kept:Kept (uf ub vl) w wr
 new:New w vl vr
 nodes:IsNs wr (Fw F w [vr]) ρ L
 wf:∀m∈L,Wf m
 eq:L.flatMap its=mrg is cs
 names:nin.Perm (L.flatMap (nms ρ)++dl)
section
variable {w:World}{F:Nat→Prop}{ρ:Rho}
theorem Lev.step {ub:Nat}{vl:Value}{left:List Nat}{is:List Itm}{nin:List Nat}{cs:List Chg}{wr:World}{a:Option Addr}{n c:Nat}{j:Nat}{L:List (Tr j)}{vr:Value}{dl:List Nat} (h:Lev F ρ w ub vl left is nin cs wr (.slice a n c) L vr dl) (hB:Blank ρ w) (hubF:ub<w.heap.size∧¬F ub) (hsz:Sized (mrg is cs)) (hll:left.length+nin.length≤90000) (hn:n=L.length) (h2:2≤n) (u:Tr j) (hu:L[0]?=some u) {b o:Nat} (hb:a=some ⟨b,o,none⟩) (hc:wr.cell? ⟨b,o,none⟩=some (Pp (adr u))) :
  Calls Tryz.prog 80 #[Pp ub,.slice a n c] wr.drew fun e w5=>∃v5,e=.returned v5∧(w5.cell? ⟨b,o,none⟩=some (Pp (adr u))∧w5.cell? ⟨adr u,2,none⟩=some (.int .i64 (j:Int)))∧Calls Tryz.prog 79 #[.int .i64 ((j:Int)+1),v5] w5 fun e w6=>∃v6,e=.returned v6∧(w6.cell? ⟨b,o,none⟩=some (Pp (adr u))∧w6.cell? ⟨adr u,2,none⟩=some (.int .i64 (j:Int)))∧∃(L':List (Tr (j+1))) (vr':Value) (dl':List Nat),Lev F ρ w ub vl left is nin cs w6 v6 L' vr' dl'∧L'.length<n:=by
 have hum:=List.mem_of_getElem? hu
 have hd:Kept [] wr wr.drew:=(Kept.refl [] wr).drew
 have hUd:=h.upd.kept hd (by simp) (by simp)
 have hub5:∀x∈uf ub vr,¬Fw F w [vr] x:=fun x hx hF=>by
  rcases mem_uf.1 hx with h1|h1
  ·subst h1
   rcases hF.1 with h1|h1
   ·exact hubF.2 h1
   ·omega
  ·exact hF.2 vr (by simp) h1
 have hrow:∀g,(Value.slice a n c).ownBlock=some g→g∉uf ub vr:=fun g hg hm=>by
  rcases mem_uf.1 hm with h1|h1
  ·have:=h.fresh g hg;omega
  ·exact rows_apart h.own h.upd.own (by decide) h1 hg
 have hbo:(Value.slice a n c).ownBlock=some b:=by rw [hb];simp [Value.ownBlock]
 have hblt:=h.own.lt hbo
 have huN:=h.nodes u hum
 have hkl:∀W,Kept (uf ub vr) wr W→(W.cell? ⟨b,o,none⟩=some (Pp (adr u))∧W.cell? ⟨adr u,2,none⟩=some (.int .i64 (j:Int))):=fun W kW=>⟨by rw [kW.cell hblt (hrow b hbo)];exact hc,by rw [kW.cell huN.lt (fun h=>hub5 _ h huN.inF)];exact huN.level⟩
 have hlow:=h.low
 refine (joined_any (w:=wr.drew) (F:=Fw F w [vr]) (ρ:=ρ) (by omega:j≤1000000) ((hB.kept h.kept).kept hd) hUd hub5 L (fun x hx=>(h.nodes x hx).kept hd (by simp)) h.wf (by rw [h.eq];exact hsz) a n c hn (by have:=h.own.reads;exact this.kept hd (by simp)) hrow (by omega) ?_).mono ?_
 ·have:=h.names.length_eq
  rw [List.length_append] at this ⊢
  omega
 ·rintro e w5 ⟨v5,vl5,d5,ns5,rfl,ho5,hf5,hU5,k5,hN5,hns5,hJ,hP5⟩
  have k5':Kept (uf ub vr) wr w5:=(hd.mono (by simp)).trans k5 (fun b hb=>.inl hb)
  refine ⟨v5,rfl,hkl w5 k5',?_⟩
  have kk5:=h.kept.uf k5' h.new
  have hN5':New wr vr vl5:=hN5
  have hNw5:=h.new.trans hN5' h.kept.size
  obtain ⟨a5,c5,rfl,-⟩:=ho5.form
  have hIs:IsNs w5 (Fw F w [vl5]) ρ ns5:=fun x hx=>(hns5 x hx).mono fun b hb=>⟨by
   rcases hb.1 with h1|h1
   ·exact h1.1
   ·exact .inr (Nat.le_trans h.kept.size h1),fun u hu=>by simp at hu;subst hu;exact hb.2 _ (by simp)⟩
  have hro:∀g,(Value.slice a5 (ns5.map adr).length c5).ownBlock=some g→Fw F w [vl5] g∧g<w5.heap.size:=fun g hg=>⟨⟨.inr (Nat.le_trans h.kept.size (hf5 g hg)),fun u hu=>by simp at hu;subst hu;exact fun e=>rows_apart ho5 hU5.own (by decide) e hg⟩,ho5.lt hg⟩
  have hJl:=hJ.le
  refine (branches_any (w:=w5) (F:=Fw F w [vl5]) (ρ:=ρ) (by omega:j≤100000) (hB.kept kk5) a5 _ c5 ns5 (Hid.mk (by rw [List.length_map])) ho5.reads (Hid.mk hro) (by rw [List.length_map];omega) (Hid.mk hJ.wf) (Hid.mk hJ.apart) (Hid.mk hIs)).mono ?_
  rintro e w6 ⟨v6,ns6,rfl,ho6,hns6,hwf6,⟨hfl6,hu6,hlt6⟩,hnew6,k6,hf6⟩
  refine ⟨v6,rfl,hkl w6 (k5'.trans k6 (by simp)),ns6,vl5,dl++d5,?_,?_⟩
  ·have hn6:ns6.length≤ns5.length:=by
    rw [←hu6,List.length_flatMap]
    have:=sum_ge (fun _=>1) (fun m:Tr (j+1)=>m.2.length) ns6 fun m hm=>List.length_pos_iff.2 (hwf6 m hm).1
    rw [sum_ones] at this
    exact this
   have hlt:ns6.length<L.length:=by
    by_cases h3:2≤ns5.length
    ·have:=hlt6 h3;omega
    ·omega
   refine ⟨by omega,ho6,fun g hg=>Nat.le_trans kk5.size (hf6 g hg),?_,kk5.trans k6 (by simp),hNw5,fun x hx=>(hns6 x hx).mono fun b hb=>?_,hwf6,by rw [hfl6,hJ.flat,h.eq],?_⟩
   ·rw [←List.append_assoc]
    exact hU5.kept k6 (by simp) (by simp)
   ·rcases hb with h1|h1
    ·exact h1
    ·refine ⟨.inr (Nat.le_trans kk5.size h1),fun u hu e=>?_⟩
     simp at hu
     subst hu
     have:=hU5.own.lt e
     omega
   ·rw [nms_newS fun x hx=>pn_blank (hB _ (Nat.le_trans kk5.size (hnew6 x hx))),hu6]
    refine h.names.trans ((hP5.append_right dl).trans ?_)
    rw [List.append_assoc]
    exact List.Perm.append_left _ List.perm_append_comm
  ·have hn6:ns6.length≤ns5.length:=by
    rw [←hu6,List.length_flatMap]
    have:=sum_ge (fun _=>1) (fun m:Tr (j+1)=>m.2.length) ns6 fun m hm=>List.length_pos_iff.2 (hwf6 m hm).1
    rw [sum_ones] at this
    exact this
   by_cases h3:2≤ns5.length
   ·have:=hlt6 h3;omega
   ·omega
end
section
variable {w:World}{F:Nat→Prop}{ρ:Rho}
set_option maxRecDepth 100000 in
set_option maxHeartbeats 4000000 in
theorem tree_some (hB:Hid (Blank ρ w)) {ub:Nat}{vl:Value}{left:List Nat} (hubF:Hid (ub<w.heap.size∧¬F ub)) {k:Nat} (hk:Hid (k≤1000)) (is:List Itm) (nin:List Nat) (cs:List Chg) (a:Option Addr) (m c:Nat) (hsz:Hid (Sized (mrg is cs))) (hll:Hid (left.length+nin.length≤90000)) (hlen:Hid ((mrg is cs).length≤50000))
  {nb:Nat} (HC:Calls Tryz.prog 78 #[Pp ub,Pp nb,.slice a m c] w fun e w'=>RepPost (k:=k) F ρ w ub vl left is nin cs e w') :
  Calls Tryz.prog 48 #[Pp ub,Pp nb,.slice a m c] w fun e w'=>TreePost F ρ w ub vl left is nin cs e w':=by
 go_enter Tryz.func48,Tryz.ntmps48
 go_wp2_with fail
 refine HC.mono ?_
 rintro e w1 ⟨v,vr,dl,L,rfl,ho,hf,hU,kk,hN,hns,hwf,heq,hP⟩
 have HL:Hid (∃(j:Nat) (L:List (Tr j)) (vr:Value) (dl:List Nat),Lev F ρ w ub vl left is nin cs w1 v L vr dl):=Hid.mk ⟨k,L,vr,dl,⟨by
  have h1:=wf_len hwf
  rw [heq] at h1
  have:=hlen.out
  have:=hk.out
  omega,ho,hf,hU,kk,hN,hns,hwf,heq,hP⟩⟩
 clear ho hf hU kk hN hns hwf heq hP HC
 go_wp2_with fail
 go_loopw [7] (fun v wr=>Hid (∃(j:Nat) (L:List (Tr j)) (vr:Value) (dl:List Nat),Lev F ρ w ub vl left is nin cs wr v L vr dl)) (fun v _=>lenV v)
 case atStart=>exact HL
 case round =>
  obtain ⟨j,L,vr,dl,HV⟩:=hrel.out
  obtain ⟨a7,c7,e7,h7,h8⟩:=HV.own.form
  rw [List.length_map] at e7 h7
  obtain ⟨N,hN⟩:∃N,N=L.length:=⟨_,rfl⟩
  rw [←hN] at e7 h7
  subst e7
  have HVH:=Hid.mk HV
  have hNH:=Hid.mk hN
  have hlow:Hid (j+N≤90000):=Hid.mk (by rw [hN];exact HV.low)
  have hj:j≤90000:=by have:=hlow.out;omega
  have hN9:N≤90000:=by have:=hlow.out;omega
  by_cases h2:2≤N
  ·obtain ⟨u,hu⟩:∃u,L[0]?=some u:=⟨_,List.getElem?_eq_getElem (by omega)⟩
   obtain ⟨b,o,c',e,hcell⟩:=HV.own.reads.at 0 (adr u) (by rw [List.getElem?_map,hu];rfl)
   injection e with e eN e2
   subst e e2
   clear eN
   rw [Nat.add_zero] at hcell
   have hst:=HV.step hB.out hubF.out hsz.out hll.out hN h2 u hu rfl hcell
   have S1:wr.drew.cell? ⟨b,o,none⟩=some (Pp (adr u))∧wr.drew.cell? ⟨adr u,2,none⟩=some (.int .i64 (j:Int)):=⟨hcell,(HV.nodes u (List.mem_of_getElem? hu)).level⟩
   clear HV hu hN hcell
   generalize adr u=B at *
   clear HVH hNH hlow h7 h8
   have i1:(0:Int)<(N:Int):=by omega
   have i2:0<N:=by omega
   have i4:(0:Int)≤(N:Int):=by omega
   have i5:(1:Int)≤(N:Int):=by omega
   have i6:(1:Int)<(N:Int):=by omega
   clear h2
   have i3:IntKind.i64.wrap ((j:Int)+1)=(j:Int)+1:=by rw [IntKind.wrap_i64];omega
   go_wp2_with fail
   clear hj hN9
   go_region_held3 (fun w'=>w'.cell? ⟨b,o,none⟩=some (Pp B)∧w'.cell? ⟨B,2,none⟩=some (.int .i64 (j:Int))) (first|exact S1|exact S5|exact S6) (first|(go_at_call 80;refine hst.mono ?_;rintro e w5 ⟨v5,rfl,S5,h5⟩)|(go_at_call 79;refine h5.mono ?_;rintro e w6 ⟨v6,rfl,S6,hQ⟩))
   all_goals
    have HR:Hid (Hid (∃(j:Nat) (L:List (Tr j)) (vr:Value) (dl:List Nat),Lev F ρ w ub vl left is nin cs w6 v6 L vr dl)∧lenV v6<N):=Hid.mk (by
     obtain ⟨L',vr',dl',h1,h2⟩:=hQ
     refine ⟨Hid.mk ⟨_,L',vr',dl',h1⟩,?_⟩
     obtain ⟨a8,c8,e8,_⟩:=h1.own.form
     rw [e8,List.length_map]
     exact h2)
    clear S1 S5 S6 hst h5 hQ
    go_wp2
    exact HR.out
  ·by_cases h0:N=0
   ·subst h0
    have HP:Hid (TreePost F ρ w ub vl left is nin cs (.returned (.pointer none)) wr):=Hid.mk (by
     have e0:L=[]:=List.eq_nil_of_length_eq_zero hN.symm
     subst e0
     refine ⟨vr,dl,none,rfl,trivial,HV.eq,HV.names,HV.upd,HV.kept,HV.new,fun n e=>by simp at e⟩)
    clear HV hN HVH hNH
    go_wp2
    go_ret
    exact HP.out
   ·obtain rfl:N=1:=by omega
    obtain ⟨u,rfl⟩:∃u,L=[u]:=by
     cases L with
     | nil=>simp at hN
     | cons u r=>cases r with
      | nil=>exact ⟨u,rfl⟩
      | cons _ _=>simp at hN
    obtain ⟨b,o,c',e,hcell⟩:=HV.own.reads.at 0 (adr u) rfl
    injection e with e eN e2
    subst e e2
    clear eN
    rw [Nat.add_zero] at hcell
    have hub5:Hid (∀x∈uf ub vr,¬Fw F w [vr] x):=Hid.mk fun x hx hF=>by
     rcases mem_uf.1 hx with h1|h1
     ·subst h1
      rcases hF.1 with h1|h1
      ·exact hubF.out.2 h1
      ·have:=hubF.out.1;omega
     ·exact hF.2 vr (by simp) h1
    have har:=asRoot_any (w:=wr) (F:=Fw F w [vr]) (ρ:=ρ) (Hid.mk (hB.out.kept HV.kept)) HV.upd hub5 u (Hid.mk (HV.nodes u (by simp))) (Hid.mk (HV.wf u (by simp))) (Hid.mk (by
     have h3:=HV.names.length_eq
     have h4:=hll.out
     simp at h3
     rw [List.length_append]
     omega))
    clear HV hN hNH h2 h0 hN9 h7 h8 hlow hj
    go_wp2_with fail
    refine har.mono ?_
    rintro e w9 ⟨vl9,d9,j9,r,rfl,hU9,k9,hN9',hr,hwr,htr,hir,hpr,hge⟩
    have HV:=HVH.out
    have HP:Hid (TreePost F ρ w ub vl left is nin cs (.returned (Pp (adr r))) w9):=Hid.mk ⟨vl9,dl++d9,some ⟨j9,r⟩,rfl,⟨hr.mono fun b hb=>⟨by
      rcases hb.1 with h1|h1
      ·exact h1.1
      ·exact .inr (Nat.le_trans HV.kept.size h1),hb.2⟩,hwr,htr⟩,by
      show its r=_
      rw [hir,←HV.eq]
      simp,by
      refine HV.names.trans ?_
      show _root_.List.Perm _ (nms ρ r++(dl++d9))
      simp only [List.flatMap_cons,List.flatMap_nil,List.append_nil]
      refine (hpr.append_right dl).trans ?_
      rw [List.append_assoc]
      exact List.Perm.append_left _ List.perm_append_comm,by rw [←List.append_assoc];exact hU9,HV.kept.uf k9 HV.new,HV.new.trans hN9' HV.kept.size,fun n e=>by
      injection e with e
      subst e
      exact Nat.le_trans HV.kept.size hge⟩
    clear HV HVH hU9 k9 hN9' hr hwr htr hir hpr hge har
    go_wp2
    go_ret
    exact HP.out
set_option maxRecDepth 100000 in
set_option maxHeartbeats 4000000 in
theorem tree_none (hB:Hid (Blank ρ w)) {ub:Nat}{vl:Value}{left:List Nat} (hubF:Hid (ub<w.heap.size∧¬F ub)) {k:Nat} (hk:Hid (k≤1000)) (is:List Itm) (nin:List Nat) (cs:List Chg) (a:Option Addr) (m c:Nat) (hsz:Hid (Sized (mrg is cs))) (hll:Hid (left.length+nin.length≤90000)) (hlen:Hid ((mrg is cs).length≤50000))
  (HC:Calls Tryz.prog 78 #[Pp ub,Pp w.heap.size,.slice a m c] (w.alloc (.cells #[.int .i64 0,.int .u64 0,.int .i64 0,.slice none 0 0,.slice none 0 0] 114)) fun e w'=>RepPost (k:=k) F ρ w ub vl left is nin cs e w') :
  Calls Tryz.prog 48 #[Pp ub,.pointer none,.slice a m c] w fun e w'=>TreePost F ρ w ub vl left is nin cs e w':=by
 go_enter Tryz.func48,Tryz.ntmps48
 go_wp2_with fail
 refine HC.mono ?_
 rintro e w1 ⟨v,vr,dl,L,rfl,ho,hf,hU,kk,hN,hns,hwf,heq,hP⟩
 have HL:Hid (∃(j:Nat) (L:List (Tr j)) (vr:Value) (dl:List Nat),Lev F ρ w ub vl left is nin cs w1 v L vr dl):=Hid.mk ⟨k,L,vr,dl,⟨by
  have h1:=wf_len hwf
  rw [heq] at h1
  have:=hlen.out
  have:=hk.out
  omega,ho,hf,hU,kk,hN,hns,hwf,heq,hP⟩⟩
 clear ho hf hU kk hN hns hwf heq hP HC
 go_wp2_with fail
 go_loopw [7] (fun v wr=>Hid (∃(j:Nat) (L:List (Tr j)) (vr:Value) (dl:List Nat),Lev F ρ w ub vl left is nin cs wr v L vr dl)) (fun v _=>lenV v)
 case atStart=>exact HL
 case round =>
  obtain ⟨j,L,vr,dl,HV⟩:=hrel.out
  obtain ⟨a7,c7,e7,h7,h8⟩:=HV.own.form
  rw [List.length_map] at e7 h7
  obtain ⟨N,hN⟩:∃N,N=L.length:=⟨_,rfl⟩
  rw [←hN] at e7 h7
  subst e7
  have HVH:=Hid.mk HV
  have hNH:=Hid.mk hN
  have hlow:Hid (j+N≤90000):=Hid.mk (by rw [hN];exact HV.low)
  have hj:j≤90000:=by have:=hlow.out;omega
  have hN9:N≤90000:=by have:=hlow.out;omega
  by_cases h2:2≤N
  ·obtain ⟨u,hu⟩:∃u,L[0]?=some u:=⟨_,List.getElem?_eq_getElem (by omega)⟩
   obtain ⟨b,o,c',e,hcell⟩:=HV.own.reads.at 0 (adr u) (by rw [List.getElem?_map,hu];rfl)
   injection e with e eN e2
   subst e e2
   clear eN
   rw [Nat.add_zero] at hcell
   have hst:=HV.step hB.out hubF.out hsz.out hll.out hN h2 u hu rfl hcell
   have S1:wr.drew.cell? ⟨b,o,none⟩=some (Pp (adr u))∧wr.drew.cell? ⟨adr u,2,none⟩=some (.int .i64 (j:Int)):=⟨hcell,(HV.nodes u (List.mem_of_getElem? hu)).level⟩
   clear HV hu hN hcell
   generalize adr u=B at *
   clear HVH hNH hlow h7 h8
   have i1:(0:Int)<(N:Int):=by omega
   have i2:0<N:=by omega
   have i4:(0:Int)≤(N:Int):=by omega
   have i5:(1:Int)≤(N:Int):=by omega
   have i6:(1:Int)<(N:Int):=by omega
   clear h2
   have i3:IntKind.i64.wrap ((j:Int)+1)=(j:Int)+1:=by rw [IntKind.wrap_i64];omega
   go_wp2_with fail
   clear hj hN9
   go_region_held3 (fun w'=>w'.cell? ⟨b,o,none⟩=some (Pp B)∧w'.cell? ⟨B,2,none⟩=some (.int .i64 (j:Int))) (first|exact S1|exact S5|exact S6) (first|(go_at_call 80;refine hst.mono ?_;rintro e w5 ⟨v5,rfl,S5,h5⟩)|(go_at_call 79;refine h5.mono ?_;rintro e w6 ⟨v6,rfl,S6,hQ⟩))
   all_goals
    have HR:Hid (Hid (∃(j:Nat) (L:List (Tr j)) (vr:Value) (dl:List Nat),Lev F ρ w ub vl left is nin cs w6 v6 L vr dl)∧lenV v6<N):=Hid.mk (by
     obtain ⟨L',vr',dl',h1,h2⟩:=hQ
     refine ⟨Hid.mk ⟨_,L',vr',dl',h1⟩,?_⟩
     obtain ⟨a8,c8,e8,_⟩:=h1.own.form
     rw [e8,List.length_map]
     exact h2)
    clear S1 S5 S6 hst h5 hQ
    go_wp2
    exact HR.out
  ·by_cases h0:N=0
   ·subst h0
    have HP:Hid (TreePost F ρ w ub vl left is nin cs (.returned (.pointer none)) wr):=Hid.mk (by
     have e0:L=[]:=List.eq_nil_of_length_eq_zero hN.symm
     subst e0
     refine ⟨vr,dl,none,rfl,trivial,HV.eq,HV.names,HV.upd,HV.kept,HV.new,fun n e=>by simp at e⟩)
    clear HV hN HVH hNH
    go_wp2
    go_ret
    exact HP.out
   ·obtain rfl:N=1:=by omega
    obtain ⟨u,rfl⟩:∃u,L=[u]:=by
     cases L with
     | nil=>simp at hN
     | cons u r=>cases r with
      | nil=>exact ⟨u,rfl⟩
      | cons _ _=>simp at hN
    obtain ⟨b,o,c',e,hcell⟩:=HV.own.reads.at 0 (adr u) rfl
    injection e with e eN e2
    subst e e2
    clear eN
    rw [Nat.add_zero] at hcell
    have hub5:Hid (∀x∈uf ub vr,¬Fw F w [vr] x):=Hid.mk fun x hx hF=>by
     rcases mem_uf.1 hx with h1|h1
     ·subst h1
      rcases hF.1 with h1|h1
      ·exact hubF.out.2 h1
      ·have:=hubF.out.1;omega
     ·exact hF.2 vr (by simp) h1
    have har:=asRoot_any (w:=wr) (F:=Fw F w [vr]) (ρ:=ρ) (Hid.mk (hB.out.kept HV.kept)) HV.upd hub5 u (Hid.mk (HV.nodes u (by simp))) (Hid.mk (HV.wf u (by simp))) (Hid.mk (by
     have h3:=HV.names.length_eq
     have h4:=hll.out
     simp at h3
     rw [List.length_append]
     omega))
    clear HV hN hNH h2 h0 hN9 h7 h8 hlow hj
    go_wp2_with fail
    refine har.mono ?_
    rintro e w9 ⟨vl9,d9,j9,r,rfl,hU9,k9,hN9',hr,hwr,htr,hir,hpr,hge⟩
    have HV:=HVH.out
    have HP:Hid (TreePost F ρ w ub vl left is nin cs (.returned (Pp (adr r))) w9):=Hid.mk ⟨vl9,dl++d9,some ⟨j9,r⟩,rfl,⟨hr.mono fun b hb=>⟨by
      rcases hb.1 with h1|h1
      ·exact h1.1
      ·exact .inr (Nat.le_trans HV.kept.size h1),hb.2⟩,hwr,htr⟩,by
      show its r=_
      rw [hir,←HV.eq]
      simp,by
      refine HV.names.trans ?_
      show _root_.List.Perm _ (nms ρ r++(dl++d9))
      simp only [List.flatMap_cons,List.flatMap_nil,List.append_nil]
      refine (hpr.append_right dl).trans ?_
      rw [List.append_assoc]
      exact List.Perm.append_left _ List.perm_append_comm,by rw [←List.append_assoc];exact hU9,HV.kept.uf k9 HV.new,HV.new.trans hN9' HV.kept.size,fun n e=>by
      injection e with e
      subst e
      exact Nat.le_trans HV.kept.size hge⟩
    clear HV HVH hU9 k9 hN9' hr hwr htr hir hpr hge har
    go_wp2
    go_ret
    exact HP.out
end
section
variable {w:World}{F:Nat→Prop}{ρ:Rho}
theorem tree_any (hB:Blank ρ w) {ub:Nat}{vl:Value}{left:List Nat} (hU:IsU w ub vl left) (hFu:∀x∈uf ub vl,¬F x) (t:AT) (hT:IsT w F ρ t) (hk:∀n,t=some n→n.1≤1000) (hUp:Up (itsT t)) (hSz:Sized (itsT t)) (cs:List Chg) (hne:cs≠[]) (a:Option Addr) (m c:Nat) (hm:m=cs.length) (hC:HoldsC w (.slice a m c) cs) (hFc:∀g,(Value.slice a m c).ownBlock=some g→g∉uf ub vl) (hcs:ChsOk w F ρ cs) (hlen:(itsT t).length+m≤50000) (hll:left.length+(nmsT ρ t).length≤90000) :
  Calls Tryz.prog 48 #[Pp ub,ptrT t,.slice a m c] w fun e w'=>TreePost F ρ w ub vl left (itsT t) (nmsT ρ t) cs e w':=by
 have hubF:ub<w.heap.size∧¬F ub:=⟨hU.lt,hFu ub (mem_uf.2 (.inl rfl))⟩
 have hlm:(mrg (itsT t) cs).length≤50000:=by have:=len_mrg (itsT t) cs;omega
 match t,hT,hk,hUp,hSz,hlen,hll,hlm with
 | some n,hT,hk,hUp,hSz,hlen,hll,hlm =>
  exact tree_some (Hid.mk hB) (Hid.mk hubF) (Hid.mk (hk n rfl)) _ _ cs a m c (Hid.mk (sized_mrg hcs hSz)) (Hid.mk hll) (Hid.mk hlm) (rep_all n.1 (hk n rfl) w F ρ ub vl left n.2 cs a m c hB hU hFu hT.1 hT.2.1.e (fun _=>hT.2.1) hUp hSz hm hC hFc hcs hlen hll)
 | none,hT,hk,hUp,hSz,hlen,hll,hlm =>
  refine tree_none (k:=0) (Hid.mk hB) (Hid.mk hubF) (Hid.mk (by omega)) [] [] cs a m c (Hid.mk (sized_mrg hcs hSz)) (Hid.mk hll) (Hid.mk hlm) ?_
  have ka:Kept [] w (w.alloc (.cells #[.int .i64 0,.int .u64 0,.int .i64 0,.slice none 0 0,.slice none 0 0] 114)):=(Kept.refl [] w).alloc _
  have hz:ρ w.heap.size=(0,0):=hB _ (Nat.le_refl _)
  have hFu2:∀x∈uf ub vl,¬((F x∧x<w.heap.size)∨x=w.heap.size):=fun x hx h=>by
   rcases h with h|h
   ·exact hFu x hx h.1
   ·rcases mem_uf.1 hx with h1|h1
    ·omega
    ·have:=hU.own.lt h1;omega
  have hN:IsN (w.alloc (.cells #[.int .i64 0,.int .u64 0,.int .i64 0,.slice none 0 0,.slice none 0 0] 114)) (fun b=>(F b∧b<w.heap.size)∨b=w.heap.size) ρ (k:=0) (w.heap.size,[]):=⟨IsB.new (w:=w) (lv:=0) hz (Kept.refl [] _) (by simp) (ReadsP.nil _) (ReadsP.nil _) (.inr rfl) (by simp) (by simp),fun i hi=>by simp at hi⟩
  have hcs2:ChsOk (w.alloc (.cells #[.int .i64 0,.int .u64 0,.int .i64 0,.slice none 0 0,.slice none 0 0] 114)) (fun b=>(F b∧b<w.heap.size)∨b=w.heap.size) ρ cs:=(hcs.monoS (F':=fun b=>(F b∧b<w.heap.size)∨b=w.heap.size) fun b hb hf=>.inl ⟨hf,hb⟩).kept ka (by simp)
  have hnn:nms ρ (k:=0) (w.heap.size,[])=[]:=by
   show ([]:List Itm).flatMap _++pn ρ w.heap.size=[]
   rw [pn_blank hz]
   rfl
  refine (rep_all 0 (by omega) _ _ ρ ub vl left (w.heap.size,[]) cs a m c (hB.kept ka) (hU.kept ka (by simp) (by simp)) hFu2 hN (by simp [WfE,fil]) (fun e=>absurd e hne) hUp hSz hm (hC.kept ka (by simp)) hFc hcs2 hlen (by rw [hnn];exact hll)).mono ?_
  rintro e w' ⟨v,vl',dl,ns,rfl,ho,hf,hU',k',hN',hns,hwf,heq,hP⟩
  refine ⟨v,vl',dl,ns,rfl,ho,fun g hg=>Nat.le_trans ka.size (hf g hg),hU',(ka.mono (by simp)).trans k' (fun b hb=>.inl hb),fun g hg=>?_,fun x hx=>(hns x hx).mono fun b hb=>⟨?_,hb.2⟩,hwf,heq,by rw [hnn] at hP;exact hP⟩
  ·rcases hN' g hg with h|h
   ·exact .inl h
   ·exact .inr (Nat.le_trans ka.size h)
  ·rcases hb.1 with h|h
   ·rcases h with h|h
    ·exact .inl h.1
    ·right;omega
   ·exact .inr (Nat.le_trans ka.size h)
end
end Go.Proofs.YtgpbhlfdlkemjaaGreat
