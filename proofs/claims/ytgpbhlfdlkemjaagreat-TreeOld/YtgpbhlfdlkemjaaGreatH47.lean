import Derived.Test.YtgpbhlfdlkemjaaGreatH42
import Derived.Test.YtgpbhlfdlkemjaaGreatH44
import Derived.Test.YtgpbhlfdlkemjaaGreatH46
/-
 goNames: the names of a tree, one behind the other.
-/
namespace Go.Proofs.YtgpbhlfdlkemjaaGreat
open Go.RowKit
set_option linter.unusedVariables false
attribute [local go_sem] Oper.semAt_some
def Named (ρ:Rho):{k:Nat}→Tr k→Prop
 | 0,n=>(∀i∈n.2,(lng i=true→(ρ i.ad).1≠0)∧(lng i=false→(ρ i.ad).1=0))∧(ρ n.1).1≠0
 | k+1,n=>(∀u∈n.2,Named ρ (k:=k) u)∧(ρ n.1).1≠0
theorem below_sets {n₀:Nat}{W W':World} (h:Below n₀ W W'):Kept (List.range' n₀ (W.heap.size-n₀)) W W' :=
 ⟨h.os,h.tape,h.output,h.size,fun k hk hn=>h.block k (Nat.lt_of_not_le fun hle=>hn (List.mem_range'_1.2 ⟨hle,by omega⟩))⟩
theorem below_sets_out {n₀:Nat}{W:World}{F:Nat→Prop} (hF:∀b,F b→b<n₀):∀x∈List.range' n₀ (W.heap.size-n₀),¬F x:=fun x hx hf=>by
 have:=(List.mem_range'_1.1 hx).1
 have:=hF x hf
 omega
def GoN (n₀:Nat) (J Jx:List Nat→World→Prop) (pre xs:List Nat) (W:World) (e:Ending) (W':World):Prop :=
 (e=.returned (.bool true)∧J (pre++xs) W'∧Below n₀ W W')∨(e=.returned (.bool false)∧∃p,p <+: pre++xs∧Jx p W')
theorem drew_below (n₀:Nat) (W:World) (q:Nat):Below n₀ W (W.drewN q):=⟨rfl,rfl,rfl,Nat.le_refl _,fun _ _=>rfl⟩
section
variable {F:Nat→Prop}{ρ:Rho}{n₀ l N:Nat}{J Jx:List Nat→World→Prop}
set_option maxRecDepth 100000 in
set_option maxHeartbeats 2000000 in
theorem goNames_lf (hY:∀(pre:List Nat) (x:Nat) (W:World),J pre W→pre.length<N→YieldAt Fence.wide 0 Tryz.prog l #[.int .i64 (x:Int)] W fun e W'=>(e=.returned (.bool true)∧J (pre++[x]) W'∧Below n₀ W W')∨(e=.returned (.bool false)∧Jx (pre++[x]) W')) (hDr:∀pre W q,J pre W→J pre (W.drewN q)) (hF:∀b,F b→b<n₀) {m:Tr 0}{W:World} (hm:IsN W F ρ m) (hnm:Named ρ m) (hsz:∀i∈m.2,i.key.length≤1000∧i.val.length≤100000) (hl:m.2.length≤1000000) {pre:List Nat} (hJ:J pre W) (hN:pre.length+(nms ρ m).length≤N) :
  Calls Tryz.prog 93 #[Pp m.1,.func (.yield l) #[] #[]] W fun e W'=>GoN n₀ J Jx pre (nms ρ m) W e W':=by
 obtain ⟨aI,cI,aU,cU,c2,c3,c4,r3,r4⟩:=hm.lf
 have hW:∀W',Below n₀ W W'→IsN W' F ρ m:=fun W' hb=>hm.kept (below_sets hb) (below_sets_out hF)
 have HI:Hid (∀W',Below n₀ W W'→ReadsP W' (.slice aI m.2.length cI) (m.2.map Itm.ad)):=Hid.mk fun W' hb=>by
  obtain ⟨aI',cI',aU',cU',d2,d3,d4,s3,s4⟩:=(hW W' hb).lf
  obtain ⟨vi,vu,h1,-,-,h4,-⟩:=hm.1
  obtain ⟨vi',vu',h1',-,-,h4',-⟩:=(hW W' hb).1
  have hx:=(below_sets hb).keeps h1 (below_sets_out hF _ · h4)
  have e3:W'.cell? ⟨m.1,3,none⟩=W.cell? ⟨m.1,3,none⟩:=by unfold World.cell?;rw [hx,h1]
  rw [d3,c3] at e3
  injection e3 with e3
  rw [←e3]
  exact s3
 have HX:Hid (∀i∈m.2,∀W',Below n₀ W W'→IsI W' F ρ i):=Hid.mk fun i hi W' hb=>(hW W' hb).2 i hi
 have HT:Hid (∀W',Below n₀ W W'→W'.cell? ⟨m.1,0,none⟩=some (.int .i64 ((ρ m.1).1:Int))):=Hid.mk fun W' hb=>by
  obtain ⟨vi,vu,h1,-⟩:=(hW W' hb).1
  unfold World.cell?
  rw [h1]
  rfl
 have hall:nms ρ m=(m.2.flatMap fun i=>pn ρ i.ad)++[(ρ m.1).1]:=by
  show (m.2.flatMap fun i=>pn ρ i.ad)++pn ρ m.1=_
  rw [show pn ρ m.1=[(ρ m.1).1] by simp [pn,hnm.2]]
 rw [hall] at hN ⊢
 have HNM:=Hid.mk hnm.1
 have HSZ:=Hid.mk hsz
 have HN:=Hid.mk hN
 have HJ:=Hid.mk hJ
 have HY:=Hid.mk hY
 have HDR:=Hid.mk hDr
 obtain ⟨D,hD⟩:∃D,Hid (m.2=D):=⟨_,rfl⟩
 obtain ⟨M,hM⟩:∃M,Hid (D.length=M):=⟨_,rfl⟩
 obtain ⟨A,hA⟩:∃A,Hid (m.1=A):=⟨_,rfl⟩
 rw [hD.out] at c3 hl HI HX HNM HSZ HN ⊢
 rw [hM.out] at c3 hl HI
 rw [hA.out] at c3 c4 HT HN ⊢
 have HP:Hid (∀j,pre++((D.take j).flatMap fun i=>pn ρ i.ad) <+: pre++((D.flatMap fun i=>pn ρ i.ad)++[(ρ A).1])):=Hid.mk fun j=>(List.prefix_append_right_inj _).2 (by
  conv=>rhs;rw [←List.take_append_drop j D,List.flatMap_append,List.append_assoc]
  exact List.prefix_append _ _)
 have HS:Hid (∀(j:Nat) (x:Itm),D[j]?=some x→pre++((D.take (j+1)).flatMap fun i=>pn ρ i.ad)=(pre++(D.take j).flatMap fun i=>pn ρ i.ad)++pn ρ x.ad):=Hid.mk fun j x hx=>by rw [tsnoc hx];simp
 clear hm hW r3 r4 hnm hsz hN hJ hY hDr hall c2
 rw [←callsIn_wide (n:=1)]
 refine callsIn_of_wp Tryz.func93 rfl trivial ?_ rfl
 simp only [Tryz.ntmps93,List.size_toArray,List.length_cons,List.length_nil,Nat.reduceAdd,Nat.reduceSub,Array.replicate_succ,Array.replicate_zero,List.push_toArray,List.append_toArray,List.nil_append,List.cons_append]
 gi_wp2_with fail
 gi_loopw [14] (fun i wr=>i=.int .i64 0∧W=wr) (fun _ _=>0)
 case atStart=>exact ⟨rfl,rfl⟩
 case round =>
  obtain ⟨rfl,rfl⟩:=hrel
  gi_wp2_with fail
  gi_loopw [28] (fun i wr=>∃j:Nat,i=.int .i64 (j:Int)∧j≤M∧Hid (J (pre++(D.take j).flatMap fun i=>pn ρ i.ad) wr∧Below n₀ W wr)) (fun i _=>M-(intOf i).toNat)
  case atStart=>exact ⟨0,rfl,by omega,Hid.mk ⟨by simpa using HJ.out,Below.refl _ _⟩⟩
  case round =>
   obtain ⟨j,rfl,hj,hA1⟩:=hrel
   by_cases hlt:j<M
   ·obtain ⟨x,hx⟩:∃x,D[j]?=some x:=⟨_,List.getElem?_eq_getElem (by have:=hM.out;omega)⟩
    have hxm:=List.mem_of_getElem? hx
    obtain ⟨b,o,c',e,hcell⟩:=(HI.out wr hA1.out.2).at j x.ad (by rw [List.getElem?_map,hx];rfl)
    rw [List.length_map,hM.out] at e
    injection e with e eN e2
    subst e e2
    clear eN
    have hS:=HS.out j x hx
    have hIx:=HX.out x hxm wr hA1.out.2
    have hsz:=HSZ.out x hxm
    have hlg:=(callsIn_wide (n:=0)).2 (item_isLong hIx hsz.1 hsz.2)
    have hnx:=HNM.out x hxm
    have HIX:=Hid.mk hIx
    clear hx hIx hsz
    have hki:(j:Int)<(M:Int):=by omega
    gi_wp2_with fail
    refine ⟨trivial,hlg.mono ?_⟩
    rintro e w1 ⟨rfl,q,rfl⟩
    clear hlg
    have hb1:Below n₀ W (wr.drewN q):=hA1.out.2.trans (drew_below n₀ wr q)
    have hj1:=HDR.out _ _ q hA1.out.1
    cases hlx:lng x with
    | false =>
     have hp:pn ρ x.ad=[]:=by simp [pn,hnx.2 hlx]
     rw [hp,List.append_nil] at hS
     have HR:Hid (J (pre++(D.take (j+1)).flatMap fun i=>pn ρ i.ad) (wr.drewN q)∧Below n₀ W (wr.drewN q)):=Hid.mk ⟨by rw [hS];exact hj1,hb1⟩
     clear hA1 hb1 hj1 hp hS hnx HIX hcell hlx hxm
     gi_wp2
     refine ⟨fun f e=>(by cases e),?_⟩
     gi_wp2
     go_roundw
     case rel=>exact ⟨j+1,by go_num,by omega,HR⟩
     case measure=>simp [intOf];omega
    | true =>
     have hne:=hnx.1 hlx
     have hp:pn ρ x.ad=[(ρ x.ad).1]:=by simp [pn,hne]
     rw [hp] at hS
     obtain ⟨vv,hbx,-⟩:=HX.out x hxm _ hb1
     have hc0:(wr.drewN q).cell? ⟨x.ad,0,none⟩=some (.int .i64 ((ρ x.ad).1:Int)):=by unfold World.cell?;rw [hbx];rfl
     have hlt2:(pre++(D.take j).flatMap fun i=>pn ρ i.ad).length<N:=by
      have h1:=HN.out
      have h2:=(HP.out (j+1)).length_le
      rw [hS,List.length_append] at h2
      simp only [List.length_append,List.length_cons,List.length_nil] at h1 h2 ⊢
      omega
     obtain ⟨fn,tmps,assign,body,hy,hR⟩:=HY.out _ (ρ x.ad).1 (wr.drewN q) hj1 hlt2
     rw [←hS] at hR
     have HB:=Hid.mk hb1
     have HPF:=Hid.mk (HP.out (j+1))
     clear hA1 hb1 hj1 hp hS hnx HIX hlx hxm hbx hne hlt2
     generalize (ρ x.ad).1=nx at *
     generalize x.ad=X at *
     generalize wr.drewN q=w1 at *
     gi_wp2
     refine hR.mono ?_
     rintro e W3 (⟨rfl,hJ3,hk3⟩|⟨rfl,hJx3⟩)
     ·have HJ3:=Hid.mk (And.intro hJ3 (HB.out.trans hk3))
      clear hJ3 hk3 HB hR hy hcell
      gi_wp2
      go_roundw
      case rel=>exact ⟨j+1,by go_num,by omega,HJ3⟩
      case measure=>simp [intOf];omega
     ·have HFF:Hid (∃p,p <+: pre++((D.flatMap fun i=>pn ρ i.ad)++[(ρ A).1])∧Jx p W3):=Hid.mk ⟨_,HPF.out,hJx3⟩
      clear hJx3 HB hR hy hcell
      gi_wp2
      go_ret
      exact .inr ⟨rfl,HFF.out⟩
   ·obtain rfl:j=M:=by omega
    have e0:D.take j=D:=List.take_of_length_le (by have:=hM.out;omega)
    rw [e0] at hA1
    have hc0:=HT.out wr hA1.out.2
    obtain ⟨fn,tmps,assign,body,hy,hR⟩:=HY.out _ (ρ A).1 wr hA1.out.1 (by have h1:=HN.out;simp only [List.length_append,List.length_cons,List.length_nil] at h1 ⊢;omega)
    have HB:=Hid.mk hA1.out.2
    clear hA1 e0
    have hni:¬(j:Int)<(j:Int):=by omega
    rw [List.append_assoc] at hR
    gi_wp2
    refine hR.mono ?_
    rintro e W3 (⟨rfl,hJ3,hk3⟩|⟨rfl,hJx3⟩)
    ·have HJ3:=Hid.mk (And.intro hJ3 (HB.out.trans hk3))
     clear hJ3 hk3 HB hR hy
     gi_wp2
     go_ret
     exact .inl ⟨rfl,HJ3.out⟩
    ·have HFF:Hid (∃p,p <+: pre++((D.flatMap fun i=>pn ρ i.ad)++[(ρ A).1])∧Jx p W3):=Hid.mk ⟨_,List.prefix_refl _,hJx3⟩
     clear hJx3 HB hR hy
     gi_wp2
     go_ret
     exact .inr ⟨rfl,HFF.out⟩
end
end Go.Proofs.YtgpbhlfdlkemjaaGreat
namespace Go.Proofs.YtgpbhlfdlkemjaaGreat
open Go.RowKit
set_option linter.unusedVariables false
attribute [local go_sem] Oper.semAt_some
section
variable {F:Nat→Prop}{ρ:Rho}{n₀ l N:Nat}{J Jx:List Nat→World→Prop}
set_option maxRecDepth 100000 in
set_option maxHeartbeats 2000000 in
theorem goNames_br {k:Nat} (hY:∀(pre:List Nat) (x:Nat) (W:World),J pre W→pre.length<N→YieldAt Fence.wide 0 Tryz.prog l #[.int .i64 (x:Int)] W fun e W'=>(e=.returned (.bool true)∧J (pre++[x]) W'∧Below n₀ W W')∨(e=.returned (.bool false)∧Jx (pre++[x]) W')) (hF:∀b,F b→b<n₀) {m:Tr (k+1)}{W:World} (hm:IsN W F ρ m) (hnm:(ρ m.1).1≠0) (hl:m.2.length≤1000000) {pre:List Nat} (hJ:J pre W) (hN:pre.length+(nms ρ m).length≤N)
  (HK:∀u∈m.2,∀W pre,IsN W F ρ u→J pre W→pre.length+(nms ρ u).length≤N→Calls Tryz.prog 93 #[Pp (adr u),.func (.yield l) #[] #[]] W fun e W'=>GoN n₀ J Jx pre (nms ρ u) W e W') :
  Calls Tryz.prog 93 #[Pp m.1,.func (.yield l) #[] #[]] W fun e W'=>GoN n₀ J Jx pre (nms ρ m) W e W':=by
 obtain ⟨aI,cI,aU,cU,c2,c3,c4,r3,r4⟩:=hm.br
 have hW:∀W',Below n₀ W W'→IsN W' F ρ m:=fun W' hb=>hm.kept (below_sets hb) (below_sets_out hF)
 have hB:∀W',Below n₀ W W'→W'.heap[m.1]?=W.heap[m.1]?:=fun W' hb=>by
  obtain ⟨vi,vu,h1,-,-,h4,-⟩:=hm.1
  rw [h1]
  exact (below_sets hb).keeps h1 (below_sets_out hF _ · h4)
 have HU:Hid (∀W',Below n₀ W W'→ReadsP W' (.slice aU m.2.length cU) (m.2.map adr)):=Hid.mk fun W' hb=>by
  obtain ⟨aI',cI',aU',cU',d2,d3,d4,s3,s4⟩:=(hW W' hb).br
  have e4:W'.cell? ⟨m.1,4,none⟩=W.cell? ⟨m.1,4,none⟩:=by unfold World.cell?;rw [hB W' hb]
  rw [d4,c4] at e4
  injection e4 with e4
  rw [←e4]
  exact s4
 have HT:Hid (∀W',Below n₀ W W'→W'.cell? ⟨m.1,0,none⟩=some (.int .i64 ((ρ m.1).1:Int))∧W'.cell? ⟨m.1,3,none⟩=some (.slice aI 0 cI)):=Hid.mk fun W' hb=>by
  refine ⟨?_,?_⟩
  ·obtain ⟨vi,vu,h1,-⟩:=(hW W' hb).1
   unfold World.cell?
   rw [h1]
   rfl
  ·have e3:W'.cell? ⟨m.1,3,none⟩=W.cell? ⟨m.1,3,none⟩:=by unfold World.cell?;rw [hB W' hb]
   rw [e3,c3]
 have hall:nms ρ m=(m.2.flatMap (nms ρ))++[(ρ m.1).1]:=by
  show (m.2.flatMap (nms ρ))++pn ρ m.1=_
  rw [show pn ρ m.1=[(ρ m.1).1] by simp [pn,hnm]]
 rw [hall] at hN ⊢
 have HKK:Hid (∀u∈m.2,∀W' pre,Below n₀ W W'→J pre W'→pre.length+(nms ρ u).length≤N→Calls Tryz.prog 93 #[Pp (adr u),.func (.yield l) #[] #[]] W' fun e W''=>GoN n₀ J Jx pre (nms ρ u) W' e W''):=Hid.mk fun u hu W' pre' hb hj hl=>HK u hu W' pre' ((hW W' hb).2 u hu) hj hl
 have HN:=Hid.mk hN
 have HJ:=Hid.mk hJ
 have HY:=Hid.mk hY
 obtain ⟨D,hD⟩:∃D,Hid (m.2=D):=⟨_,rfl⟩
 obtain ⟨M,hM⟩:∃M,Hid (D.length=M):=⟨_,rfl⟩
 obtain ⟨A,hA⟩:∃A,Hid (m.1=A):=⟨_,rfl⟩
 rw [hD.out] at c4 hl HU HKK HN ⊢
 rw [hM.out] at c4 hl HU
 rw [hA.out] at c4 HT HN ⊢
 have HP:Hid (∀j,pre++((D.take j).flatMap (nms ρ)) <+: pre++((D.flatMap (nms ρ))++[(ρ A).1])):=Hid.mk fun j=>(List.prefix_append_right_inj _).2 (by
  conv=>rhs;rw [←List.take_append_drop j D,List.flatMap_append,List.append_assoc]
  exact List.prefix_append _ _)
 have HS:Hid (∀(j:Nat) (x:Tr k),D[j]?=some x→pre++((D.take (j+1)).flatMap (nms ρ))=(pre++(D.take j).flatMap (nms ρ))++nms ρ x):=Hid.mk fun j x hx=>by rw [tsnoc hx];simp
 clear hm hW hB r3 r4 hnm hN hJ hY hall c2 c3 HK
 rw [←callsIn_wide (n:=1)]
 refine callsIn_of_wp Tryz.func93 rfl trivial ?_ rfl
 simp only [Tryz.ntmps93,List.size_toArray,List.length_cons,List.length_nil,Nat.reduceAdd,Nat.reduceSub,Array.replicate_succ,Array.replicate_zero,List.push_toArray,List.append_toArray,List.nil_append,List.cons_append]
 gi_wp2_with fail
 gi_loopw [14] (fun i wr=>∃j:Nat,i=.int .i64 (j:Int)∧j≤M∧Hid (J (pre++(D.take j).flatMap (nms ρ)) wr∧Below n₀ W wr)) (fun i _=>M-(intOf i).toNat)
 case atStart=>exact ⟨0,rfl,by omega,Hid.mk ⟨by simpa using HJ.out,Below.refl _ _⟩⟩
 case round =>
  obtain ⟨j,rfl,hj,hA1⟩:=hrel
  by_cases hlt:j<M
  ·obtain ⟨x,hx⟩:∃x,D[j]?=some x:=⟨_,List.getElem?_eq_getElem (by have:=hM.out;omega)⟩
   obtain ⟨b,o,c',e,hcell⟩:=(HU.out wr hA1.out.2).at j (adr x) (by rw [List.getElem?_map,hx];rfl)
   rw [List.length_map,hM.out] at e
   injection e with e eN e2
   subst e e2
   clear eN
   have hS:=HS.out j x hx
   have hcall:=(callsIn_wide (n:=0)).2 (HKK.out x (List.mem_of_getElem? hx) wr _ hA1.out.2 hA1.out.1 (by
    have h1:=HN.out
    have h2:=(HP.out (j+1)).length_le
    rw [hS,List.length_append] at h2
    simp only [List.length_append,List.length_cons,List.length_nil] at h1 h2 ⊢
    omega))
   unfold GoN at hcall
   rw [←hS] at hcall
   have HB:=Hid.mk hA1.out.2
   have HPF:=Hid.mk (HP.out (j+1))
   clear hx hA1 hS
   generalize adr x=X at *
   have hki:(j:Int)<(M:Int):=by omega
   gi_wp2_with fail
   refine ⟨trivial,hcall.mono ?_⟩
   rintro e w2 (⟨rfl,hJ2,hb2⟩|⟨rfl,q,hq,hx⟩)
   ·have HR:=Hid.mk (And.intro hJ2 (HB.out.trans hb2))
    clear hJ2 hb2 HB hcall hcell
    gi_wp2
    go_roundw
    case rel=>exact ⟨j+1,by go_num,by omega,HR⟩
    case measure=>simp [intOf];omega
   ·have HX:Hid (∃p,p <+: pre++((D.flatMap (nms ρ))++[(ρ A).1])∧Jx p w2):=Hid.mk ⟨q,hq.trans HPF.out,hx⟩
    clear hx hq HB hcall hcell
    gi_wp2
    go_ret
    exact .inr ⟨rfl,HX.out⟩
  ·obtain rfl:j=M:=by omega
   have e0:D.take j=D:=List.take_of_length_le (by have:=hM.out;omega)
   rw [e0] at hA1
   obtain ⟨hc0,hc3⟩:=HT.out wr hA1.out.2
   obtain ⟨fn,tmps,assign,body,hy,hR⟩:=HY.out _ (ρ A).1 wr hA1.out.1 (by have h1:=HN.out;simp only [List.length_append,List.length_cons,List.length_nil] at h1 ⊢;omega)
   have HB:=Hid.mk hA1.out.2
   clear hA1 e0
   have hni:¬(j:Int)<(j:Int):=by omega
   rw [List.append_assoc] at hR
   gi_wp2_with fail
   gi_loopw [28] (fun i wr'=>i=.int .i64 0∧wr=wr') (fun _ _=>0)
   case atStart=>exact ⟨rfl,rfl⟩
   case round =>
    obtain ⟨rfl,rfl⟩:=hrel
    gi_wp2
    refine hR.mono ?_
    rintro e W3 (⟨rfl,hJ3,hk3⟩|⟨rfl,hJx3⟩)
    ·have HJ3:=Hid.mk (And.intro hJ3 (HB.out.trans hk3))
     clear hJ3 hk3 HB hR hy
     gi_wp2
     go_ret
     exact .inl ⟨rfl,HJ3.out⟩
    ·have HFF:Hid (∃p,p <+: pre++((D.flatMap (nms ρ))++[(ρ A).1])∧Jx p W3):=Hid.mk ⟨_,List.prefix_refl _,hJx3⟩
     clear hJx3 HB hR hy
     gi_wp2
     go_ret
     exact .inr ⟨rfl,HFF.out⟩
theorem goNames_any (hY:∀(pre:List Nat) (x:Nat) (W:World),J pre W→pre.length<N→YieldAt Fence.wide 0 Tryz.prog l #[.int .i64 (x:Int)] W fun e W'=>(e=.returned (.bool true)∧J (pre++[x]) W'∧Below n₀ W W')∨(e=.returned (.bool false)∧Jx (pre++[x]) W')) (hDr:∀pre W q,J pre W→J pre (W.drewN q)) (hF:∀b,F b→b<n₀):{k:Nat}→(m:Tr k)→{W:World}→IsN W F ρ m→Named ρ m→Wf m→(∀i∈its m,i.key.length≤1000∧i.val.length≤100000)→{pre:List Nat}→J pre W→pre.length+(nms ρ m).length≤N→Calls Tryz.prog 93 #[Pp (adr m),.func (.yield l) #[] #[]] W fun e W'=>GoN n₀ J Jx pre (nms ρ m) W e W'
 | 0,m,W,hm,hnm,hw,hs,pre,hJ,hN=>goNames_lf hY hDr hF hm hnm hs (by have h1:=len_le_sum m.2;have h2:(m.2.map isz).sum≤236:=hw.2;omega) hJ hN
 | k+1,m,W,hm,hnm,hw,hs,pre,hJ,hN=>goNames_br hY hF hm hnm.2 (by have:=hw.2.1;omega) hJ hN fun u hu' W' pre' h1 h2 h3=>goNames_any hY hDr hF u h1 (hnm.1 u hu') (hw.2.2.1 u hu') (fun i hi=>hs i (List.mem_flatMap.2 ⟨u,hu',hi⟩)) h2 h3
end
end Go.Proofs.YtgpbhlfdlkemjaaGreat
namespace Go.Proofs.YtgpbhlfdlkemjaaGreat
open Go.RowKit
set_option linter.unusedVariables false
theorem yieldAt_wideN {m m':Nat}{P:Program}{l:Nat}{args:Array Value}{W:World}{R:Ending→World→Prop} (h:YieldAt Fence.wide m P l args W R):YieldAt Fence.wide m' P l args W R:=by
 obtain ⟨fn,tmps,assign,body,hy,h1,h2⟩:=h
 exact ⟨fn,tmps,assign,body,hy,h1,fun c cs _=>h2 c cs (fun d hd=>by cases hd)⟩
section
variable {w:World}{F:Nat→Prop}{ρ:Rho}
set_option maxRecDepth 100000 in
set_option maxHeartbeats 1000000 in
theorem names92_some {bn l A:Nat}{W:World}{R:Bool→World→Prop} (c1:W.cell? ⟨bn,0,none⟩=some (Pp A)) (h:Calls Tryz.prog 93 #[Pp A,.func (.yield l) #[] #[]] W fun e W'=>∃b,e=.returned (.bool b)∧R b W'):Calls Tryz.prog 92 #[.func (.yield l) #[] #[],Pp bn] W fun e w'=>e=.returned (.tuple #[])∧∃b,R b w':=by
 go_enter Tryz.func92,Tryz.ntmps92
 go_wp2_with fail
 refine h.mono ?_
 rintro e w1 ⟨b,rfl,hR⟩
 have HR:=Hid.mk hR
 clear hR h
 go_wp2
 go_end0
 exact ⟨rfl,b,HR.out⟩
set_option maxRecDepth 100000 in
set_option maxHeartbeats 1000000 in
theorem names60_any (A:Nat) (w:World):Calls Tryz.prog 60 #[Pp A] w fun e w'=>e=.returned (.func (.func 92) #[] #[Pp w.heap.size])∧w'=w.alloc (.cells #[Pp A] 77):=by
 go_enter Tryz.func60,Tryz.ntmps60
 go_wp2
 go_ret
 exact ⟨rfl,rfl⟩
theorem names_stops {bn n₀ k:Nat}{m:Tr k} (hT:IsN w F ρ m) (hnm:Named ρ m) (hw:Wf m) (hs:∀i∈its m,i.key.length≤1000∧i.val.length≤100000) (hF:∀b,F b→b<n₀) (hn₀:n₀≤w.heap.size) (c1:w.cell? ⟨bn,0,none⟩=some (Pp (adr m))):StopsN 92 #[Pp bn] (nms ρ m) w n₀:=fun l J Jx W hW hab habx hY h0=>by
 have d1:W.cell? ⟨bn,0,none⟩=some (Pp (adr m)):=(hW.cell (p:=⟨bn,0,none⟩) (World.block_lt_of_cell? _ _ c1)).trans c1
 rw [callsIn_wide]
 have hdr:∀(pre:List Nat) (W:World) (q:Nat),J pre W→J pre (W.drewN q):=fun pre W' q hj=>by
  refine hab pre W' _ none hj ⟨rfl,rfl,rfl,Nat.le_refl _,fun _ _ _=>rfl⟩ (fun r e=>by cases e)
 show Calls Tryz.prog 92 #[.func (.yield l) #[] #[],Pp bn] W _
 have hm:IsN W F ρ m:=hT.kept (below_sets (hW.mono hn₀)) (below_sets_out hF)
 have hg:=goNames_any (N:=(nms ρ m).length) (n₀:=n₀) (l:=l) (J:=J) (Jx:=Jx) (fun pre x W' hj hl=>yieldAt_wideN (hY pre x W' hj hl)) hdr hF m hm hnm hw hs (pre:=[]) h0 (by simp)
 refine (names92_some (R:=fun b W'=>(∃xs,xs=nms ρ m∧J xs W')∨∃pre,pre <+: nms ρ m∧Jx pre W') d1 (hg.mono ?_)).mono ?_
 ·rintro e W' (⟨rfl,h1,_⟩|⟨rfl,p,hp,h2⟩)
  ·exact ⟨true,rfl,.inl ⟨_,rfl,h1⟩⟩
  ·exact ⟨false,rfl,.inr ⟨p,hp,h2⟩⟩
 ·rintro e W' ⟨rfl,b,h1⟩
  exact ⟨⟨_,rfl⟩,h1⟩
theorem names_sorted {k:Nat}{m:Tr k} (hT:IsN w F ρ m) (hF:∀b,F b→b<w.heap.size) (hnm:Named ρ m) (hw:Wf m) (hs:∀i∈its m,i.key.length≤1000∧i.val.length≤100000) (hl:(nms ρ m).length≤100000) :
  Calls Tryz.prog 60 #[Pp (adr m)] w fun e w1=>∃f,e=.returned f∧Calls Tryz.prog 51 #[f] w1 fun e w'=>∃v,e=.returned v∧OwnsI w' v (srt (nms ρ m))∧Kept [] w w'∧Fresh w v:=by
 refine (names60_any (adr m) w).mono ?_
 rintro e w1 ⟨rfl,rfl⟩
 have k1:Kept [] w (w.alloc (.cells #[Pp (adr m)] 77)):=(Kept.refl [] w).alloc _
 have k2:Kept [] w ((w.alloc (.cells #[Pp (adr m)] 77)).alloc (.cells #[.slice none 0 0] 41)):=k1.alloc _
 have hb:(w.alloc (.cells #[Pp (adr m)] 77)).heap[w.heap.size]?=some (.cells #[Pp (adr m)] 77 (0,0)):=heap_alloc_new w _
 have hb2:=((Kept.refl [] (w.alloc (.cells #[Pp (adr m)] 77))).alloc (.cells #[.slice none 0 0] 41)).keeps hb (by simp)
 refine ⟨_,rfl,(sorted_of (gf:=92) (lb:=#[Pp w.heap.size]) (nms ρ m) hl (w.alloc (.cells #[Pp (adr m)] 77)) (enters_of Tryz.func92 (by kernel_rfl) rfl) (names_stops (F:=F) (hT.kept k2 (by simp)) hnm hw hs (fun b h=>by have:=hF b h;simp;omega) (by simp) (by simp [World.cell?,hb2]))).mono ?_⟩
 rintro e w' ⟨v,rfl,h1,h2,h3⟩
 exact ⟨v,rfl,h1,k1.trans h2 (by simp),fun g hg=>by have:=h3 g hg;simp at this;omega⟩
set_option maxRecDepth 100000 in
set_option maxHeartbeats 1000000 in
theorem names_walk {q:Nat}{fr ct nm:Nat} (hfr:1≤fr) {R:Value→World→Prop}
  (HC:Calls Tryz.prog 11 #[Pp q,.int .i64 (fr:Int),.int .i64 (ct:Int),.slice none 0 0] (((w.alloc (.cells #[Pp q] 30)).alloc (.cells #[.int .i64 (fr:Int)] 3)).alloc (.cells #[.int .i64 (ct:Int)] 3)) fun e w4=>∃p,e=.returned (.tuple #[Pp p,.int .i64 0])∧w4.cell? ⟨w.heap.size,0,none⟩=some (Pp q) ∧
   Calls Tryz.prog 31 #[Pp q] w4 fun e w5=>e=.returned (.bool false) ∧
   Calls Tryz.prog 41 #[.func (.func 59) #[] #[Pp w.heap.size,Pp (w.heap.size+1),Pp (w.heap.size+2)],.int .i64 (nm:Int)] w5 fun e w6=>∃top,e=.returned (.tuple #[Pp top,.int .i64 0]) ∧
   Calls Tryz.prog 60 #[Pp top] w6 fun e w7=>∃f,e=.returned f∧Calls Tryz.prog 51 #[f] w7 fun e w8=>∃v,e=.returned v∧R v w8) :
  Calls Tryz.prog 24 #[Pp q,.int .i64 (fr:Int),.int .i64 (ct:Int),.int .i64 (nm:Int)] w fun e w'=>∃v,e=.returned (.tuple #[v,.int .i64 0])∧R v w':=by
 have hb1:(w.alloc (.cells #[Pp q] 30)).heap[w.heap.size]?=some (.cells #[Pp q] 30 (0,0)):=heap_alloc_new w _
 obtain ⟨w1,e1⟩:∃w1,w.alloc (.cells #[Pp q] 30)=w1:=⟨_,rfl⟩
 rw [e1] at hb1
 have hs1:w1.heap.size=w.heap.size+1:=by rw [←e1];simp
 have hb2:(w1.alloc (.cells #[.int .i64 (fr:Int)] 3)).heap[w1.heap.size]?=some (.cells #[.int .i64 (fr:Int)] 3 (0,0)):=heap_alloc_new w1 _
 have hb12:=((Kept.refl [] w1).alloc (.cells #[.int .i64 (fr:Int)] 3)).keeps hb1 (by simp)
 obtain ⟨w2,e2⟩:∃w2,w1.alloc (.cells #[.int .i64 (fr:Int)] 3)=w2:=⟨_,rfl⟩
 rw [e2] at hb2 hb12
 have hs2:w2.heap.size=w.heap.size+2:=by rw [←e2];simp [hs1]
 have hb3:(w2.alloc (.cells #[.int .i64 (ct:Int)] 3)).heap[w2.heap.size]?=some (.cells #[.int .i64 (ct:Int)] 3 (0,0)):=heap_alloc_new w2 _
 have hb13:=((Kept.refl [] w2).alloc (.cells #[.int .i64 (ct:Int)] 3)).keeps hb12 (by simp)
 have hb23:=((Kept.refl [] w2).alloc (.cells #[.int .i64 (ct:Int)] 3)).keeps hb2 (by simp)
 obtain ⟨w3,e3⟩:∃w3,w2.alloc (.cells #[.int .i64 (ct:Int)] 3)=w3:=⟨_,rfl⟩
 rw [e3] at hb3 hb13 hb23
 rw [hs1] at hb23
 rw [hs2] at hb3
 rw [e1,e2,e3] at HC
 have d1:w3.cell? ⟨w.heap.size,0,none⟩=some (Pp q):=by simp [World.cell?,hb13]
 have d2:w3.cell? ⟨w.heap.size+1,0,none⟩=some (.int .i64 (fr:Int)):=by simp [World.cell?,hb23]
 have d3:w3.cell? ⟨w.heap.size+2,0,none⟩=some (.int .i64 (ct:Int)):=by simp [World.cell?,hb3]
 have HC:=Hid.mk HC
 clear hb1 hb2 hb12 hb3 hb13 hb23
 have hf0:¬(fr:Int)=0:=by omega
 go_enter Tryz.func24,Tryz.ntmps24
 go_wp2_with fail
 refine HC.out.mono ?_
 rintro e w4 ⟨p,rfl,c4,h31⟩
 have H31:=Hid.mk h31
 clear h31 HC d1 d2 d3
 go_wp2_with fail
 refine H31.out.mono ?_
 rintro e w5 ⟨rfl,h41⟩
 have H41:=Hid.mk h41
 clear h41 H31 c4
 go_wp2_with fail
 refine H41.out.mono ?_
 rintro e w6 ⟨top,rfl,h60⟩
 have H60:=Hid.mk h60
 clear h60 H41
 go_wp2_with fail
 refine H60.out.mono ?_
 rintro e w7 ⟨f,rfl,h51⟩
 have H51:=Hid.mk h51
 clear h51 H60
 go_wp2_with fail
 refine H51.out.mono ?_
 rintro e w8 ⟨v,rfl,hR⟩
 have HR:=Hid.mk hR
 clear hR H51
 go_wp2_with fail
 go_ret2
 exact ⟨_,rfl,HR.out⟩
end
theorem form_its {ρ ρ':Rho}:{k:Nat}→{t t':Tr k}→form ρ' t'=formR ρ t→(its t').map (fun i=>(i.key,i.val))=(its t).map (fun i=>(i.key,i.val))
 | 0,t,t',h=>by
  have e:(t'.2.map fun i=>(i.key,i.val,ρ' i.ad)).map (fun x=>(x.1,x.2.1))=(t.2.map fun i=>(i.key,i.val,refOf ρ i)).map (fun x=>(x.1,x.2.1)):=congrArg (List.map fun x:List UInt8 × List UInt8 × (Nat × Nat)=>(x.1,x.2.1)) h
  rw [List.map_map,List.map_map] at e
  exact e
 | k+1,t,t',h=>by
  have h':(t'.2.map fun u=>(ρ' (adr u),form ρ' u))=t.2.map fun u=>(ρ (adr u),formR ρ u):=h
  show (t'.2.flatMap its).map _=(t.2.flatMap its).map _
  rw [List.map_flatMap,List.map_flatMap,List.flatMap_def,List.flatMap_def]
  congr 1
  refine List.ext_getElem? fun j=>?_
  have hj:=congrArg (fun l=>l[j]?) h'
  simp only [List.getElem?_map] at hj ⊢
  cases h1:t'.2[j]?<;>cases h2:t.2[j]?<;>rw [h1,h2] at hj<;>simp at hj
  simp only [Option.map_some]
  rw [form_its hj.2]
theorem isz_kv {i j:Itm} (h1:i.key=j.key) (h2:i.val=j.val):isz i=isz j:=by
 unfold isz
 have e:lng i=lng j:=by unfold lng;rw [h1,h2]
 simp only [h1,h2]
theorem form_len {ρ ρ':Rho}{k:Nat}{t t':Tr (k+1)} (h:form ρ' t'=formR ρ t):t'.2.length=t.2.length:=by
 have h':(t'.2.map fun u=>(ρ' (adr u),form ρ' u))=t.2.map fun u=>(ρ (adr u),formR ρ u):=h
 simpa using congrArg List.length h'
theorem form_fil {ρ ρ':Rho}:{k:Nat}→{t t':Tr k}→form ρ' t'=formR ρ t→fil t'=fil t
 | 0,t,t',h=>by
  have h':(t'.2.map fun i=>(i.key,i.val,ρ' i.ad))=t.2.map fun i=>(i.key,i.val,refOf ρ i):=h
  show (t'.2.map isz).sum=(t.2.map isz).sum
  congr 1
  refine List.ext_getElem? fun j=>?_
  have hj:=congrArg (fun l=>l[j]?) h'
  simp only [List.getElem?_map] at hj ⊢
  cases h1:t'.2[j]?<;>cases h2:t.2[j]?<;>rw [h1,h2] at hj<;>simp at hj
  simp only [Option.map_some]
  rw [isz_kv hj.1 hj.2.1]
 | k+1,t,t',h=>by
  show t'.2.length*10=t.2.length*10
  rw [form_len h]
theorem form_kid {ρ ρ':Rho}{k:Nat}{t t':Tr (k+1)} (h:form ρ' t'=formR ρ t) {u':Tr k} (hu:u'∈t'.2):∃u∈t.2,ρ' (adr u')=ρ (adr u)∧form ρ' u'=formR ρ u:=by
 have h':(t'.2.map fun u=>(ρ' (adr u),form ρ' u))=t.2.map fun u=>(ρ (adr u),formR ρ u):=h
 have hm:(ρ' (adr u'),form ρ' u')∈t'.2.map fun u=>(ρ' (adr u),form ρ' u):=List.mem_map.2 ⟨u',hu,rfl⟩
 rw [h'] at hm
 obtain ⟨u,hu2,e⟩:=List.mem_map.1 hm
 exact ⟨u,hu2,(congrArg Prod.fst e).symm,(congrArg Prod.snd e).symm⟩
theorem form_named {ρ ρ':Rho}:{k:Nat}→{t t':Tr k}→form ρ' t'=formR ρ t→(ρ' (adr t')).1≠0→Named ρ t→Named ρ' t'
 | 0,t,t',h,h0,hn=>by
  have h':(t'.2.map fun i=>(i.key,i.val,ρ' i.ad))=t.2.map fun i=>(i.key,i.val,refOf ρ i):=h
  refine ⟨fun i hi=>?_,h0⟩
  have hm:(i.key,i.val,ρ' i.ad)∈t'.2.map fun i=>(i.key,i.val,ρ' i.ad):=List.mem_map.2 ⟨i,hi,rfl⟩
  rw [h'] at hm
  obtain ⟨x,hx,e⟩:=List.mem_map.1 hm
  simp only [Prod.mk.injEq] at e
  have el:lng i=lng x:=by unfold lng;rw [e.1,e.2.1]
  rw [←e.2.2,el]
  unfold refOf
  refine ⟨fun hl=>?_,fun hl=>?_⟩
  ·rw [if_pos hl]
   exact (hn.1 x hx).1 hl
  ·rw [if_neg (by rw [hl];simp)]
 | k+1,t,t',h,h0,hn=>⟨fun u' hu'=>by
  obtain ⟨u,hu,e1,e2⟩:=form_kid h hu'
  have hnu:=hn.1 u hu
  refine form_named e2 ?_ hnu
  rw [e1]
  cases k with
  | zero=>exact hnu.2
  | succ k=>exact hnu.2,h0⟩
theorem apart_map {α β:Type}{f:α→Nat}{g:β→Nat}{l:List α}{m:List β} (h:l.map f=m.map g) (ha:Apart g m):Apart f l:=fun A a b B e=>by
 subst e
 rw [List.map_append,List.map_cons,List.map_cons] at h
 obtain ⟨A2,M2,rfl,e1,e2⟩:=List.map_eq_append_iff.1 h.symm
 obtain ⟨x,M3,rfl,e3,e4⟩:=List.map_eq_cons_iff.1 e2
 obtain ⟨y,M4,rfl,e5,e6⟩:=List.map_eq_cons_iff.1 e4
 have:=ha A2 x y M4 rfl
 omega
theorem form_wf {ρ ρ':Rho}:{k:Nat}→{t t':Tr k}→form ρ' t'=formR ρ t→Wf t→Wf t'
 | 0,t,t',h,hw=>by
  refine ⟨fun e=>hw.1 ?_,by rw [form_fil h];exact hw.2⟩
  have h':(t'.2.map fun i=>(i.key,i.val,ρ' i.ad))=t.2.map fun i=>(i.key,i.val,refOf ρ i):=h
  rw [e] at h'
  simpa using h'.symm
 | k+1,t,t',h,hw=>by
  have hl:=form_len h
  refine ⟨fun e=>hw.1 ?_,by rw [hl];exact hw.2.1,fun u' hu'=>?_,apart_map (g:=fil (k:=k)) ?_ hw.2.2.2⟩
  ·rw [e] at hl
   exact List.eq_nil_of_length_eq_zero hl.symm
  ·obtain ⟨u,hu,e1,e2⟩:=form_kid h hu'
   exact form_wf e2 (hw.2.2.1 u hu)
  ·have h':(t'.2.map fun u=>(ρ' (adr u),form ρ' u))=t.2.map fun u=>(ρ (adr u),formR ρ u):=h
   refine List.ext_getElem? fun j=>?_
   have hj:=congrArg (fun l=>l[j]?) h'
   simp only [List.getElem?_map] at hj ⊢
   cases h1:t'.2[j]?<;>cases h2:t.2[j]?<;>rw [h1,h2] at hj<;>simp at hj
   simp only [Option.map_some]
   rw [form_fil hj.2]
theorem form_top {ρ ρ':Rho}:{k:Nat}→{t t':Tr k}→form ρ' t'=formR ρ t→Top t→Top t'
 | 0,_,_,_,_=>trivial
 | k+1,t,t',h,ht=>by
  show t'.2.length≠1
  rw [form_len h]
  exact ht
structure TreeAt (D:Nat→Prop) (tx:Nat→List UInt8) (ρ:Rho) {K:Nat} (t:Tr K) (nm:Nat):Prop where
 lev:K≤250
 root:D nm
 text:tx nm=encNode 2 ρ t
 nm0:nm≠0
 nmb:nm<65536
 len:(encNode 2 ρ t).length≤238
 laid:LaidN D tx ρ t
 nodup:(nm::toRead ρ [t]).Nodup
 pos:∀n∈toRead ρ [t],n≠0
 few:(toRead ρ [t]).length≤90000
 small:(its t).length≤100000
 up:(([]:List UInt8)::(its t).map Itm.key).Pairwise (·<·)
 wf:Wf t
 named:Named ρ t
theorem nodup_ints {l:List Nat} (h:l.Nodup):(l.map fun n:Nat=>(n:Int)).Nodup:=by
 unfold List.Nodup at h ⊢
 rw [List.pairwise_map]
 exact h.imp fun hne e=>hne (by omega)
theorem perm_ints {l m:List Nat} (h:(l.map fun n:Nat=>(n:Int)).Perm (m.map fun n:Nat=>(n:Int))):l.Perm m:=by
 have:=h.map Int.toNat
 rw [List.map_map,List.map_map] at this
 have e:(Int.toNat∘fun n:Nat=>(n:Int))=id:=by funext x;simp
 rw [e,List.map_id,List.map_id] at this
 exact this
theorem LoadP.all {D:Nat→Prop}{tx:Nat→List UInt8}{ρ:Rho}{K:Nat}{t:Tr K}{nm top:Nat}{w w':World} (hT:TreeAt D tx ρ t nm) (h:LoadP (aim ρ t nm (fnv (tx nm)) w.heap.size) w t top w'):Kept [] w w'∧∃(ρ':Rho) (t':Tr K),adr t'=top∧IsN w' (fun x=>w.heap.size≤x∧x<w'.heap.size) ρ' t'∧(its t').map (fun i=>(i.key,i.val))=(its t).map (fun i=>(i.key,i.val))∧(nms ρ' t').Perm (nm::toRead ρ [t])∧ρ' (adr t')=(nm,fnv (tx nm))∧form ρ' t'=formR ρ t∧Wf t'∧Named ρ' t':=by
 obtain ⟨k,ρ',t',h1,h2,h3,h4,h5⟩:=h
 obtain ⟨h6,h7⟩:=h5 t' rfl
 exact ⟨k,ρ',t',h1,h2,h3,perm_ints h4,h6,h7,form_wf h7 hT.wf,form_named h7 (by rw [h6];exact hT.nm0) hT.named⟩
section
variable {w0 w:World}{q p:Nat}{s:St}{fr ct:Nat}{L:List Ent}{fl:List Nat}{X:Nat→Prop}
theorem TreeAt.opens {tx:Nat→List UInt8}{ρ:Rho}{K:Nat}{t:Tr K}{nm:Nat} (hT:TreeAt (fun n=>∃x∈L,x.1=n∧x.2.2=tx n) tx ρ t nm) (h:SyP w0 w q p s fr ct L fl X) (hfr:1≤fr) (hd:s.down=false) (hlt:∀b,X b→b<w.heap.size) :
  Calls Tryz.prog 13 #[Pp p,.int .i64 (nm:Int)] w fun e w'=>∃top w1 w2,e=.returned (.tuple #[Pp w2.heap.size,.int .i64 0])∧(Kept [] w w1∧LoadP (aim ρ t nm (fnv (tx nm)) w1.heap.size) w1 t top w2)∧w'=w2.alloc (.cells #[Pp p,Pp top,.slice none 0 0] 81) :=
 topen_any h hfr hd hlt hT.lev hT.root hT.text hT.nm0 hT.nmb hT.len hT.laid (nodup_ints hT.nodup) hT.pos hT.few hT.small hT.up
end
end Go.Proofs.YtgpbhlfdlkemjaaGreat
