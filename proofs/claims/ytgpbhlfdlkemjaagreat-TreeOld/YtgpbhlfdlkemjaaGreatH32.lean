import Derived.Test.YtgpbhlfdlkemjaaGreatH31
/-
 layer.node: the walks.
-/
namespace Go.Proofs.YtgpbhlfdlkemjaaGreat
open Go.RowKit
set_option linter.unusedVariables false
def AtK {α:Type} (g:Prop) (w0:World) (T Z:Nat→Prop) (κ:Kap) (lb p q fr ct:Nat) (C:Nat→Prop) (w:World) (ρ:Rho) (names:List Nat) (s:St) (L:List Ent) (fl:List Nat) (l:List α) (ad:α→Nat) (need:α→Prop) (cost:α→Nat) (j:Nat) (wr:World):Prop :=
 ∃ρ' names' s' L' fl',Lay g w0 T Z κ lb p q fr ct wr ρ' names' s' L' fl'∧Went T Z C ((l.take j).map cost).sum w ρ names s L fl wr ρ' names' s' L' fl'∧s'.down=false∧∀x∈l.take j,need x→(ρ' (ad x)).1≠0
section
variable {α:Type}{g:Prop}{w0:World}{T Z C:Nat→Prop}{κ:Kap}{lb p q fr ct:Nat}{w wr w1 w2:World}{ρ ρ1:Rho}{names names1:List Nat}{s s1:St}{L L1:List Ent}{fl fl1:List Nat}{l:List α}{ad:α→Nat}{need:α→Prop}{cost:α→Nat}{j:Nat}{x:α}
theorem AtK.start (h:Lay g w0 T Z κ lb p q fr ct w ρ names s L fl) (hd:s.down=false):AtK g w0 T Z κ lb p q fr ct C w ρ names s L fl l ad need cost 0 w :=
 ⟨ρ,names,s,L,fl,h,Went.refl,hd,by simp⟩
theorem AtK.skip (hL:Lay g w0 T Z κ lb p q fr ct wr ρ1 names1 s1 L1 fl1) (hW:Went T Z C ((l.take j).map cost).sum w ρ names s L fl wr ρ1 names1 s1 L1 fl1) (hd:s1.down=false) (hp:∀x∈l.take j,need x→(ρ1 (ad x)).1≠0) (hx:l[j]?=some x) (hn:need x→(ρ1 (ad x)).1≠0) (k:Kept [] wr w1):AtK g w0 T Z κ lb p q fr ct C w ρ names s L fl l ad need cost (j+1) w1:=by
 refine ⟨ρ1,names1,s1,L1,fl1,hL.kept k,?_,hd,?_⟩
 ·rw [tsum_succ cost l j x hx]
  exact hW.trans hd (Went.same k)
 ·rw [tsnoc hx]
  intro y hy hny
  rcases List.mem_append.1 hy with hy|hy
  ·exact hp y hy hny
  ·simp at hy
   subst hy
   exact hn hny
theorem AtK.next {c:Nat} (hW:Went T Z C ((l.take j).map cost).sum w ρ names s L fl wr ρ1 names1 s1 L1 fl1) (hd:s1.down=false) (hp:∀x∈l.take j,need x→(ρ1 (ad x)).1≠0) (hx:l[j]?=some x) (hc:c≤cost x) (k:Kept [] wr w1) {C':Nat→Prop} (hC:∀b,C' b→C b) {ρ2:Rho}{names2:List Nat}{s2:St}{L2:List Ent}{fl2:List Nat} (hL2:Lay g w0 T Z κ lb p q fr ct w2 ρ2 names2 s2 L2 fl2) (hW2:Went T Z C' c w1 ρ1 names1 s1 L1 fl1 w2 ρ2 names2 s2 L2 fl2) (hd2:s2.down=false) (hp2:(ρ2 (ad x)).1≠0):AtK g w0 T Z κ lb p q fr ct C w ρ names s L fl l ad need cost (j+1) w2:=by
 refine ⟨ρ2,names2,s2,L2,fl2,hL2,?_,hd2,?_⟩
 ·rw [tsum_succ cost l j x hx]
  refine hW.trans hd ?_
  have:=(Went.same (B:=0) (C:=C) (T:=T) (Z:=Z) (ρ:=ρ1) (names:=names1) (s:=s1) (L:=L1) (fl:=fl1) k).trans hd ((hW2.wide hC).more hc)
  rwa [Nat.zero_add] at this
 ·rw [tsnoc hx]
  intro y hy hny
  rcases List.mem_append.1 hy with hy|hy
  ·exact hW2.ext.put (hp y hy hny)
  ·simp at hy
   subst hy
   exact hp2
theorem AtK.lost {c D:Nat}{P:Rho→Prop} (hW:Went T Z C ((l.take j).map cost).sum w ρ names s L fl wr ρ1 names1 s1 L1 fl1) (hd:s1.down=false) (hx:l[j]?=some x) (hc:c≤cost x) (hD:(l.map cost).sum≤D) (k:Kept [] wr w1) {C' C2:Nat→Prop} (hC:∀b,C' b→C2 b) (hCC:∀b,C b→C2 b) {ρ2:Rho}{names2:List Nat}{s2:St}{L2:List Ent}{fl2:List Nat} (hL2:Lay g w0 T Z κ lb p q fr ct w2 ρ2 names2 s2 L2 fl2) (hW2:Went T Z C' c w1 ρ1 names1 s1 L1 fl1 w2 ρ2 names2 s2 L2 fl2) (hd2:s2.down=true):Laying g w0 T Z κ lb p q fr ct C2 D w ρ names s L fl P 9 w2:=by
 refine ⟨ρ2,names2,s2,L2,fl2,hL2,?_,.inr ⟨rfl,hd2⟩⟩
 have h1:=(Went.same (B:=0) (C:=C2) (T:=T) (Z:=Z) (ρ:=ρ1) (names:=names1) (s:=s1) (L:=L1) (fl:=fl1) k).trans hd ((hW2.wide hC).more hc)
 rw [Nat.zero_add] at h1
 refine ((hW.wide hCC).trans hd h1).more ?_
 rw [←tsum_succ cost l j x hx]
 exact Nat.le_trans (tsum_le cost l (j+1)) hD
end
section
variable {g:Prop}{w0:World}{T Z:Nat→Prop}{κ:Kap}{lb p q fr ct:Nat}
set_option maxRecDepth 100000 in
set_option maxHeartbeats 4000000 in
theorem node_lf {w:World}{ρ:Rho}{names:List Nat}{s:St}{L:List Ent}{fl:List Nat} (h:Lay g w0 T Z κ lb p q fr ct w ρ names s L fl) {n:Tr 0} (hN:IsN w T ρ n) (hl:n.2.length≤100000) (hsz:Hid (Sized n.2)) (hR:Room (bl ρ n) names s fl) (h0:(ρ n.1).1=0) (kd:UInt8)
  (HT:Hid (∀w' ρ' names' s' L' fl',Lay g w0 T Z κ lb p q fr ct w' ρ' names' s' L' fl'→IsN w' T ρ' n→Kids ρ' n→(ρ' n.1).1=0→Room 1 names' s' fl'→Calls Tryz.prog 129 #[Pp n.1,.int .u8 (kd.toNat:Int)] w' fun e w1=>∃v,e=.returned v∧Calls Tryz.prog 127 #[Pp lb,Pp n.1,v] w1 fun e w''=>∃er:Int,e=.returned (.int .i64 er)∧Laying g w0 T Z κ lb p q fr ct (fun b=>b=n.1) 1 w' ρ' names' s' L' fl' (fun ρ''=>(ρ'' n.1).1≠0) er w'')) :
  Calls Tryz.prog 84 #[Pp lb,Pp n.1,.int .u8 (kd.toNat:Int)] w fun e w'=>∃er:Int,e=.returned (.int .i64 er)∧Laying g w0 T Z κ lb p q fr ct (fun b=>b∈blks n) (bl ρ n) w ρ names s L fl (fun ρ'=>(ρ' n.1).1≠0) er w':=by
 obtain ⟨aI,cI,aU,cU,c0,c1,-,c3,c4,r3,r4,hFi,-⟩:=hN.isB.raw
 rw [show adr n=n.1 from rfl] at c0 c1 c3 c4
 have hbl:Hid (bl ρ n=(n.2.map (ib ρ)).sum+1):=Hid.mk (by show (if (ρ n.1).1=0 then _ else _)=_;rw [if_pos h0,Nat.add_comm])
 rw [show (ua n).length=0 from rfl] at c4
 have huu:(ia n).length=n.2.length:=by show (n.2.map Itm.ad).length=_;rw [List.length_map]
 have hua:Hid (ia n=n.2.map Itm.ad):=Hid.mk rfl
 rw [huu] at c3 r3 hFi
 rw [hua.out] at r3 hFi
 have HN0:=Hid.mk hN
 have HR:=Hid.mk hR
 have H0:=Hid.mk h0
 have HRW:=Hid.mk (And.intro r3 hFi)
 have HST:Hid (AtK g w0 T Z κ lb p q fr ct (fun b=>b∈n.2.map Itm.ad) w ρ names s L fl n.2 Itm.ad (fun i=>lng i=true) (ib ρ) 0 w):=Hid.mk (AtK.start h hR.up)
 obtain ⟨N,HN⟩:∃N,Hid (n.2.length=N):=⟨_,rfl⟩
 rw [HN.out] at hl c3 HRW
 obtain ⟨A,HA⟩:∃A,Hid (n.1=A):=⟨_,rfl⟩
 rw [HA.out] at c3 c4 ⊢
 clear hN c0 c1 r3 r4 hFi huu hua h hR h0
 go_enter Tryz.func84,Tryz.ntmps84
 go_wp2_with fail
 go_loopw [18] (fun i w'=>i=.int .i64 0∧w=w') (fun _ _=>0)
 case atStart=>exact ⟨rfl,rfl⟩
 case round =>
  obtain ⟨rfl,rfl⟩:=hrel
  go_wp2_with fail
  go_loopw [39] (fun i wr=>∃j:Nat,i=.int .i64 (j:Int)∧j≤N∧Hid (AtK g w0 T Z κ lb p q fr ct (fun b=>b∈n.2.map Itm.ad) w ρ names s L fl n.2 Itm.ad (fun i=>lng i=true) (ib ρ) j wr)) (fun i _=>N-(intOf i).toNat)
  case atStart=>exact ⟨0,rfl,by omega,HST⟩
  case round =>
   obtain ⟨j,rfl,hj,hA⟩:=hrel
   obtain ⟨ρ1,names1,s1,L1,fl1,hL1,hW1,hd1,hp1⟩:=hA.out
   have HL1:=Hid.mk hL1
   have HW1:=Hid.mk hW1
   have HD1:=Hid.mk hd1
   have HP1:=Hid.mk hp1
   have hN1:=hW1.trees HN0.out
   clear hL1 hW1 hd1 hp1 hA c3 c4
   by_cases hlt:j<N
   ·obtain ⟨x,hx⟩:∃x,n.2[j]?=some x:=⟨_,List.getElem?_eq_getElem (by have:=HN.out;omega)⟩
    have HU:=Hid.mk hx
    have hm:=List.mem_of_getElem? hx
    obtain ⟨b,o,c',e,hcell⟩:=(HW1.out.rows HRW.out.1 HRW.out.2).at j x.ad (by rw [List.getElem?_map,hx];rfl)
    rw [List.length_map,HN.out] at e
    injection e with e eN e2
    subst e e2
    clear eN hx
    have hIx:=hN1.2 x hm
    have hkl:=(hsz.out x hm).2.1
    have hvl:=(hsz.out x hm).2.2
    obtain ⟨aV,cV,d0,d1,-,-,-⟩:=hIx.cells
    have hput:=fun W=>isPut_any (ρ1 x.ad).1 (ρ1 x.ad).2 W
    by_cases hr:(ρ1 x.ad).1=0
    ·have hd:decide ((ρ1 x.ad).1≠0)=false:=by simpa using hr
     rw [hd] at hput
     have HLG:Hid (∀w1,Kept [] wr w1→Calls Tryz.prog 83 #[Pp x.ad] w1 fun e w'=>e=.returned (.bool (lng x))∧∃q,w'=w1.drewN q):=Hid.mk fun w1 k1=>item_isLong (hIx.kept k1 (by simp)) (by omega) (by omega)
     cases hlg:lng x with
     | false =>
      rw [hlg] at HLG
      have HS:Hid (∀w1,Kept [] wr w1→AtK g w0 T Z κ lb p q fr ct (fun b=>b∈n.2.map Itm.ad) w ρ names s L fl n.2 Itm.ad (fun i=>lng i=true) (ib ρ) (j+1) w1):=Hid.mk fun w1 k1=>AtK.skip HL1.out HW1.out HD1.out HP1.out HU.out (fun h=>by rw [hlg] at h;cases h) k1
      clear hN1 hIx hm hr hd HU HL1 HW1 HD1 HP1 hlg hkl hvl
      generalize x.ad=U at *
      generalize (ρ1 U).1=r1 at *
      generalize (ρ1 U).2=r2 at *
      go_wp2_with fail
      refine (hput _).mono ?_
      rintro e w1 ⟨rfl,k1⟩
      have hlong:=HLG.out w1 k1
      clear hput HLG d0 d1 hcell
      go_wp2_with fail
      refine hlong.mono ?_
      rintro e w2 ⟨rfl,qq,rfl⟩
      have HS1:=Hid.mk (HS.out _ (k1.drewN qq))
      clear hlong HS k1
      go_wp2
      go_roundw
      case rel=>exact ⟨j+1,by go_num,by omega,HS1⟩
      case measure=>simp [intOf];omega
     | true =>
      rw [hlg] at HLG
      have HC:Hid (∀w1,Kept [] wr w1→Calls Tryz.prog 128 #[Pp x.ad] w1 fun e w2=>∃v,e=.returned v∧Calls Tryz.prog 127 #[Pp lb,Pp x.ad,v] w2 fun e w''=>∃er:Int,e=.returned (.int .i64 er)∧((er=0∧AtK g w0 T Z κ lb p q fr ct (fun b=>b∈n.2.map Itm.ad) w ρ names s L fl n.2 Itm.ad (fun i=>lng i=true) (ib ρ) (j+1) w'')∨(er=9∧Laying g w0 T Z κ lb p q fr ct (fun b=>b∈blks n) (bl ρ n) w ρ names s L fl (fun ρ'=>(ρ' A).1≠0) 9 w''))):=Hid.mk fun w1 k1=>by
       have hroom:Room (ib ρ1 x) names1 s1 fl1:=by
        have h1:=tsum_succ (ib ρ) n.2 j x HU.out
        have h2:=tsum_le (ib ρ) n.2 (j+1)
        have h3:=(HR.out.less (B:=((n.2.take j).map (ib ρ)).sum+ib ρ x) (by rw [hbl.out];omega)).next HW1.out HD1.out
        exact h3.less (ib_ext HW1.out.ext x)
       refine (item_laid (HL1.out.kept k1) (hIx.kept k1 (by simp)) hkl hvl hlg hr hroom).mono ?_
       rintro e w2 ⟨v,rfl,h2⟩
       refine ⟨v,rfl,h2.mono ?_⟩
       rintro e w3 ⟨er,rfl,ρ2,names2,s2,L2,fl2,hL2,hW2,(⟨rfl,hd2,hp2⟩|⟨rfl,hd2⟩)⟩
       ·exact ⟨0,rfl,.inl ⟨rfl,AtK.next HW1.out HD1.out HP1.out HU.out (ib_ext HW1.out.ext x) k1 (fun b hb=>by rw [hb];exact List.mem_map_of_mem hm) hL2 hW2 hd2 hp2⟩⟩
       ·exact ⟨9,rfl,.inr ⟨rfl,AtK.lost HW1.out HD1.out HU.out (ib_ext HW1.out.ext x) (by rw [hbl.out];omega) k1 (fun b hb=>by rw [hb];exact List.mem_cons_of_mem _ (List.mem_map_of_mem hm)) (fun b hb=>List.mem_cons_of_mem _ hb) hL2 hW2 hd2⟩⟩
      clear hN1 hIx hm hr hd HU HL1 HW1 HD1 HP1 hlg hkl hvl
      generalize x.ad=U at *
      generalize (ρ1 U).1=r1 at *
      generalize (ρ1 U).2=r2 at *
      go_wp2_with fail
      refine (hput _).mono ?_
      rintro e w1 ⟨rfl,k1⟩
      have hlong:=HLG.out w1 k1
      clear hput HLG d0 d1 hcell
      go_wp2_with fail
      refine hlong.mono ?_
      rintro e w2 ⟨rfl,qq,rfl⟩
      have hcall:=HC.out _ ((k1.drewN qq).drew)
      clear hlong HC k1
      go_wp2_with fail
      go_region_held3 (fun _=>True) (exact trivial) (first|(go_at_call 128;refine hcall.mono ?_;rintro e w5 ⟨v5,rfl,h5⟩)|(go_at_call 127;refine h5.mono ?_;rintro e w6 ⟨er,rfl,hQ⟩))
      all_goals
       have HQ:=Hid.mk hQ
       clear hcall h5 hQ
       rcases HQ.out with ⟨rfl,hA2⟩|⟨rfl,hF⟩
       ·have HA2:=Hid.mk hA2
        clear HQ hA2
        go_wp2
        go_roundw
        case rel=>exact ⟨j+1,by go_num,by omega,HA2⟩
        case measure=>simp [intOf];omega
       ·have HF:=Hid.mk hF
        clear HQ hF
        go_wp2
        go_ret
        exact ⟨9,rfl,HF.out⟩
    ·have hd:decide ((ρ1 x.ad).1≠0)=true:=by simpa using hr
     rw [hd] at hput
     have HS:Hid (∀w1,Kept [] wr w1→AtK g w0 T Z κ lb p q fr ct (fun b=>b∈n.2.map Itm.ad) w ρ names s L fl n.2 Itm.ad (fun i=>lng i=true) (ib ρ) (j+1) w1):=Hid.mk fun w1 k1=>AtK.skip HL1.out HW1.out HD1.out HP1.out HU.out (fun _=>hr) k1
     clear hN1 hIx hm hr hd HU HL1 HW1 HD1 HP1 hkl hvl
     generalize x.ad=U at *
     generalize (ρ1 U).1=r1 at *
     generalize (ρ1 U).2=r2 at *
     go_wp2_with fail
     refine (hput _).mono ?_
     rintro e w1 ⟨rfl,k1⟩
     have HS1:=Hid.mk (HS.out w1 k1)
     clear hput HS d0 d1 hcell k1
     go_wp2
     go_roundw
     case rel=>exact ⟨j+1,by go_num,by omega,HS1⟩
     case measure=>simp [intOf];omega
   ·obtain rfl:j=N:=by omega
    have hput0:Hid ((ρ1 A).1=0):=Hid.mk (by
     rw [←HA.out,HW1.out.only n.1 (fun hb=>by obtain ⟨i,hi,e⟩:=List.mem_map.1 hb;exact HN0.out.noItem (HN0.out.2 i hi) e.symm)]
     exact H0.out)
    have HC:Hid (∀w1,Kept [] wr w1→Calls Tryz.prog 129 #[Pp A,.int .u8 (kd.toNat:Int)] w1 fun e w2=>∃v,e=.returned v∧Calls Tryz.prog 127 #[Pp lb,Pp A,v] w2 fun e w''=>∃er:Int,e=.returned (.int .i64 er)∧Laying g w0 T Z κ lb p q fr ct (fun b=>b∈blks n) (bl ρ n) w ρ names s L fl (fun ρ'=>(ρ' A).1≠0) er w''):=Hid.mk fun w1 k1=>by
     have hte:n.2.take j=n.2:=List.take_of_length_le (by have:=HN.out;omega)
     have hW1:=HW1.out
     have hp1:=HP1.out
     rw [hte] at hW1 hp1
     have hroom:Room 1 names1 s1 fl1:=(HR.out.less (B:=(n.2.map (ib ρ)).sum+1) (by rw [hbl.out];omega)).next hW1 HD1.out
     have hT:=HT.out w1 ρ1 names1 s1 L1 fl1 (HL1.out.kept k1) (hN1.kept k1 (by simp)) (fun i hi hlg=>hp1 i hi hlg) (by rw [HA.out];exact hput0.out) hroom
     rw [HA.out] at hT
     refine hT.mono ?_
     rintro e w2 ⟨v,rfl,h2⟩
     refine ⟨v,rfl,h2.mono ?_⟩
     rintro e w3 ⟨er,rfl,ρ3,names3,s3,L3,fl3,hL3,hW3,h3⟩
     refine ⟨er,rfl,ρ3,names3,s3,L3,fl3,hL3,?_,h3⟩
     have h4:=(Went.same (B:=0) (C:=fun b=>b∈blks n) (T:=T) (Z:=Z) (ρ:=ρ1) (names:=names1) (s:=s1) (L:=L1) (fl:=fl1) k1).trans HD1.out (hW3.wide (C':=fun b=>b∈blks n) (fun b hb=>by rw [hb,←HA.out];exact blks_self n))
     rw [Nat.zero_add] at h4
     have h5:=(hW1.wide (C':=fun b=>b∈blks n) (fun b hb=>List.mem_cons_of_mem _ hb)).trans HD1.out h4
     rw [hbl.out]
     exact h5
    have hcall:=HC.out wr.drew ((Kept.refl [] wr).drew)
    clear HL1 HW1 HD1 HP1 hN1 hput0 HC
    go_wp2_with fail
    go_region_held3 (fun _=>True) (exact trivial) (first|(go_at_call 129;refine hcall.mono ?_;rintro e w5 ⟨v5,rfl,h5⟩)|(go_at_call 127;refine h5.mono ?_;rintro e w6 ⟨er,rfl,hQ⟩))
    all_goals
     have HQ:=Hid.mk hQ
     clear hcall h5 hQ
     go_wp2
     go_ret
     exact ⟨er,rfl,HQ.out⟩
end
section
variable {g:Prop}{w0:World}{T Z:Nat→Prop}{κ:Kap}{lb p q fr ct:Nat}
set_option maxRecDepth 100000 in
set_option maxHeartbeats 4000000 in
theorem node_br {w:World}{ρ:Rho}{names:List Nat}{s:St}{L:List Ent}{fl:List Nat} (h:Lay g w0 T Z κ lb p q fr ct w ρ names s L fl) {k:Nat}{n:Tr (k+1)} (hN:IsN w T ρ n) (hl:n.2.length≤100000) (hR:Room (bl ρ n) names s fl) (h0:(ρ n.1).1=0) (kd:UInt8)
  (HK:Hid (∀u∈n.2,∀w' ρ' names' s' L' fl',Lay g w0 T Z κ lb p q fr ct w' ρ' names' s' L' fl'→IsN w' T ρ' u→(ρ' (adr u)).1=0→Room (bl ρ' u) names' s' fl'→Calls Tryz.prog 84 #[Pp lb,Pp (adr u),.int .u8 3] w' fun e w''=>∃er:Int,e=.returned (.int .i64 er)∧Laying g w0 T Z κ lb p q fr ct (fun b=>b∈blks u) (bl ρ' u) w' ρ' names' s' L' fl' (fun ρ''=>(ρ'' (adr u)).1≠0) er w''))
  (HT:Hid (∀w' ρ' names' s' L' fl',Lay g w0 T Z κ lb p q fr ct w' ρ' names' s' L' fl'→IsN w' T ρ' n→Kids ρ' n→(ρ' n.1).1=0→Room 1 names' s' fl'→Calls Tryz.prog 129 #[Pp n.1,.int .u8 (kd.toNat:Int)] w' fun e w1=>∃v,e=.returned v∧Calls Tryz.prog 127 #[Pp lb,Pp n.1,v] w1 fun e w''=>∃er:Int,e=.returned (.int .i64 er)∧Laying g w0 T Z κ lb p q fr ct (fun b=>b=n.1) 1 w' ρ' names' s' L' fl' (fun ρ''=>(ρ'' n.1).1≠0) er w'')) :
  Calls Tryz.prog 84 #[Pp lb,Pp n.1,.int .u8 (kd.toNat:Int)] w fun e w'=>∃er:Int,e=.returned (.int .i64 er)∧Laying g w0 T Z κ lb p q fr ct (fun b=>b∈blks n) (bl ρ n) w ρ names s L fl (fun ρ'=>(ρ' n.1).1≠0) er w':=by
 obtain ⟨aI,cI,aU,cU,c0,c1,-,c3,c4,r3,r4,-,hFu⟩:=hN.isB.raw
 rw [show adr n=n.1 from rfl] at c0 c1 c3 c4
 have hbl:Hid (bl ρ n=(n.2.map (bl ρ)).sum+1):=Hid.mk (by show (if (ρ n.1).1=0 then _ else _)=_;rw [if_pos h0,Nat.add_comm])
 have huu:(ua n).length=n.2.length:=by show (n.2.map adr).length=_;rw [List.length_map]
 have hua:Hid (ua n=n.2.map adr):=Hid.mk rfl
 rw [huu] at c4 r4 hFu
 rw [hua.out] at r4 hFu
 have HN0:=Hid.mk hN
 have HR:=Hid.mk hR
 have H0:=Hid.mk h0
 have HRW:=Hid.mk (And.intro r4 hFu)
 have HST:Hid (AtK g w0 T Z κ lb p q fr ct (fun b=>∃u∈n.2,b∈blks u) w ρ names s L fl n.2 adr (fun _=>True) (bl ρ) 0 w):=Hid.mk (AtK.start h hR.up)
 obtain ⟨N,HN⟩:∃N,Hid (n.2.length=N):=⟨_,rfl⟩
 rw [HN.out] at hl c4 HRW
 obtain ⟨A,HA⟩:∃A,Hid (n.1=A):=⟨_,rfl⟩
 rw [HA.out] at c4 ⊢
 clear hN c0 c1 c3 r3 r4 hFu huu hua h hR h0
 go_enter Tryz.func84,Tryz.ntmps84
 go_wp2_with fail
 go_loopw [18] (fun i wr=>∃j:Nat,i=.int .i64 (j:Int)∧j≤N∧Hid (AtK g w0 T Z κ lb p q fr ct (fun b=>∃u∈n.2,b∈blks u) w ρ names s L fl n.2 adr (fun _=>True) (bl ρ) j wr)) (fun i _=>N-(intOf i).toNat)
 case atStart=>exact ⟨0,rfl,by omega,HST⟩
 case round =>
  obtain ⟨j,rfl,hj,hA⟩:=hrel
  obtain ⟨ρ1,names1,s1,L1,fl1,hL1,hW1,hd1,hp1⟩:=hA.out
  have HL1:=Hid.mk hL1
  have HW1:=Hid.mk hW1
  have HD1:=Hid.mk hd1
  have HP1:=Hid.mk hp1
  have hN1:=hW1.trees HN0.out
  clear hL1 hW1 hd1 hp1 hA c4
  by_cases hlt:j<N
  ·obtain ⟨u,hu⟩:∃u,n.2[j]?=some u:=⟨_,List.getElem?_eq_getElem (by have:=HN.out;omega)⟩
   have HU:=Hid.mk hu
   have hm:=List.mem_of_getElem? hu
   obtain ⟨b,o,c',e,hcell⟩:=(HW1.out.rows HRW.out.1 HRW.out.2).at j (adr u) (by rw [List.getElem?_map,hu];rfl)
   rw [List.length_map,HN.out] at e
   injection e with e eN e2
   subst e e2
   clear eN hu
   have hNu:=hN1.2 u hm
   obtain ⟨d0,d1⟩:=hNu.ref
   have hput:=fun W=>isPut_any (ρ1 (adr u)).1 (ρ1 (adr u)).2 W
   by_cases hr:(ρ1 (adr u)).1=0
   ·have hd:decide ((ρ1 (adr u)).1≠0)=false:=by simpa using hr
    rw [hd] at hput
    have HC:Hid (∀w1,Kept [] wr w1→Calls Tryz.prog 84 #[Pp lb,Pp (adr u),.int .u8 3] w1 fun e w''=>∃er:Int,e=.returned (.int .i64 er)∧((er=0∧AtK g w0 T Z κ lb p q fr ct (fun b=>∃u∈n.2,b∈blks u) w ρ names s L fl n.2 adr (fun _=>True) (bl ρ) (j+1) w'')∨(er=9∧Laying g w0 T Z κ lb p q fr ct (fun b=>b∈blks n) (bl ρ n) w ρ names s L fl (fun ρ'=>(ρ' A).1≠0) 9 w''))):=Hid.mk fun w1 k1=>by
     have hroom:Room (bl ρ1 u) names1 s1 fl1:=by
      have h1:=tsum_succ (bl ρ) n.2 j u HU.out
      have h2:=tsum_le (bl ρ) n.2 (j+1)
      have h3:=(HR.out.less (B:=((n.2.take j).map (bl ρ)).sum+bl ρ u) (by rw [hbl.out];omega)).next HW1.out HD1.out
      exact h3.less (bl_ext HW1.out.ext u)
     refine (HK.out u hm w1 ρ1 names1 s1 L1 fl1 (HL1.out.kept k1) (hNu.kept k1 (by simp)) hr hroom).mono ?_
     rintro e w2 ⟨er,rfl,ρ2,names2,s2,L2,fl2,hL2,hW2,(⟨rfl,hd2,hp2⟩|⟨rfl,hd2⟩)⟩
     ·exact ⟨0,rfl,.inl ⟨rfl,AtK.next HW1.out HD1.out HP1.out HU.out (bl_ext HW1.out.ext u) k1 (fun b hb=>⟨u,hm,hb⟩) hL2 hW2 hd2 hp2⟩⟩
     ·exact ⟨9,rfl,.inr ⟨rfl,AtK.lost HW1.out HD1.out HU.out (bl_ext HW1.out.ext u) (by rw [hbl.out];omega) k1 (fun b hb=>List.mem_cons_of_mem _ (List.mem_flatMap.2 ⟨u,hm,hb⟩)) (fun b hb=>by obtain ⟨v,hv,hb⟩:=hb;exact List.mem_cons_of_mem _ (List.mem_flatMap.2 ⟨v,hv,hb⟩)) hL2 hW2 hd2⟩⟩
    clear hN1 hNu hm hr hd HU HL1 HW1 HD1 HP1
    generalize adr u=U at *
    generalize (ρ1 U).1=r1 at *
    generalize (ρ1 U).2=r2 at *
    go_wp2_with fail
    refine (hput _).mono ?_
    rintro e w1 ⟨rfl,k1⟩
    have hcall:=HC.out w1 k1
    clear hput HC d0 d1 hcell
    go_wp2_with fail
    refine hcall.mono ?_
    rintro e w2 ⟨er,rfl,(⟨rfl,hA2⟩|⟨rfl,hF⟩)⟩
    ·have HA2:=Hid.mk hA2
     clear hcall hA2
     go_wp2
     go_roundw
     case rel=>exact ⟨j+1,by go_num,by omega,HA2⟩
     case measure=>simp [intOf];omega
    ·have HF:=Hid.mk hF
     clear hcall hF
     go_wp2
     go_ret
     exact ⟨9,rfl,HF.out⟩
   ·have hd:decide ((ρ1 (adr u)).1≠0)=true:=by simpa using hr
    rw [hd] at hput
    have HS:Hid (∀w1,Kept [] wr w1→AtK g w0 T Z κ lb p q fr ct (fun b=>∃u∈n.2,b∈blks u) w ρ names s L fl n.2 adr (fun _=>True) (bl ρ) (j+1) w1):=Hid.mk fun w1 k1=>AtK.skip HL1.out HW1.out HD1.out HP1.out HU.out (fun _=>hr) k1
    clear hN1 hNu hm hr hd HU HL1 HW1 HD1 HP1
    generalize adr u=U at *
    generalize (ρ1 U).1=r1 at *
    generalize (ρ1 U).2=r2 at *
    go_wp2_with fail
    refine (hput _).mono ?_
    rintro e w1 ⟨rfl,k1⟩
    have HS1:=Hid.mk (HS.out w1 k1)
    clear hput HS d0 d1 hcell k1
    go_wp2
    go_roundw
    case rel=>exact ⟨j+1,by go_num,by omega,HS1⟩
    case measure=>simp [intOf];omega
  ·obtain rfl:j=N:=by omega
   obtain ⟨aI1,cI1,aU1,cU1,-,-,-,d3,-,-⟩:=hN1.isB.raw
   rw [show adr n=n.1 from rfl,HA.out,show (ia n).length=0 from rfl] at d3
   have hput0:Hid ((ρ1 A).1=0):=Hid.mk (by
    rw [←HA.out,HW1.out.only n.1 (fun hb=>by obtain ⟨u,hu,hb⟩:=hb;exact blks_below HN0.out hu hb)]
    exact H0.out)
   have HC:Hid (∀w1,Kept [] wr w1→Calls Tryz.prog 129 #[Pp A,.int .u8 (kd.toNat:Int)] w1 fun e w2=>∃v,e=.returned v∧Calls Tryz.prog 127 #[Pp lb,Pp A,v] w2 fun e w''=>∃er:Int,e=.returned (.int .i64 er)∧Laying g w0 T Z κ lb p q fr ct (fun b=>b∈blks n) (bl ρ n) w ρ names s L fl (fun ρ'=>(ρ' A).1≠0) er w''):=Hid.mk fun w1 k1=>by
    have hte:n.2.take j=n.2:=List.take_of_length_le (by have:=HN.out;omega)
    have hW1:=HW1.out
    have hp1:=HP1.out
    rw [hte] at hW1 hp1
    have hroom:Room 1 names1 s1 fl1:=(HR.out.less (B:=(n.2.map (bl ρ)).sum+1) (by rw [hbl.out];omega)).next hW1 HD1.out
    have hT:=HT.out w1 ρ1 names1 s1 L1 fl1 (HL1.out.kept k1) (hN1.kept k1 (by simp)) (fun u hu=>hp1 u hu trivial) (by rw [HA.out];exact hput0.out) hroom
    rw [HA.out] at hT
    refine hT.mono ?_
    rintro e w2 ⟨v,rfl,h2⟩
    refine ⟨v,rfl,h2.mono ?_⟩
    rintro e w3 ⟨er,rfl,ρ3,names3,s3,L3,fl3,hL3,hW3,h3⟩
    refine ⟨er,rfl,ρ3,names3,s3,L3,fl3,hL3,?_,h3⟩
    have h4:=(Went.same (B:=0) (C:=fun b=>b∈blks n) (T:=T) (Z:=Z) (ρ:=ρ1) (names:=names1) (s:=s1) (L:=L1) (fl:=fl1) k1).trans HD1.out (hW3.wide (C':=fun b=>b∈blks n) (fun b hb=>by rw [hb,←HA.out];exact blks_self n))
    rw [Nat.zero_add] at h4
    have h5:=(hW1.wide (C':=fun b=>b∈blks n) (fun b hb=>by obtain ⟨v,hv,hb⟩:=hb;exact List.mem_cons_of_mem _ (List.mem_flatMap.2 ⟨v,hv,hb⟩))).trans HD1.out h4
    rw [hbl.out]
    exact h5
   clear HL1 HW1 HD1 HP1 hN1 hput0
   go_wp2_with fail
   go_loopw [39] (fun i w'=>i=.int .i64 0∧wr=w') (fun _ _=>0)
   case atStart=>exact ⟨rfl,rfl⟩
   case round =>
    obtain ⟨rfl,rfl⟩:=hrel
    have hcall:=HC.out wr.drew ((Kept.refl [] wr).drew)
    clear HC d3
    go_wp2_with fail
    go_region_held3 (fun _=>True) (exact trivial) (first|(go_at_call 129;refine hcall.mono ?_;rintro e w5 ⟨v5,rfl,h5⟩)|(go_at_call 127;refine h5.mono ?_;rintro e w6 ⟨er,rfl,hQ⟩))
    all_goals
     have HQ:=Hid.mk hQ
     clear hcall h5 hQ
     go_wp2
     go_ret
     exact ⟨er,rfl,HQ.out⟩
theorem lnode_any:{k:Nat}→(n:Tr k)→{w:World}→{ρ:Rho}→{names:List Nat}→{s:St}→{L:List Ent}→{fl:List Nat}→Lay g w0 T Z κ lb p q fr ct w ρ names s L fl→IsN w T ρ n→k≤1000→Wf n→Sized (its n)→Room (bl ρ n) names s fl→(ρ (adr n)).1=0→(kd:UInt8)→(g→κ.kd (adr n)=kd∧Inner κ n) →
  Calls Tryz.prog 84 #[Pp lb,Pp (adr n),.int .u8 (kd.toNat:Int)] w fun e w'=>∃er:Int,e=.returned (.int .i64 er)∧Laying g w0 T Z κ lb p q fr ct (fun b=>b∈blks n) (bl ρ n) w ρ names s L fl (fun ρ'=>(ρ' (adr n)).1≠0) er w'
 | 0,n,w,ρ,names,s,L,fl,h,hN,hk,hW,hsz,hR,h0,kd,hkd =>
  node_lf h hN (by have h1:=len_le_sum n.2;have h2:(n.2.map isz).sum≤236:=hW.2;omega) (Hid.mk hsz) hR h0 kd (Hid.mk fun w' ρ' names' s' L' fl' hL hN' hK h0' hR'=>node_laid hL hN' (by omega) hW hsz hK kd (fun hg=>(hkd hg).1) h0' hR')
 | k+1,n,w,ρ,names,s,L,fl,h,hN,hk,hW,hsz,hR,h0,kd,hkd =>
  node_br h hN (by have:=hW.2.1;omega) hR h0 kd
   (Hid.mk fun u hu w' ρ' names' s' L' fl' hL hN' h0' hR'=>lnode_any u hL hN' (by omega) (hW.2.2.1 u hu) (fun i hi=>hsz i (List.mem_flatMap.2 ⟨u,hu,hi⟩)) hR' h0' 3 (fun hg=>(hkd hg).2 u hu))
   (Hid.mk fun w' ρ' names' s' L' fl' hL hN' hK h0' hR'=>node_laid hL hN' (by omega) hW hsz hK kd (fun hg=>(hkd hg).1) h0' hR')
end
end Go.Proofs.YtgpbhlfdlkemjaaGreat
