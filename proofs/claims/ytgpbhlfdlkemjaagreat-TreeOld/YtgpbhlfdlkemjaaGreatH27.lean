import Derived.Test.YtgpbhlfdlkemjaaGreatH26
/-
 blocks: how many blocks the texts take that aren't put yet.
-/
namespace Go.Proofs.YtgpbhlfdlkemjaaGreat
open Go.RowKit
set_option linter.unusedVariables false
def ib (ρ:Rho) (i:Itm):Nat:=if lng i=true∧(ρ i.ad).1=0 then (i.val.length+237) / 238 else 0
def bl (ρ:Rho):{k:Nat}→Tr k→Nat
 | 0,n=>if (ρ n.1).1=0 then 1+(n.2.map (ib ρ)).sum else 0
 | k+1,n=>if (ρ n.1).1=0 then 1+(n.2.map (bl ρ (k:=k))).sum else 0
theorem tsum_le {α:Type} (f:α→Nat) (l:List α) (j:Nat):((l.take j).map f).sum≤(l.map f).sum:=by
 conv=>rhs;rw [←List.take_append_drop j l,List.map_append,List.sum_append]
 omega
theorem tsum_succ {α:Type} (f:α→Nat) (l:List α) (j:Nat) (x:α) (hx:l[j]?=some x):((l.take (j+1)).map f).sum=((l.take j).map f).sum+f x:=by
 rw [tsnoc hx,List.map_append,List.sum_append]
 simp
section
variable {w:World}{F:Nat→Prop}{ρ:Rho}
set_option maxRecDepth 100000 in
set_option maxHeartbeats 1000000 in
theorem blk_nil (w:World):Calls Tryz.prog 49 #[.pointer none] w fun e w'=>e=.returned (.int .i64 0)∧Kept [] w w':=by
 go_enter Tryz.func49,Tryz.ntmps49
 go_wp2
 go_ret
 exact ⟨rfl,Kept.refl [] w⟩
set_option maxRecDepth 100000 in
set_option maxHeartbeats 1000000 in
theorem blocks_put {nb nm sm:Nat} (c0:w.cell? ⟨nb,0,none⟩=some (.int .i64 (nm:Int))) (c1:w.cell? ⟨nb,1,none⟩=some (.int .u64 (sm:Int))) (h:nm≠0):Calls Tryz.prog 49 #[Pp nb] w fun e w'=>e=.returned (.int .i64 0)∧Kept [] w w':=by
 have hp:=fun W=>isPut_any nm sm W
 have hd:decide (nm≠0)=true:=by simpa using h
 rw [hd] at hp
 clear hd h
 go_enter Tryz.func49,Tryz.ntmps49
 go_wp2_with fail
 refine (hp _).mono ?_
 rintro e w1 ⟨rfl,k1⟩
 go_wp2
 go_ret
 exact ⟨rfl,k1⟩
set_option maxRecDepth 100000 in
set_option maxHeartbeats 4000000 in
theorem blocks_br {k:Nat}{n:Tr (k+1)} (hN:IsN w F ρ n) (hl:n.2.length≤100000) (h0:(ρ n.1).1=0) (hb:Hid (bl ρ n≤1000000)) (HR:Hid (∀u∈n.2,∀W,Kept [] w W→Calls Tryz.prog 49 #[Pp (adr u)] W fun e w'=>e=.returned (.int .i64 (bl ρ u:Int))∧Kept [] W w')):Calls Tryz.prog 49 #[Pp n.1] w fun e w'=>e=.returned (.int .i64 (bl ρ n:Int))∧Kept [] w w':=by
 obtain ⟨aI,cI,aU,cU,c0,c1,-,c3,c4,r3,r4,-⟩:=hN.isB.raw
 rw [show adr n=n.1 from rfl] at c0 c1 c3 c4
 have hp:=fun W=>isPut_any (ρ n.1).1 (ρ n.1).2 W
 have hd:decide ((ρ n.1).1≠0)=false:=by simpa using h0
 rw [hd] at hp
 have hbl:Hid (bl ρ n=1+(n.2.map (bl ρ)).sum):=Hid.mk (by show (if (ρ n.1).1=0 then _ else _)=_;rw [if_pos h0])
 have hui:(ia n).length=0:=rfl
 have huu:(ua n).length=n.2.length:=by show (n.2.map adr).length=_;rw [List.length_map]
 have hua:Hid (ua n=n.2.map adr):=Hid.mk rfl
 rw [hui] at c3
 rw [huu] at c4 r4
 rw [hua.out] at r4
 have hlt0:Hid (n.1<w.heap.size):=Hid.mk hN.lt
 have HK:Hid (∀W i,Kept [] w W→W.cell? ⟨n.1,i,none⟩=w.cell? ⟨n.1,i,none⟩):=Hid.mk fun W i kW=>kW.cell hlt0.out (by simp)
 have HK3:Hid (∀W,Kept [] w W→W.cell? ⟨n.1,3,none⟩=some (.slice aI 0 cI)):=Hid.mk fun W kW=>by rw [HK.out W 3 kW];exact c3
 have HK4:Hid (∀W,Kept [] w W→W.cell? ⟨n.1,4,none⟩=some (.slice aU n.2.length cU)):=Hid.mk fun W kW=>by rw [HK.out W 4 kW];exact c4
 have HRD:Hid (∀W,Kept [] w W→ReadsP W (.slice aU n.2.length cU) (n.2.map adr)):=Hid.mk fun W kW=>r4.kept kW (by simp)
 obtain ⟨S,hS⟩:∃S:Nat→Nat,Hid (∀j,S j=1+((n.2.take j).map (bl ρ)).sum):=⟨fun j=>1+((n.2.take j).map (bl ρ)).sum,Hid.mk fun _=>rfl⟩
 have HS0:Hid (S 0=1):=Hid.mk (by rw [hS.out];rfl)
 have HSb:Hid (∀j,S j≤1000000):=Hid.mk fun j=>by
  rw [hS.out]
  have h1:=tsum_le (bl ρ) n.2 j
  have h2:=hb.out
  rw [hbl.out] at h2
  omega
 have HSs:Hid (∀j x,n.2[j]?=some x→S (j+1)=S j+bl ρ x):=Hid.mk fun j x hx=>by rw [hS.out,hS.out,tsum_succ (bl ρ) n.2 j x hx];omega
 have HSe:Hid (S n.2.length=bl ρ n):=Hid.mk (by rw [hS.out,List.take_length,hbl.out])
 obtain ⟨N,HN⟩:∃N,Hid (n.2.length=N):=⟨_,rfl⟩
 rw [HN.out] at hl HK4 HRD HSe
 generalize (ρ n.1).1=r1 at *
 generalize (ρ n.1).2=r2 at *
 obtain ⟨A,HA⟩:∃A,Hid (n.1=A):=⟨_,rfl⟩
 rw [HA.out] at c0 c1 HK3 HK4 ⊢
 clear hN HK c3 c4 r3 r4 hui huu hua hd h0
 go_enter Tryz.func49,Tryz.ntmps49
 go_wp2_with fail
 refine (hp _).mono ?_
 rintro e w1 ⟨rfl,k1⟩
 have d4:=HK4.out w1 k1
 clear c0 c1 hp
 go_wp2_with fail
 go_loopw [3,22] (fun s i wr=>∃j:Nat,i=.int .i64 (j:Int)∧j≤N∧s=.int .i64 (S j:Int)∧Kept [] w wr) (fun _ i _=>N-(intOf i).toNat)
 case atStart=>exact ⟨0,rfl,by omega,by rw [HS0.out];rfl,k1⟩
 case round =>
  obtain ⟨j,rfl,hj,rfl,kk⟩:=hrel
  have hSj:=HSb.out j
  by_cases hlt:j<N
  ·obtain ⟨u,hu⟩:∃u,n.2[j]?=some u:=⟨_,List.getElem?_eq_getElem (by have:=HN.out;omega)⟩
   have hS1:S j+bl ρ u≤1000000:=by rw [←HSs.out j u hu];exact HSb.out _
   obtain ⟨b,o,c',e,hcell⟩:=(HRD.out wr kk).at j (adr u) (by rw [List.getElem?_map,hu];rfl)
   rw [List.length_map,HN.out] at e
   injection e with e eN e2
   subst e e2
   clear eN
   have hcall:=HR.out u (List.mem_of_getElem? hu) wr kk
   have HKW:Hid (∀W,Kept [] wr W→Kept [] w W):=Hid.mk fun W kW=>kk.trans kW (by simp)
   have HNx:=Hid.mk (HSs.out j u hu)
   clear hu
   generalize adr u=U at *
   generalize bl ρ u=B at *
   go_wp2_with fail
   refine hcall.mono ?_
   rintro e w2 ⟨rfl,k2⟩
   have HK2:=Hid.mk (HKW.out w2 k2)
   clear hcall HKW k2 d4
   go_wp2
   go_roundw
   case rel=>exact ⟨j+1,by go_num,by omega,by rw [HNx.out];go_num,HK2.out⟩
   case measure=>simp [intOf];omega
  ·obtain rfl:j=N:=by omega
   have d3:=HK3.out wr kk
   go_wp2_with fail
   go_loopw [3,36] (fun s i w'=>s=.int .i64 (S j:Int)∧i=.int .i64 0∧wr=w') (fun _ _ _=>0)
   case atStart=>exact ⟨rfl,rfl,rfl⟩
   case round =>
    obtain ⟨rfl,rfl,rfl⟩:=hrel
    go_wp2
    go_ret
    rw [←HSe.out]
    exact ⟨rfl,kk⟩
set_option maxRecDepth 100000 in
set_option maxHeartbeats 4000000 in
theorem blocks_lf {n:Tr 0} (hN:IsN w F ρ n) (hl:n.2.length≤100000) (hsz:Hid (Sized n.2)) (h0:(ρ n.1).1=0) (hb:Hid (bl ρ n≤1000000)):Calls Tryz.prog 49 #[Pp n.1] w fun e w'=>e=.returned (.int .i64 (bl ρ n:Int))∧Kept [] w w':=by
 obtain ⟨aI,cI,aU,cU,c0,c1,-,c3,c4,r3,r4,-⟩:=hN.isB.raw
 rw [show adr n=n.1 from rfl] at c0 c1 c3 c4
 have hp:=fun W=>isPut_any (ρ n.1).1 (ρ n.1).2 W
 have hd:decide ((ρ n.1).1≠0)=false:=by simpa using h0
 rw [hd] at hp
 have hbl:Hid (bl ρ n=1+(n.2.map (ib ρ)).sum):=Hid.mk (by show (if (ρ n.1).1=0 then _ else _)=_;rw [if_pos h0])
 have hui:(ua n).length=0:=rfl
 have huu:(ia n).length=n.2.length:=by show (n.2.map Itm.ad).length=_;rw [List.length_map]
 have hua:Hid (ia n=n.2.map Itm.ad):=Hid.mk rfl
 rw [hui] at c4
 rw [huu] at c3 r3
 rw [hua.out] at r3
 have hlt0:Hid (n.1<w.heap.size):=Hid.mk hN.lt
 have HI:=Hid.mk hN.2
 have HK:Hid (∀W i,Kept [] w W→W.cell? ⟨n.1,i,none⟩=w.cell? ⟨n.1,i,none⟩):=Hid.mk fun W i kW=>kW.cell hlt0.out (by simp)
 have HK3:Hid (∀W,Kept [] w W→W.cell? ⟨n.1,3,none⟩=some (.slice aI n.2.length cI)):=Hid.mk fun W kW=>by rw [HK.out W 3 kW];exact c3
 have HK4:Hid (∀W,Kept [] w W→W.cell? ⟨n.1,4,none⟩=some (.slice aU 0 cU)):=Hid.mk fun W kW=>by rw [HK.out W 4 kW];exact c4
 have HRD:Hid (∀W,Kept [] w W→ReadsP W (.slice aI n.2.length cI) (n.2.map Itm.ad)):=Hid.mk fun W kW=>r3.kept kW (by simp)
 obtain ⟨S,hS⟩:∃S:Nat→Nat,Hid (∀j,S j=1+((n.2.take j).map (ib ρ)).sum):=⟨fun j=>1+((n.2.take j).map (ib ρ)).sum,Hid.mk fun _=>rfl⟩
 have HS0:Hid (S 0=1):=Hid.mk (by rw [hS.out];rfl)
 have HSb:Hid (∀j,S j≤1000000):=Hid.mk fun j=>by
  rw [hS.out]
  have h1:=tsum_le (ib ρ) n.2 j
  have h2:=hb.out
  rw [hbl.out] at h2
  omega
 have HSs:Hid (∀j x,n.2[j]?=some x→S (j+1)=S j+ib ρ x):=Hid.mk fun j x hx=>by rw [hS.out,hS.out,tsum_succ (ib ρ) n.2 j x hx];omega
 have HSe:Hid (S n.2.length=bl ρ n):=Hid.mk (by rw [hS.out,List.take_length,hbl.out])
 obtain ⟨N,HN⟩:∃N,Hid (n.2.length=N):=⟨_,rfl⟩
 rw [HN.out] at hl HK3 HRD HSe
 generalize (ρ n.1).1=r1 at *
 generalize (ρ n.1).2=r2 at *
 obtain ⟨A,HA⟩:∃A,Hid (n.1=A):=⟨_,rfl⟩
 rw [HA.out] at c0 c1 HK3 HK4 ⊢
 clear hN HK c3 c4 r3 r4 hui huu hua hd h0
 go_enter Tryz.func49,Tryz.ntmps49
 go_wp2_with fail
 refine (hp _).mono ?_
 rintro e w1 ⟨rfl,k1⟩
 have d4:=HK4.out w1 k1
 clear c0 c1 hp
 go_wp2_with fail
 go_loopw [3,22] (fun s i w'=>s=.int .i64 1∧i=.int .i64 0∧w1=w') (fun _ _ _=>0)
 case atStart=>exact ⟨rfl,rfl,rfl⟩
 case round =>
  obtain ⟨rfl,rfl,rfl⟩:=hrel
  have d3:=HK3.out w1 k1
  clear d4
  go_wp2_with fail
  go_loopw [3,36] (fun s i wr=>∃j:Nat,i=.int .i64 (j:Int)∧j≤N∧s=.int .i64 (S j:Int)∧Kept [] w wr) (fun _ i _=>N-(intOf i).toNat)
  case atStart=>exact ⟨0,rfl,by omega,by rw [HS0.out];rfl,k1⟩
  case round =>
   obtain ⟨j,rfl,hj,rfl,kk⟩:=hrel
   have hSj:=HSb.out j
   by_cases hlt:j<N
   ·obtain ⟨x,hx⟩:∃x,n.2[j]?=some x:=⟨_,List.getElem?_eq_getElem (by have:=HN.out;omega)⟩
    obtain ⟨b,o,c',e,hcell⟩:=(HRD.out wr kk).at j x.ad (by rw [List.getElem?_map,hx];rfl)
    rw [List.length_map,HN.out] at e
    injection e with e eN e2
    subst e e2
    clear eN
    have hm:=List.mem_of_getElem? hx
    have hIx:=(HI.out x hm).kept kk (by simp)
    have hlong:=item_isLong hIx (by have:=(hsz.out x hm).2.1;omega) (by have:=(hsz.out x hm).2.2;omega)
    have hv:=(hsz.out x hm).2.2
    have HCL:Hid (∀W,Kept [] wr W→∃a c,W.cell? ⟨x.ad,0,none⟩=some (.int .i64 ((ρ x.ad).1:Int))∧W.cell? ⟨x.ad,1,none⟩=some (.int .u64 ((ρ x.ad).2:Int))∧W.cell? ⟨x.ad,3,none⟩=some (.slice a x.val.length c)):=Hid.mk fun W kW=>by
     obtain ⟨a,c,h1,h2,_,h4,_⟩:=(hIx.kept kW (by simp)).cells
     exact ⟨a,c,h1,h2,h4⟩
    have HKW:Hid (∀W,Kept [] wr W→Kept [] w W):=Hid.mk fun W kW=>kk.trans kW (by simp)
    have HNx:=Hid.mk (HSs.out j x hx)
    have hib:Hid (ib ρ x=if lng x=true∧(ρ x.ad).1=0 then (x.val.length+237) / 238 else 0):=Hid.mk rfl
    rw [hib.out] at HNx
    have hput:=fun W=>isPut_any (ρ x.ad).1 (ρ x.ad).2 W
    have hSb1:=HSb.out (j+1)
    clear hx hm hIx d3
    generalize x.ad=U at *
    generalize lng x=lg at *
    generalize (ρ U).1=r1' at *
    generalize (ρ U).2=r2' at *
    generalize x.val.length=vn at *
    cases lg with
    | false =>
     rw [if_neg (by simp)] at HNx
     go_wp2_with fail
     refine hlong.mono ?_
     rintro e w2 ⟨rfl,q,rfl⟩
     have HK2:=Hid.mk (HKW.out _ ((Kept.refl [] wr).drewN q))
     clear hlong HKW HCL
     go_wp2
     go_roundw
     case rel=>exact ⟨j+1,by go_num,by omega,by rw [HNx.out];rfl,HK2.out⟩
     case measure=>simp [intOf];omega
    | true =>
     by_cases hr:r1'=0
     ·subst hr
      rw [if_pos ⟨rfl,rfl⟩] at HNx
      rw [show decide ((0:Nat)≠0)=false from rfl] at hput
      have i1:IntKind.i64.wrap ((vn:Int)+238)=(vn:Int)+238:=by rw [IntKind.wrap_i64];omega
      have i2:IntKind.i64.wrap ((vn:Int)+238-1)=((vn+237:Nat):Int):=by rw [IntKind.wrap_i64];omega
      have i3:Int.tdiv ((vn+237:Nat):Int) 238=(((vn+237) / 238:Nat):Int):=by rw [Int.tdiv_eq_ediv_of_nonneg (by omega)];omega
      rw [HNx.out] at hSb1
      have i4:(vn+237) / 238≤100000:=by omega
      generalize (vn+237) / 238=Z at *
      generalize vn+237=Y at *
      go_wp2_with fail
      refine hlong.mono ?_
      rintro e w2 ⟨rfl,q,rfl⟩
      obtain ⟨a,c,d0,d1,d3⟩:=HCL.out _ ((Kept.refl [] wr).drewN q)
      clear hlong HCL
      go_wp2_with fail
      refine (hput _).mono ?_
      rintro e w2 ⟨rfl,k2⟩
      have HK2:=Hid.mk (HKW.out _ (((Kept.refl [] wr).drewN q).trans k2 (by simp)))
      have d3':w2.cell? ⟨U,3,none⟩=some (.slice a vn c):=by rw [k2.cell (World.block_lt_of_cell? _ _ d3) (by simp)];exact d3
      clear HKW k2 d0 d1 d3
      go_wp2
      go_roundw
      case rel=>exact ⟨j+1,by go_num,by omega,by rw [HNx.out];go_num,HK2.out⟩
      case measure=>simp [intOf];omega
     ·have hd:decide (r1'≠0)=true:=by simpa using hr
      rw [hd] at hput
      rw [if_neg (fun h=>hr h.2)] at HNx
      clear hd hr
      go_wp2_with fail
      refine hlong.mono ?_
      rintro e w2 ⟨rfl,q,rfl⟩
      obtain ⟨a,c,d0,d1,d3⟩:=HCL.out _ ((Kept.refl [] wr).drewN q)
      clear hlong HCL
      go_wp2_with fail
      refine (hput _).mono ?_
      rintro e w2 ⟨rfl,k2⟩
      have HK2:=Hid.mk (HKW.out _ (((Kept.refl [] wr).drewN q).trans k2 (by simp)))
      clear HKW k2
      go_wp2
      go_roundw
      case rel=>exact ⟨j+1,by go_num,by omega,by rw [HNx.out];rfl,HK2.out⟩
      case measure=>simp [intOf];omega
   ·obtain rfl:j=N:=by omega
    go_wp2
    go_ret
    rw [←HSe.out]
    exact ⟨rfl,kk⟩
theorem mem_sum_le {α:Type} (f:α→Nat) {l:List α}{x:α} (hx:x∈l):f x≤(l.map f).sum:=by
 obtain ⟨A,B,rfl⟩:=List.append_of_mem hx
 simp
 omega
theorem nblocks_any:{k:Nat}→(n:Tr k)→{w:World}→IsN w F ρ n→Wf n→Sized (its n)→bl ρ n≤1000000→Calls Tryz.prog 49 #[Pp (adr n)] w fun e w'=>e=.returned (.int .i64 (bl ρ n:Int))∧Kept [] w w'
 | 0,n,w,h,hw,hs,hb=>by
  by_cases h0:(ρ n.1).1=0
  ·exact blocks_lf h (by have h1:=len_le_sum n.2;have h2:(n.2.map isz).sum≤236:=hw.2;omega) (Hid.mk hs) h0 (Hid.mk hb)
  ·obtain ⟨c0,c1⟩:=h.ref
   have:bl ρ n=0:=by show (if (ρ n.1).1=0 then _ else _)=_;rw [if_neg h0]
   rw [this]
   exact blocks_put c0 c1 h0
 | k+1,n,w,h,hw,hs,hb=>by
  by_cases h0:(ρ n.1).1=0
  ·refine blocks_br h (by have:=hw.2.1;omega) h0 (Hid.mk hb) (Hid.mk fun u hu W kW=>nblocks_any u ((h.2 u hu).kept kW (by simp)) (hw.2.2.1 u hu) (fun i hi=>hs i (List.mem_flatMap.2 ⟨u,hu,hi⟩)) ?_)
   have h1:bl ρ n=1+(n.2.map (bl ρ)).sum:=by show (if (ρ n.1).1=0 then _ else _)=_;rw [if_pos h0]
   have:=mem_sum_le (bl ρ) hu
   omega
  ·obtain ⟨c0,c1⟩:=h.ref
   have:bl ρ n=0:=by show (if (ρ n.1).1=0 then _ else _)=_;rw [if_neg h0]
   rw [this]
   exact blocks_put c0 c1 h0
end
theorem append_lit {w:World}{v:Value}{l:List UInt8} (ho:Owns 5 w v l) (m:List UInt8) (arr:Array Value) (ha:arr=(C8 m).toArray) (n:Nat) (hn:m.length=n) (hb:l.length+n≤1000000) (ty:TypeId) :
  ∃ad c w',(Builtin.append_ #[48,48] ty #[v,.slice (some ⟨w.heap.size,0,none⟩) n n]).run Tryz.prog (w.alloc (.cells arr 5))=.ok (.slice ad (l.length+n) c) w'∧Owns 5 w' (.slice ad (l.length+n) c) (l++m)∧Kept v.ownBlock.toList w w'∧New w v (.slice ad (l.length+n) c):=by
 have k0:=(Kept.refl [] w).alloc (.cells arr 5)
 have hr:=(own_new w m arr ha n hn (by unfold maxLen;omega)).reads
 obtain ⟨ad,n',c,w',hrun,h2,h3,h4⟩:=run_append_reads (w.alloc (.cells arr 5)) ty v l (ho.kept k0 (by simp)) _ m hr (by omega)
 obtain ⟨a',c',e⟩:=h2.form
 injection e with _ e _
 rw [List.length_append,hn] at e
 subst e
 refine ⟨ad,c,w',hrun,h2,(k0.mono (by simp)).grown h3 (fun x hx=>.inl (by rw [Option.mem_toList];exact hx)),fun g hg=>?_⟩
 rcases h4 g hg with h|h
 ·exact .inl h
 ·exact .inr (Nat.le_trans k0.size h)
def by8 (x i:Nat):UInt8:=UInt8.ofNat (x / 2 ^ (8*i))
def encRef (r:Nat × Nat):List UInt8:=[by8 r.1 1,by8 r.1 0]++[by8 r.2 7,by8 r.2 6,by8 r.2 5,by8 r.2 4,by8 r.2 3,by8 r.2 2,by8 r.2 1,by8 r.2 0]
theorem encRef_length (r:Nat × Nat):(encRef r).length=10:=rfl
def AtR (w:World) (v:Value) (B sm:Nat) (x:List UInt8) (wr:World) (u:Value):Prop:=Owns 5 wr u x∧Kept v.ownBlock.toList w wr∧New w v u∧wr.cell? ⟨B,1,none⟩=some (.int .u64 (sm:Int))∧u.ownBlock≠some B
theorem nextR {w wr w2:World}{v u u2:Value}{sm:Nat}{x y:List UInt8} (h:AtR w v w.heap.size sm x wr u) (hd:wr.cell? ⟨w.heap.size,1,none⟩=some (.int .u64 (sm:Int))) (ho:Owns 5 w2 u2 y) (k:Kept u.ownBlock.toList wr w2) (hN:New wr u u2):AtR w v w.heap.size sm y w2 u2:=by
 obtain ⟨h1,h2,h3,h4,h5⟩:=h
 refine ⟨ho,h2.trans k (fun b hb=>?_),h3.trans hN h2.size,?_,fun e=>?_⟩
 ·rcases h3 b (by simpa using hb) with h|h
  ·exact .inl (by simpa using h)
  ·exact .inr h
 ·rw [k.cell (p:=⟨w.heap.size,1,none⟩) (World.block_lt_of_cell? wr _ hd) (fun h=>h5 (by simpa using h))]
  exact hd
 ·rcases hN _ e with h|h
  ·exact h5 h
  ·have:w.heap.size<wr.heap.size:=World.block_lt_of_cell? wr _ hd
   omega
section
variable {w:World}
set_option maxRecDepth 100000 in
set_option maxHeartbeats 4000000 in
theorem appendRef_any {v:Value}{l:List UInt8} (ho:Owns 5 w v l) (hl:l.length≤900000) (nm sm:Nat) (hnm:nm≤1000000) (hsm:sm<18446744073709551616):Calls Tryz.prog 153 #[v,.agg #[.int .i64 (nm:Int),.int .u64 (sm:Int)]] w fun e w'=>∃v',e=.returned v'∧Owns 5 w' v' (l++encRef (nm,sm))∧Kept v.ownBlock.toList w w'∧New w v v':=by
 obtain ⟨W0,HW0⟩:∃W0,Hid (W0=w.alloc (.cells #[.int .i64 (nm:Int),.int .u64 (sm:Int)] 102)):=⟨_,rfl⟩
 have k0:Kept [] w W0:=by rw [HW0.out];exact (Kept.refl [] w).alloc _
 have hsz:W0.heap.size=w.heap.size+1:=by rw [HW0.out];exact Array.size_push _
 have hh:W0.heap[w.heap.size]?=some (.cells #[.int .i64 (nm:Int),.int .u64 (sm:Int)] 102 (0,0)):=by rw [HW0.out];exact heap_alloc_new w _
 have hc1:W0.cell? ⟨w.heap.size,1,none⟩=some (.int .u64 (sm:Int)):=by simp only [World.cell?,hh];rfl
 obtain ⟨a1,c1,w1,hrun1,ho1,k1,hN1⟩:=append_lit (ho.kept k0 (by simp)) [by8 nm 1,by8 nm 0] #[.int .u8 ((nm:Int) / 256%256),.int .u8 ((nm:Int)%256)] (by simp [C8,B8,by8]) 2 rfl (by omega) 48
 rw [hsz,HW0.out] at hrun1
 have hvb:∀g,v.ownBlock=some g→g<w.heap.size:=fun g hg=>ho.lt hg
 have hd1:w1.cell? ⟨w.heap.size,1,none⟩=some (.int .u64 (sm:Int)):=by
  rw [k1.cell (p:=⟨w.heap.size,1,none⟩) (by rw [hsz];exact Nat.lt_succ_self _) (fun h=>by have:=hvb _ (by simpa using h);omega)];exact hc1
 have HS1:Hid (Owns 5 w1 (.slice a1 (l.length+2) c1) (l++[by8 nm 1,by8 nm 0])∧Kept v.ownBlock.toList w w1∧New w v (.slice a1 (l.length+2) c1)):=Hid.mk ⟨ho1,(k0.mono (by simp)).trans k1 (fun b hb=>.inl hb),fun g hg=>by
  rcases hN1 g hg with h|h
  ·exact .inl h
  ·exact .inr (Nat.le_trans k0.size h)⟩
 have HB:Hid ((Value.slice a1 (l.length+2) c1).ownBlock≠some w.heap.size):=Hid.mk fun e=>by
  rcases hN1 _ e with h|h
  ·have:=hvb _ h;omega
  ·rw [hsz] at h;omega
 have hll:=hl
 have HL:Hid (∀j,j≤8→((encRef (nm,sm)).take (2+j)).length=2+j):=Hid.mk fun j hj=>by rw [List.length_take,encRef_length];omega
 generalize l.length+2=n1 at *
 clear ho1 k1 hN1 hh hc1 k0 hsz hvb
 go_enter Tryz.func153,Tryz.ntmps153
 go_wp2_with (at_builtin;refine wpList_append_run 48 _ _ rfl rfl _ _ rfl rfl _ _ hrun1 ?_)
 go_loopw [0,5] (fun u i wr=>∃j:Nat,i=.int .i64 (7-(j:Int))∧j≤8∧AtR w v w.heap.size sm (l++(encRef (nm,sm)).take (2+j)) wr u) (fun _ i _=>(1+intOf i).toNat)
 case atStart=>exact ⟨0,rfl,by omega,HS1.out.1,HS1.out.2.1,HS1.out.2.2,hd1,HB.out⟩
 case round =>
  obtain ⟨j,rfl,hj,hA⟩:=hrel
  have HC:=Hid.mk hA
  obtain ⟨hO,-,-,hd,-⟩:=hA
  clear hd1
  by_cases hlt:j<8
  ·obtain rfl|rfl|rfl|rfl|rfl|rfl|rfl|rfl:j=0∨j=1∨j=2∨j=3∨j=4∨j=5∨j=6∨j=7:=by omega
   ·have hz:(sm:Int) / 72057594037927936=((by8 sm 7).toNat:Int):=by simp [by8];omega
    have HE:Hid ((encRef (nm,sm)).take (2+0)++[by8 sm 7]=(encRef (nm,sm)).take (2+1)):=Hid.mk rfl
    obtain ⟨a2,c2,w2,hrun2,ho2,k2,hN2⟩:=append_lit hO [by8 sm 7] #[.int .u8 ((by8 sm 7).toNat:Int)] rfl 1 rfl (by rw [List.length_append,HL.out _ (by omega)];omega) 48
    rw [List.append_assoc,HE.out] at ho2
    have HD:=Hid.mk (nextR HC.out hd ho2 k2 hN2)
    generalize ((by8 sm 7).toNat:Int)=z at hz hrun2
    clear ho2 k2 hN2 hO HE
    generalize (l++(encRef (nm,sm)).take (2+0)).length+1=n2 at *
    go_wp2_with (at_builtin;refine wpList_append_run 48 _ _ rfl rfl _ _ rfl rfl _ _ hrun2 ?_)
    go_roundw
    case rel=>exact ⟨1,by go_num,by omega,HD.out⟩
    case measure=>simp [intOf]
   ·have hz:(sm:Int) / 281474976710656%256=((by8 sm 6).toNat:Int):=by simp [by8]
    have HE:Hid ((encRef (nm,sm)).take (2+1)++[by8 sm 6]=(encRef (nm,sm)).take (2+2)):=Hid.mk rfl
    obtain ⟨a2,c2,w2,hrun2,ho2,k2,hN2⟩:=append_lit hO [by8 sm 6] #[.int .u8 ((by8 sm 6).toNat:Int)] rfl 1 rfl (by rw [List.length_append,HL.out _ (by omega)];omega) 48
    rw [List.append_assoc,HE.out] at ho2
    have HD:=Hid.mk (nextR HC.out hd ho2 k2 hN2)
    generalize ((by8 sm 6).toNat:Int)=z at hz hrun2
    clear ho2 k2 hN2 hO HE
    generalize (l++(encRef (nm,sm)).take (2+1)).length+1=n2 at *
    go_wp2_with (at_builtin;refine wpList_append_run 48 _ _ rfl rfl _ _ rfl rfl _ _ hrun2 ?_)
    go_roundw
    case rel=>exact ⟨2,by go_num,by omega,HD.out⟩
    case measure=>simp [intOf]
   ·have hz:(sm:Int) / 1099511627776%256=((by8 sm 5).toNat:Int):=by simp [by8]
    have HE:Hid ((encRef (nm,sm)).take (2+2)++[by8 sm 5]=(encRef (nm,sm)).take (2+3)):=Hid.mk rfl
    obtain ⟨a2,c2,w2,hrun2,ho2,k2,hN2⟩:=append_lit hO [by8 sm 5] #[.int .u8 ((by8 sm 5).toNat:Int)] rfl 1 rfl (by rw [List.length_append,HL.out _ (by omega)];omega) 48
    rw [List.append_assoc,HE.out] at ho2
    have HD:=Hid.mk (nextR HC.out hd ho2 k2 hN2)
    generalize ((by8 sm 5).toNat:Int)=z at hz hrun2
    clear ho2 k2 hN2 hO HE
    generalize (l++(encRef (nm,sm)).take (2+2)).length+1=n2 at *
    go_wp2_with (at_builtin;refine wpList_append_run 48 _ _ rfl rfl _ _ rfl rfl _ _ hrun2 ?_)
    go_roundw
    case rel=>exact ⟨3,by go_num,by omega,HD.out⟩
    case measure=>simp [intOf]
   ·have hz:(sm:Int) / 4294967296%256=((by8 sm 4).toNat:Int):=by simp [by8]
    have HE:Hid ((encRef (nm,sm)).take (2+3)++[by8 sm 4]=(encRef (nm,sm)).take (2+4)):=Hid.mk rfl
    obtain ⟨a2,c2,w2,hrun2,ho2,k2,hN2⟩:=append_lit hO [by8 sm 4] #[.int .u8 ((by8 sm 4).toNat:Int)] rfl 1 rfl (by rw [List.length_append,HL.out _ (by omega)];omega) 48
    rw [List.append_assoc,HE.out] at ho2
    have HD:=Hid.mk (nextR HC.out hd ho2 k2 hN2)
    generalize ((by8 sm 4).toNat:Int)=z at hz hrun2
    clear ho2 k2 hN2 hO HE
    generalize (l++(encRef (nm,sm)).take (2+3)).length+1=n2 at *
    go_wp2_with (at_builtin;refine wpList_append_run 48 _ _ rfl rfl _ _ rfl rfl _ _ hrun2 ?_)
    go_roundw
    case rel=>exact ⟨4,by go_num,by omega,HD.out⟩
    case measure=>simp [intOf]
   ·have hz:(sm:Int) / 16777216%256=((by8 sm 3).toNat:Int):=by simp [by8]
    have HE:Hid ((encRef (nm,sm)).take (2+4)++[by8 sm 3]=(encRef (nm,sm)).take (2+5)):=Hid.mk rfl
    obtain ⟨a2,c2,w2,hrun2,ho2,k2,hN2⟩:=append_lit hO [by8 sm 3] #[.int .u8 ((by8 sm 3).toNat:Int)] rfl 1 rfl (by rw [List.length_append,HL.out _ (by omega)];omega) 48
    rw [List.append_assoc,HE.out] at ho2
    have HD:=Hid.mk (nextR HC.out hd ho2 k2 hN2)
    generalize ((by8 sm 3).toNat:Int)=z at hz hrun2
    clear ho2 k2 hN2 hO HE
    generalize (l++(encRef (nm,sm)).take (2+4)).length+1=n2 at *
    go_wp2_with (at_builtin;refine wpList_append_run 48 _ _ rfl rfl _ _ rfl rfl _ _ hrun2 ?_)
    go_roundw
    case rel=>exact ⟨5,by go_num,by omega,HD.out⟩
    case measure=>simp [intOf]
   ·have hz:(sm:Int) / 65536%256=((by8 sm 2).toNat:Int):=by simp [by8]
    have HE:Hid ((encRef (nm,sm)).take (2+5)++[by8 sm 2]=(encRef (nm,sm)).take (2+6)):=Hid.mk rfl
    obtain ⟨a2,c2,w2,hrun2,ho2,k2,hN2⟩:=append_lit hO [by8 sm 2] #[.int .u8 ((by8 sm 2).toNat:Int)] rfl 1 rfl (by rw [List.length_append,HL.out _ (by omega)];omega) 48
    rw [List.append_assoc,HE.out] at ho2
    have HD:=Hid.mk (nextR HC.out hd ho2 k2 hN2)
    generalize ((by8 sm 2).toNat:Int)=z at hz hrun2
    clear ho2 k2 hN2 hO HE
    generalize (l++(encRef (nm,sm)).take (2+5)).length+1=n2 at *
    go_wp2_with (at_builtin;refine wpList_append_run 48 _ _ rfl rfl _ _ rfl rfl _ _ hrun2 ?_)
    go_roundw
    case rel=>exact ⟨6,by go_num,by omega,HD.out⟩
    case measure=>simp [intOf]
   ·have hz:(sm:Int) / 256%256=((by8 sm 1).toNat:Int):=by simp [by8]
    have HE:Hid ((encRef (nm,sm)).take (2+6)++[by8 sm 1]=(encRef (nm,sm)).take (2+7)):=Hid.mk rfl
    obtain ⟨a2,c2,w2,hrun2,ho2,k2,hN2⟩:=append_lit hO [by8 sm 1] #[.int .u8 ((by8 sm 1).toNat:Int)] rfl 1 rfl (by rw [List.length_append,HL.out _ (by omega)];omega) 48
    rw [List.append_assoc,HE.out] at ho2
    have HD:=Hid.mk (nextR HC.out hd ho2 k2 hN2)
    generalize ((by8 sm 1).toNat:Int)=z at hz hrun2
    clear ho2 k2 hN2 hO HE
    generalize (l++(encRef (nm,sm)).take (2+6)).length+1=n2 at *
    go_wp2_with (at_builtin;refine wpList_append_run 48 _ _ rfl rfl _ _ rfl rfl _ _ hrun2 ?_)
    go_roundw
    case rel=>exact ⟨7,by go_num,by omega,HD.out⟩
    case measure=>simp [intOf]
   ·have hz:(sm:Int)%256=((by8 sm 0).toNat:Int):=by simp [by8]
    have HE:Hid ((encRef (nm,sm)).take (2+7)++[by8 sm 0]=(encRef (nm,sm)).take (2+8)):=Hid.mk rfl
    obtain ⟨a2,c2,w2,hrun2,ho2,k2,hN2⟩:=append_lit hO [by8 sm 0] #[.int .u8 ((by8 sm 0).toNat:Int)] rfl 1 rfl (by rw [List.length_append,HL.out _ (by omega)];omega) 48
    rw [List.append_assoc,HE.out] at ho2
    have HD:=Hid.mk (nextR HC.out hd ho2 k2 hN2)
    generalize ((by8 sm 0).toNat:Int)=z at hz hrun2
    clear ho2 k2 hN2 hO HE
    generalize (l++(encRef (nm,sm)).take (2+7)).length+1=n2 at *
    go_wp2_with (at_builtin;refine wpList_append_run 48 _ _ rfl rfl _ _ rfl rfl _ _ hrun2 ?_)
    go_roundw
    case rel=>exact ⟨8,by go_num,by omega,HD.out⟩
    case measure=>simp [intOf]
  ·obtain rfl:j=8:=by omega
   clear hO hd
   go_wp2
   go_ret
   exact ⟨_,rfl,HC.out.1,HC.out.2.1,HC.out.2.2.1⟩
end
end Go.Proofs.YtgpbhlfdlkemjaaGreat
