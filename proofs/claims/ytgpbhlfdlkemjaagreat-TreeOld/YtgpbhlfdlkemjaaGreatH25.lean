import Derived.Deep.RegionHeld3
import Derived.Test.YtgpbhlfdlkemjaaGreatH24
/-
 replace.
-/
namespace Go.Proofs.YtgpbhlfdlkemjaaGreat
open Go.RowKit
set_option linter.unusedVariables false
theorem Kept.uf {w w1 w2:World}{ub:Nat}{vl v1:Value} (k:Kept (uf ub vl) w w1) (k':Kept (uf ub v1) w1 w2) (hN:New w vl v1):Kept (uf ub vl) w w2:=k.trans k' fun b hb=>by
 rcases mem_uf.1 hb with h|h
 ·exact .inl (mem_uf.2 (.inl h))
 ·rcases hN b h with h1|h1
  ·exact .inl (mem_uf.2 (.inr h1))
  ·exact .inr h1
theorem nms_new0 {ρ:Rho}:∀{ns:List (Tr 0)},(∀m∈ns,pn ρ (adr m)=[])→ns.flatMap (nms ρ)=(ns.flatMap its).flatMap fun i=>pn ρ i.ad
 | [],_=>rfl
 | m::r,h=>by
  rw [List.flatMap_cons,List.flatMap_cons,List.flatMap_append,nms_new0 fun x hx=>h x (List.mem_cons_of_mem _ hx)]
  have:nms ρ m=(its m).flatMap fun i=>pn ρ i.ad:=by
   show (m.2.flatMap fun i=>pn ρ i.ad)++pn ρ m.1=_
   have h1:pn ρ m.1=[]:=h m (by simp)
   rw [h1,List.append_nil]
   rfl
  rw [this]
theorem nms_newS {ρ:Rho}{k:Nat}:∀{ns:List (Tr (k+1))},(∀m∈ns,pn ρ (adr m)=[])→ns.flatMap (nms ρ)=(ns.flatMap fun m=>m.2).flatMap (nms ρ)
 | [],_=>rfl
 | m::r,h=>by
  rw [List.flatMap_cons,List.flatMap_cons,List.flatMap_append,nms_newS fun x hx=>h x (List.mem_cons_of_mem _ hx)]
  have:nms ρ m=m.2.flatMap (nms ρ):=by
   show m.2.flatMap (nms ρ)++pn ρ m.1=_
   have h1:pn ρ m.1=[]:=h m (by simp)
   rw [h1,List.append_nil]
  rw [this]
section
variable {w:World}{F:Nat→Prop}{ρ:Rho}
theorem HoldsC.own_lt {a:Option Addr}{m c:Nat}{cs:List Chg} (h:HoldsC w (.slice a m c) cs) (hne:cs≠[]):∀g,(Value.slice a m c).ownBlock=some g→g<w.heap.size:=fun g hg=>by
 obtain ⟨g',hg',hlt'⟩:=ReadsR.lt h (CC_wide cs) (by omega) (by intro e;have:=congrArg List.length e;rw [CC_length] at this;exact hne (List.eq_nil_of_length_eq_zero this))
 have e2:g'=g:=Option.some.inj (hg'.symm.trans hg)
 omega
theorem leave_node {k:Nat}{n:Tr k} (hN:IsN w F ρ n) {ub:Nat}{vl:Value}{left:List Nat} (h:IsU w ub vl left) (hl:left.length≤900000):Calls Tryz.prog 118 #[Pp ub,.agg #[.int .i64 ((ρ (adr n)).1:Int),.int .u64 ((ρ (adr n)).2:Int)]] w fun e w'=>e=.returned (.tuple #[])∧∃vl',IsU w' ub vl' (left++pn ρ (adr n))∧Kept (uf ub vl) w w'∧New w vl vl':=leave_any h hl _ _
theorem rep_leaf (hB:Blank ρ w) {ub:Nat}{vl:Value}{left:List Nat} (hU:IsU w ub vl left) (hFu:∀x∈uf ub vl,¬F x) {n:Tr 0} (hN:IsN w F ρ n) (hUp:Up (its n)) (hSz:Sized (its n)) (cs:List Chg) (a:Option Addr) (m c:Nat) (hm:m=cs.length) (hC:HoldsC w (.slice a m c) cs) (hFc:∀g,(Value.slice a m c).ownBlock=some g→g∉uf ub vl) (hcs:ChsOk w F ρ cs) (hlen:(its n).length+m≤50000) (hll:left.length≤90000) :
  Calls Tryz.prog 121 #[Pp ub,Pp n.1,.slice a m c] w fun e w'=>∃v5,e=.returned v5∧Calls Tryz.prog 120 #[v5] w' fun e w6=>RepPost (k:=0) F ρ w ub vl left (its n) (n.2.flatMap fun i=>pn ρ i.ad) cs e w6:=by
 refine (items_any hU (Hid.mk hFu) hN hUp (by have:n.2.length+m≤50000:=hlen;omega) a m c cs (Hid.mk hm) hC (Hid.mk hFc) (by omega) hcs.up (Hid.mk fun x hx i e=>(hcs.item x hx i e).2.1) (by omega)).mono ?_
 rintro e w5 ⟨v,v5,d5,rfl,ho5,hf5,hU5,k5,hN5,hP5⟩
 refine ⟨v,rfl,?_⟩
 obtain ⟨a5,c5,rfl,-⟩:=ho5.form
 have hap:∀g,(Value.slice a5 ((mrg n.2 cs).map Itm.ad).length c5).ownBlock=some g→v5.ownBlock≠some g:=fun g hg e=>rows_apart ho5 hU5.own (by decide) e hg
 have hsz:=sized_mrg hcs hSz
 have hlm:=len_mrg n.2 cs
 have hFk:∀i,IsI w F ρ i→IsI w5 (Fw F w [v5]) ρ i:=fun i hi=>by
  have h1:IsI w5 (fun b=>F b∧b<w.heap.size) ρ i:=(hi.monoS (F':=fun b=>F b∧b<w.heap.size) fun b hb hf=>⟨hf,hb⟩).kept k5 fun b hb hf=>hFu b hb hf.1
  refine h1.mono fun b hb=>⟨.inl hb.1,fun u hu e=>?_⟩
  simp at hu
  subst hu
  rcases hN5 b e with h|h
  ·exact hFu b (mem_uf.2 (.inr h)) hb.1
  ·have:=hb.2;omega
 refine (leaves_any (w:=w5) (F:=Fw F w [v5]) (ρ:=ρ) (hB.kept k5) a5 _ c5 (mrg n.2 cs) (Hid.mk (by rw [List.length_map])) ho5.reads (Hid.mk fun g hg=>⟨⟨.inr (hf5 g hg),fun u hu=>?_⟩,ho5.lt hg⟩) (by rw [List.length_map];have:n.2.length+m≤50000:=hlen;omega) (Hid.mk fun i hi=>isz_le ⟨(hsz i hi).2.1,(hsz i hi).2.2⟩) (Hid.mk fun i hi=>⟨by have:=(hsz i hi).2.1;omega,by have:=(hsz i hi).2.2;omega⟩) (Hid.mk fun i hi=>hFk i ?_)).mono ?_
 ·simp at hu;subst hu;exact hap g hg
 ·rcases (mem_mrg cs n.2 hcs.up i).1 hi with ⟨x,hx,e⟩|⟨h1,_⟩
  ·exact (hcs.item x hx i e).1
  ·exact hN.2 i h1
 ·rintro e w6 ⟨v6,ns,rfl,ho6,hns,hwf,hflat,hnew,k6,hf6⟩
  refine ⟨v6,v5,d5,ns,rfl,ho6,fun g hg=>Nat.le_trans k5.size (hf6 g hg),hU5.kept k6 (by simp) (by simp),k5.trans k6 (by simp),hN5,fun x hx=>(hns x hx).mono fun b hb=>?_,hwf,hflat,?_⟩
  ·rcases hb with h|h
   ·exact h
   ·refine ⟨.inr (Nat.le_trans k5.size h),fun u hu e=>?_⟩
    simp at hu
    subst hu
    have:=hU5.own.lt e
    omega
  ·rw [nms_new0 fun x hx=>pn_blank (hB _ (Nat.le_trans k5.size (hnew x hx))),hflat]
   exact hP5
theorem rep_branch {k:Nat} (hk:k≤1000) (HR:RepAt k) (hB:Blank ρ w) {ub:Nat}{vl:Value}{left:List Nat} (hU:IsU w ub vl left) (hFu:∀x∈uf ub vl,¬F x) {n:Tr (k+1)} (hN:IsN w F ρ n) (hW:Wf n) (hUp:Up (its n)) (hSz:Sized (its n)) (cs:List Chg) (a:Option Addr) (m c:Nat) (hm:m=cs.length) (hC:HoldsC w (.slice a m c) cs) (hFc:∀g,(Value.slice a m c).ownBlock=some g→g∉uf ub vl) (hne:cs≠[]) (hcs:ChsOk w F ρ cs) (hlen:(its n).length+m≤50000) (hll:left.length+(n.2.flatMap (nms ρ)).length≤90000) :
  Calls Tryz.prog 119 #[Pp ub,Pp n.1,.slice a m c] w fun e w5=>∃v5,e=.returned v5∧w5.cell? ⟨n.1,2,none⟩=some (.int .i64 ((k:Int)+1))∧Calls Tryz.prog 80 #[Pp ub,v5] w5 fun e w6=>∃v6,e=.returned v6∧w6.cell? ⟨n.1,2,none⟩=some (.int .i64 ((k:Int)+1))∧Calls Tryz.prog 79 #[.int .i64 ((k:Int)+1),v6] w6 fun e w7=>∃v7,e=.returned v7∧w7.cell? ⟨n.1,2,none⟩=some (.int .i64 ((k:Int)+1))∧RepPost (k:=k+1) F ρ w ub vl left (its n) (n.2.flatMap (nms ρ)) cs (.returned v7) w7:=by
 have hlev:w.cell? ⟨n.1,2,none⟩=some (.int .i64 ((k:Int)+1)):=by
  have:=hN.level
  simpa [adr] using this
 have hn1:F n.1:=hN.inF
 have hubF:ub<w.heap.size∧¬F ub:=⟨hU.lt,hFu ub (mem_uf.2 (.inl rfl))⟩
 have hkl:∀W,Kept (uf ub vl) w W→W.cell? ⟨n.1,2,none⟩=some (.int .i64 ((k:Int)+1)):=fun W kW=>by
  rw [kW.cell (World.block_lt_of_cell? w _ hlev) (fun h=>hFu _ h hn1)]
  exact hlev
 refine (under_walk (Hid.mk HR) (Hid.mk hB) hU (Hid.mk hFu) n hN (Hid.mk hW) (Hid.mk hUp) (Hid.mk hSz) cs a m c (Hid.mk hm) hC (Hid.mk hFc) (Hid.mk (hC.own_lt hne)) (Hid.mk hcs) (Hid.mk hlen) (Hid.mk hll)).mono ?_
 rintro e w5 ⟨v5,vl5,d5,ns5,rfl,ho5,hf5,hU5,k5,hN5,hns5,hwf5,heq5,hP5⟩
 refine ⟨v5,rfl,hkl w5 k5,?_⟩
 obtain ⟨a5,c5,rfl,-⟩:=ho5.form
 have hl5:ns5.length≤50000:=by
  have h1:=wf_len hwf5
  rw [heq5] at h1
  have:=len_mrg (its n) cs
  omega
 have hub5:∀x∈uf ub vl5,¬Fw F w [vl5] x:=fun x hx hF=>by
  rcases mem_uf.1 hx with h|h
  ·subst h
   rcases hF.1 with h1|h1
   ·exact hubF.2 h1
   ·omega
  ·exact hF.2 vl5 (by simp) h
 refine (joined_any (w:=w5) (F:=Fw F w [vl5]) (ρ:=ρ) (by omega:k≤1000000) (hB.kept k5) hU5 hub5 ns5 hns5 hwf5 (by rw [heq5];exact sized_mrg hcs hSz) a5 _ c5 (by rw [List.length_map]) ho5.reads (fun g hg hm=>?_) (by rw [List.length_map];omega) ?_).mono ?_
 ·have h1:=hf5 g hg
  rcases mem_uf.1 hm with h|h
  ·omega
  ·exact rows_apart ho5 hU5.own (by decide) h hg
 ·have:=hP5.length_eq
  rw [List.length_append] at this
  rw [List.length_append]
  omega
 ·rintro e w6 ⟨v6,vl6,d6,ns6,rfl,ho6,hf6,hU6,k6,hN6,hns6,hJ,hP6⟩
  have k56:=k5.uf k6 hN5
  have hN56:New w vl vl6:=hN5.trans hN6 k5.size
  refine ⟨v6,rfl,hkl w6 k56,?_⟩
  obtain ⟨a6,c6,rfl,-⟩:=ho6.form
  have hIs:IsNs w6 (Fw F w [vl6]) ρ ns6:=fun x hx=>(hns6 x hx).mono fun b hb=>⟨by
   rcases hb.1 with h|h
   ·exact h.1
   ·exact .inr (Nat.le_trans k5.size h),fun u hu=>by simp at hu;subst hu;exact hb.2 _ (by simp)⟩
  have hro:∀g,(Value.slice a6 (ns6.map adr).length c6).ownBlock=some g→Fw F w [vl6] g∧g<w6.heap.size:=fun g hg=>⟨⟨.inr (Nat.le_trans k5.size (hf6 g hg)),fun u hu=>by simp at hu;subst hu;exact fun e=>rows_apart ho6 hU6.own (by decide) e hg⟩,ho6.lt hg⟩
  refine (branches_any (w:=w6) (F:=Fw F w [vl6]) (ρ:=ρ) (by omega:k≤100000) (hB.kept k56) a6 _ c6 ns6 (Hid.mk (by rw [List.length_map])) ho6.reads (Hid.mk hro) (by rw [List.length_map];have:=hJ.le;omega) (Hid.mk hJ.wf) (Hid.mk hJ.apart) (Hid.mk hIs)).mono ?_
  ·rintro e w7 ⟨v7,ns7,rfl,ho7,hns7,hwf7,⟨hfl7,hu7,_⟩,hnew7,k7,hf7⟩
   have k57:=k56.trans k7 (by simp)
   refine ⟨v7,rfl,hkl w7 k57,v7,vl6,d5++d6,ns7,rfl,ho7,fun g hg=>Nat.le_trans k56.size (hf7 g hg),?_,k57,hN56,fun x hx=>(hns7 x hx).mono fun b hb=>?_,hwf7,?_,?_⟩
   ·rw [←List.append_assoc]
    exact hU6.kept k7 (by simp) (by simp)
   ·rcases hb with h|h
    ·exact h
    ·refine ⟨.inr (Nat.le_trans k56.size h),fun u hu e=>?_⟩
     simp at hu
     subst hu
     have:=hU6.own.lt e
     omega
   ·rw [hfl7,hJ.flat,heq5]
   ·rw [nms_newS fun x hx=>pn_blank (hB _ (Nat.le_trans k56.size (hnew7 x hx))),hu7]
    have h1:=hP5.trans (hP6.append_right d5)
    refine h1.trans ?_
    rw [List.append_assoc]
    exact List.Perm.append_left _ List.perm_append_comm
end
section
variable {w:World}{F:Nat→Prop}{ρ:Rho}
set_option maxRecDepth 100000 in
set_option maxHeartbeats 1000000 in
theorem rep_none (w:World) (ub nb:Nat) (a:Option Addr) (c:Nat):Calls Tryz.prog 78 #[Pp ub,Pp nb,.slice a 0 c] w fun e w'=>∃v,e=.returned v∧OwnsP 77 w' v [nb]∧Fresh w v∧Kept [] w w':=by
 go_enter Tryz.func78,Tryz.ntmps78
 go_wp2
 go_ret
 refine ⟨.slice (some ⟨w.heap.size,0,none⟩) 1 1,rfl,⟨by simp [CP],.inr ⟨w.heap.size,1,#[Pp nb],by simp [CP],by simp,heap_alloc_new w _,by simp [CP],by decide,by simp,by simp [CP]⟩⟩,fun g hg=>?_,(Kept.refl [] w).alloc _⟩
 have e:w.heap.size=g:=by simpa [Value.ownBlock] using hg
 omega
set_option maxRecDepth 100000 in
set_option maxHeartbeats 4000000 in
theorem rep_leaf_walk {ub nb:Nat}{a:Option Addr}{m c:Nat} (hm:0<m) (hm2:m≤9223372036854775807) {r1 r2:Nat} (c0:w.cell? ⟨nb,0,none⟩=some (.int .i64 (r1:Int))) (c1:w.cell? ⟨nb,1,none⟩=some (.int .u64 (r2:Int))) {Q:Value→World→Prop}
  (h:Calls Tryz.prog 118 #[Pp ub,.agg #[.int .i64 (r1:Int),.int .u64 (r2:Int)]] w fun e w'=>e=.returned (.tuple #[])∧w'.cell? ⟨nb,2,none⟩=some (.int .i64 0)∧Calls Tryz.prog 121 #[Pp ub,Pp nb,.slice a m c] w' fun e w5=>∃v5,e=.returned v5∧Calls Tryz.prog 120 #[v5] w5 fun e w6=>∃v,e=.returned v∧Q v w6) :
  Calls Tryz.prog 78 #[Pp ub,Pp nb,.slice a m c] w fun e w'=>∃v,e=.returned v∧Q v w':=by
 go_enter Tryz.func78,Tryz.ntmps78
 go_wp2_with fail
 refine h.mono ?_
 rintro e w1 ⟨rfl,c2,h⟩
 clear c0 c1
 go_wp2_with fail
 refine h.mono ?_
 rintro e w5 ⟨v5,rfl,h⟩
 go_wp2_with fail
 refine h.mono ?_
 rintro e w6 ⟨v,rfl,hQ⟩
 go_wp2
 go_ret
 exact ⟨v,rfl,hQ⟩
set_option maxRecDepth 100000 in
set_option maxHeartbeats 4000000 in
theorem rep_branch_walk {ub nb:Nat}{a:Option Addr}{m c:Nat} (hm:0<m) (hm2:m≤9223372036854775807) {r1 r2 k:Nat} (hk:k≤1000) (c0:w.cell? ⟨nb,0,none⟩=some (.int .i64 (r1:Int))) (c1:w.cell? ⟨nb,1,none⟩=some (.int .u64 (r2:Int))) {Q:Value→World→Prop}
  (h:Calls Tryz.prog 118 #[Pp ub,.agg #[.int .i64 (r1:Int),.int .u64 (r2:Int)]] w fun e w'=>e=.returned (.tuple #[])∧w'.cell? ⟨nb,2,none⟩=some (.int .i64 ((k:Int)+1))∧Calls Tryz.prog 119 #[Pp ub,Pp nb,.slice a m c] w'.drew fun e w5=>∃v5,e=.returned v5∧w5.cell? ⟨nb,2,none⟩=some (.int .i64 ((k:Int)+1))∧Calls Tryz.prog 80 #[Pp ub,v5] w5 fun e w6=>∃v6,e=.returned v6∧w6.cell? ⟨nb,2,none⟩=some (.int .i64 ((k:Int)+1))∧Calls Tryz.prog 79 #[.int .i64 ((k:Int)+1),v6] w6 fun e w7=>∃v7,e=.returned v7∧w7.cell? ⟨nb,2,none⟩=some (.int .i64 ((k:Int)+1))∧Q v7 w7) :
  Calls Tryz.prog 78 #[Pp ub,Pp nb,.slice a m c] w fun e w'=>∃v,e=.returned v∧Q v w':=by
 go_enter Tryz.func78,Tryz.ntmps78
 go_wp2_with fail
 refine h.mono ?_
 rintro e w1 ⟨rfl,c2,h⟩
 clear c0 c1
 have S1:w1.drew.cell? ⟨nb,2,none⟩=some (.int .i64 ((k:Int)+1)):=c2
 go_wp2_with fail
 go_region_held3 (fun w'=>w'.cell? ⟨nb,2,none⟩=some (.int .i64 ((k:Int)+1))) (first|exact S1|exact S5|exact S6|exact S7) (first|(go_at_call 119;refine h.mono ?_;rintro e w5 ⟨v5,rfl,S5,h5⟩)|(go_at_call 80;refine h5.mono ?_;rintro e w6 ⟨v6,rfl,S6,h6⟩)|(go_at_call 79;refine h6.mono ?_;rintro e w7 ⟨v7,rfl,S7,hQ⟩))
 all_goals
  clear S1 S5 S6 S7 h h5 h6
  go_wp2
  go_ret
  exact ⟨v7,rfl,hQ⟩
end
theorem RepPost.nil {k:Nat}{F:Nat→Prop}{ρ:Rho}{w w':World}{ub:Nat}{vl v:Value}{left:List Nat}{n:Tr k} (hU:IsU w ub vl left) (hFu:∀x∈uf ub vl,¬F x) (hN:IsN w F ρ n) (hW:Wf n) (ho:OwnsP 77 w' v [adr n]) (hf:Fresh w v) (k':Kept [] w w'):RepPost (k:=k) F ρ w ub vl left (its n) (nms ρ n) [] (.returned v) w':=by
 refine ⟨v,vl,[],[n],rfl,ho,hf,by rw [List.append_nil];exact hU.kept k' (by simp) (by simp),(k'.mono (by simp)),New.refl _ _,fun x hx=>?_,fun x hx=>by simp at hx;subst hx;exact hW,by simp [mrg],by simp⟩
 simp at hx
 subst hx
 exact (hN.kept k' (by simp)).mono fun b hb=>⟨.inl hb,fun u hu e=>by simp at hu;subst hu;exact hFu b (mem_uf.2 (.inr e)) hb⟩
theorem rep_zero:RepAt 0:=by
 intro w F ρ ub vl left n cs a m c hB hU hFu hN hW hW2 hUp hSz hm hC hFc hcs hlen hll
 by_cases hne:cs=[]
 ·subst hne
  simp at hm
  subst hm
  refine (rep_none w ub (adr n) a c).mono ?_
  rintro e w' ⟨v,rfl,ho,hf,k'⟩
  exact RepPost.nil hU hFu hN (hW2 rfl) ho hf k'
 ·have hmp:0<m:=by rw [hm];exact List.length_pos_iff.2 hne
  obtain ⟨c0,c1⟩:=hN.ref
  have hnl:(nms ρ n).length=(n.2.flatMap fun i=>pn ρ i.ad).length+(pn ρ (adr n)).length:=by
   show ((n.2.flatMap fun i=>pn ρ i.ad)++pn ρ n.1).length=_
   rw [List.length_append]
   rfl
  have hlev:=hN.level
  refine (rep_leaf_walk (nb:=adr n) hmp (by omega) c0 c1 (Q:=fun v w'=>RepPost (k:=0) F ρ w ub vl left (its n) (nms ρ n) cs (.returned v) w') ((leave_node hN hU (by omega)).mono ?_)).mono ?_
  ·rintro e w1 ⟨rfl,vl1,hU1,k1,hN1⟩
   refine ⟨rfl,?_,?_⟩
   ·rw [k1.cell (World.block_lt_of_cell? w _ hlev) (fun h=>hFu _ h hN.inF)]
    simpa using hlev
   ·have hF1:∀x∈uf ub vl1,¬(F x∧x<w.heap.size):=fun x hx hF=>by
     rcases mem_uf.1 hx with h|h
     ·subst h;exact hFu _ (mem_uf.2 (.inl rfl)) hF.1
     ·rcases hN1 x h with h1|h1
      ·exact hFu _ (mem_uf.2 (.inr h1)) hF.1
      ·have:=hF.2;omega
    have hNn:IsN w1 (fun b=>F b∧b<w.heap.size) ρ n:=(hN.monoS (F':=fun b=>F b∧b<w.heap.size) fun b hb hf=>⟨hf,hb⟩).kept k1 fun b hb hf=>hFu b hb hf.1
    have hcs1:ChsOk w1 (fun b=>F b∧b<w.heap.size) ρ cs:=(hcs.monoS (F':=fun b=>F b∧b<w.heap.size) fun b hb hf=>⟨hf,hb⟩).kept k1 fun b hb hf=>hFu b hb hf.1
    refine (rep_leaf (hB.kept k1) hU1 hF1 hNn hUp hSz cs a m c hm (hC.kept k1 hFc) (fun g hg h=>?_) hcs1 hlen (by rw [List.length_append];omega)).mono ?_
    ·rcases mem_uf.1 h with h1|h1
     ·exact hFc g hg (mem_uf.2 (.inl h1))
     ·rcases hN1 g h1 with h2|h2
      ·exact hFc g hg (mem_uf.2 (.inr h2))
      ·have:=hC.own_lt hne g hg;omega
    ·rintro e w5 ⟨v5,rfl,h5⟩
     refine ⟨v5,rfl,h5.mono ?_⟩
     rintro e w6 ⟨v6,vl6,d6,ns,rfl,ho,hf,hU6,k6,hN6,hns,hwf,hfl,hP⟩
     refine ⟨v6,rfl,v6,vl6,pn ρ (adr n)++d6,ns,rfl,ho,fun g hg=>Nat.le_trans k1.size (hf g hg),by rw [←List.append_assoc];exact hU6,k1.uf k6 hN1,hN1.trans hN6 k1.size,fun x hx=>(hns x hx).mono fun b hb=>⟨?_,hb.2⟩,hwf,hfl,?_⟩
     ·show ((n.2.flatMap fun i=>pn ρ i.ad)++pn ρ n.1).Perm _
      refine (hP.append_right _).trans ?_
      rw [List.append_assoc]
      exact List.Perm.append_left _ List.perm_append_comm
     ·rcases hb.1 with h|h
      ·exact .inl h.1
      ·exact .inr (Nat.le_trans k1.size h)
  ·rintro e w' ⟨v,rfl,h⟩
   exact h
theorem rep_succ {k:Nat} (hk:k≤1000) (HR:RepAt k):RepAt (k+1):=by
 intro w F ρ ub vl left n cs a m c hB hU hFu hN hW hW2 hUp hSz hm hC hFc hcs hlen hll
 by_cases hne:cs=[]
 ·subst hne
  simp at hm
  subst hm
  refine (rep_none w ub (adr n) a c).mono ?_
  rintro e w' ⟨v,rfl,ho,hf,k'⟩
  exact RepPost.nil hU hFu hN (hW2 rfl) ho hf k'
 ·have hmp:0<m:=by rw [hm];exact List.length_pos_iff.2 hne
  obtain ⟨c0,c1⟩:=hN.ref
  have hnl:(nms ρ n).length=(n.2.flatMap (nms ρ)).length+(pn ρ (adr n)).length:=by
   show ((n.2.flatMap (nms ρ))++pn ρ n.1).length=_
   rw [List.length_append]
   rfl
  have hlev:=hN.level
  refine (rep_branch_walk (nb:=adr n) hmp (by omega) hk c0 c1 (Q:=fun v w'=>RepPost (k:=k+1) F ρ w ub vl left (its n) (nms ρ n) cs (.returned v) w') ((leave_node hN hU (by omega)).mono ?_)).mono ?_
  ·rintro e w1 ⟨rfl,vl1,hU1',k1',hN1⟩
   have k1:=k1'.drew
   have hU1:=hU1'.kept (Kept.refl [] w1).drew (by simp) (by simp)
   refine ⟨rfl,?_,?_⟩
   ·rw [k1'.cell (World.block_lt_of_cell? w _ hlev) (fun h=>hFu _ h hN.inF)]
    simpa using hlev
   ·have hF1:∀x∈uf ub vl1,¬(F x∧x<w.heap.size):=fun x hx hF=>by
     rcases mem_uf.1 hx with h|h
     ·subst h;exact hFu _ (mem_uf.2 (.inl rfl)) hF.1
     ·rcases hN1 x h with h1|h1
      ·exact hFu _ (mem_uf.2 (.inr h1)) hF.1
      ·have:=hF.2;omega
    have hNn:IsN w1.drew (fun b=>F b∧b<w.heap.size) ρ n:=(hN.monoS (F':=fun b=>F b∧b<w.heap.size) fun b hb hf=>⟨hf,hb⟩).kept k1 fun b hb hf=>hFu b hb hf.1
    have hcs1:ChsOk w1.drew (fun b=>F b∧b<w.heap.size) ρ cs:=(hcs.monoS (F':=fun b=>F b∧b<w.heap.size) fun b hb hf=>⟨hf,hb⟩).kept k1 fun b hb hf=>hFu b hb hf.1
    refine (rep_branch hk HR (hB.kept k1) hU1 hF1 hNn hW hUp hSz cs a m c hm (hC.kept k1 hFc) (fun g hg h=>?_) hne hcs1 hlen (by rw [List.length_append];omega)).mono ?_
    ·rcases mem_uf.1 h with h1|h1
     ·exact hFc g hg (mem_uf.2 (.inl h1))
     ·rcases hN1 g h1 with h2|h2
      ·exact hFc g hg (mem_uf.2 (.inr h2))
      ·have:=hC.own_lt hne g hg;omega
    ·rintro e w5 ⟨v5,rfl,s5,h5⟩
     refine ⟨v5,rfl,s5,h5.mono ?_⟩
     rintro e w6 ⟨v6,rfl,s6,h6⟩
     refine ⟨v6,rfl,s6,h6.mono ?_⟩
     rintro e w7 ⟨v7,rfl,s7,v8,vl6,d6,ns,e8,ho,hf,hU6,k6,hN6,hns,hwf,hfl,hP⟩
     injection e8 with e8
     subst e8
     refine ⟨v7,rfl,s7,v7,vl6,pn ρ (adr n)++d6,ns,rfl,ho,fun g hg=>Nat.le_trans k1.size (hf g hg),by rw [←List.append_assoc];exact hU6,k1.uf k6 hN1,hN1.trans hN6 k1.size,fun x hx=>(hns x hx).mono fun b hb=>⟨?_,hb.2⟩,hwf,hfl,?_⟩
     ·show (n.2.flatMap (nms ρ)++pn ρ n.1).Perm _
      refine (hP.append_right _).trans ?_
      rw [List.append_assoc]
      exact List.Perm.append_left _ List.perm_append_comm
     ·rcases hb.1 with h|h
      ·exact .inl h.1
      ·exact .inr (Nat.le_trans k1.size h)
  ·rintro e w' ⟨v,rfl,h⟩
   exact h
theorem rep_all:∀k,k≤1000→RepAt k
 | 0,_=>rep_zero
 | k+1,h=>rep_succ (by omega) (rep_all k (by omega))
theorem rebox {ρ:Rho}:{j:Nat}→(m:Tr j)→(zb:Nat)→ρ zb=(0,0)→∃r:Tr j,adr r=zb∧its r=its m∧(Wf m→Wf r)∧((ua m).length≠1→Top r)∧nms ρ m=nms ρ r++pn ρ (adr m)∧∀w F,IsN w F ρ m→IsB w F zb (ρ zb) j (ia m) (ua m)→IsN w F ρ r
 | 0,m,zb,hz=>⟨(zb,m.2),rfl,rfl,fun h=>h,fun _=>trivial,by
   show (m.2.flatMap fun i=>pn ρ i.ad)++pn ρ m.1=((m.2.flatMap fun i=>pn ρ i.ad)++pn ρ zb)++pn ρ m.1
   rw [pn_blank hz,List.append_nil],fun w F h hb=>⟨hb,h.2⟩⟩
 | j+1,m,zb,hz=>⟨(zb,m.2),rfl,rfl,fun h=>h,fun h=>by simpa [ua,Top] using h,by
   show m.2.flatMap (nms ρ)++pn ρ m.1=(m.2.flatMap (nms ρ)++pn ρ zb)++pn ρ m.1
   rw [pn_blank hz,List.append_nil],fun w F h hb=>⟨hb,h.2⟩⟩
theorem only {w:World}{F:Nat→Prop}{ρ:Rho}:{j:Nat}→(m:Tr j)→(ua m).length=1→IsN w F ρ m→Wf m→∃(i:Nat) (u:Tr i),j=i+1∧ua m=[adr u]∧IsN w F ρ u∧Wf u∧its m=its u∧nms ρ m=nms ρ u++pn ρ (adr m)
 | 0,m,h,_,_=>by simp [ua] at h
 | j+1,m,h,hN,hW=>by
  obtain ⟨u,hu⟩:∃u,m.2=[u]:=by
   have h1:m.2.length=1:=by simpa [ua] using h
   cases e:m.2 with
   | nil=>rw [e] at h1;simp at h1
   | cons u r=>cases r with
    | nil=>exact ⟨u,rfl⟩
    | cons _ _=>rw [e] at h1;simp at h1
  refine ⟨j,u,rfl,by simp [ua,hu],hN.2 u (by rw [hu];simp),hW.2.2.1 u (by rw [hu];simp),by rw [its_succ,hu];simp,?_⟩
  show m.2.flatMap (nms ρ)++pn ρ m.1=nms ρ u++pn ρ m.1
  rw [hu]
  simp
section
variable {w:World}{F:Nat→Prop}{ρ:Rho}
set_option maxRecDepth 100000 in
set_option maxHeartbeats 4000000 in
theorem asRoot_any (hB:Hid (Blank ρ w)) {ub:Nat}{vl:Value}{left:List Nat} (hU:IsU w ub vl left) (hFu:Hid (∀x∈uf ub vl,¬F x)) {k:Nat} (n:Tr k) (hN:Hid (IsN w F ρ n)) (hW:Hid (Wf n)) (hll:Hid (left.length+(nms ρ n).length≤90000)) :
  Calls Tryz.prog 81 #[Pp ub,Pp (adr n)] w fun e w'=>∃(vl':Value) (dl:List Nat) (j:Nat) (r:Tr j),e=.returned (Pp (adr r))∧IsU w' ub vl' (left++dl)∧Kept (uf ub vl) w w'∧New w vl vl'∧IsN w' (Fw F w [vl']) ρ r∧Wf r∧Top r∧its r=its n∧(nms ρ n).Perm (nms ρ r++dl)∧w.heap.size≤adr r:=by
 have hubF:Hid (ub<w.heap.size∧¬F ub):=Hid.mk ⟨hU.lt,hFu.out ub (mem_uf.2 (.inl rfl))⟩
 have hF0:Hid (IsN w (Fw F w [vl]) ρ n):=Hid.mk (hN.out.mono fun b hb=>⟨.inl hb,fun u hu e=>by simp at hu;subst hu;exact hFu.out b (mem_uf.2 (.inr e)) hb⟩)
 go_enter Tryz.func81,Tryz.ntmps81
 go_wp2_with fail
 go_loopw [1] (fun v wr=>∃(j:Nat) (m:Tr j) (vr:Value) (dl:List Nat),v=Pp (adr m)∧IsU wr ub vr (left++dl)∧Hid (IsN wr (Fw F w [vr]) ρ m)∧Hid (Wf m)∧Hid (its m=its n)∧Hid ((nms ρ n).Perm (nms ρ m++dl))∧Kept (uf ub vl) w wr∧New w vl vr) (fun v wr=>lvAt wr v)
 case atStart=>exact ⟨k,n,vl,[],rfl,by rw [List.append_nil];exact hU,hF0,hW,Hid.mk rfl,Hid.mk (by simp),Kept.refl _ w,New.refl w vl⟩
 case round =>
  obtain ⟨j,m,vr,dl,rfl,hUr,hM,hWm,him,hP,kk,hNr⟩:=hrel
  obtain ⟨aI,cI,aU,cU,c0,c1,c2,c3,c4,r3,r4,f3,f4⟩:=hM.out.isB.raw
  have hlv:=hM.out.level
  have hl1:(left++dl).length≤900000:=by
   have:=hP.out.length_eq
   have:=hll.out
   rw [List.length_append] at *
   omega
  have hlv2:=leave_node hM.out hUr hl1
  have hubr:Hid (∀x∈uf ub vr,¬Fw F w [vr] x):=Hid.mk fun x hx hF=>by
   rcases mem_uf.1 hx with h|h
   ·subst h
    rcases hF.1 with h1|h1
    ·exact hubF.out.2 h1
    ·have:=hubF.out.1;omega
   ·exact hF.2 vr (by simp) h
  have hFm:Hid (Fw F w [vr] (adr m)):=Hid.mk hM.out.inF
  have hmlt:Hid (adr m<wr.heap.size):=Hid.mk hM.out.lt
  have HC:Hid (∀W i,Kept (uf ub vr) wr W→W.cell? ⟨adr m,i,none⟩=wr.cell? ⟨adr m,i,none⟩):=Hid.mk fun W i kW=>kW.cell hmlt.out (fun h=>hubr.out _ h hFm.out)
  by_cases h1:(ua m).length=1
  ·obtain ⟨i,u,rfl,hua,hNu,hWu,hiu,hnu⟩:=only m h1 hM.out hWm.out
   rw [hua] at c4 r4
   obtain ⟨b,o,c,e4,hc⟩:=r4.at 0 (adr u) rfl
   injection e4 with e4 _ e44
   subst e4 e44
   have hbF:Hid (Fw F w [vr] b∧b<wr.heap.size):=Hid.mk ⟨f4 (by rw [hua];simp) b (by simp [Value.ownBlock]),World.block_lt_of_cell? wr _ hc⟩
   have HC4:Hid (∀W,Kept (uf ub vr) wr W→W.cell? ⟨adr m,4,none⟩=some (.slice (some ⟨b,o,none⟩) 1 cU)):=Hid.mk fun W kW=>by rw [HC.out W 4 kW];exact c4
   have HC5:Hid (∀W,Kept (uf ub vr) wr W→W.cell? ⟨b,o,none⟩=some (Pp (adr u))):=Hid.mk fun W kW=>by rw [kW.cell hbF.out.2 (fun h=>hubr.out _ h hbF.out.1)];exact hc
   have HREL:Hid (∀W vr',IsU W ub vr' (left++dl++pn ρ (adr m))→Kept (uf ub vr) wr W→New wr vr vr'→(∃(j:Nat) (m:Tr j) (vr:Value) (dl:List Nat),Pp (adr u)=Pp (adr m)∧IsU W ub vr (left++dl)∧Hid (IsN W (Fw F w [vr]) ρ m)∧Hid (Wf m)∧Hid (its m=its n)∧Hid ((nms ρ n).Perm (nms ρ m++dl))∧Kept (uf ub vl) w W∧New w vl vr)∧lvAt W (Pp (adr u))<lvAt wr (Pp (adr m))):=Hid.mk fun W vr' hU' kW hN'=>by
    have hNW:=hNu.stepU kW hN' hubF.out
    refine ⟨⟨i,u,vr',dl++pn ρ (adr m),rfl,by rw [←List.append_assoc];exact hU',Hid.mk hNW,Hid.mk hWu,Hid.mk (by rw [←hiu];exact him.out),Hid.mk ?_,kk.uf kW hNr,hNr.trans hN' kk.size⟩,by rw [lvAt_of hNW,lvAt_of hM.out];omega⟩
    refine hP.out.trans ?_
    rw [hnu,List.append_assoc]
    exact List.Perm.append_left _ List.perm_append_comm
   clear HC hua hNu hWu hiu hnu r3 r4 f3 f4 hc c2 c3 hlv h1
   generalize adr m=A at *
   generalize adr u=B at *
   clear hM hWm him hP kk hNr hUr
   go_wp2_with fail
   refine hlv2.mono ?_
   rintro e w1 ⟨rfl,vr',hU',k',hN'⟩
   have d4:=HC4.out w1 k'
   have d5:=HC5.out w1 k'
   have HR:=Hid.mk (HREL.out w1 vr' hU' k' hN')
   clear HC4 HC5 HREL hlv2 c0 c1 c4 hU' hN'
   go_wp2
   exact HR.out
  ·have HFIN:Hid (∀(w1 W:World) (vr':Value),IsU w1 ub vr' (left++dl++pn ρ (adr m))→Kept (uf ub vr) wr w1→New wr vr vr'→W=w1.drew.alloc (.cells #[.int .i64 0,.int .u64 0,.int .i64 (j:Int),.slice aI (ia m).length cI,.slice aU (ua m).length cU] 114)→∃(vl':Value) (dl:List Nat) (j:Nat) (r:Tr j),Ending.returned (Pp w1.heap.size)=.returned (Pp (adr r))∧IsU W ub vl' (left++dl)∧Kept (uf ub vl) w W∧New w vl vl'∧IsN W (Fw F w [vl']) ρ r∧Wf r∧Top r∧its r=its n∧(nms ρ n).Perm (nms ρ r++dl)∧w.heap.size≤adr r):=Hid.mk fun w1 W vr' hU' kW hN' eW=>by
    subst eW
    have kk1:=kk.uf kW hNr
    have hz:ρ w1.heap.size=(0,0):=hB.out _ kk1.size
    obtain ⟨r,ra,ri,rw',rt,rn,rN⟩:=rebox (ρ:=ρ) m w1.heap.size hz
    have ka:Kept [] w1 (w1.drew.alloc (.cells #[.int .i64 0,.int .u64 0,.int .i64 (j:Int),.slice aI (ia m).length cI,.slice aU (ua m).length cU] 114)):=(Kept.refl [] w1).drew.alloc _
    have hNW:=(hM.out.stepU kW hN' hubF.out).kept ka (by simp)
    have hkr:∀(v:Value) (l:List Nat),ReadsP wr v l→(l≠[]→∀g,v.ownBlock=some g→Fw F w [vr] g)→ReadsP (w1.drew.alloc (.cells #[.int .i64 0,.int .u64 0,.int .i64 (j:Int),.slice aI (ia m).length cI,.slice aU (ua m).length cU] 114)) v l:=fun v l hr hf=>(hr.keptE kW (fun hl g hg h=>hubr.out g h (hf hl g hg))).kept ka (by simp)
    have hFst:∀(v:Value) (l:List Nat),ReadsP wr v l→(l≠[]→∀g,v.ownBlock=some g→Fw F w [vr] g)→l≠[]→∀g,v.ownBlock=some g→Fw F w [vr'] g:=fun v l hr hf hl g hg=>by
     have h3:=hf hl g hg
     refine ⟨h3.1,fun u hu e=>?_⟩
     simp at hu
     subst hu
     rcases hN' g e with h4|h4
     ·exact h3.2 vr (by simp) h4
     ·have:=hr.lt hl hg;omega
    refine ⟨vr',dl++pn ρ (adr m),j,r,by rw [ra],by rw [←List.append_assoc];exact hU'.kept ka (by simp) (by simp),kk1.trans ka (by simp),hNr.trans hN' kk.size,rN _ _ hNW (IsB.new (w:=w1.drew) hz (Kept.refl [] _) (by simp) (hkr _ _ r3 f3) (hkr _ _ r4 f4) ⟨.inr kk1.size,fun u hu e=>?_⟩ (hFst _ _ r3 f3) (hFst _ _ r4 f4)),rw' hWm.out,rt h1,by rw [ri];exact him.out,?_,by rw [ra];exact kk1.size⟩
    ·simp at hu
     subst hu
     have h5:w1.heap.size<w1.heap.size:=hU'.own.lt e
     omega
    ·refine hP.out.trans ?_
     rw [rn,List.append_assoc]
     exact List.Perm.append_left _ List.perm_append_comm
   have HC2:Hid (∀W,Kept (uf ub vr) wr W→W.cell? ⟨adr m,2,none⟩=some (.int .i64 (j:Int))):=Hid.mk fun W kW=>by rw [HC.out W 2 kW];exact c2
   have HC3:Hid (∀W,Kept (uf ub vr) wr W→W.cell? ⟨adr m,3,none⟩=some (.slice aI (ia m).length cI)):=Hid.mk fun W kW=>by rw [HC.out W 3 kW];exact c3
   have HC4:Hid (∀W,Kept (uf ub vr) wr W→W.cell? ⟨adr m,4,none⟩=some (.slice aU (ua m).length cU)):=Hid.mk fun W kW=>by rw [HC.out W 4 kW];exact c4
   have h9:(ua m).length≤9223372036854775807:=by
    obtain ⟨_,_,e,h2,h3⟩:=r4.form
    injection e with _ _ e
    omega
   clear HC r3 r4 f3 f4 c2 c3 hlv hM hWm him hP kk hNr hUr
   generalize (ua m).length=N at *
   generalize (ia m).length=M at *
   generalize adr m=A at *
   go_wp2_with fail
   refine hlv2.mono ?_
   rintro e w1 ⟨rfl,vr',hU',k',hN'⟩
   have d2:=HC2.out w1 k'
   have d3:=HC3.out w1 k'
   have d4:=HC4.out w1 k'
   have HR:=Hid.mk (HFIN.out w1 _ vr' hU' k' hN' rfl)
   clear HC2 HC3 HC4 HFIN hlv2 c0 c1 c4 hU' hN'
   go_wp2_with fail
   go_region
   go_wp2
   go_ret
   exact HR.out
end
end Go.Proofs.YtgpbhlfdlkemjaaGreat
