import Derived.Test.YtgpbhlfdlkemjaaGreatH14
import Derived.Test.YtgpbhlfdlkemjaaGreatH37
/-
 goFrom: the items from a key on, one behind the other.
-/
namespace Go.Proofs.YtgpbhlfdlkemjaaGreat
open Go.RowKit
set_option linter.unusedVariables false
attribute [local go_sem] Oper.semAt_some
def fromI (key:List UInt8) (l:List Itm):List Itm:=l.filter fun i=>!decide (i.key<key)
theorem fromI_flat {α:Type} (key:List UInt8) (f:α→List Itm):∀l:List α,fromI key (l.flatMap f)=l.flatMap fun x=>fromI key (f x)
 | []=>rfl
 | a::l=>by
  have:=fromI_flat key f l
  unfold fromI at this ⊢
  rw [List.flatMap_cons,List.filter_append,List.flatMap_cons,this]
theorem fromI_drop {l:List Itm} (hu:Up l) (key:List UInt8):fromI key l=l.drop (kpl (l.map Itm.key) key):=by
 have hp:=place_kpl key (List.pairwise_map.2 hu:(l.map Itm.key).Pairwise (·<·))
 generalize kpl (l.map Itm.key) key=p at hp
 unfold fromI
 conv=>lhs;rw [←List.take_append_drop p l,List.filter_append]
 rw [filter_none (A:=l.take p) fun i hi=>?_,filter_all (A:=l.drop p) fun i hi=>?_,List.nil_append]
 ·obtain ⟨q,hq⟩:=List.getElem?_of_mem hi
  rw [List.getElem?_drop] at hq
  have:=(hp.2 (p+q) i.key (by rw [List.getElem?_map,hq];rfl))
  have h2:¬i.key<key:=fun h=>by have:=this.1 h;omega
  simpa using h2
 ·obtain ⟨q,hq⟩:=List.getElem?_of_mem hi
  rw [List.getElem?_take] at hq
  split at hq
  ·have:=(hp.2 q i.key (by rw [List.getElem?_map,hq];rfl)).2 (by assumption)
   simpa using this
  ·cases hq
theorem fromI_drop_kids {k:Nat}{l:List (Tr k)} (hw:∀u∈l,Wf u) (hu:Up (l.flatMap its)) (hl:l≠[]) (key:List UInt8):fromI key (l.flatMap its)=(l.drop (uIdx (fks l) key)).flatMap fun u=>fromI key (its u):=by
 obtain ⟨h1,h2,h3⟩:=uIdx_parts hw hu hl key
 rw [fromI_flat]
 conv=>lhs;rw [←List.take_append_drop (uIdx (fks l) key) l,List.flatMap_append]
 have:(l.take (uIdx (fks l) key)).flatMap (fun u=>fromI key (its u))=[]:=by
  rw [List.flatMap_eq_nil_iff]
  intro u hu'
  obtain ⟨q,hq⟩:=List.getElem?_of_mem hu'
  rw [List.getElem?_take] at hq
  split at hq
  ·exact filter_none fun i hi=>by simpa using h2 q u hq (by assumption) i hi
  ·cases hq
 rw [this,List.nil_append]
theorem belowS_kept {n₀:Nat}{W W':World} (h:Below n₀ W W'):Kept (List.range' n₀ (W.heap.size-n₀)) W W' :=
 ⟨h.os,h.tape,h.output,h.size,fun k hk hn=>h.block k (Nat.lt_of_not_le fun hle=>hn (List.mem_range'_1.2 ⟨hle,by omega⟩))⟩
theorem belowS_out {n₀:Nat}{W:World}{F:Nat→Prop} (hF:∀b,F b→b<n₀):∀x∈List.range' n₀ (W.heap.size-n₀),¬F x:=fun x hx hf=>by
 have:=(List.mem_range'_1.1 hx).1
 have:=hF x hf
 omega
def GoF (n₀:Nat) (J Jx:List Itm→World→Prop) (pre xs:List Itm) (W:World) (e:Ending) (W':World):Prop :=
 (e=.returned (.bool true)∧J (pre++xs) W'∧Below n₀ W W')∨(e=.returned (.bool false)∧∃p,p <+: pre++xs∧Jx p W')
section
variable {F:Nat→Prop}{ρ:Rho}{n₀ l N:Nat}{key:List UInt8}{Px:Itm→Prop}{J Jx:List Itm→World→Prop}
set_option maxRecDepth 100000 in
set_option maxHeartbeats 2000000 in
theorem goFrom_lf (hY:∀(pre:List Itm) (x:Itm) (W:World),Px x→J pre W→pre.length<N→YieldAt Fence.wide 0 Tryz.prog l #[Pp x.ad] W fun e W'=>(e=.returned (.bool true)∧J (pre++[x]) W'∧Below n₀ W W')∨(e=.returned (.bool false)∧Jx (pre++[x]) W')) (hF:Hid (∀b,F b→b<n₀)) {m:Tr 0}{W:World} (hm:IsN W F ρ m) (hu:Up m.2) (hl:m.2.length≤1000000) (hPx:Hid (∀x∈m.2,Px x)) {pre:List Itm} (hJ:J pre W) (hN:Hid (pre.length+m.2.length≤N)) :
  Calls Tryz.prog 89 #[Pp m.1,Sv key,.func (.yield l) #[] #[]] W fun e W'=>GoF n₀ J Jx pre (fromI key m.2) W e W':=by
 obtain ⟨aI,cI,aU,cU,c2,c3,c4,r3,r4⟩:=hm.lf
 have hit:=(callsIn_wide (n:=0)).2 (itemAt_any hm hu hl key)
 have hp:=place_kpl key (List.pairwise_map.2 hu:(m.2.map Itm.key).Pairwise (·<·))
 have hpl:kpl (m.2.map Itm.key) key≤m.2.length:=by have:=hp.1;rwa [List.length_map] at this
 have hfr:=Hid.mk (fromI_drop hu key)
 have hcap:m.2.length≤cI∧cI≤9223372036854775807:=by
  obtain ⟨a',c',h1,h2,h3⟩:=r3.form
  rw [List.length_map] at h1 h2
  injection h1 with _ _ h4
  omega
 obtain ⟨p,hpp⟩:∃p,Hid (kpl (m.2.map Itm.key) key=p):=⟨_,rfl⟩
 rw [hpp.out] at hit hpl hfr
 have hcut:=run_cutL rt111 W aI m.2.length cI p hpl
 have hrd:=ReadsP.cut (by rw [List.length_map]) r3 (i:=p) (j:=m.2.length) (m:=cI) hpl (Nat.le_refl _) hcap.1 (Nat.le_refl _)
 rw [←List.map_take,List.take_length,←List.map_drop] at hrd
 obtain ⟨D,hD⟩:∃D,Hid (m.2.drop p=D):=⟨_,rfl⟩
 rw [hD.out] at hrd hfr
 rw [hfr.out]
 have hDl:D.length=m.2.length-p:=by rw [←hD.out,List.length_drop]
 have HRD:Hid (∀W',Below n₀ W W'→ReadsP W' (.slice (cutA aI cI p 1) (m.2.length-p) (cI-p)) (D.map Itm.ad)):=Hid.mk fun W' hb=>hrd.keptE (belowS_kept hb) (fun hne g hg hmem=>by
  refine belowS_out hF.out g hmem ?_
  obtain ⟨vi,vu,h1,_,_,_,h5,_⟩:=hm.1
  have h6:W.cell? ⟨m.1,3,none⟩=some vi:=by simp [World.cell?,h1]
  rw [c3] at h6
  injection h6 with h6
  refine h5 (fun e=>hne ?_) g (by rw [←h6];exact cutA_own _ _ _ _ _ _ hg _ _)
  rw [←hD.out,List.map_drop,e]
  simp)
 have hNN:Hid (pre.length+D.length≤N):=Hid.mk (by have:=hN.out;omega)
 obtain ⟨M,hM⟩:∃M,Hid (m.2.length-p=M):=⟨_,rfl⟩
 rw [hM.out] at hcut HRD hDl
 obtain ⟨A,hA⟩:∃A,Hid (m.1=A):=⟨_,rfl⟩
 rw [hA.out] at c2 c3 hit ⊢
 have HJ:=Hid.mk hJ
 have HY:=Hid.mk hY
 obtain ⟨L0,hL0⟩:∃L0,Hid (m.2.length=L0):=⟨_,rfl⟩
 rw [hL0.out] at c3 hcut hl
 clear hm r3 r4 c4 hrd hp hfr hN hJ hY hu hcap hpl
 generalize decide ((m.2.map Itm.key)[p]?=some key)=bb at hit
 generalize cutA aI cI p 1=a2 at *
 generalize cI-p=c2' at *
 have hMl:M≤1000000:=by have:=hM.out;have:=hL0.out;omega
 rw [←callsIn_wide (n:=1)]
 refine callsIn_of_wp Tryz.func89 rfl trivial ?_ rfl
 simp only [Tryz.ntmps89,List.size_toArray,List.length_cons,List.length_nil,Nat.reduceAdd,Nat.reduceSub,Array.replicate_succ,Array.replicate_zero,List.push_toArray,List.append_toArray,List.nil_append,List.cons_append]
 gi_wp2_with fail
 refine ⟨trivial,hit.mono ?_⟩
 rintro e w1 ⟨rfl,rfl⟩
 clear hit
 gi_wp2_with fail
 gi_loopw [50] (fun i wr=>∃j:Nat,i=.int .i64 (j:Int)∧j≤M∧Hid (J (pre++D.take j) wr∧Below n₀ w1 wr)) (fun i _=>M-(intOf i).toNat)
 case atStart=>exact ⟨0,rfl,by omega,Hid.mk ⟨by simpa using HJ.out,Below.refl _ _⟩⟩
 case round =>
  obtain ⟨j,rfl,hj,hA1⟩:=hrel
  by_cases hlt:j<M
  ·obtain ⟨x,hx⟩:∃x,D[j]?=some x:=⟨_,List.getElem?_eq_getElem (by omega)⟩
   obtain ⟨b,o,c',e,hcell⟩:=(HRD.out wr hA1.out.2).at j x.ad (by rw [List.getElem?_map,hx];rfl)
   rw [List.length_map,hDl] at e
   injection e with e eN e2
   subst e e2
   clear eN
   obtain ⟨fn,tmps,assign,body,hy,hR⟩:=HY.out _ x wr (hPx.out x (by rw [←hD.out] at hx;exact List.mem_of_mem_drop (List.mem_of_getElem? hx))) hA1.out.1 (by rw [List.length_append,List.length_take];have:=hNN.out;omega)
   have hts:pre++D.take j++[x]=pre++D.take (j+1):=by rw [tsnoc hx,List.append_assoc]
   rw [hts] at hR
   have HB:=Hid.mk hA1.out.2
   have HPF:Hid (pre++D.take (j+1) <+: pre++D):=Hid.mk ((List.prefix_append_right_inj _).2 (List.take_prefix _ _))
   clear hx hA1 hts
   generalize x.ad=X at *
   have hki:(j:Int)<(M:Int):=by omega
   gi_wp2
   refine hR.mono ?_
   rintro e W3 (⟨rfl,hJ3,hk3⟩|⟨rfl,hJx3⟩)
   ·have HJ3:=Hid.mk (And.intro hJ3 (HB.out.trans hk3))
    clear hJ3 hk3 HB hR hy hcell
    gi_wp2
    go_roundw
    case rel=>exact ⟨j+1,by go_num,by omega,HJ3⟩
    case measure=>simp [intOf];omega
   ·have HF:Hid (∃p,p <+: pre++D∧Jx p W3):=Hid.mk ⟨_,HPF.out,hJx3⟩
    clear hJx3 HB hR hy hcell
    gi_wp2
    go_ret
    exact .inr ⟨rfl,HF.out⟩
  ·obtain rfl:j=M:=by omega
   have HF:Hid (J (pre++D) wr∧Below n₀ w1 wr):=Hid.mk ⟨by have h:=hA1.out.1;rwa [List.take_of_length_le (by omega)] at h,hA1.out.2⟩
   clear hA1
   have hni:¬(j:Int)<(j:Int):=by omega
   gi_wp2
   go_ret
   exact .inl ⟨rfl,HF.out⟩
set_option maxRecDepth 100000 in
set_option maxHeartbeats 2000000 in
theorem goFrom_br {k:Nat}{m:Tr (k+1)}{W:World} (hDr:Hid (∀pre W q,J pre W→J pre (W.drewN q))) (hF:Hid (∀b,F b→b<n₀)) (hm:IsN W F ρ m) (hw:Wf m) (hu:Up (its m)) {pre:List Itm} (hJ:J pre W) (hN:Hid (pre.length+(its m).length≤N))
  (HK:Hid (∀u∈m.2,∀W pre,IsN W F ρ u→J pre W→pre.length+(its u).length≤N→Calls Tryz.prog 89 #[Pp (adr u),Sv key,.func (.yield l) #[] #[]] W fun e W'=>GoF n₀ J Jx pre (fromI key (its u)) W e W')) :
  Calls Tryz.prog 89 #[Pp m.1,Sv key,.func (.yield l) #[] #[]] W fun e W'=>GoF n₀ J Jx pre (fromI key (its m)) W e W':=by
 obtain ⟨aI,cI,aU,cU,c2,c3,c4,r3,r4⟩:=hm.br
 have hml:m.2.length≤1000000:=by have:=hw.2.1;omega
 have huf:=fun q=>underFor_any (hm.kept ((Kept.refl [] W).drewN q) (by simp)) hw.2.2.1 hu hml key
 have hparts:=uIdx_parts hw.2.2.1 hu hw.1 key
 have hfr:=Hid.mk (fromI_drop_kids hw.2.2.1 hu hw.1 key)
 have hcap:m.2.length≤cU∧cU≤9223372036854775807:=by
  obtain ⟨a',c',h1,h2,h3⟩:=r4.form
  rw [List.length_map] at h1 h2
  injection h1 with _ _ h4
  omega
 obtain ⟨p,hpp⟩:∃p,Hid (uIdx (fks m.2) key=p):=⟨_,rfl⟩
 rw [hpp.out] at huf hparts hfr
 have hpl:p≤m.2.length:=by have:=hparts.1;omega
 have hcut:=fun W=>run_cutL rt112 W aU m.2.length cU p hpl
 have hrd:=ReadsP.cut (by rw [List.length_map]) r4 (i:=p) (j:=m.2.length) (m:=cU) hpl (Nat.le_refl _) hcap.1 (Nat.le_refl _)
 rw [←List.map_take,List.take_length,←List.map_drop] at hrd
 obtain ⟨D,hD⟩:∃D,Hid (m.2.drop p=D):=⟨_,rfl⟩
 rw [hD.out] at hrd hfr
 rw [its_succ] at *
 rw [hfr.out]
 have hDl:D.length=m.2.length-p:=by rw [←hD.out,List.length_drop]
 have hDm:∀u∈D,u∈m.2:=fun u hu=>by rw [←hD.out] at hu;exact List.mem_of_mem_drop hu
 have HRD:Hid (∀W',Below n₀ W W'→ReadsP W' (.slice (cutA aU cU p 1) (m.2.length-p) (cU-p)) (D.map adr)):=Hid.mk fun W' hb=>hrd.keptE (belowS_kept hb) (fun hne g hg hmem=>by
  refine belowS_out hF.out g hmem ?_
  obtain ⟨vi,vu,h1,_,_,_,_,h6⟩:=hm.1
  have h7:W.cell? ⟨m.1,4,none⟩=some vu:=by simp [World.cell?,h1]
  rw [c4] at h7
  injection h7 with h7
  refine h6 (fun e=>hne ?_) g (by rw [←h7];exact cutA_own _ _ _ _ _ _ hg _ _)
  rw [←hD.out,List.map_drop,e]
  simp)
 have HKD:Hid (∀u∈D,∀W' pre,Below n₀ W W'→J pre W'→pre.length+(its u).length≤N→Calls Tryz.prog 89 #[Pp (adr u),Sv key,.func (.yield l) #[] #[]] W' fun e W''=>GoF n₀ J Jx pre (fromI key (its u)) W' e W''):=Hid.mk fun u hu W' pre hb hj hl=>HK.out u (hDm u hu) W' pre ((hm.2 u (hDm u hu)).kept (belowS_kept hb) (belowS_out hF.out)) hj hl
 have HNN:Hid (∀(j:Nat) (u:Tr k),D[j]?=some u→(pre++(D.take j).flatMap fun u=>fromI key (its u)).length+(its u).length≤N):=Hid.mk fun j u hju=>by
  have h1:=hN.out
  have h2:((D.take j).flatMap fun u=>fromI key (its u)).length≤((D.take j).flatMap its).length:=by
   have:∀l:List (Tr k),(l.flatMap fun u=>fromI key (its u)).length≤(l.flatMap its).length:=fun l=>by
    induction l with
    | nil=>simp
    | cons a l ih =>
     simp only [List.flatMap_cons,List.length_append]
     have:=List.length_filter_le (fun i=>!decide (i.key<key)) (its a)
     unfold fromI at ih ⊢
     omega
   exact this _
  have h3:((D.take j).flatMap its).length+(its u).length≤(D.flatMap its).length:=by
   have h4:(D.take (j+1)).flatMap its=(D.take j).flatMap its++its u:=by rw [tsnoc hju,List.flatMap_append];simp
   have h5:((D.take (j+1)).flatMap its).length≤(D.flatMap its).length:=by
    conv=>rhs;rw [←List.take_append_drop (j+1) D,List.flatMap_append,List.length_append]
    omega
   rw [h4,List.length_append] at h5
   exact h5
  have h6:(D.flatMap its).length≤(m.2.flatMap its).length:=by
   rw [←hD.out]
   conv=>rhs;rw [←List.take_append_drop p m.2,List.flatMap_append,List.length_append]
   omega
  rw [List.length_append]
  omega
 have HSN:Hid (∀(j:Nat) (u:Tr k),D[j]?=some u→pre++((D.take j).flatMap fun u=>fromI key (its u))++fromI key (its u)=pre++(D.take (j+1)).flatMap fun u=>fromI key (its u)):=Hid.mk fun j u hju=>by rw [tsnoc hju,List.flatMap_append];simp
 have HPF:Hid (∀j,pre++((D.take j).flatMap fun u=>fromI key (its u)) <+: pre++D.flatMap fun u=>fromI key (its u)):=Hid.mk fun j=>(List.prefix_append_right_inj _).2 (by
  conv=>rhs;rw [←List.take_append_drop j D,List.flatMap_append]
  exact List.prefix_append _ _)
 obtain ⟨M,hM⟩:∃M,Hid (m.2.length-p=M):=⟨_,rfl⟩
 rw [hM.out] at hcut HRD hDl
 obtain ⟨A,hA⟩:∃A,Hid (m.1=A):=⟨_,rfl⟩
 have ha:adr m=m.1:=rfl
 rw [hA.out] at c2 c4 huf ⊢
 have HJ:=Hid.mk hJ
 obtain ⟨L0,hL0⟩:∃L0,Hid (m.2.length=L0):=⟨_,rfl⟩
 rw [hL0.out] at c4 hcut hml hpl
 have hMl:M≤1000000:=by have:=hM.out;have:=hL0.out;omega
 have hk1:(0:Int)<(k:Int)+1:=by omega
 clear hm r3 r4 c3 hrd hfr hN hJ hu hcap hparts hw HK ha
 generalize cutA aU cU p 1=a2 at *
 generalize cU-p=c2' at *
 go_enter Tryz.func89,Tryz.ntmps89
 go_wp2_with fail
 go_quiet ((go_at_call 90;exact Calls.quiet_of_same (huf _)))
 have HJ1:Hid (J (pre++(D.take 0).flatMap fun u=>fromI key (its u)) (W.drewN nq)∧Below n₀ W (W.drewN nq)):=Hid.mk ⟨by simpa using hDr.out _ _ nq HJ.out,⟨rfl,rfl,rfl,Nat.le_refl _,fun _ _=>rfl⟩⟩
 clear huf hcut HJ c2 c4
 generalize W.drewN nq=W1 at *
 go_wp2_with fail
 go_loopw [27] (fun i wr=>∃j:Nat,i=.int .i64 (j:Int)∧j≤M∧Hid (J (pre++(D.take j).flatMap fun u=>fromI key (its u)) wr∧Below n₀ W wr)) (fun i _=>M-(intOf i).toNat)
 case atStart=>exact ⟨0,rfl,by omega,HJ1⟩
 case round =>
  obtain ⟨j,rfl,hj,hA1⟩:=hrel
  by_cases hlt:j<M
  ·obtain ⟨u,hu⟩:∃u,D[j]?=some u:=⟨_,List.getElem?_eq_getElem (by omega)⟩
   obtain ⟨b,o,c',e,hcell⟩:=(HRD.out wr hA1.out.2).at j (adr u) (by rw [List.getElem?_map,hu];rfl)
   rw [List.length_map,hDl] at e
   injection e with e eN e2
   subst e e2
   clear eN
   have hcall:=HKD.out u (List.mem_of_getElem? hu) wr _ hA1.out.2 hA1.out.1 (HNN.out j u hu)
   unfold GoF at hcall
   rw [HSN.out j u hu] at hcall
   have HB:=Hid.mk hA1.out.2
   have HPJ:=Hid.mk (HPF.out (j+1))
   clear hu hA1
   generalize adr u=U at *
   go_wp2_with fail
   refine hcall.mono ?_
   rintro e w2 (⟨rfl,hJ2,hb2⟩|⟨rfl,q,hq,hx⟩)
   ·have HR:=Hid.mk (And.intro hJ2 (HB.out.trans hb2))
    clear hJ2 hb2 HB hcall hcell
    go_wp2
    go_roundw
    case rel=>exact ⟨j+1,by go_num,by omega,HR⟩
    case measure=>simp [intOf];omega
   ·have HX:Hid (∃p,p <+: pre++(D.flatMap fun u=>fromI key (its u))∧Jx p w2):=Hid.mk ⟨q,hq.trans HPJ.out,hx⟩
    clear hx hq HB hcall hcell
    go_wp2
    go_ret
    exact .inr ⟨rfl,HX.out⟩
  ·obtain rfl:j=M:=by omega
   have HX:Hid (J (pre++(D.flatMap fun u=>fromI key (its u))) wr∧Below n₀ W wr):=Hid.mk ⟨by have h:=hA1.out.1;rwa [List.take_of_length_le (by omega)] at h,hA1.out.2⟩
   clear hA1
   go_wp2
   go_ret
   exact .inl ⟨rfl,HX.out⟩
theorem goFrom_any (hY:∀(pre:List Itm) (x:Itm) (W:World),Px x→J pre W→pre.length<N→YieldAt Fence.wide 0 Tryz.prog l #[Pp x.ad] W fun e W'=>(e=.returned (.bool true)∧J (pre++[x]) W'∧Below n₀ W W')∨(e=.returned (.bool false)∧Jx (pre++[x]) W')) (hDr:∀pre W q,J pre W→J pre (W.drewN q)) (hF:∀b,F b→b<n₀):{k:Nat}→(m:Tr k)→{W:World}→IsN W F ρ m→Wf m→Up (its m)→(∀x∈its m,Px x)→{pre:List Itm}→J pre W→pre.length+(its m).length≤N→Calls Tryz.prog 89 #[Pp (adr m),Sv key,.func (.yield l) #[] #[]] W fun e W'=>GoF n₀ J Jx pre (fromI key (its m)) W e W'
 | 0,m,W,hm,hw,hu,hp,pre,hJ,hN=>goFrom_lf hY (Hid.mk hF) hm hu (by have h1:=len_le_sum m.2;have h2:(m.2.map isz).sum≤236:=hw.2;omega) (Hid.mk hp) hJ (Hid.mk hN)
 | k+1,m,W,hm,hw,hu,hp,pre,hJ,hN=>goFrom_br (Hid.mk hDr) (Hid.mk hF) hm hw hu hJ (Hid.mk hN) (Hid.mk fun u hu' W' pre' h1 h2 h3=>goFrom_any hY hDr hF u h1 (hw.2.2.1 u hu') (up_sub hu hu') (fun x hx=>hp x (List.mem_flatMap.2 ⟨u,hu',hx⟩)) h2 h3)
end
end Go.Proofs.YtgpbhlfdlkemjaaGreat
namespace Go.Proofs.YtgpbhlfdlkemjaaGreat
open Go.RowKit
set_option linter.unusedVariables false
theorem yieldAt_wide {m m':Nat}{P:Program}{l:Nat}{args:Array Value}{W:World}{R:Ending→World→Prop} (h:YieldAt Fence.wide m P l args W R):YieldAt Fence.wide m' P l args W R:=by
 obtain ⟨fn,tmps,assign,body,hy,h1,h2⟩:=h
 exact ⟨fn,tmps,assign,body,hy,h1,fun c cs _=>h2 c cs (fun d hd=>by cases hd)⟩
abbrev Sx (t:AT):={ i:Itm // i∈itsT t }
section
variable {w:World}{F:Nat→Prop}{ρ:Rho}{t:AT}
set_option maxRecDepth 100000 in
set_option maxHeartbeats 1000000 in
theorem itemsFrom_nil {bn bk l:Nat}{W:World} (c1:W.cell? ⟨bn,0,none⟩=some (.pointer none)):Calls Tryz.prog 88 #[.func (.yield l) #[] #[],Pp bn,Pp bk] W fun e w'=>e=.returned (.tuple #[])∧W=w':=by
 go_enter Tryz.func88,Tryz.ntmps88
 go_wp2
 go_end0
 exact ⟨rfl,rfl⟩
set_option maxRecDepth 100000 in
set_option maxHeartbeats 1000000 in
theorem itemsFrom_some {bn bk l A:Nat}{key:List UInt8}{W:World}{R:Bool→World→Prop} (c1:W.cell? ⟨bn,0,none⟩=some (Pp A)) (c2:W.cell? ⟨bk,0,none⟩=some (Sv key)) (h:Calls Tryz.prog 89 #[Pp A,Sv key,.func (.yield l) #[] #[]] W fun e W'=>∃b,e=.returned (.bool b)∧R b W'):Calls Tryz.prog 88 #[.func (.yield l) #[] #[],Pp bn,Pp bk] W fun e w'=>e=.returned (.tuple #[])∧∃b,R b w':=by
 go_enter Tryz.func88,Tryz.ntmps88
 go_wp2_with fail
 refine h.mono ?_
 rintro e w1 ⟨b,rfl,hR⟩
 have HR:=Hid.mk hR
 clear hR h
 go_wp2
 go_end0
 exact ⟨rfl,b,HR.out⟩
theorem items_stops (n:Nat) {bn bk n₀:Nat}{key:List UInt8} (hT:IsT w F ρ t) (hu:Up (itsT t)) (hF:∀b,F b→b<n₀) (hn₀:n₀≤w.heap.size) (c1:w.cell? ⟨bn,0,none⟩=some (ptrT t)) (c2:w.cell? ⟨bk,0,none⟩=some (Sv key)) :
  SeqStopsK Fence.wide n Tryz.prog 88 #[Pp bn,Pp bk] (fun x:Sx t=>#[Pp x.1.ad]) (Below n₀) (fun ys=>ys.map Subtype.val=fromI key (itsT t)) (fun pre=>pre.map Subtype.val <+: fromI key (itsT t)) (itsT t).length w:=fun l J Jx W hW hab habx hY h0=>by
 have d1:W.cell? ⟨bn,0,none⟩=some (ptrT t):=(hW.cell (p:=⟨bn,0,none⟩) (World.block_lt_of_cell? _ _ c1)).trans c1
 have d2:W.cell? ⟨bk,0,none⟩=some (Sv key):=(hW.cell (p:=⟨bk,0,none⟩) (World.block_lt_of_cell? _ _ c2)).trans c2
 rw [callsIn_wide]
 have hdr:∀(pre:List (Sx t)) (W:World) (q:Nat),J pre W→J pre (W.drewN q):=fun pre W' q hj=>by
  refine hab pre W' _ none hj ⟨rfl,rfl,rfl,Nat.le_refl _,fun _ _ _=>rfl⟩ (fun r e=>by cases e)
 show Calls Tryz.prog 88 #[.func (.yield l) #[] #[],Pp bn,Pp bk] W _
 cases t with
 | none =>
  refine (itemsFrom_nil d1).mono ?_
  rintro e w' ⟨rfl,rfl⟩
  exact ⟨⟨_,rfl⟩,.inl ⟨[],rfl,h0⟩⟩
 | some m =>
  have hm:IsN W F ρ m.2:=hT.1.kept (belowS_kept (hW.mono hn₀)) (belowS_out hF)
  have hg:=goFrom_any (N:=(itsT (some m)).length) (n₀:=n₀) (l:=l) (key:=key) (F:=F) (ρ:=ρ) (Px:=fun x=>x∈itsT (some m)) (J:=fun xs W=>∃ys:List (Sx (some m)),ys.map Subtype.val=xs∧J ys W) (Jx:=fun xs W=>∃ys:List (Sx (some m)),ys.map Subtype.val=xs∧Jx ys W) (fun pre x W' hx hj hl=>by
   obtain ⟨ys,rfl,hj⟩:=hj
   rw [List.length_map] at hl
   refine YieldAt.mono (yieldAt_wide (hY ys ⟨x,hx⟩ W' hj hl)) ?_
   rintro e W3 (⟨rfl,h1,h2⟩|⟨rfl,h1⟩)
   ·exact .inl ⟨rfl,⟨ys++[⟨x,hx⟩],by simp,h1⟩,h2⟩
   ·exact .inr ⟨rfl,⟨ys++[⟨x,hx⟩],by simp,h1⟩⟩) (fun pre W' q hj=>by obtain ⟨ys,h1,h2⟩:=hj;exact ⟨ys,h1,hdr ys W' q h2⟩) hF m.2 hm hT.2.1 hu (fun x hx=>hx) (pre:=[]) ⟨[],rfl,h0⟩ (by show [].length+(its m.2).length≤(its m.2).length;simp)
  refine (itemsFrom_some (R:=fun b W'=>(∃xs:List (Sx (some m)),xs.map Subtype.val=fromI key (itsT (some m))∧J xs W')∨∃pre:List (Sx (some m)),pre.map Subtype.val <+: fromI key (itsT (some m))∧Jx pre W') d1 d2 (hg.mono ?_)).mono ?_
  ·rintro e W' (⟨rfl,⟨ys,h1,h2⟩,_⟩|⟨rfl,p,hp,ys,h1,h2⟩)
   ·exact ⟨true,rfl,.inl ⟨ys,h1,h2⟩⟩
   ·exact ⟨false,rfl,.inr ⟨ys,by rw [h1];exact hp,h2⟩⟩
  ·rintro e W' ⟨rfl,b,h1⟩
   exact ⟨⟨_,rfl⟩,h1⟩
set_option maxRecDepth 100000 in
set_option maxHeartbeats 1000000 in
theorem itemsFrom_in (n:Nat) (P:Value) (hP:∃x,P=.pointer x) (key:List UInt8) (w:World) :
  CallsIn Fence.wide n Tryz.prog 55 #[P,Sv key] w fun e w'=>e=.returned (.func (.func 88) #[] #[Pp w.heap.size,Pp (w.heap.size+1)])∧w'=(w.alloc (.cells #[P] 77)).alloc (.cells #[Sv key] 9):=by
 obtain ⟨x,rfl⟩:=hP
 refine callsIn_of_wp Tryz.func55 rfl trivial ?_ rfl
 simp only [Tryz.ntmps55,List.size_toArray,List.length_cons,List.length_nil,Nat.reduceAdd,Nat.reduceSub,Array.replicate_succ,Array.replicate_zero,List.push_toArray,List.append_toArray,List.nil_append,List.cons_append]
 gi_wp2
 go_ret
 exact ⟨rfl,rfl⟩
end
end Go.Proofs.YtgpbhlfdlkemjaaGreat
namespace Go.Proofs.YtgpbhlfdlkemjaaGreat
open Go.RowKit
set_option linter.unusedVariables false
attribute [local go_sem] Oper.semAt_some
def CS (l:List (List UInt8)):List (List Value):=l.map fun s=>[Sv s]
theorem CS_length (l:List (List UInt8)):(CS l).length=l.length:=by simp [CS]
theorem CS_append (a b:List (List UInt8)):CS (a++b)=CS a++CS b:=by simp [CS]
theorem CS_wide (l:List (List UInt8)):Wide 1 (CS l):=fun r hr=>by
 obtain ⟨x,_,rfl⟩:=List.mem_map.1 hr
 exact ⟨rfl,fun u hu=>by simp at hu;subst hu;rfl⟩
theorem rt46:RowT 46 9 1 16 (.string ⟨#[]⟩):=⟨Tryz.underlying46,by kernel_rfl,rfl,by omega,by omega⟩
def KI (w:World) (bt bk:Nat) (to:List UInt8) (pre:List Itm) (W:World):Prop :=
 ∃ad c,B1 W bt 9 (Sv to)∧B1 W bk 46 (.slice ad pre.length c)∧OwnsR 9 1 W (.slice ad pre.length c) (CS (pre.map Itm.key))∧Fresh w (.slice ad pre.length c)∧(Value.slice ad pre.length c).ownBlock≠some bt∧(Value.slice ad pre.length c).ownBlock≠some bk∧Kept [] w W∧∀x∈pre,to=[]∨x.key<to
theorem KI.own {w:World}{bt bk:Nat}{to:List UInt8}{pre:List Itm}{A B:World}{row:Option Nat} (h:KI w bt bk to pre A) (hg:A.grownBy B row) (hr:∀r,row=some r→w.heap.size≤r∧∃o:Obj,A.heap[r]?=some o∧o.isCells=false):KI w bt bk to pre B:=by
 obtain ⟨ad,c,h1,h2,h3,h4,h5,h6,h7,h8⟩:=h
 refine ⟨ad,c,h1.own hg (fun r e=>(hr r e).2),h2.own hg (fun r e=>(hr r e).2),h3.kept ((Kept.refl row.toList A).grown hg (fun x hx=>.inl (by rw [Option.mem_toList];exact hx))) (fun g hgv hm=>?_),h4,h5,h6,h7.grown hg (fun x hx=>.inr (hr x hx).1),h8⟩
 rw [Option.mem_toList] at hm
 obtain ⟨_,o,ho,hn⟩:=hr g hm
 rcases h3.2 with ⟨h,_⟩|⟨g',cap,cur,h,_,hg',_⟩
 ·injection h with h;subst h;simp [Value.ownBlock] at hgv
 ·injection h with h
  subst h
  simp [Value.ownBlock] at hgv
  subst hgv
  rw [hg'] at ho
  cases ho
  cases hn
theorem KI.more {w:World}{bt bk:Nat}{to:List UInt8}{pre:List Itm}{W:World} (h:KI w bt bk to pre W) (hbt:w.heap.size≤bt) (hbk:w.heap.size≤bk) (hne:bt≠bk) {x:Itm} (hx:to=[]∨x.key<to) (hl:pre.length≤900000) :
  ∃ad c ad2 c2 w3,B1 W bk 46 (.slice ad pre.length c)∧(Builtin.append_ #[46,46] 46 #[.slice ad pre.length c,.slice (some ⟨W.heap.size,0,none⟩) 1 1]).run Tryz.prog (W.drew.alloc (.cells #[Sv x.key] 9))=.ok (.slice ad2 (pre.length+1) c2) w3∧B1 w3 bk 46 (.slice ad pre.length c) ∧
   KI w bt bk to (pre++[x]) (w3.setCell ⟨bk,0,none⟩ (.slice ad2 (pre.length+1) c2))∧KeepsOthers W (w3.setCell ⟨bk,0,none⟩ (.slice ad2 (pre.length+1) c2))∧Below w.heap.size W (w3.setCell ⟨bk,0,none⟩ (.slice ad2 (pre.length+1) c2)):=by
 obtain ⟨ad,c,b1,b2,hO,hF,hn1,hn2,kk,hall⟩:=h
 have kd:Kept [] W W.drew:=(Kept.refl [] W).drew
 obtain ⟨ad2,c2,w3,hrun,hO3,k3,hN3⟩:=append_rowR rt46 (hO.kept kd (by simp)) [Sv x.key] rfl (fun u hu=>by simp at hu;subst hu;rfl) (by rw [CS_length,List.length_map];exact hl) 9 (0,0) 46
 rw [CS_length,List.length_map] at hrun hO3 hN3
 have k3':Kept (Value.slice ad pre.length c).ownBlock.toList W w3:=(kd.mono (by simp)).trans k3 (fun y hy=>.inl hy)
 have b1':=b1.kept k3' (by rw [Option.mem_toList];exact hn1)
 have b2':=b2.kept k3' (by rw [Option.mem_toList];exact hn2)
 have hbl:bk<W.heap.size:=b2.lt
 have hbtl:bt<W.heap.size:=b1.lt
 have hnew:∀g,(Value.slice ad2 (pre.length+1) c2).ownBlock=some g→(Value.slice ad pre.length c).ownBlock=some g∨W.heap.size≤g:=hN3
 have hF3:Fresh w (.slice ad2 (pre.length+1) c2):=fun g hg=>by
  rcases hnew g hg with h|h
  ·exact hF g h
  ·have:=kk.size;omega
 have hn1':(Value.slice ad2 (pre.length+1) c2).ownBlock≠some bt:=fun e=>by
  rcases hnew _ e with h|h
  ·exact hn1 h
  ·omega
 have hn2':(Value.slice ad2 (pre.length+1) c2).ownBlock≠some bk:=fun e=>by
  rcases hnew _ e with h|h
  ·exact hn2 h
  ·omega
 obtain ⟨b4,k4⟩:=b2'.set (.slice ad2 (pre.length+1) c2)
 have kW:Kept (bk::(Value.slice ad pre.length c).ownBlock.toList) W (w3.setCell ⟨bk,0,none⟩ (.slice ad2 (pre.length+1) c2)):=(k3'.mono (fun y hy=>.inl (by simp [hy]))).trans k4 (fun y hy=>.inl (by simp at hy;simp [hy]))
 have hcells:∀y∈bk::(Value.slice ad pre.length c).ownBlock.toList,∃cs ty fr,W.heap[y]?=some (.cells cs ty fr):=fun y hy=>by
  rcases List.mem_cons.1 hy with rfl|hy
  ·exact ⟨_,_,_,b2⟩
  ·rw [Option.mem_toList] at hy
   rcases hO.2 with ⟨h,_⟩|⟨g',cap',cur,h,_,hg',_⟩
   ·injection h with h;subst h;simp [Value.ownBlock] at hy
   ·injection h with h
    subst h
    simp [Value.ownBlock] at hy
    subst hy
    exact ⟨_,_,_,hg'⟩
 have hlen:(pre++[x]).length=pre.length+1:=by simp
 refine ⟨ad,c,ad2,c2,w3,b2,hrun,b2',⟨ad2,c2,?_⟩,⟨kW.size,fun y o hy ho=>kW.keeps hy (fun hm=>?_)⟩,⟨kW.os,kW.tape,kW.output,kW.size,fun y hy=>?_⟩⟩
 ·rw [hlen]
  refine ⟨b1'.kept k4 (by simp;exact hne),b4,?_,hF3,hn1',hn2',kk.trans kW (fun y hy=>.inr ?_),fun y hy=>?_⟩
  ·have:=hO3.kept k4 (fun g hg=>by simp;rintro rfl;exact hn2' hg)
   rw [List.map_append,CS_append]
   exact this
  ·rcases List.mem_cons.1 hy with rfl|hy
   ·exact hbk
   ·rw [Option.mem_toList] at hy;exact hF y hy
  ·rcases List.mem_append.1 hy with hy|hy
   ·exact hall y hy
   ·simp at hy;subst hy;exact hx
 ·obtain ⟨cs,ty,fr,hc⟩:=hcells y hm
  rw [hc] at hy
  cases hy
  cases ho
 ·refine kW.block y (Nat.lt_of_lt_of_le hy kk.size) (fun hm=>?_)
  rcases List.mem_cons.1 hm with rfl|hm
  ·omega
  ·rw [Option.mem_toList] at hm;have:=hF y hm;omega
def inRange (fr to:List UInt8) (l:List Itm):List Itm:=(fromI fr l).filter fun i=>decide (to=[]) || decide (i.key<to)
theorem inRange_all {fr to:List UInt8}{l:List Itm} (h:∀x∈fromI fr l,to=[]∨x.key<to):inRange fr to l=fromI fr l:=List.filter_eq_self.2 fun i hi=>by simpa using h i hi
theorem inRange_cut {fr to:List UInt8}{l p:List Itm}{x:Itm} (hu:Up l) (hp:p++[x] <+: fromI fr l) (h:∀y∈p,to=[]∨y.key<to) (ht:to≠[]) (hx:¬x.key<to):inRange fr to l=p:=by
 obtain ⟨r,hr⟩:=hp
 have hup:Up (p++[x]++r):=by rw [hr];exact hu.filter _
 unfold inRange
 rw [←hr,List.filter_append,List.filter_append,filter_all fun i hi=>by simpa using h i hi,filter_none (A:=[x]) fun i hi=>by simp at hi;subst hi;simp [ht];exact hx,filter_none (A:=r) fun i hi=>?_]
 ·simp
 ·have h1:=(Up.append.1 hup).2.2 x (by simp) i hi
  have h2:¬i.key<to:=fun h=>hx (klt_trans h1 h)
  simp [ht]
  exact h2
end Go.Proofs.YtgpbhlfdlkemjaaGreat
