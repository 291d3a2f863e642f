import Derived.Test.YtgpbhlfdlkemjaaGreatH52
/-
 The document's set, Apply.
-/
namespace Go.Proofs.YtgpbhlfdlkemjaaGreat
open Go.RowKit
set_option linter.unusedVariables false
theorem filt_take {T:List KV} (hu:UpK T) (key:List UInt8):T.filter (fun x=>decide (x.1<key))=T.take (plT T key):=by
 conv=>lhs;rw [←List.take_append_drop (plT T key) T,List.filter_append]
 have h1:(T.take (plT T key)).filter (fun x=>decide (x.1<key))=T.take (plT T key):=List.filter_eq_self.2 fun x hx=>by
  obtain ⟨j,hj⟩:=List.getElem?_of_mem hx
  rw [List.getElem?_take] at hj
  split at hj
  ·simpa using (plT_lt hu key hj).2 (by assumption)
  ·cases hj
 have h2:(T.drop (plT T key)).filter (fun x=>decide (x.1<key))=[]:=List.filter_eq_nil_iff.2 fun x hx=>by
  obtain ⟨j,hj⟩:=List.getElem?_of_mem hx
  rw [List.getElem?_drop] at hj
  have:=plT_lt hu key hj
  simp
  intro h
  have:=this.1 h
  omega
 rw [h1,h2,List.append_nil]
theorem filt_drop {T:List KV} (hu:UpK T) (key:List UInt8) {i:Nat} (hi:(i=plT T key∧∀x,T[plT T key]?=some x→x.1≠key)∨(i=plT T key+1∧∃x,T[plT T key]?=some x∧x.1=key)):T.filter (fun x=>decide (key<x.1))=T.drop i:=by
 have hge:∀j x,T[j]?=some x→plT T key≤j→¬x.1<key:=fun j x hx hj h=>by have:=(plT_lt hu key hx).1 h;omega
 have hlater:∀j x,T[j]?=some x→i≤j→key<x.1:=fun j x hx hj=>by
  have h1:=hge j x hx (by omega)
  refine klt_total h1 fun e=>?_
  rcases hi with ⟨rfl,h2⟩|⟨rfl,y,hy,h2⟩
  ·by_cases hjp:j=plT T key
   ·subst hjp;exact h2 x hx e
   ·obtain ⟨y,hy⟩:∃y,T[plT T key]?=some y:=⟨_,List.getElem?_eq_getElem (by have:=(List.getElem?_eq_some_iff.1 hx).1;omega)⟩
    have h3:=List.pairwise_iff_getElem.1 hu (plT T key) j (List.getElem?_eq_some_iff.1 hy).1 (List.getElem?_eq_some_iff.1 hx).1 (by omega)
    rw [(List.getElem?_eq_some_iff.1 hy).2,(List.getElem?_eq_some_iff.1 hx).2,e] at h3
    exact hge _ y hy (Nat.le_refl _) h3
  ·have h3:=List.pairwise_iff_getElem.1 hu (plT T key) j (List.getElem?_eq_some_iff.1 hy).1 (List.getElem?_eq_some_iff.1 hx).1 (by omega)
   rw [(List.getElem?_eq_some_iff.1 hy).2,(List.getElem?_eq_some_iff.1 hx).2,e,h2] at h3
   exact klt_irrefl _ h3
 conv=>lhs;rw [←List.take_append_drop i T,List.filter_append]
 have h1:(T.take i).filter (fun x=>decide (key<x.1))=[]:=List.filter_eq_nil_iff.2 fun x hx=>by
  obtain ⟨j,hj⟩:=List.getElem?_of_mem hx
  rw [List.getElem?_take] at hj
  split at hj
  ·rename_i hlt
   simp
   intro h
   rcases hi with ⟨rfl,h2⟩|⟨rfl,y,hy,h2⟩
   ·exact klt_asymm h ((plT_lt hu key hj).2 hlt)
   ·by_cases hjp:j=plT T key
    ·subst hjp;rw [hj] at hy;injection hy with hy;rw [←hy] at h2;rw [h2] at h;exact klt_irrefl _ h
    ·exact klt_asymm h ((plT_lt hu key hj).2 (by omega))
  ·cases hj
 have h2:(T.drop i).filter (fun x=>decide (key<x.1))=T.drop i:=List.filter_eq_self.2 fun x hx=>by
  obtain ⟨j,hj⟩:=List.getElem?_of_mem hx
  rw [List.getElem?_drop] at hj
  simpa using hlater (i+j) x hj (by omega)
 rw [h1,h2,List.nil_append]
theorem tset_eq {T:List KV} (hu:UpK T) (c:Cg) {i:Nat} (hi:(i=plT T c.key∧∀x,T[plT T c.key]?=some x→x.1≠c.key)∨(i=plT T c.key+1∧∃x,T[plT T c.key]?=some x∧x.1=c.key)):tset T c=T.take (plT T c.key)++(if c.gone then [] else [(c.key,c.val)])++T.drop i:=by
 unfold tset
 rw [filt_take hu,filt_drop hu c.key hi]
section
variable {w:World}
set_option maxRecDepth 100000 in
set_option maxHeartbeats 1000000 in
theorem tset_any {db:Nat}{v:Value}{T:List KV} (h:IsTab w db v T) (hu:UpK T) (hl:T.length≤100000) (x:Cq) (hv:Hid (Reads w (.slice x.ad x.c.val.length x.cap) x.c.val)):Calls Tryz.prog 53 #[Pp db,.agg #[Sv x.c.key,.slice x.ad x.c.val.length x.cap,.bool x.c.gone]] w fun e w'=>e=.returned (.tuple #[])∧∃v',IsTab w' db v' (tset T x.c)∧Kept [db] w w'∧Fresh w v':=by
 obtain ⟨a,c,rfl,hcap,hcm⟩:=h.form
 have hdb:=lt_of_block h.box
 obtain ⟨w1,hw1⟩:∃w1,Hid (w.alloc (.cells #[Sv x.c.key,.slice x.ad x.c.val.length x.cap,.bool x.c.gone] 61)=w1):=⟨_,rfl⟩
 have k1:Kept [] w w1:=by rw [←hw1.out];exact (Kept.refl [] w).alloc _
 have hnew:=cell_new3 w (Sv x.c.key) (.slice x.ad x.c.val.length x.cap) (.bool x.c.gone) 61
 rw [hw1.out] at hnew
 have hp:=tabPlace_any (h.kept k1 (by simp) (by simp)) hu hl x.c.key
 have hpl:=plT_le hu x.c.key
 have HB:Hid (∀W,Kept [] w W→W.heap[db]?=some (.cells #[.slice a T.length c] 38 (0,0))∧ReadsR 2 W (.slice a T.length c) (CT T)):=Hid.mk fun W kW=>⟨kW.keeps h.box (by simp),h.row.kept kW (by simp)⟩
 have HV:Hid (∀W,Kept [] w W→(convert 48 9 (.slice x.ad x.c.val.length x.cap)).run Tryz.prog W=.ok (Sv x.c.val) W):=Hid.mk fun W kW=>string_of (P:=Tryz.prog) 48 5 Tryz.underlying48 9 Tryz.underlying5 Tryz.underlying9 _ _ _ (hv.out.kept kW (by simp))
 have HTS:=fun i hi=>tset_eq hu x.c (i:=i) hi
 have HTS:=Hid.mk HTS
 obtain ⟨N,hN⟩:∃N,Hid (T.length=N):=⟨_,rfl⟩
 rw [hN.out] at HB hpl hl hcap
 have hap:=h.apart
 clear h hu hv
 obtain ⟨P,hP⟩:∃P,Hid (plT T x.c.key=P):=⟨_,rfl⟩
 rw [hP.out] at hp hpl HTS
 have HC1:Hid (∀W,(Instr.slice 36 (.slice a N c) none (some (.int .i64 (P:Int))) none).run Tryz.prog W=.ok (.slice (cutA a c 0 2) P c) W):=Hid.mk fun W=>run_cutH rt36 W a N c P (by omega)
 have HR1:Hid (∀W,Kept [] w W→ReadsR 2 W (.slice (cutA a c 0 2) P c) (CT (T.take P))):=Hid.mk fun W kW=>by
  have:=ReadsR.cut (k:=2) (i:=0) (j:=P) (m:=c) (n:=N) (by rw [CT_length,hN.out]) (HB.out W kW).2 (by omega) hpl (by omega) (Nat.le_refl c)
  simp only [Nat.sub_zero,List.drop_zero] at this
  unfold CT at this ⊢
  rw [List.map_take]
  exact this
 have HR2:Hid (∀i,i≤N→∀W,Kept [] w W→ReadsR 2 W (.slice (cutA a c i 2) (N-i) (c-i)) (CT (T.drop i))):=Hid.mk fun i hi W kW=>by
  have:=ReadsR.cut (k:=2) (i:=i) (j:=N) (m:=c) (n:=N) (by rw [CT_length,hN.out]) (HB.out W kW).2 hi (Nat.le_refl N) hcap (Nat.le_refl c)
  unfold CT at this ⊢
  rw [List.map_drop]
  rwa [List.take_of_length_le (by rw [List.length_map,hN.out];exact Nat.le_refl _)] at this
 have HLT:Hid ((CT (T.take P)).length=P):=Hid.mk (by rw [CT_length,List.length_take,hN.out];omega)
 -- the rows, one behind the other
 have HROW:Hid (∀W,Kept [] w W→∀i,i≤N→∀new:List KV,∃a3 c3 w3,(Builtin.append_ #[36,36] 36 #[.slice none 0 0,.slice (cutA a c 0 2) P c]).run Tryz.prog W=.ok (.slice a3 P c3) w3∧Kept [] W w3∧Kept [] w w3∧OwnsR 106 2 w3 (.slice a3 P c3) (CT (T.take P))∧Fresh w (.slice a3 P c3)):=Hid.mk fun W kW i hi new=>by
  obtain ⟨a3,c3,w3,hrun,ho,hg,hn⟩:=run_appendR rt36 W 36 _ [] (OwnsR.nil 106 2 W) _ (CT (T.take P)) (CT_wide _) (HR1.out W kW) (by simp only [List.length_nil,Nat.zero_add];rw [HLT.out];omega)
  simp only [List.length_nil,Nat.zero_add,List.nil_append] at hrun ho hn
  rw [HLT.out] at hrun ho hn
  refine ⟨a3,c3,w3,hrun,(Kept.refl [] W).grown hg (fun k hk=>by simp [Value.ownBlock] at hk),kW.grown hg (fun k hk=>by simp [Value.ownBlock] at hk),ho,fun g hg'=>?_⟩
  rcases hn g hg' with h|h
  ·simp [Value.ownBlock] at h
  ·exact Nat.le_trans kW.size h
 have HNEW:Hid (∀W a3 c3,Kept [] w W→OwnsR 106 2 W (.slice a3 P c3) (CT (T.take P))→Fresh w (.slice a3 P c3)→∃a4 c4 w4,(Builtin.append_ #[36,36] 36 #[.slice a3 P c3,.slice (some ⟨W.heap.size,0,none⟩) 1 1]).run Tryz.prog (W.alloc (.cells #[Sv x.c.key,Sv x.c.val] 106))=.ok (.slice a4 (P+1) c4) w4∧Kept [] w w4∧OwnsR 106 2 w4 (.slice a4 (P+1) c4) (CT (T.take P++[(x.c.key,x.c.val)]))∧Fresh w (.slice a4 (P+1) c4)):=Hid.mk fun W a3 c3 kW ho hf=>by
  obtain ⟨a4,c4,w4,hrun,ho4,k4,hn⟩:=append_rowR rt36 ho [Sv x.c.key,Sv x.c.val] rfl (fun u hu=>by simp at hu;rcases hu with rfl|rfl<;>rfl) (by rw [HLT.out];omega) 106 (0,0) 36
  rw [HLT.out] at hrun ho4 hn
  refine ⟨a4,c4,w4,hrun,kW.trans k4 (fun b hb=>.inr (hf b (by simpa using hb))),by rw [CT_append];exact ho4,fun g hg'=>?_⟩
  rcases hn g hg' with h|h
  ·exact hf g h
  ·exact Nat.le_trans kW.size h
 have HLAST:Hid (∀W a3 n3 c3 (A:List KV),n3=A.length→A.length≤200000→Kept [] w W→OwnsR 106 2 W (.slice a3 n3 c3) (CT A)→Fresh w (.slice a3 n3 c3)→∀i,i≤N→∃a5 n5 c5 w5,(Builtin.append_ #[36,36] 36 #[.slice a3 n3 c3,.slice (cutA a c i 2) (N-i) (c-i)]).run Tryz.prog W=.ok (.slice a5 n5 c5) w5∧w5.cell? ⟨db,0,none⟩=some (.slice a N c)∧w5.frozen? ⟨db,0,none⟩=false∧Hid (∃v',IsTab (w5.setCell ⟨db,0,none⟩ (.slice a5 n5 c5)) db v' (A++T.drop i)∧Kept [db] w (w5.setCell ⟨db,0,none⟩ (.slice a5 n5 c5))∧Fresh w v')):=Hid.mk fun W a3 n3 c3 A hn3 hA kW ho hf i hi=>by
  obtain ⟨a5,c5,w5,hrun,ho5,hg,hn⟩:=run_appendR rt36 W 36 _ _ ho _ (CT (T.drop i)) (CT_wide _) (HR2.out i hi W kW) (by rw [CT_length,CT_length,List.length_drop,hN.out];omega)
  rw [CT_length,CT_length] at hrun ho5 hn
  have kw5:Kept [] w w5:=kW.grown hg (fun k hk=>.inr (hf k hk))
  have hb5:=(HB.out w5 kw5).1
  have hf5:Fresh w (.slice a5 (A.length+(T.drop i).length) c5):=fun g hg'=>by
   rcases hn g hg' with h|h
   ·exact hf g h
   ·exact Nat.le_trans kW.size h
  have ks:Kept [db] w5 (w5.setCell ⟨db,0,none⟩ (.slice a5 (A.length+(T.drop i).length) c5)):=(Kept.refl [db] w5).setCell (.inl (by simp)) _
  have hne:(Value.slice a5 (A.length+(T.drop i).length) c5).ownBlock≠some db:=fun e=>by have:=hf5 db e;omega
  refine ⟨a5,_,c5,w5,hrun,by simp only [World.cell?,hb5];rfl,by simp only [World.frozen?,hb5];rfl,Hid.mk ⟨_,⟨?_,?_,hne⟩,(kw5.mono (by simp)).trans ks (fun b hb=>.inl hb),hf5⟩⟩
  ·rw [heap_setCell_same w5 db 0 _ 38 _ hb5];rfl
  ·rw [CT_append]
   exact (ho5.kept ks (fun g hg' hm=>hne (by simp at hm;rw [←hm];exact hg'))).reads ((CT_wide A).append (CT_wide _))
 have HLO:Hid (∀i,i≤N→∀W,(Instr.slice 36 (.slice a N c) (some (.int .i64 (i:Int))) none none).run Tryz.prog W=.ok (.slice (cutA a c i 2) (N-i) (c-i)) W):=Hid.mk fun i hi W=>run_cutL rt36 W a N c i hi
 have HLP:Hid ((T.take P).length=P):=Hid.mk (by rw [List.length_take,hN.out];omega)
 obtain ⟨S1,hS1⟩:∃S1,Hid (Value.slice (cutA a c 0 2) P c=S1):=⟨_,rfl⟩
 rw [hS1.out] at HC1 HROW
 clear hcm HR1 HR2
 have cb:w1.cell? ⟨db,0,none⟩=some (.slice a N c):=by simp only [World.cell?,(HB.out w1 k1).1];rfl
 by_cases hlt:P<N
 ·obtain ⟨y,hy⟩:∃y,T[P]?=some y:=⟨_,List.getElem?_eq_getElem (by have:=hN.out;omega)⟩
  obtain ⟨b,o,rfl,d0,-⟩:=ctAt (HB.out w1 k1).2 hy
  by_cases hk:y.1=x.c.key
  ·cases hg:x.c.gone with
   | true =>
    rw [hg] at hnew hw1
    have HTE:Hid (tset T x.c=T.take P++T.drop (P+1)):=Hid.mk (by rw [HTS.out (P+1) (.inr ⟨rfl,⟨y,hy,hk⟩⟩),hg];simp)
    rw [hk] at d0
    clear HTS hg hk hy
    obtain ⟨n0,n1,n2⟩:=hnew
    generalize x.ad=va at *
    generalize x.cap=vc at *
    generalize x.c=xc at *
    generalize xc.val.length=vl at *
    generalize xc.key=key at *
    generalize y.2=yv at *
    go_enter Tryz.func53,Tryz.ntmps53
    go_wp2_with fail
    rw [hw1.out]
    refine hp.mono ?_
    rintro e w2 ⟨rfl,rfl⟩
    clear hp
    go_wp2_with fail
    go_quiet (fail)
    have kq:Kept [] w (w1.drewN nq):=k1.drewN nq
    have q0:(w1.drewN nq).cell? ⟨w.heap.size,0,none⟩=some (Sv key):=n0
    have q1:(w1.drewN nq).cell? ⟨w.heap.size,1,none⟩=some (.slice va vl vc):=n1
    have q2:(w1.drewN nq).cell? ⟨w.heap.size,2,none⟩=some (.bool true):=n2
    have qb:(w1.drewN nq).cell? ⟨db,0,none⟩=some (.slice (some ⟨b,o,none⟩) N c):=cb
    clear n0 n1 n2 cb hw1 k1 d0
    generalize w1.drewN nq=W2 at *
    obtain ⟨a3,c3,w3,hrun1,kW3,k3,ho3,hf3⟩:=HROW.out W2 kq P (by omega) []
    have hcut1:=HC1.out W2
    have cb3:w3.cell? ⟨db,0,none⟩=some (.slice (some ⟨b,o,none⟩) N c):=by simp only [World.cell?,(HB.out w3 k3).1];rfl
    have z0:w3.cell? ⟨w.heap.size,0,none⟩=some (Sv key):=by rw [kW3.cell (World.block_lt_of_cell? _ _ q0) (by simp)];exact q0
    have z1:w3.cell? ⟨w.heap.size,1,none⟩=some (.slice va vl vc):=by rw [kW3.cell (World.block_lt_of_cell? _ _ q1) (by simp)];exact q1
    have z2:w3.cell? ⟨w.heap.size,2,none⟩=some (.bool true):=by rw [kW3.cell (World.block_lt_of_cell? _ _ q2) (by simp)];exact q2
    obtain ⟨a5,n5,c5,w5,hrun3,d5,f5,HF⟩:=HLAST.out w3 a3 P c3 _ (by rw [HLP.out]) (by rw [HLP.out];omega) k3 ho3 hf3 (P+1) (by omega)
    have hcut2:=HLO.out (P+1) (by omega) w3
    have HF2:Hid (∃v',IsTab (w5.setCell ⟨db,0,none⟩ (.slice a5 n5 c5)) db v' (tset T xc)∧Kept [db] w (w5.setCell ⟨db,0,none⟩ (.slice a5 n5 c5))∧Fresh w v'):=Hid.mk (by rw [HTE.out];exact HF.out)
    clear HF HLAST HNEW HROW HB HC1 HLO HV HTE kW3 k3 ho3 hf3 kq
    obtain ⟨S3,hS3⟩:∃S3,Hid (Value.slice (cutA (some ⟨b,o,none⟩) c (P+1) 2) (N-(P+1)) (c-(P+1))=S3):=⟨_,rfl⟩
    rw [hS3.out] at hrun3 hcut2
    rw [show ((P+1:Nat):Int)=(P:Int)+1 from by omega] at hcut2
    have R1:∀v y W,v=.slice none 0 0→y=S1→W=W2→(Builtin.append_ #[36,36] 36 #[v,y]).run Tryz.prog W=.ok (.slice a3 P c3) w3:=fun v y W e1 e2 e3=>by subst e1 e2 e3;exact hrun1
    have R3:∀v y W,v=.slice a3 P c3→y=S3→W=w3→(Builtin.append_ #[36,36] 36 #[v,y]).run Tryz.prog W=.ok (.slice a5 n5 c5) w5:=fun v y W e1 e2 e3=>by subst e1 e2 e3;exact hrun3
    clear hrun1 hrun3
    go_wp2_with (at_builtin;first|refine wpList_append_run 36 _ _ rfl rfl _ _ rfl rfl _ _ (R1 _ _ _ rfl rfl rfl) ?_|refine wpList_append_run 36 _ _ rfl rfl _ _ rfl rfl _ _ (R3 _ _ _ rfl rfl rfl) ?_)
    go_end0
    exact ⟨rfl,HF2.out⟩
   | false =>
    rw [hg] at hnew hw1
    have HTE:Hid (tset T x.c=T.take P++[(x.c.key,x.c.val)]++T.drop (P+1)):=Hid.mk (by rw [HTS.out (P+1) (.inr ⟨rfl,⟨y,hy,hk⟩⟩),hg];simp)
    rw [hk] at d0
    clear HTS hg hk hy
    obtain ⟨n0,n1,n2⟩:=hnew
    generalize x.ad=va at *
    generalize x.cap=vc at *
    generalize x.c=xc at *
    generalize xc.val.length=vl at *
    generalize xc.key=key at *
    generalize y.2=yv at *
    go_enter Tryz.func53,Tryz.ntmps53
    go_wp2_with fail
    rw [hw1.out]
    refine hp.mono ?_
    rintro e w2 ⟨rfl,rfl⟩
    clear hp
    go_wp2_with fail
    go_quiet (fail)
    have kq:Kept [] w (w1.drewN nq):=k1.drewN nq
    have q0:(w1.drewN nq).cell? ⟨w.heap.size,0,none⟩=some (Sv key):=n0
    have q1:(w1.drewN nq).cell? ⟨w.heap.size,1,none⟩=some (.slice va vl vc):=n1
    have q2:(w1.drewN nq).cell? ⟨w.heap.size,2,none⟩=some (.bool false):=n2
    have qb:(w1.drewN nq).cell? ⟨db,0,none⟩=some (.slice (some ⟨b,o,none⟩) N c):=cb
    clear n0 n1 n2 cb hw1 k1 d0
    generalize w1.drewN nq=W2 at *
    obtain ⟨a3,c3,w3,hrun1,kW3,k3,ho3,hf3⟩:=HROW.out W2 kq P (by omega) []
    have hcut1:=HC1.out W2
    have cb3:w3.cell? ⟨db,0,none⟩=some (.slice (some ⟨b,o,none⟩) N c):=by simp only [World.cell?,(HB.out w3 k3).1];rfl
    have z0:w3.cell? ⟨w.heap.size,0,none⟩=some (Sv key):=by rw [kW3.cell (World.block_lt_of_cell? _ _ q0) (by simp)];exact q0
    have z1:w3.cell? ⟨w.heap.size,1,none⟩=some (.slice va vl vc):=by rw [kW3.cell (World.block_lt_of_cell? _ _ q1) (by simp)];exact q1
    have z2:w3.cell? ⟨w.heap.size,2,none⟩=some (.bool false):=by rw [kW3.cell (World.block_lt_of_cell? _ _ q2) (by simp)];exact q2
    have hstr:=HV.out w3 k3
    obtain ⟨a4,c4,w4,hrun2,k4,ho4,hf4⟩:=HNEW.out w3 a3 c3 k3 ho3 hf3
    have cb4:w4.cell? ⟨db,0,none⟩=some (.slice (some ⟨b,o,none⟩) N c):=by simp only [World.cell?,(HB.out w4 k4).1];rfl
    obtain ⟨a5,n5,c5,w5,hrun3,d5,f5,HF⟩:=HLAST.out w4 a4 (P+1) c4 _ (by rw [List.length_append,HLP.out];rfl) (by rw [List.length_append,HLP.out];simp;omega) k4 ho4 hf4 (P+1) (by omega)
    have hcut2:=HLO.out (P+1) (by omega) w4
    have HF2:Hid (∃v',IsTab (w5.setCell ⟨db,0,none⟩ (.slice a5 n5 c5)) db v' (tset T xc)∧Kept [db] w (w5.setCell ⟨db,0,none⟩ (.slice a5 n5 c5))∧Fresh w v'):=Hid.mk (by rw [HTE.out];exact HF.out)
    clear HF HLAST HNEW HROW HB HC1 HLO HV HTE kW3 k3 k4 ho3 ho4 hf3 hf4 kq
    obtain ⟨S3,hS3⟩:∃S3,Hid (Value.slice (cutA (some ⟨b,o,none⟩) c (P+1) 2) (N-(P+1)) (c-(P+1))=S3):=⟨_,rfl⟩
    rw [hS3.out] at hrun3 hcut2
    rw [show ((P+1:Nat):Int)=(P:Int)+1 from by omega] at hcut2
    have R1:∀v y W,v=.slice none 0 0→y=S1→W=W2→(Builtin.append_ #[36,36] 36 #[v,y]).run Tryz.prog W=.ok (.slice a3 P c3) w3:=fun v y W e1 e2 e3=>by subst e1 e2 e3;exact hrun1
    have R2:∀v y W,v=.slice a3 P c3→y=.slice (some ⟨w3.heap.size,0,none⟩) 1 1→W=w3.alloc (.cells #[Sv key,Sv xc.val] 106)→(Builtin.append_ #[36,36] 36 #[v,y]).run Tryz.prog W=.ok (.slice a4 (P+1) c4) w4:=fun v y W e1 e2 e3=>by subst e1 e2 e3;exact hrun2
    have R3:∀v y W,v=.slice a4 (P+1) c4→y=S3→W=w4→(Builtin.append_ #[36,36] 36 #[v,y]).run Tryz.prog W=.ok (.slice a5 n5 c5) w5:=fun v y W e1 e2 e3=>by subst e1 e2 e3;exact hrun3
    clear hrun1 hrun3 hrun2
    go_wp2_with (at_builtin;first|refine wpList_append_run 36 _ _ rfl rfl _ _ rfl rfl _ _ (R1 _ _ _ rfl rfl rfl) ?_|refine wpList_append_run 36 _ _ rfl rfl _ _ rfl rfl _ _ (R2 _ _ _ rfl rfl rfl) ?_|refine wpList_append_run 36 _ _ rfl rfl _ _ rfl rfl _ _ (R3 _ _ _ rfl rfl rfl) ?_)
    go_end0
    exact ⟨rfl,HF2.out⟩
  ·have hne:=str_ne y.1 x.c.key hk
   have hne3:(y.1 == x.c.key)=false:=by simpa using hk
   cases hg:x.c.gone with
   | true =>
    rw [hg] at hnew hw1
    have HTE:Hid (tset T x.c=T.take P++T.drop (P)):=Hid.mk (by rw [HTS.out (P) (.inl ⟨rfl,fun z hz=>by rw [hy] at hz;injection hz with hz;rw [←hz];exact hk⟩),hg];simp)
    clear HTS hg hk hy
    obtain ⟨n0,n1,n2⟩:=hnew
    generalize x.ad=va at *
    generalize x.cap=vc at *
    generalize x.c=xc at *
    generalize xc.val.length=vl at *
    generalize xc.key=key at *
    generalize y.1=yk at *
    generalize y.2=yv at *
    go_enter Tryz.func53,Tryz.ntmps53
    go_wp2_with fail
    rw [hw1.out]
    refine hp.mono ?_
    rintro e w2 ⟨rfl,rfl⟩
    clear hp
    go_wp2_with fail
    go_quiet (fail)
    have kq:Kept [] w (w1.drewN nq):=k1.drewN nq
    have q0:(w1.drewN nq).cell? ⟨w.heap.size,0,none⟩=some (Sv key):=n0
    have q1:(w1.drewN nq).cell? ⟨w.heap.size,1,none⟩=some (.slice va vl vc):=n1
    have q2:(w1.drewN nq).cell? ⟨w.heap.size,2,none⟩=some (.bool true):=n2
    have qb:(w1.drewN nq).cell? ⟨db,0,none⟩=some (.slice (some ⟨b,o,none⟩) N c):=cb
    clear n0 n1 n2 cb hw1 k1 d0
    generalize w1.drewN nq=W2 at *
    obtain ⟨a3,c3,w3,hrun1,kW3,k3,ho3,hf3⟩:=HROW.out W2 kq P (by omega) []
    have hcut1:=HC1.out W2
    have cb3:w3.cell? ⟨db,0,none⟩=some (.slice (some ⟨b,o,none⟩) N c):=by simp only [World.cell?,(HB.out w3 k3).1];rfl
    have z0:w3.cell? ⟨w.heap.size,0,none⟩=some (Sv key):=by rw [kW3.cell (World.block_lt_of_cell? _ _ q0) (by simp)];exact q0
    have z1:w3.cell? ⟨w.heap.size,1,none⟩=some (.slice va vl vc):=by rw [kW3.cell (World.block_lt_of_cell? _ _ q1) (by simp)];exact q1
    have z2:w3.cell? ⟨w.heap.size,2,none⟩=some (.bool true):=by rw [kW3.cell (World.block_lt_of_cell? _ _ q2) (by simp)];exact q2
    obtain ⟨a5,n5,c5,w5,hrun3,d5,f5,HF⟩:=HLAST.out w3 a3 P c3 _ (by rw [HLP.out]) (by rw [HLP.out];omega) k3 ho3 hf3 (P) (by omega)
    have hcut2:=HLO.out (P) (by omega) w3
    have HF2:Hid (∃v',IsTab (w5.setCell ⟨db,0,none⟩ (.slice a5 n5 c5)) db v' (tset T xc)∧Kept [db] w (w5.setCell ⟨db,0,none⟩ (.slice a5 n5 c5))∧Fresh w v'):=Hid.mk (by rw [HTE.out];exact HF.out)
    clear HF HLAST HNEW HROW HB HC1 HLO HV HTE kW3 k3 ho3 hf3 kq
    obtain ⟨S3,hS3⟩:∃S3,Hid (Value.slice (cutA (some ⟨b,o,none⟩) c P 2) (N-P) (c-P)=S3):=⟨_,rfl⟩
    rw [hS3.out] at hrun3 hcut2
    have R1:∀v y W,v=.slice none 0 0→y=S1→W=W2→(Builtin.append_ #[36,36] 36 #[v,y]).run Tryz.prog W=.ok (.slice a3 P c3) w3:=fun v y W e1 e2 e3=>by subst e1 e2 e3;exact hrun1
    have R3:∀v y W,v=.slice a3 P c3→y=S3→W=w3→(Builtin.append_ #[36,36] 36 #[v,y]).run Tryz.prog W=.ok (.slice a5 n5 c5) w5:=fun v y W e1 e2 e3=>by subst e1 e2 e3;exact hrun3
    clear hrun1 hrun3
    go_wp2_with (at_builtin;first|refine wpList_append_run 36 _ _ rfl rfl _ _ rfl rfl _ _ (R1 _ _ _ rfl rfl rfl) ?_|refine wpList_append_run 36 _ _ rfl rfl _ _ rfl rfl _ _ (R3 _ _ _ rfl rfl rfl) ?_)
    go_end0
    exact ⟨rfl,HF2.out⟩
   | false =>
    rw [hg] at hnew hw1
    have HTE:Hid (tset T x.c=T.take P++[(x.c.key,x.c.val)]++T.drop (P)):=Hid.mk (by rw [HTS.out (P) (.inl ⟨rfl,fun z hz=>by rw [hy] at hz;injection hz with hz;rw [←hz];exact hk⟩),hg];simp)
    clear HTS hg hk hy
    obtain ⟨n0,n1,n2⟩:=hnew
    generalize x.ad=va at *
    generalize x.cap=vc at *
    generalize x.c=xc at *
    generalize xc.val.length=vl at *
    generalize xc.key=key at *
    generalize y.1=yk at *
    generalize y.2=yv at *
    go_enter Tryz.func53,Tryz.ntmps53
    go_wp2_with fail
    rw [hw1.out]
    refine hp.mono ?_
    rintro e w2 ⟨rfl,rfl⟩
    clear hp
    go_wp2_with fail
    go_quiet (fail)
    have kq:Kept [] w (w1.drewN nq):=k1.drewN nq
    have q0:(w1.drewN nq).cell? ⟨w.heap.size,0,none⟩=some (Sv key):=n0
    have q1:(w1.drewN nq).cell? ⟨w.heap.size,1,none⟩=some (.slice va vl vc):=n1
    have q2:(w1.drewN nq).cell? ⟨w.heap.size,2,none⟩=some (.bool false):=n2
    have qb:(w1.drewN nq).cell? ⟨db,0,none⟩=some (.slice (some ⟨b,o,none⟩) N c):=cb
    clear n0 n1 n2 cb hw1 k1 d0
    generalize w1.drewN nq=W2 at *
    obtain ⟨a3,c3,w3,hrun1,kW3,k3,ho3,hf3⟩:=HROW.out W2 kq P (by omega) []
    have hcut1:=HC1.out W2
    have cb3:w3.cell? ⟨db,0,none⟩=some (.slice (some ⟨b,o,none⟩) N c):=by simp only [World.cell?,(HB.out w3 k3).1];rfl
    have z0:w3.cell? ⟨w.heap.size,0,none⟩=some (Sv key):=by rw [kW3.cell (World.block_lt_of_cell? _ _ q0) (by simp)];exact q0
    have z1:w3.cell? ⟨w.heap.size,1,none⟩=some (.slice va vl vc):=by rw [kW3.cell (World.block_lt_of_cell? _ _ q1) (by simp)];exact q1
    have z2:w3.cell? ⟨w.heap.size,2,none⟩=some (.bool false):=by rw [kW3.cell (World.block_lt_of_cell? _ _ q2) (by simp)];exact q2
    have hstr:=HV.out w3 k3
    obtain ⟨a4,c4,w4,hrun2,k4,ho4,hf4⟩:=HNEW.out w3 a3 c3 k3 ho3 hf3
    have cb4:w4.cell? ⟨db,0,none⟩=some (.slice (some ⟨b,o,none⟩) N c):=by simp only [World.cell?,(HB.out w4 k4).1];rfl
    obtain ⟨a5,n5,c5,w5,hrun3,d5,f5,HF⟩:=HLAST.out w4 a4 (P+1) c4 _ (by rw [List.length_append,HLP.out];rfl) (by rw [List.length_append,HLP.out];simp;omega) k4 ho4 hf4 (P) (by omega)
    have hcut2:=HLO.out (P) (by omega) w4
    have HF2:Hid (∃v',IsTab (w5.setCell ⟨db,0,none⟩ (.slice a5 n5 c5)) db v' (tset T xc)∧Kept [db] w (w5.setCell ⟨db,0,none⟩ (.slice a5 n5 c5))∧Fresh w v'):=Hid.mk (by rw [HTE.out];exact HF.out)
    clear HF HLAST HNEW HROW HB HC1 HLO HV HTE kW3 k3 k4 ho3 ho4 hf3 hf4 kq
    obtain ⟨S3,hS3⟩:∃S3,Hid (Value.slice (cutA (some ⟨b,o,none⟩) c P 2) (N-P) (c-P)=S3):=⟨_,rfl⟩
    rw [hS3.out] at hrun3 hcut2
    have R1:∀v y W,v=.slice none 0 0→y=S1→W=W2→(Builtin.append_ #[36,36] 36 #[v,y]).run Tryz.prog W=.ok (.slice a3 P c3) w3:=fun v y W e1 e2 e3=>by subst e1 e2 e3;exact hrun1
    have R2:∀v y W,v=.slice a3 P c3→y=.slice (some ⟨w3.heap.size,0,none⟩) 1 1→W=w3.alloc (.cells #[Sv key,Sv xc.val] 106)→(Builtin.append_ #[36,36] 36 #[v,y]).run Tryz.prog W=.ok (.slice a4 (P+1) c4) w4:=fun v y W e1 e2 e3=>by subst e1 e2 e3;exact hrun2
    have R3:∀v y W,v=.slice a4 (P+1) c4→y=S3→W=w4→(Builtin.append_ #[36,36] 36 #[v,y]).run Tryz.prog W=.ok (.slice a5 n5 c5) w5:=fun v y W e1 e2 e3=>by subst e1 e2 e3;exact hrun3
    clear hrun1 hrun3 hrun2
    go_wp2_with (at_builtin;first|refine wpList_append_run 36 _ _ rfl rfl _ _ rfl rfl _ _ (R1 _ _ _ rfl rfl rfl) ?_|refine wpList_append_run 36 _ _ rfl rfl _ _ rfl rfl _ _ (R2 _ _ _ rfl rfl rfl) ?_|refine wpList_append_run 36 _ _ rfl rfl _ _ rfl rfl _ _ (R3 _ _ _ rfl rfl rfl) ?_)
    go_end0
    exact ⟨rfl,HF2.out⟩
 ·have hPN:P=N:=by omega
  subst hPN
  cases hg:x.c.gone with
  | true =>
   rw [hg] at hnew hw1
   have HTE:Hid (tset T x.c=T.take P++T.drop (P)):=Hid.mk (by rw [HTS.out (P) (.inl ⟨rfl,fun z hz=>by have:=(List.getElem?_eq_some_iff.1 hz).1;have:=hN.out;omega⟩),hg];simp)
   clear HTS hg
   obtain ⟨n0,n1,n2⟩:=hnew
   generalize x.ad=va at *
   generalize x.cap=vc at *
   generalize x.c=xc at *
   generalize xc.val.length=vl at *
   generalize xc.key=key at *
   go_enter Tryz.func53,Tryz.ntmps53
   go_wp2_with fail
   rw [hw1.out]
   refine hp.mono ?_
   rintro e w2 ⟨rfl,rfl⟩
   clear hp
   go_wp2_with fail
   go_quiet (fail)
   have kq:Kept [] w (w1.drewN nq):=k1.drewN nq
   have q0:(w1.drewN nq).cell? ⟨w.heap.size,0,none⟩=some (Sv key):=n0
   have q1:(w1.drewN nq).cell? ⟨w.heap.size,1,none⟩=some (.slice va vl vc):=n1
   have q2:(w1.drewN nq).cell? ⟨w.heap.size,2,none⟩=some (.bool true):=n2
   have qb:(w1.drewN nq).cell? ⟨db,0,none⟩=some (.slice a P c):=cb
   clear n0 n1 n2 cb hw1 k1
   generalize w1.drewN nq=W2 at *
   obtain ⟨a3,c3,w3,hrun1,kW3,k3,ho3,hf3⟩:=HROW.out W2 kq P (by omega) []
   have hcut1:=HC1.out W2
   have cb3:w3.cell? ⟨db,0,none⟩=some (.slice a P c):=by simp only [World.cell?,(HB.out w3 k3).1];rfl
   have z0:w3.cell? ⟨w.heap.size,0,none⟩=some (Sv key):=by rw [kW3.cell (World.block_lt_of_cell? _ _ q0) (by simp)];exact q0
   have z1:w3.cell? ⟨w.heap.size,1,none⟩=some (.slice va vl vc):=by rw [kW3.cell (World.block_lt_of_cell? _ _ q1) (by simp)];exact q1
   have z2:w3.cell? ⟨w.heap.size,2,none⟩=some (.bool true):=by rw [kW3.cell (World.block_lt_of_cell? _ _ q2) (by simp)];exact q2
   obtain ⟨a5,n5,c5,w5,hrun3,d5,f5,HF⟩:=HLAST.out w3 a3 P c3 _ (by rw [HLP.out]) (by rw [HLP.out];omega) k3 ho3 hf3 (P) (by omega)
   have hcut2:=HLO.out (P) (by omega) w3
   have HF2:Hid (∃v',IsTab (w5.setCell ⟨db,0,none⟩ (.slice a5 n5 c5)) db v' (tset T xc)∧Kept [db] w (w5.setCell ⟨db,0,none⟩ (.slice a5 n5 c5))∧Fresh w v'):=Hid.mk (by rw [HTE.out];exact HF.out)
   clear HF HLAST HNEW HROW HB HC1 HLO HV HTE kW3 k3 ho3 hf3 kq
   obtain ⟨S3,hS3⟩:∃S3,Hid (Value.slice (cutA a c P 2) (P-P) (c-P)=S3):=⟨_,rfl⟩
   rw [hS3.out] at hrun3 hcut2
   have R1:∀v y W,v=.slice none 0 0→y=S1→W=W2→(Builtin.append_ #[36,36] 36 #[v,y]).run Tryz.prog W=.ok (.slice a3 P c3) w3:=fun v y W e1 e2 e3=>by subst e1 e2 e3;exact hrun1
   have R3:∀v y W,v=.slice a3 P c3→y=S3→W=w3→(Builtin.append_ #[36,36] 36 #[v,y]).run Tryz.prog W=.ok (.slice a5 n5 c5) w5:=fun v y W e1 e2 e3=>by subst e1 e2 e3;exact hrun3
   clear hrun1 hrun3
   go_wp2_with (at_builtin;first|refine wpList_append_run 36 _ _ rfl rfl _ _ rfl rfl _ _ (R1 _ _ _ rfl rfl rfl) ?_|refine wpList_append_run 36 _ _ rfl rfl _ _ rfl rfl _ _ (R3 _ _ _ rfl rfl rfl) ?_)
   go_end0
   exact ⟨rfl,HF2.out⟩
  | false =>
   rw [hg] at hnew hw1
   have HTE:Hid (tset T x.c=T.take P++[(x.c.key,x.c.val)]++T.drop (P)):=Hid.mk (by rw [HTS.out (P) (.inl ⟨rfl,fun z hz=>by have:=(List.getElem?_eq_some_iff.1 hz).1;have:=hN.out;omega⟩),hg];simp)
   clear HTS hg
   obtain ⟨n0,n1,n2⟩:=hnew
   generalize x.ad=va at *
   generalize x.cap=vc at *
   generalize x.c=xc at *
   generalize xc.val.length=vl at *
   generalize xc.key=key at *
   go_enter Tryz.func53,Tryz.ntmps53
   go_wp2_with fail
   rw [hw1.out]
   refine hp.mono ?_
   rintro e w2 ⟨rfl,rfl⟩
   clear hp
   go_wp2_with fail
   go_quiet (fail)
   have kq:Kept [] w (w1.drewN nq):=k1.drewN nq
   have q0:(w1.drewN nq).cell? ⟨w.heap.size,0,none⟩=some (Sv key):=n0
   have q1:(w1.drewN nq).cell? ⟨w.heap.size,1,none⟩=some (.slice va vl vc):=n1
   have q2:(w1.drewN nq).cell? ⟨w.heap.size,2,none⟩=some (.bool false):=n2
   have qb:(w1.drewN nq).cell? ⟨db,0,none⟩=some (.slice a P c):=cb
   clear n0 n1 n2 cb hw1 k1
   generalize w1.drewN nq=W2 at *
   obtain ⟨a3,c3,w3,hrun1,kW3,k3,ho3,hf3⟩:=HROW.out W2 kq P (by omega) []
   have hcut1:=HC1.out W2
   have cb3:w3.cell? ⟨db,0,none⟩=some (.slice a P c):=by simp only [World.cell?,(HB.out w3 k3).1];rfl
   have z0:w3.cell? ⟨w.heap.size,0,none⟩=some (Sv key):=by rw [kW3.cell (World.block_lt_of_cell? _ _ q0) (by simp)];exact q0
   have z1:w3.cell? ⟨w.heap.size,1,none⟩=some (.slice va vl vc):=by rw [kW3.cell (World.block_lt_of_cell? _ _ q1) (by simp)];exact q1
   have z2:w3.cell? ⟨w.heap.size,2,none⟩=some (.bool false):=by rw [kW3.cell (World.block_lt_of_cell? _ _ q2) (by simp)];exact q2
   have hstr:=HV.out w3 k3
   obtain ⟨a4,c4,w4,hrun2,k4,ho4,hf4⟩:=HNEW.out w3 a3 c3 k3 ho3 hf3
   have cb4:w4.cell? ⟨db,0,none⟩=some (.slice a P c):=by simp only [World.cell?,(HB.out w4 k4).1];rfl
   obtain ⟨a5,n5,c5,w5,hrun3,d5,f5,HF⟩:=HLAST.out w4 a4 (P+1) c4 _ (by rw [List.length_append,HLP.out];rfl) (by rw [List.length_append,HLP.out];simp;omega) k4 ho4 hf4 (P) (by omega)
   have hcut2:=HLO.out (P) (by omega) w4
   have HF2:Hid (∃v',IsTab (w5.setCell ⟨db,0,none⟩ (.slice a5 n5 c5)) db v' (tset T xc)∧Kept [db] w (w5.setCell ⟨db,0,none⟩ (.slice a5 n5 c5))∧Fresh w v'):=Hid.mk (by rw [HTE.out];exact HF.out)
   clear HF HLAST HNEW HROW HB HC1 HLO HV HTE kW3 k3 k4 ho3 ho4 hf3 hf4 kq
   obtain ⟨S3,hS3⟩:∃S3,Hid (Value.slice (cutA a c P 2) (P-P) (c-P)=S3):=⟨_,rfl⟩
   rw [hS3.out] at hrun3 hcut2
   have R1:∀v y W,v=.slice none 0 0→y=S1→W=W2→(Builtin.append_ #[36,36] 36 #[v,y]).run Tryz.prog W=.ok (.slice a3 P c3) w3:=fun v y W e1 e2 e3=>by subst e1 e2 e3;exact hrun1
   have R2:∀v y W,v=.slice a3 P c3→y=.slice (some ⟨w3.heap.size,0,none⟩) 1 1→W=w3.alloc (.cells #[Sv key,Sv xc.val] 106)→(Builtin.append_ #[36,36] 36 #[v,y]).run Tryz.prog W=.ok (.slice a4 (P+1) c4) w4:=fun v y W e1 e2 e3=>by subst e1 e2 e3;exact hrun2
   have R3:∀v y W,v=.slice a4 (P+1) c4→y=S3→W=w4→(Builtin.append_ #[36,36] 36 #[v,y]).run Tryz.prog W=.ok (.slice a5 n5 c5) w5:=fun v y W e1 e2 e3=>by subst e1 e2 e3;exact hrun3
   clear hrun1 hrun3 hrun2
   go_wp2_with (at_builtin;first|refine wpList_append_run 36 _ _ rfl rfl _ _ rfl rfl _ _ (R1 _ _ _ rfl rfl rfl) ?_|refine wpList_append_run 36 _ _ rfl rfl _ _ rfl rfl _ _ (R2 _ _ _ rfl rfl rfl) ?_|refine wpList_append_run 36 _ _ rfl rfl _ _ rfl rfl _ _ (R3 _ _ _ rfl rfl rfl) ?_)
   go_end0
   exact ⟨rfl,HF2.out⟩
end
end Go.Proofs.YtgpbhlfdlkemjaaGreat
