import Derived.Laws.IdiomStrings
import Derived.Test.YtgpbhlfdlkemjaaGreatH47
import Derived.Test.YtgpbhlfdlkemjaaGreatH49
import Derived.Test.YtgpbhlfdlkemjaaGreatH51
/-
 Settle, with all that is told of the pages' texts; the tree that lies in the pages.
-/
namespace Go.Proofs.YtgpbhlfdlkemjaaGreat
open Go.RowKit
set_option linter.unusedVariables false
theorem LaidT.turn {L L':List Ent}{ρ:Rho}:{kd:UInt8}→{k:Nat}→{n:Tr k}→LaidT L ρ kd n→(∀b∈pbl n,(ρ b).1≠0→∀bs l,((ρ b).1,bs,l)∈L→((ρ b).1,bs,l)∈L')→LaidT L' ρ kd n
 | kd,0,n,h,hh=>by
  refine ⟨h.1,?_,fun i hi hl=>⟨(h.2.2 i hi hl).1,?_⟩⟩
  ·obtain ⟨bs,h1,h2⟩:=h.2.1
   exact ⟨bs,hh _ List.mem_cons_self h.1 _ _ h1,h2⟩
  ·obtain ⟨h0,bs,h1,h2⟩:=h.2.2 i hi hl
   exact ⟨bs,hh _ (List.mem_cons_of_mem _ (List.mem_map.2 ⟨i,List.mem_filter.2 ⟨hi,hl⟩,rfl⟩)) h0 _ _ h1,h2⟩
 | kd,k+1,n,h,hh=>by
  refine ⟨h.1,?_,fun u hu=>(h.2.2 u hu).turn fun b hb=>hh b (List.mem_cons_of_mem _ (List.mem_flatMap.2 ⟨u,hu,hb⟩))⟩
  obtain ⟨bs,h1,h2⟩:=h.2.1
  exact ⟨bs,hh _ List.mem_cons_self h.1 _ _ h1,h2⟩
section
variable {ρ:Rho}{t:AT}{old:List Nat}{L L':List Ent}
theorem NI.perm (h:NI ρ t old L) (p:L'.Perm L):NI ρ t old L' :=
 ⟨(p.map _).trans h.names,fun n e=>(h.laid n e).turn fun b _ _ bs l hm=>p.mem_iff.2 hm,h.sup⟩
theorem NI.settled (h:NI ρ t old L) (hnd:(L.map (·.1)).Nodup):NI ρ t [] (remE L old):=by
 have hN:=(h.names.nodup_iff).1 hnd
 rw [List.nodup_append] at hN
 have hout:∀x∈nmsT ρ t,x∉old:=fun x hx ho=>hN.2.2 x hx x ho rfl
 refine ⟨?_,fun n e=>(h.laid n e).turn fun b hb hp bs l hm=>List.mem_filter.2 ⟨hm,?_⟩,h.sup⟩
 ·have e1:(remE L old).map (·.1)=(L.map (·.1)).filter fun x=>decide (x∉old):=by
   unfold remE
   rw [List.filter_map]
   rfl
  rw [e1,List.append_nil]
  refine (h.names.filter _).trans ?_
  rw [List.filter_append,List.filter_eq_self.2 (fun x hx=>by simpa using hout x hx),List.filter_eq_nil_iff.2 (fun x hx=>by simpa using hx),List.append_nil]
 ·subst e
  have:(ρ b).1∈nmsT ρ (some n):=mem_nms.2 ⟨b,pbl_blks b hb,hp,rfl⟩
  simpa using hout _ this
theorem NI.short {w:World}{F:Nat→Prop}{n:Sigma Tr} (h:NI ρ (some n) old L) (hN:IsN w F ρ n.2) {i:Itm} (hI:IsI w F ρ i) (hs:lng i=false):(ρ i.ad).1=0:=by
 refine Classical.byContradiction fun hp=>?_
 obtain ⟨m,e,hb⟩:=h.sup i.ad hp
 injection e with e
 subst e
 rcases (h.laid n rfl).find hN hb with ⟨j,hj,a1,a2,a3,_⟩|⟨j,m,kd',a1,a2,_⟩
 ·have:=a1.det hI a2
  subst this
  rw [hs] at a3
  cases a3
 ·exact a1.noItem hI a2
theorem named_of {w:World}{F:Nat→Prop}{kd:UInt8} (hs:∀{i:Itm},IsI w F ρ i→lng i=false→(ρ i.ad).1=0):{k:Nat}→{n:Tr k}→IsN w F ρ n→LaidT L ρ kd n→Named ρ n:=by
 intro k
 induction k generalizing kd with
 | zero=>exact fun hN hl=>⟨fun i hi=>⟨fun hg=>(hl.2.2 i hi hg).1,fun hg=>hs (hN.2 i hi) hg⟩,hl.1⟩
 | succ k ih=>exact fun hN hl=>⟨fun u hu=>ih (hN.2 u hu) (hl.2.2 u hu),hl.1⟩
end
theorem Named.own {ρ:Rho}:{k:Nat}→{n:Tr k}→Named ρ n→(ρ (adr n)).1≠0
 | 0,_,h=>h.2
 | _+1,_,h=>h.2
theorem putN_all {ρ:Rho}:{k:Nat}→(N:List (Tr k))→(∀n∈N,Named ρ n)→PutN ρ N
 | 0,N,h=>fun i hi=>by
  obtain ⟨n,hn,hi⟩:=List.mem_flatMap.1 hi
  exact (h n hn).1 i hi
 | k+1,N,h=>by
  have hb:∀u∈below N,Named ρ u:=fun u hu=>by
   obtain ⟨n,hn,hm⟩:=List.mem_flatMap.1 hu
   exact (h n hn).1 u hm
  exact ⟨fun u hu=>(hb u hu).own,putN_all _ hb⟩
def txL (L:List Ent) (x:Nat):List UInt8:=((L.find? fun e=>e.1 == x).map (·.2.2)).getD []
theorem txL_of {L:List Ent} (hnd:(L.map (·.1)).Nodup) {e:Ent} (he:e∈L):txL L e.1=e.2.2:=by
 unfold txL
 induction L with
 | nil=>simp at he
 | cons x r ih =>
  rw [List.map_cons,List.nodup_cons] at hnd
  rw [List.find?_cons]
  rcases List.mem_cons.1 he with rfl|hr
  ·simp
  ·have hne:(x.1 == e.1)=false:=by
    simp only [beq_eq_false_iff_ne,ne_eq]
    exact fun h=>hnd.1 (h▸List.mem_map.2 ⟨e,hr,rfl⟩)
   rw [hne]
   exact ih hnd.2 hr
section
variable {w:World}{F:Nat→Prop}{ρ:Rho}{s:St}{fr ct:Nat}{L:List Ent}{fl:List Nat}
theorem there_of (hok:Okp s fr ct L fl) (hr:RhoOk ρ) {b:Nat}{bs:List Nat}{l:List UInt8} (h1:((ρ b).1,bs,l)∈L) (h2:(ρ b).2=fnv l):There (fun x=>∃e∈L,e.1=x∧e.2.2=txL L x) (txL L) (ρ b) l:=by
 have e:=txL_of hok.names h1
 have hm:=hok.mem (List.mem_append_left _ (mem_bls.2 ⟨_,h1,hok.self h1⟩))
 have:=hok.area
 have:=hok.nb
 simp only at e hm
 exact ⟨⟨_,h1,rfl,e.symm⟩,e,h2.symm,by omega,(hr b).2⟩
theorem laidN_of (hok:Okp s fr ct L fl) (hr:RhoOk ρ) (hs:∀{i:Itm},IsI w F ρ i→lng i=false→(ρ i.ad).1=0):{kd:UInt8}→{k:Nat}→{n:Tr k}→LaidT L ρ kd n→IsN w F ρ n→Wf n→Sized (its n)→(its n).length≤1000→k<256→LaidN (fun x=>∃e∈L,e.1=x∧e.2.2=txL L x) (txL L) ρ n
 | kd,0,n,hl,hN,hw,hz,hn,hk=>by
  refine ⟨⟨fun i hi=>?_,hn⟩,encNode_len hw,hw.1⟩
  have hzi:=hz i hi
  cases hg:lng i with
  | false=>exact ⟨⟨hzi.1,hzi.2.1,hzi.2.2,by rw [hs (hN.2 i hi) hg];omega,(hr i.ad).2⟩,fun h=>by cases h⟩
  | true =>
   obtain ⟨_,bs,h1,h2⟩:=hl.2.2 i hi hg
   have ht:=there_of hok hr h1 h2
   exact ⟨⟨hzi.1,hzi.2.1,hzi.2.2,ht.2.2.2.1,(hr i.ad).2⟩,fun _=>ht⟩
 | kd,k+1,n,hl,hN,hw,hz,hn,hk=>by
  refine ⟨⟨fun u hu=>?_,hk⟩,encNode_len hw,hw.1⟩
  obtain ⟨_,bs,h1,h2⟩:=(hl.2.2 u hu).own
  have hsub:∀i∈its u,i∈its n:=fun i hi=>List.mem_flatMap.2 ⟨u,hu,hi⟩
  refine ⟨there_of hok hr h1 h2,laidN_of hok hr hs (hl.2.2 u hu) (hN.2 u hu) (hw.2.2.1 u hu) (fun i hi=>hz i (hsub i hi)) (Nat.le_trans ?_ hn) (by omega)⟩
  exact (List.sublist_flatten_of_mem (List.mem_map.2 ⟨u,hu,rfl⟩)).length_le
theorem NI.at {n:Sigma Tr}{old:List Nat} (h:NI ρ (some n) old L) (hok:Okp s fr ct L fl) (hfr:1≤fr) (hr:RhoOk ρ) (hT:IsT w F ρ (some n)) (hup:Up (its n.2)) (hz:Sized (its n.2)) (hl:(its n.2).length≤500):TreeAt (fun x=>∃e∈L,e.1=x∧e.2.2=txL L x) (txL L) ρ n.2 (ρ (adr n.2)).1∧(nms ρ n.2).Perm ((ρ (adr n.2)).1::toRead ρ [n.2]):=by
 have hN:=hT.1
 have hw:=hT.2.1
 have hlev:=level_le n.2 hw hT.2.2 hl
 have hs:∀{i:Itm},IsI w F ρ i→lng i=false→(ρ i.ad).1=0:=fun {i} hI hg=>h.short hN hI hg
 have hla:=h.laid n rfl
 have hnd:=named_of hs hN hla
 obtain ⟨h0,bs,h1,h2⟩:=hla.own
 have hth:=there_of hok hr h1 h2
 have hput:PutN ρ [n.2]:=putN_all [n.2] (fun m hm=>by rw [List.mem_singleton.1 hm];exact hnd)
 have hp:=toRead_one h0 hput
 have hnn:(nms ρ n.2).Nodup:=by
  have:=(h.names.nodup_iff).1 hok.names
  rw [List.nodup_append] at this
  exact this.1
 have hle:(nms ρ n.2).length≤1060:=nmsT_le (t:=some n) hT hl
 refine ⟨⟨by omega,hth.1,hth.2.1,h0,hth.2.2.2.1,encNode_len hw,laidN_of hok hr hs hla hN hw hz (by omega) (by omega),(hp.nodup_iff).1 hnn,putN_names [n.2] hput,?_,by omega,?_,hw,hnd⟩,hp⟩
 ·have:=hp.length_eq
  rw [List.length_cons] at this
  omega
 ·refine List.pairwise_cons.2 ⟨fun k hk=>?_,List.pairwise_map.2 hup⟩
  obtain ⟨i,hi,rfl⟩:=List.mem_map.1 hk
  have:=(hz i hi).1
  cases hk:i.key with
  | nil=>rw [hk] at this;simp at this
  | cons a r=>exact List.nil_lt_cons a r
end
section
variable {w0 w w':World}{tb p q:Nat}{V V':Nat→Prop}{ρ:Rho}{t:AT}{old:List Nat}{s:St}{fr ct:Nat}{L:List Ent}{fl:List Nat}
theorem tre_settle2 (h:Tre w0 w tb p q V ρ t old s fr ct L fl) (hI:NI ρ t old L) (hol:old.length≤1000000):Calls Tryz.prog 18 #[Pp tb] w fun e w'=>e=.returned (.tuple #[])∧∃L' fl',Tre w0 w' tb p q V ρ t [] s fr ct L' fl'∧KP V w w'∧NI ρ t [] L':=by
 obtain ⟨T,vo,h⟩:=h
 have hI2:=hI.settled h.sy.ok.names
 refine (settle_all h.box h.own h.tv.2.1 (Hid.mk h.sy) (Hid.mk h.lt) (Hid.mk (.inr (.inl rfl))) (Hid.mk fun g hg=>.inr (.inr (.inl hg))) (Hid.mk h.olds) hol (Hid.mk (h.ge tb (.inr (.inl rfl))))).mono ?_
 rintro e w' ⟨rfl,hb,fl',hs,w1,⟨S,k1,hS⟩,k2⟩
 have hT:IsT w' T ρ t:=(h.tree.kept k1 (fun x hx hTx=>hS x (.inl hTx) hx)).kept k2 (fun x hx hTx=>by simp at hx;exact (h.tt x hTx).1 hx)
 have hz:w.heap.size≤w'.heap.size:=Nat.le_trans k1.size k2.size
 refine ⟨rfl,_,fl',⟨T,.slice none 0 0,hb,OwnsI.nil _,hT,h.up,h.sz,hs.less fun b hb=>?_,fun b hb=>?_,fun b hb=>?_,fun b hb=>⟨(h.tt b hb).1,by simp [Value.ownBlock],(h.tt b hb).2.2⟩,⟨h.tv.1,by simp [Value.ownBlock],by simp [Value.ownBlock]⟩,fun b hb=>h.blank b (by omega),h.ok,by simp,h.root,h.fr1⟩,(show KP V w w1 from ⟨S,k1,fun x hx=>hS x (.inr (.inr (.inr hx)))⟩).trans ⟨[tb],k2,fun x hx hm=>h.tv.1 (by simp at hm;rw [←hm];exact hx)⟩,hI2⟩
 ·rcases hb with hb|hb|hb|hb
  ·exact .inl hb
  ·exact .inr (.inl hb)
  ·simp [Value.ownBlock] at hb
  ·exact .inr (.inr (.inr hb))
 ·rcases hb with hb|hb|hb|hb
  ·exact Nat.lt_of_lt_of_le (h.lt b (.inl hb)) hz
  ·exact Nat.lt_of_lt_of_le (h.lt b (.inr (.inl hb))) hz
  ·simp [Value.ownBlock] at hb
  ·exact Nat.lt_of_lt_of_le (h.lt b (.inr (.inr (.inr hb)))) hz
 ·rcases hb with hb|hb|hb|hb
  ·exact h.ge b (.inl hb)
  ·exact h.ge b (.inr (.inl hb))
  ·simp [Value.ownBlock] at hb
  ·exact h.ge b (.inr (.inr (.inr hb)))
end
section
variable {w:World}
set_option maxRecDepth 100000 in
set_option maxHeartbeats 1000000 in
theorem names_walkV {q:Nat}{fr ct nm:Nat} (hfr:1≤fr) {R:Value→World→Prop}
  (HC:Calls Tryz.prog 11 #[Pp q,.int .i64 (fr:Int),.int .i64 (ct:Int),.slice none 0 0] (((w.alloc (.cells #[Pp q] 30)).alloc (.cells #[.int .i64 (fr:Int)] 3)).alloc (.cells #[.int .i64 (ct:Int)] 3)) fun e w4=>∃p,e=.returned (.tuple #[Pp p,.int .i64 0])∧w4.cell? ⟨w.heap.size,0,none⟩=some (Pp q) ∧
   Calls Tryz.prog 31 #[Pp q] w4 fun e w5=>e=.returned (.bool false) ∧
   Calls Tryz.prog 41 #[.func (.func 59) #[] #[Pp w.heap.size,Pp (w.heap.size+1),Pp (w.heap.size+2)],.int .i64 (nm:Int)] w5 fun e w6=>∃tv:Value,e=.returned (.tuple #[tv,.int .i64 0]) ∧
   Calls Tryz.prog 60 #[tv] w6 fun e w7=>∃f,e=.returned f∧Calls Tryz.prog 51 #[f] w7 fun e w8=>∃v,e=.returned v∧R v w8) :
  Calls Tryz.prog 24 #[Pp q,.int .i64 (fr:Int),.int .i64 (ct:Int),.int .i64 (nm:Int)] w fun e w'=>∃v,e=.returned (.tuple #[v,.int .i64 0])∧R v w':=by
 have hb1:(w.alloc (.cells #[Pp q] 30)).heap[w.heap.size]?=some (.cells #[Pp q] 30 (0,0)):=heap_alloc_new w _
 obtain ⟨w1,e1⟩:∃w1,w.alloc (.cells #[Pp q] 30)=w1:=⟨_,rfl⟩
 rw [e1] at hb1
 have hs1:w1.heap.size=w.heap.size+1:=by rw [←e1];simp
 have hb2:(w1.alloc (.cells #[.int .i64 (fr:Int)] 3)).heap[w1.heap.size]?=some (.cells #[.int .i64 (fr:Int)] 3 (0,0)):=heap_alloc_new w1 _
 have hb12:=((Kept.refl [] w1).alloc (.cells #[.int .i64 (fr:Int)] 3)).keeps hb1 (by simp)
 obtain ⟨w2,e2⟩:∃w2,w1.alloc (.cells #[.int .i64 (fr:Int)] 3)=w2:=⟨_,rfl⟩
 rw [e2] at hb2 hb12
 have hs2:w2.heap.size=w.heap.size+2:=by rw [←e2];simp [hs1]
 have hb3:(w2.alloc (.cells #[.int .i64 (ct:Int)] 3)).heap[w2.heap.size]?=some (.cells #[.int .i64 (ct:Int)] 3 (0,0)):=heap_alloc_new w2 _
 have hb13:=((Kept.refl [] w2).alloc (.cells #[.int .i64 (ct:Int)] 3)).keeps hb12 (by simp)
 have hb23:=((Kept.refl [] w2).alloc (.cells #[.int .i64 (ct:Int)] 3)).keeps hb2 (by simp)
 obtain ⟨w3,e3⟩:∃w3,w2.alloc (.cells #[.int .i64 (ct:Int)] 3)=w3:=⟨_,rfl⟩
 rw [e3] at hb3 hb13 hb23
 rw [hs1] at hb23
 rw [hs2] at hb3
 rw [e1,e2,e3] at HC
 have d1:w3.cell? ⟨w.heap.size,0,none⟩=some (Pp q):=by simp [World.cell?,hb13]
 have d2:w3.cell? ⟨w.heap.size+1,0,none⟩=some (.int .i64 (fr:Int)):=by simp [World.cell?,hb23]
 have d3:w3.cell? ⟨w.heap.size+2,0,none⟩=some (.int .i64 (ct:Int)):=by simp [World.cell?,hb3]
 have HC:=Hid.mk HC
 clear hb1 hb2 hb12 hb3 hb13 hb23
 have hf0:¬(fr:Int)=0:=by omega
 go_enter Tryz.func24,Tryz.ntmps24
 go_wp2_with fail
 refine HC.out.mono ?_
 rintro e w4 ⟨p,rfl,c4,h31⟩
 have H31:=Hid.mk h31
 clear h31 HC d1 d2 d3
 go_wp2_with fail
 refine H31.out.mono ?_
 rintro e w5 ⟨rfl,h41⟩
 have H41:=Hid.mk h41
 clear h41 H31 c4
 go_wp2_with fail
 refine H41.out.mono ?_
 rintro e w6 ⟨tv,rfl,h60⟩
 have H60:=Hid.mk h60
 clear h60 H41
 go_wp2_with fail
 refine H60.out.mono ?_
 rintro e w7 ⟨f,rfl,h51⟩
 have H51:=Hid.mk h51
 clear h51 H60
 go_wp2_with fail
 refine H51.out.mono ?_
 rintro e w8 ⟨v,rfl,hR⟩
 have HR:=Hid.mk hR
 clear hR H51
 go_wp2_with fail
 go_ret2
 exact ⟨_,rfl,HR.out⟩
set_option maxRecDepth 100000 in
set_option maxHeartbeats 1000000 in
theorem names92_none {bn l:Nat}{W:World} (c1:W.cell? ⟨bn,0,none⟩=some (.pointer none)):Calls Tryz.prog 92 #[.func (.yield l) #[] #[],Pp bn] W fun e w'=>e=.returned (.tuple #[])∧W=w':=by
 go_enter Tryz.func92,Tryz.ntmps92
 go_wp2
 go_end0
 exact ⟨rfl,rfl⟩
set_option maxRecDepth 100000 in
set_option maxHeartbeats 1000000 in
theorem names60_none (w:World):Calls Tryz.prog 60 #[.pointer none] w fun e w'=>e=.returned (.func (.func 92) #[] #[Pp w.heap.size])∧w'=w.alloc (.cells #[.pointer none] 77):=by
 go_enter Tryz.func60,Tryz.ntmps60
 go_wp2
 go_ret
 exact ⟨rfl,rfl⟩
theorem names_stops0 {bn n₀:Nat} (c1:w.cell? ⟨bn,0,none⟩=some (.pointer none)):StopsN 92 #[Pp bn] [] w n₀:=fun l J Jx W hW hab habx hY h0=>by
 have d1:W.cell? ⟨bn,0,none⟩=some (.pointer none):=(hW.cell (p:=⟨bn,0,none⟩) (World.block_lt_of_cell? _ _ c1)).trans c1
 rw [callsIn_wide]
 show Calls Tryz.prog 92 #[.func (.yield l) #[] #[],Pp bn] W _
 refine (names92_none d1).mono ?_
 rintro e W' ⟨rfl,rfl⟩
 exact ⟨⟨_,rfl⟩,.inl ⟨[],rfl,h0⟩⟩
end
section
variable {w0 w:World}{q p:Nat}{s:St}{fr ct:Nat}{L:List Ent}{fl:List Nat}{X:Nat→Prop}
end
theorem bytes_of48 (w:World) (l:List UInt8) (hl:l.length≤maxLen):∃cap w',(convert 9 48 (.string ⟨l.toArray⟩)).run Tryz.prog w=.ok (.slice (some ⟨w.heap.size,0,none⟩) l.length cap) w'∧Reads w' (.slice (some ⟨w.heap.size,0,none⟩) l.length cap) l∧Kept [] w w':=by
 have hsz:(⟨l.toArray⟩:ByteArray).size=l.length:=by simp [ByteArray.size]
 have hrun:=run_bytes_of_string (P:=Tryz.prog) w 9 48 5 ⟨l.toArray⟩ Tryz.underlying9 Tryz.underlying48 Tryz.underlying5
 rw [hsz] at hrun
 refine ⟨_,_,hrun,⟨_,_,rfl,grownCap_ge w _ _ _,grownCap_le_maxLen w _ _ _ hl,by simp,fun _=>⟨w.heap.size,0,rfl,fun j u hu=>?_⟩⟩,((Kept.refl [] w).drew).alloc _⟩
 rw [Nat.zero_add,cell_of_row _ w.heap.size j _ 5 _ (heap_alloc_new w.drew _)]
 have hj:j<l.length:=(List.getElem?_eq_some_iff.1 hu).1
 unfold bytesRow
 rw [Array.getElem?_append_left (by simpa using hj)]
 simp [hu,B8]
def CT (T:List KV):List (List Value):=T.map fun x=>[Sv x.1,Sv x.2]
theorem CT_length (T:List KV):(CT T).length=T.length:=by simp [CT]
theorem CT_append (a b:List KV):CT (a++b)=CT a++CT b:=by simp [CT]
theorem CT_wide (T:List KV):Wide 2 (CT T):=fun r hr=>by
 obtain ⟨x,_,rfl⟩:=List.mem_map.1 hr
 exact ⟨rfl,fun u hu=>by simp at hu;rcases hu with rfl|rfl<;>rfl⟩
theorem rt36:RowT 36 106 2 32 (.agg #[.string ⟨#[]⟩,.string ⟨#[]⟩]):=⟨Tryz.underlying36,by kernel_rfl,rfl,by omega,by omega⟩
structure IsTab (w:World) (db:Nat) (v:Value) (T:List KV):Prop where
 box:w.heap[db]?=some (.cells #[v] 38 (0,0))
 row:ReadsR 2 w v (CT T)
 apart:v.ownBlock≠some db
theorem IsTab.kept {S:List Nat}{w w':World}{db:Nat}{v:Value}{T:List KV} (h:IsTab w db v T) (k:Kept S w w') (hb:db∉S) (hv:∀g,v.ownBlock=some g→g∉S):IsTab w' db v T:=⟨k.keeps h.box hb,h.row.kept k hv,h.apart⟩
theorem IsTab.form {w:World}{db:Nat}{v:Value}{T:List KV} (h:IsTab w db v T):∃a c,v=.slice a T.length c∧T.length≤c∧c≤9223372036854775807:=by
 have:=ReadsR.form h.row
 rwa [CT_length] at this
theorem ctAt {w:World}{a:Option Addr}{n c:Nat}{T:List KV} (h:ReadsR 2 w (.slice a n c) (CT T)) {j:Nat}{x:KV} (hx:T[j]?=some x):∃b o,a=some ⟨b,o,none⟩∧w.cell? ⟨b,o+j*2,none⟩=some (Sv x.1)∧w.cell? ⟨b,o+j*2+1,none⟩=some (Sv x.2):=by
 obtain ⟨b,o,c',e,hc⟩:=ReadsR.at h j [Sv x.1,Sv x.2] (by simp [CT,hx])
 injection e with e _ _
 have h0:=hc 0 _ rfl
 have h1:=hc 1 _ rfl
 rw [Nat.add_zero] at h0
 exact ⟨b,o,e,h0,h1⟩
def plT (T:List KV) (key:List UInt8):Nat:=kpl (T.map Prod.fst) key
theorem upFst {T:List KV} (h:UpK T):(T.map Prod.fst).Pairwise (·<·):=List.pairwise_map.2 h
theorem plT_le {T:List KV} (h:UpK T) (key:List UInt8):plT T key≤T.length:=by
 have:=(place_kpl key (upFst h)).1
 rwa [List.length_map] at this
theorem plT_lt {T:List KV} (h:UpK T) (key:List UInt8) {j:Nat}{x:KV} (hx:T[j]?=some x):x.1<key↔j<plT T key:=(place_kpl key (upFst h)).2 j x.1 (by rw [List.getElem?_map,hx];rfl)
section
variable {w:World}
set_option maxRecDepth 100000 in
set_option maxHeartbeats 1000000 in
theorem tabPlace_any {db:Nat}{v:Value}{T:List KV} (h:IsTab w db v T) (hu:UpK T) (hl:T.length≤100000) (key:List UInt8):Calls Tryz.prog 58 #[Pp db,Sv key] w fun e w'=>e=.returned (.int .i64 (plT T key:Int))∧w=w':=by
 obtain ⟨a,c,rfl,h1,h2⟩:=h.form
 have c0:w.cell? ⟨db,0,none⟩=some (.slice a T.length c):=by simp only [World.cell?,h.box];rfl
 have HP:Hid (∀j x,T[j]?=some x→(x.1<key↔j<plT T key)):=Hid.mk fun j x hx=>plT_lt hu key hx
 have hpl:=plT_le hu key
 have HR:=Hid.mk h.row
 obtain ⟨N,hN⟩:∃N,Hid (T.length=N):=⟨_,rfl⟩
 rw [hN.out] at c0 HR hpl hl
 obtain ⟨P,hP⟩:∃P,Hid (plT T key=P):=⟨_,rfl⟩
 rw [hP.out] at HP hpl ⊢
 clear h h1 h2 hu
 go_enter Tryz.func58,Tryz.ntmps58
 go_wp2_with fail
 go_loopw [5] (fun i wr=>∃j:Nat,i=.int .i64 (j:Int)∧j≤P∧w=wr) (fun i _=>P-(intOf i).toNat)
 case atStart=>exact ⟨0,rfl,by omega,rfl⟩
 case round =>
  obtain ⟨j,rfl,hj,rfl⟩:=hrel
  by_cases hlt:j<N
  ·obtain ⟨x,hx⟩:∃x,T[j]?=some x:=⟨_,List.getElem?_eq_getElem (by have:=hN.out;omega)⟩
   obtain ⟨b,o,rfl,d0,d1⟩:=ctAt HR.out hx
   have hc:=HP.out j x hx
   by_cases hjp:j<P
   ·have hless:Op.bytesLess x.1 key=true:=by rw [bytesLess_eq];simpa using hc.2 hjp
    clear hx hc
    generalize x.1=xk at *
    generalize x.2=xv at *
    go_wp2
    go_roundw
    case rel=>exact ⟨j+1,by go_num,by omega,trivial⟩
    case measure=>simp [intOf];omega
   ·obtain rfl:j=P:=by omega
    have hless:Op.bytesLess x.1 key=false:=by rw [bytesLess_eq];simpa using fun h=>Nat.lt_irrefl _ (hc.1 h)
    clear hx hc
    generalize x.1=xk at *
    generalize x.2=xv at *
    go_wp2
    go_ret
    exact ⟨rfl,rfl⟩
  ·obtain rfl:j=N:=by omega
   obtain rfl:j=P:=by omega
   go_wp2
   go_ret
   exact ⟨rfl,rfl⟩
set_option maxRecDepth 100000 in
set_option maxHeartbeats 1000000 in
theorem tabGet_any {db:Nat}{v:Value}{T:List KV} (h:IsTab w db v T) (hu:UpK T) (hl:T.length≤100000) (hv:∀x∈T,x.2.length≤20000) (key:List UInt8):Calls Tryz.prog 23 #[Pp db,Sv key] w fun e w'=>∃v' val b,e=.returned (.tuple #[v',.bool b])∧Reads w' v' val∧Got T key val b∧Kept [] w w':=by
 have hp:=tabPlace_any h hu hl key
 obtain ⟨a,c,rfl,h1,h2⟩:=h.form
 have c0:w.cell? ⟨db,0,none⟩=some (.slice a T.length c):=by simp only [World.cell?,h.box];rfl
 have HP:Hid (∀j x,T[j]?=some x→(x.1<key↔j<plT T key)):=Hid.mk fun j x hx=>plT_lt hu key hx
 have hpl:=plT_le hu key
 have HR:=Hid.mk h.row
 have hNo:Hid ((∀x,T[plT T key]?=some x→x.1≠key)→∀x∈T,x.1≠key):=Hid.mk fun hn x hx e=>by
  obtain ⟨j,hj⟩:=List.getElem?_of_mem hx
  have h3:=HP.out j x hj
  rcases Nat.lt_trichotomy j (plT T key) with hl|hl|hl
  ·have:=h3.2 hl;rw [e] at this;exact klt_irrefl _ this
  ·rw [←hl] at hn;exact hn x hj e
  ·have hl2:plT T key<T.length:=by have:=(List.getElem?_eq_some_iff.1 hj).1;omega
   obtain ⟨y,hy⟩:∃y,T[plT T key]?=some y:=⟨_,List.getElem?_eq_getElem hl2⟩
   have h4:=List.pairwise_iff_getElem.1 hu (plT T key) j hl2 (List.getElem?_eq_some_iff.1 hj).1 hl
   rw [(List.getElem?_eq_some_iff.1 hy).2,(List.getElem?_eq_some_iff.1 hj).2,e] at h4
   have h5:=(HP.out _ y hy).1 h4
   omega
 obtain ⟨N,hN⟩:∃N,Hid (T.length=N):=⟨_,rfl⟩
 rw [hN.out] at c0 HR hpl hl
 obtain ⟨P,hP⟩:∃P,Hid (plT T key=P):=⟨_,rfl⟩
 rw [hP.out] at hp hpl hNo
 clear h h1 h2 hu HP
 by_cases hlt:P<N
 ·obtain ⟨x,hx⟩:∃x,T[P]?=some x:=⟨_,List.getElem?_eq_getElem (by have:=hN.out;omega)⟩
  obtain ⟨b,o,rfl,d0,d1⟩:=ctAt HR.out hx
  by_cases hk:x.1=key
  ·obtain ⟨cap,w2,hrun,hr2,k2⟩:=bytes_of48 w x.2 (by have:=hv x (List.mem_of_getElem? hx);unfold maxLen;omega)
   have HF:Hid (Reads w2 (.slice (some ⟨w.heap.size,0,none⟩) x.2.length cap) x.2∧Got T key x.2 true∧Kept [] w w2):=Hid.mk ⟨hr2,.inl ⟨rfl,by rw [←hk];exact List.mem_of_getElem? hx⟩,k2⟩
   rw [hk] at d0
   clear hx hk hNo hr2 k2 hv
   generalize x.2=xv at *
   go_enter Tryz.func23,Tryz.ntmps23
   go_wp2_with fail
   refine hp.mono ?_
   rintro e w1 ⟨rfl,rfl⟩
   clear hp
   go_wp2
   go_ret2
   exact ⟨_,xv,true,rfl,HF.out⟩
  ·have HF:Hid (∀x∈T,x.1≠key):=Hid.mk (hNo.out fun y hy=>by rw [hx] at hy;injection hy with hy;rw [←hy];exact hk)
   have hne:=str_ne x.1 key hk
   have hne3:(x.1 == key)=false:=by simpa using hk
   clear hx hk hNo hv
   generalize x.1=xk at *
   generalize x.2=xv at *
   go_enter Tryz.func23,Tryz.ntmps23
   go_wp2_with fail
   refine hp.mono ?_
   rintro e w1 ⟨rfl,rfl⟩
   clear hp
   go_wp2
   go_ret2
   exact ⟨_,[],false,rfl,⟨none,0,rfl,by simp,by simp,by simp,by simp⟩,.inr ⟨rfl,rfl,HF.out⟩,Kept.refl [] w⟩
 ·have HF:Hid (∀x∈T,x.1≠key):=Hid.mk (hNo.out fun y hy=>by have:=(List.getElem?_eq_some_iff.1 hy).1;have:=hN.out;omega)
  obtain rfl:P=N:=by omega
  clear hNo hv
  go_enter Tryz.func23,Tryz.ntmps23
  go_wp2_with fail
  refine hp.mono ?_
  rintro e w1 ⟨rfl,rfl⟩
  clear hp
  go_wp2
  go_ret2
  exact ⟨_,[],false,rfl,⟨none,0,rfl,by simp,by simp,by simp,by simp⟩,.inr ⟨rfl,rfl,HF.out⟩,Kept.refl [] w⟩
end
def inR (fr to:List UInt8) (k:List UInt8):Bool:=!decide (k<fr) && (decide (to=[]) || decide (k<to))
theorem keysIn_def (fr to:List UInt8) (T:List KV):keysIn fr to T=(T.filter fun x=>inR fr to x.1).map Prod.fst:=rfl
theorem keysIn_snoc {fr to:List UInt8}{T:List KV}{j:Nat}{x:KV} (hx:T[j]?=some x):keysIn fr to (T.take (j+1))=keysIn fr to (T.take j)++(if inR fr to x.1 then [x.1] else []):=by
 rw [keysIn_def,keysIn_def,tsnoc hx,List.filter_append,List.map_append]
 congr 1
 cases h:inR fr to x.1<;>simp [h]
def KAt (w:World) (ks:List (List UInt8)) (wr:World) (v:Value):Prop:=OwnsR 9 1 wr v (CS ks)∧Fresh w v∧Kept [] w wr
theorem KAt.more {w wr:World}{ks:List (List UInt8)}{v:Value} (h:KAt w ks wr v) (k:List UInt8) (hl:ks.length≤900000) :
  ∃ad c w2,(Builtin.append_ #[46,46] 46 #[v,.slice (some ⟨wr.heap.size,0,none⟩) 1 1]).run Tryz.prog (wr.alloc (.cells #[Sv k] 9))=.ok (.slice ad (ks.length+1) c) w2∧KAt w (ks++[k]) w2 (.slice ad (ks.length+1) c):=by
 obtain ⟨ho,hf,hk⟩:=h
 obtain ⟨ad,c,w2,hrun,ho2,k2,hN⟩:=append_rowR rt46 ho [Sv k] rfl (fun u hu=>by simp at hu;subst hu;rfl) (by rw [CS_length];exact hl) 9 (0,0) 46
 rw [CS_length] at hrun ho2 hN
 refine ⟨ad,c,w2,hrun,by rw [CS_append];exact ho2,fun g hg=>?_,hk.trans k2 (fun b hb=>.inr (hf b (by simpa using hb)))⟩
 rcases hN g hg with h|h
 ·exact hf g h
 ·exact Nat.le_trans hk.size h
section
variable {w:World}
set_option maxRecDepth 100000 in
set_option maxHeartbeats 2000000 in
theorem tabKeys_any {db:Nat}{v:Value}{T:List KV} (h:IsTab w db v T) (hl:T.length≤100000) (fr to:List UInt8):Calls Tryz.prog 21 #[Pp db,Sv fr,Sv to] w fun e w'=>∃v',e=.returned v'∧OwnsR 9 1 w' v' (CS (keysIn fr to T))∧Kept [] w w'∧Fresh w v':=by
 obtain ⟨a,c,rfl,h1,h2⟩:=h.form
 have HC0:Hid (∀W,Kept [] w W→W.cell? ⟨db,0,none⟩=some (.slice a T.length c)):=Hid.mk fun W kW=>by simp only [World.cell?,kW.keeps h.box (by simp)];rfl
 have HR:Hid (∀W,Kept [] w W→ReadsR 2 W (.slice a T.length c) (CT T)):=Hid.mk fun W kW=>h.row.kept kW (by simp)
 obtain ⟨N,hN⟩:∃N,Hid (T.length=N):=⟨_,rfl⟩
 rw [hN.out] at HC0 HR hl
 have c0:=HC0.out w (Kept.refl [] w)
 have HKL:Hid (∀j,(keysIn fr to (T.take j)).length≤900000):=Hid.mk fun j=>by
  rw [keysIn_def,List.length_map]
  have:=List.length_filter_le (fun x:KV=>inR fr to x.1) (T.take j)
  rw [List.length_take] at this
  have:=hN.out
  omega
 clear h h1 h2
 go_enter Tryz.func21,Tryz.ntmps21
 go_wp2_with fail
 go_loopw [7,14] (fun u i wr=>∃j:Nat,i=.int .i64 (j:Int)∧j≤N∧Hid (KAt w (keysIn fr to (T.take j)) wr u)) (fun _ i _=>N-(intOf i).toNat)
 case atStart=>exact ⟨0,rfl,by omega,Hid.mk ⟨OwnsR.nil _ _ _,fun g hg=>by simp [Value.ownBlock] at hg,Kept.refl [] w⟩⟩
 case round =>
  obtain ⟨j,rfl,hj,hA⟩:=hrel
  clear c0
  by_cases hlt:j<N
  ·obtain ⟨x,hx⟩:∃x,T[j]?=some x:=⟨_,List.getElem?_eq_getElem (by have:=hN.out;omega)⟩
   have kk:=hA.out.2.2
   have d:=HC0.out wr kk
   obtain ⟨b,o,rfl,d0,d1⟩:=ctAt (HR.out wr kk) hx
   have HSN:=Hid.mk (keysIn_snoc (fr:=fr) (to:=to) hx)
   have HIR:Hid (inR fr to x.1=(!decide (x.1<fr) && (decide (to=[]) || decide (x.1<to)))):=Hid.mk rfl
   by_cases hin:inR fr to x.1=true
   ·rw [if_pos hin] at HSN
    obtain ⟨ad,cp,w2,hrun,hn⟩:=hA.out.more x.1 (HKL.out j)
    rw [←HSN.out] at hn
    have HN2:=Hid.mk hn
    rw [HIR.out] at hin
    simp only [Bool.and_eq_true,Bool.not_eq_true',decide_eq_false_iff_not,Bool.or_eq_true,decide_eq_true_eq] at hin
    have hl1:Op.bytesLess x.1 fr=false:=by rw [bytesLess_eq];simpa using hin.1
    clear hx kk hA HSN HIR hn
    by_cases hto:to=[]
    ·have hem:to.isEmpty=true:=by rw [hto];rfl
     clear hin hto
     generalize x.1=xk at *
     generalize x.2=xv at *
     generalize (keysIn fr to (T.take j)).length=KL at *
     go_wp2_with (at_builtin;refine wpList_append_run 46 _ _ rfl rfl _ _ rfl rfl _ _ hrun ?_)
     go_roundw
     case rel=>exact ⟨j+1,by go_num,by omega,HN2⟩
     case measure=>simp [intOf];omega
    ·have hem:to.isEmpty=false:=by cases e:to with|nil=>exact absurd e hto|cons _ _=>rfl
     have hl2:Op.bytesLess x.1 to=true:=by rw [bytesLess_eq];simpa using hin.2.resolve_left hto
     clear hin
     generalize x.1=xk at *
     generalize x.2=xv at *
     generalize (keysIn fr to (T.take j)).length=KL at *
     go_wp2_with (at_builtin;refine wpList_append_run 46 _ _ rfl rfl _ _ rfl rfl _ _ hrun ?_)
     go_roundw
     case rel=>exact ⟨j+1,by go_num,by omega,HN2⟩
     case measure=>simp [intOf];omega
   ·rw [if_neg hin,List.append_nil] at HSN
    have HN2:Hid (KAt w (keysIn fr to (T.take (j+1))) wr u7):=Hid.mk (by rw [HSN.out];exact hA.out)
    rw [HIR.out] at hin
    clear hx kk hA HSN HIR
    by_cases hf:x.1<fr
    ·have hl1:Op.bytesLess x.1 fr=true:=by rw [bytesLess_eq];simpa using hf
     clear hin
     generalize x.1=xk at *
     generalize x.2=xv at *
     go_wp2
     go_roundw
     case rel=>exact ⟨j+1,by go_num,by omega,HN2⟩
     case measure=>simp [intOf];omega
    ·have hl1:Op.bytesLess x.1 fr=false:=by rw [bytesLess_eq];simpa using hf
     have hto:to≠[]:=fun e=>hin (by simp [hf,e])
     have hem:to.isEmpty=false:=by cases e:to with|nil=>exact absurd e hto|cons _ _=>rfl
     have hl2:Op.bytesLess x.1 to=false:=by
      rw [bytesLess_eq]
      refine decide_eq_false fun h=>hin ?_
      simp [hf,h]
     clear hin
     generalize x.1=xk at *
     generalize x.2=xv at *
     go_wp2
     go_roundw
     case rel=>exact ⟨j+1,by go_num,by omega,HN2⟩
     case measure=>simp [intOf];omega
  ·obtain rfl:j=N:=by omega
   have HF:Hid (OwnsR 9 1 wr u7 (CS (keysIn fr to T))∧Kept [] w wr∧Fresh w u7):=Hid.mk (by
    obtain ⟨g1,g2,g3⟩:=hA.out
    rw [List.take_of_length_le (by have:=hN.out;omega)] at g1
    exact ⟨g1,g3,g2⟩)
   clear hA
   go_wp2
   go_ret
   exact ⟨_,rfl,HF.out⟩
end
end Go.Proofs.YtgpbhlfdlkemjaaGreat
