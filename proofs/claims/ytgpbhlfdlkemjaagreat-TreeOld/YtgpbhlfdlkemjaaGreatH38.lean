import Derived.Test.YtgpbhlfdlkemjaaGreatH28
import Derived.Test.YtgpbhlfdlkemjaaGreatH36
/-
 isForTrees of pages that hold texts.
-/
namespace Go.Proofs.YtgpbhlfdlkemjaaGreat
open Go.RowKit
set_option linter.unusedVariables false
def blkOf (L:List Ent) (n:Nat):List Nat:=((L.find? fun x=>x.1 == n).map fun x=>x.2.1).getD []
theorem blkOf_eq:∀{L:List Ent},(L.map (·.1)).Nodup→∀{x:Ent},x∈L→blkOf L x.1=x.2.1
 | [],_,x,hx=>by simp at hx
 | y::L,hd,x,hx=>by
  have hc:=List.nodup_cons.1 (by simpa using hd:(y.1::L.map (·.1)).Nodup)
  unfold blkOf
  rcases List.mem_cons.1 hx with rfl|h2
  ·simp
  ·have hne:y.1≠x.1:=fun h=>hc.1 (by rw [h];exact List.mem_map.2 ⟨x,h2,rfl⟩)
   have hb:(y.1 == x.1)=false:=by simpa using hne
   rw [List.find?_cons,hb]
   exact blkOf_eq hc.2 h2
theorem blkOf_all {L:List Ent} (hd:(L.map (·.1)).Nodup):∀A:List Ent,(∀x∈A,x∈L)→(A.map (·.1)).flatMap (blkOf L)=bls A
 | [],_=>rfl
 | x::A,h=>by
  rw [List.map_cons,List.flatMap_cons,blkOf_all hd A (fun y hy=>h y (by simp [hy])),blkOf_eq hd (h x (by simp)),bls_cons]
theorem blkOf_perm {s:St}{fr ct:Nat}{L:List Ent}{fl ns ns2:List Nat} (h:Okp s fr ct L fl) (h1:ns.Perm fl) (h2:ns2.Perm (L.map (·.1))):(ns++ns2.flatMap (blkOf L)).Perm (List.range' fr ct):=by
 have e:=h2.flatMap_right (blkOf L)
 rw [blkOf_all h.names L fun x hx=>hx] at e
 exact ((h1.append e).trans List.perm_append_comm).trans h.perm
theorem blkOf_take {s:St}{fr ct:Nat}{L:List Ent}{fl ns ns2:List Nat} (h:Okp s fr ct L fl) (h1:ns.Perm fl) (h2:ns2.Perm (L.map (·.1))) (j:Nat):(ns++(ns2.take j).flatMap (blkOf L)).length≤ct:=by
 have e:=(blkOf_perm h h1 h2).length_eq
 rw [←List.take_append_drop j ns2,List.flatMap_append] at e
 simp at e ⊢
 omega
section
variable {w0 w:World}{q p:Nat}{s:St}{fr ct:Nat}{L:List Ent}{fl:List Nat}{X:Nat→Prop}
set_option maxRecDepth 100000 in
set_option maxHeartbeats 4000000 in
theorem forTrees_any (h:SyP w0 w q p s fr ct L fl X) (hfr:1≤fr):Calls Tryz.prog 38 #[Pp p] w fun e w'=>e=.returned (.bool true)∧Kept [] w w':=by
 have hfree:=psy_free h
 have HSY:=Hid.mk h
 have har:=Hid.mk (And.intro h.ok.area h.ok.nb)
 clear h
 go_enter Tryz.func38,Tryz.ntmps38
 go_wp2_with fail
 refine hfree.mono ?_
 rintro e w1 ⟨v1,ns,rfl,ho1,hr1,k1,hf1⟩
 have hnm:=psy_names (HSY.out.kept k1)
 obtain ⟨a1,c1,rfl,g1,g2⟩:=ho1.form
 have HO1:=Hid.mk (And.intro ho1 (And.intro hr1 hf1))
 have HK1:=Hid.mk k1
 clear hfree ho1 hr1 k1 hf1
 go_wp2_with fail
 refine hnm.mono ?_
 rintro e w2 ⟨v2,ns2,rfl,ho2,hr2,k2,hf2⟩
 obtain ⟨a2,c2,rfl,-⟩:=ho2.form
 have HK2:=Hid.mk (HK1.out.trans k2 (by simp))
 have HT:=Hid.mk fun j=>blkOf_take HSY.out.ok HO1.out.2.1.1 hr2.1 j
 have HP:=Hid.mk (blkOf_perm HSY.out.ok HO1.out.2.1.1 hr2.1)
 have HM:=Hid.mk fun (n:Nat) (hn:n∈ns2)=>(List.mem_map.1 (hr2.1.mem_iff.1 hn):∃x∈L,x.1=n)
 have HO:=Hid.mk (And.intro (HO1.out.1.kept k2 (by simp)) (And.intro ho2 (fun g (hg:(Value.slice a1 ns.length c1).ownBlock=some g)=>(⟨by have:=HO1.out.2.2 g hg;omega,fun e=>by have:=HO1.out.1.lt hg;have:=hf2 g e;omega⟩:w.heap.size≤g∧(Value.slice a2 ns2.length c2).ownBlock≠some g))))
 have hNb:ns2.length≤100000:=by
  have h1:=hr2.1.length_eq
  have h2:=HSY.out.ok.few
  rw [List.length_map] at h1
  have:=har.out
  omega
 clear hnm ho2 hr2 k2 hf2 HO1
 obtain ⟨N,hN⟩:∃N,Hid (ns2.length=N):=⟨_,rfl⟩
 rw [hN.out] at HO hNb ⊢
 go_wp2_with fail
 go_loopw [3,11] (fun v i wr=>∃(j:Nat) (a:Option Addr) (n c:Nat),i=.int .i64 (j:Int)∧j≤N∧v=.slice a n c∧Hid (n=(ns++(ns2.take j).flatMap (blkOf L)).length∧OwnsI wr (.slice a n c) (ns++(ns2.take j).flatMap (blkOf L))∧OwnsI wr (.slice a2 N c2) ns2∧(∀g,(Value.slice a n c).ownBlock=some g→w.heap.size≤g∧(Value.slice a2 N c2).ownBlock≠some g)∧Kept [] w wr)) (fun _ i _=>N-(intOf i).toNat)
 case atStart=>exact ⟨0,a1,_,c1,rfl,by omega,rfl,Hid.mk ⟨by simp,by simpa using HO.out.1,HO.out.2.1,HO.out.2.2,HK2.out⟩⟩
 case round =>
  obtain ⟨j,a,n,c,rfl,hj,rfl,HI⟩:=hrel
  by_cases hlt:j<N
  ·obtain ⟨x,hx⟩:∃x,ns2[j]?=some x:=⟨_,List.getElem?_eq_getElem (by have:=hN.out;omega)⟩
   obtain ⟨b,o,c',e,hcell⟩:=HI.out.2.2.1.reads.at j x hx
   injection e with e eN e2
   subst e e2
   clear eN
   have HC:Hid (Calls Tryz.prog 65 #[.pointer (some ⟨p,0,none⟩),.int .i64 (x:Int)] wr fun e w'=>∃v,e=.returned v∧FrS w' v (blkOf L x)∧Kept [] wr w'∧Fresh wr v):=by
    obtain ⟨y,hy,rfl⟩:=HM.out x (List.mem_of_getElem? hx)
    rw [blkOf_eq HSY.out.ok.names hy]
    exact Hid.mk (psy_blocks (HSY.out.kept HI.out.2.2.2.2) y hy)
   have HN:Hid (ns++(ns2.take (j+1)).flatMap (blkOf L)=(ns++(ns2.take j).flatMap (blkOf L))++blkOf L x):=Hid.mk (by rw [tsnoc hx];simp)
   clear hx
   go_wp2_with fail
   refine HC.out.mono ?_
   rintro e w5 ⟨v5,rfl,hfs,k5,hf5⟩
   have hl:=HT.out (j+1)
   rw [HN.out,List.length_append] at hl
   obtain ⟨hn,ho,hr,hg,hk⟩:=HI.out
   obtain ⟨ad,c3,w6,hrun,ho6,k6,n6⟩:=run_appendI (ho.kept k5 (by simp)) hfs.reads (by have:=har.out;omega)
   rw [←hn] at hrun ho6 n6
   have HI2:Hid (n+(blkOf L x).length=(ns++(ns2.take (j+1)).flatMap (blkOf L)).length∧OwnsI w6 (.slice ad (n+(blkOf L x).length) c3) (ns++(ns2.take (j+1)).flatMap (blkOf L))∧OwnsI w6 (.slice (some ⟨b,o,none⟩) N c2) ns2∧(∀g,(Value.slice ad (n+(blkOf L x).length) c3).ownBlock=some g→w.heap.size≤g∧(Value.slice (some ⟨b,o,none⟩) N c2).ownBlock≠some g)∧Kept [] w w6):=by
    refine Hid.mk ⟨by rw [HN.out,List.length_append,hn],by rw [HN.out];exact ho6,(hr.kept k5 (by simp)).kept k6 fun g h1 h2=>(hg g (by simpa using h2)).2 h1,fun g h1=>?_,(hk.trans k5 (by simp)).trans k6 fun y hy=>.inr (hg y (by simpa using hy)).1⟩
    rcases n6 g h1 with h2|h2
    ·exact hg g h2
    ·have z5:=k5.size
     have z0:=hk.size
     refine ⟨by omega,fun e=>?_⟩
     have:=hr.lt e
     omega
   obtain ⟨av,cv,hvf,-⟩:=hfs.reads.form
   subst hvf
   clear hn ho hr hg hk hfs k5 hf5 ho6 k6 n6 HI HC hl HN hcell
   generalize (blkOf L x).length=m at *
   go_wp2_with (at_builtin;refine wpList_append_run 41 (.tmp 15) (.tmp 18) rfl rfl _ _ rfl rfl _ _ hrun ?_)
   go_roundw
   case rel=>exact ⟨j+1,ad,_,c3,by go_num,by omega,rfl,HI2⟩
   case measure=>simp [intOf];omega
  ·obtain rfl:j=N:=by omega
   obtain ⟨hn,ho,hr,hg,hk⟩:=HI.out
   have e0:ns2.take j=ns2:=List.take_of_length_le (by have:=hN.out;omega)
   rw [e0] at hn ho
   have hp:=HP.out
   have hlen:=hp.length_eq
   rw [List.length_range'] at hlen
   have hmem:∀x∈ns++ns2.flatMap (blkOf L),fr≤x∧x<fr+ct:=fun x hx=>List.mem_range'_1.1 (hp.mem_iff.1 hx)
   have h1:=HSY.out.ok.one
   have hct:=contains_any ho.reads (by have:=har.out;omega) 0 (by omega) (fun x hx=>by have:=hmem x hx;have:=har.out;omega)
   have hd:decide (0∈ns++ns2.flatMap (blkOf L))=false:=decide_eq_false fun hm=>by have:=hmem 0 hm;omega
   rw [hd] at hct
   have HK3:=Hid.mk hk
   have hn1:0<n:=by omega
   have hn2:(0:Int)<(n:Int):=by omega
   clear ho hr hg hk hp hlen hmem h1 hd HI hn e0 hN
   go_wp2_with fail
   refine hct.mono ?_
   rintro e w' ⟨rfl,rfl⟩
   clear hct
   go_wp2
   go_ret
   exact ⟨rfl,HK3.out⟩
end
theorem by8_nat (x i:Nat):(by8 x i).toNat=x / 2 ^ (8*i)%256:=by simp [by8]
theorem two_back (x:Nat) (h:x<65536):(by8 x 1).toNat * 256+(by8 x 0).toNat=x:=by
 rw [by8_nat,by8_nat]
 simp only [Nat.mul_zero,Nat.pow_zero,Nat.div_one,Nat.mul_one,Nat.reducePow]
 omega
def num8 (l:List UInt8):Nat:=l.foldl (fun s c=>s*256+c.toNat) 0
theorem num8_snoc (l:List UInt8) (c:UInt8):num8 (l++[c])=num8 l*256+c.toNat:=by simp [num8]
theorem fold8_lt (l:List UInt8):∀s m:Nat,s<m→l.foldl (fun s c=>s*256+c.toNat) s<m*256 ^ l.length:=by
 induction l with
 | nil=>intro s m h;simpa using h
 | cons c l ih =>
  intro s m h
  have hc:=c.toNat_lt
  have:=ih (s*256+c.toNat) (m*256) (by omega)
  rw [List.foldl_cons,List.length_cons,Nat.pow_succ,Nat.mul_comm (256 ^ l.length) 256,←Nat.mul_assoc]
  exact this
theorem num8_lt (l:List UInt8):num8 l<256 ^ l.length:=by
 have:=fold8_lt l 0 1 (by omega)
 rw [Nat.one_mul] at this
 exact this
theorem eight_back (x:Nat) (h:x<18446744073709551616):num8 [by8 x 7,by8 x 6,by8 x 5,by8 x 4,by8 x 3,by8 x 2,by8 x 1,by8 x 0]=x:=by
 simp only [num8,List.foldl_cons,List.foldl_nil,by8_nat,Nat.reduceMul,Nat.reducePow,Nat.div_one,Nat.zero_mul,Nat.zero_add]
 omega
theorem split_groups {α:Type} (f:α→Nat):∀(Ks:List (List Nat)) (T:List α),T.map f=Ks.flatten→∃G:List (List α),G.flatten=T∧G.map (List.map f)=Ks
 | [],T,h=>⟨[],by simp at h;simp [h],rfl⟩
 | us::Ks,T,h=>by
  rw [List.flatten_cons] at h
  have h1:(T.take us.length).map f=us:=by rw [List.map_take,h,List.take_left'];rfl
  have h2:(T.drop us.length).map f=Ks.flatten:=by rw [List.map_drop,h,List.drop_left'];rfl
  obtain ⟨G,e1,e2⟩:=split_groups f Ks _ h2
  exact ⟨T.take us.length::G,by rw [List.flatten_cons,e1,List.take_append_drop],by rw [List.map_cons,h1,e2]⟩
theorem or_run (N U:Nat) (hN:N<72057594037927936) (hU:U<256):bits .or .u64 ((N:Int)*256) (U:Int)=((N*256+U:Nat):Int):=by
 have e:(N:Int)*256=((2 ^ 8*N:Nat):Int):=by omega
 rw [e,u64_or_nat _ _ (by omega) (by omega),←Nat.two_pow_add_eq_or_of_lt (i:=8) (by omega)]
 omega
section
variable {w:World}
set_option maxRecDepth 100000 in
set_option maxHeartbeats 4000000 in
theorem refIn_any {v:Value}{r:Nat × Nat}{rest:List UInt8} (hr:Reads w v (encRef r++rest)) (h1:r.1<65536) (h2:r.2<18446744073709551616):Calls Tryz.prog 140 #[v] w fun e w'=>e=.returned (.agg #[.int .i64 (r.1:Int),.int .u64 (r.2:Int)])∧Kept [] w w':=by
 rcases reads_cases hr with ⟨a,cap,rfl,he,_⟩|⟨b,o,cap,rfl,hc1,hc2,hc⟩
 ·simp [encRef] at he
 have d0:w.cell? ⟨b,o,none⟩=some (B8 (by8 r.1 1)):=hc 0 _ rfl
 have d1:w.cell? ⟨b,o+1,none⟩=some (B8 (by8 r.1 0)):=hc 1 _ rfl
 have hb:b<w.heap.size:=World.block_lt_of_cell? w _ d0
 have hlen:10≤(encRef r++rest).length:=by simp [encRef]
 obtain ⟨s8,hs8,hs8l,hs8n⟩:∃s8:List UInt8,s8=[by8 r.2 7,by8 r.2 6,by8 r.2 5,by8 r.2 4,by8 r.2 3,by8 r.2 2,by8 r.2 1,by8 r.2 0]∧s8.length=8∧num8 s8=r.2:=⟨_,rfl,rfl,eight_back r.2 h2⟩
 have HD:Hid (∀j u,s8[j]?=some u→∀W,Kept [] w W→W.cell? ⟨b,o+2+j,none⟩=some (B8 u)):=Hid.mk fun j u hu W k=>by
  rw [k.cell hb (by simp),Nat.add_assoc]
  refine hc (2+j) u ?_
  have hj:j<8:=by rw [←hs8l];exact (List.getElem?_eq_some_iff.1 hu).1
  show ([by8 r.1 1,by8 r.1 0]++[by8 r.2 7,by8 r.2 6,by8 r.2 5,by8 r.2 4,by8 r.2 3,by8 r.2 2,by8 r.2 1,by8 r.2 0]++rest)[2+j]?=some u
  rw [←hs8,List.append_assoc,List.getElem?_append_right (by simp),List.getElem?_append_left (by simp;omega)]
  simpa using hu
 generalize (encRef r++rest).length=n at *
 have hsl:∀W,(Instr.slice 48 (.slice (some ⟨b,o,none⟩) n cap) (some (.int .i64 2)) (some (.int .i64 10)) none).run Tryz.prog W=.ok (.slice (some ⟨b,o+2,none⟩) 8 (cap-2)) W:=fun W=>slice_mid b o n cap 2 8 (by omega) (by omega) W
 unfold B8 at d0 d1
 have hn2:=two_back r.1 h1
 generalize hx1:(by8 r.1 1).toNat=x1 at *
 generalize hx0:(by8 r.1 0).toNat=x0 at *
 have hl1:x1<256:=by rw [←hx1];exact UInt8.toNat_lt _
 have hl0:x0<256:=by rw [←hx0];exact UInt8.toNat_lt _
 have HS:Hid (∀W,Kept [] w W→W.cell? ⟨b,o,none⟩=some (.int .u8 (x1:Int))∧W.cell? ⟨b,o+1,none⟩=some (.int .u8 (x0:Int))):=Hid.mk fun W k=>⟨by rw [k.cell hb (by simp)];exact d0,by rw [k.cell hb (by simp)];exact d1⟩
 have hs0:(0:Int)<n:=by omega
 have hs1:(1:Int)<n:=by omega
 have hs2:0<n:=by omega
 have hs3:1<n:=by omega
 have hw1:IntKind.i64.wrap (x1:Int)=(x1:Int):=by rw [IntKind.wrap_i64];omega
 have hw2:IntKind.i64.wrap ((x1:Int)*256)=(x1:Int)*256:=by rw [IntKind.wrap_i64];omega
 have hw0:IntKind.i64.wrap (x0:Int)=(x0:Int):=by rw [IntKind.wrap_i64];omega
 have hor:bits .or .i64 ((x1:Int)*256) (x0:Int)=(r.1:Int):=by rw [or_two x1 x0 hl1 hl0,hn2]
 have H8:Hid (s8.length=8∧num8 s8=r.2):=Hid.mk ⟨hs8l,hs8n⟩
 have HB:Hid (b<w.heap.size):=Hid.mk hb
 clear d0 d1 hr hc hx1 hx0 hn2 hs8 hs8l hs8n hlen hb
 go_enter Tryz.func140,Tryz.ntmps140
 go_wp2
 go_region_held3 (fun w'=>w'.cell? ⟨b,o,none⟩=some (.int .u8 (x1:Int))∧w'.cell? ⟨b,o+1,none⟩=some (.int .u8 (x0:Int))) (first|exact HS.out _ (((Kept.refl [] w).alloc _).drew)|exact HS.out _ ((((Kept.refl [] w).alloc _).drew).alloc _)|exact HS.out _ ((((Kept.refl [] w).alloc _).alloc _))) (fail)
 have hk0:Kept [] w (((w.alloc (.cells #[.int .i64 0,.int .u64 0] 102)).alloc (.cells #[.int .i64 (r.1:Int),.int .u64 0] 102)).drew):=(((Kept.refl [] w).alloc _).alloc _).drew
 have hbx:(((w.alloc (.cells #[.int .i64 0,.int .u64 0] 102)).alloc (.cells #[.int .i64 (r.1:Int),.int .u64 0] 102)).drew).heap[w.heap.size+1]?=some (.cells #[.int .i64 (r.1:Int),.int .u64 0] 102 (0,0)):=by
  have:=heap_alloc_new (w.alloc (.cells #[.int .i64 0,.int .u64 0] 102)) (.cells #[.int .i64 (r.1:Int),.int .u64 0] 102)
  rw [World.size_alloc] at this
  exact this
 have hax:(((w.alloc (.cells #[.int .i64 0,.int .u64 0] 102)).alloc (.cells #[.int .i64 (r.1:Int),.int .u64 0] 102)).drew).heap[w.heap.size]?=some (.cells #[.int .i64 0,.int .u64 0] 102 (0,0)) :=
  (((Kept.refl [] (w.alloc (.cells #[.int .i64 0,.int .u64 0] 102))).alloc _).drew).keeps (heap_alloc_new w _) (by simp)
 generalize (((w.alloc (.cells #[.int .i64 0,.int .u64 0] 102)).alloc (.cells #[.int .i64 (r.1:Int),.int .u64 0] 102)).drew)=W0 at hk0 hbx hax ⊢
 have HX0:Hid (Kept [] w W0∧W0.heap[w.heap.size+1]?=some (.cells #[.int .i64 (r.1:Int),.int .u64 0] 102 (0,0))∧W0.heap[w.heap.size]?=some (.cells #[.int .i64 0,.int .u64 0] 102 (0,0))):=Hid.mk ⟨hk0,hbx,hax⟩
 have HAB:Hid (w.heap.size<w.heap.size+1):=Hid.mk (Nat.lt_succ_self _)
 clear hk0 hbx hax
 generalize w.heap.size+1=B at *
 have HA:Hid (w.heap.size≤w.heap.size):=Hid.mk (Nat.le_refl _)
 generalize hAe:w.heap.size=A at HX0 HAB HA ⊢
 have HAe:Hid (w.heap.size=A):=Hid.mk hAe
 clear hAe
 go_wp2
 go_loopw [20] (fun i wr=>∃j:Nat,i=.int .i64 (j:Int)∧j≤8∧Kept [] w wr∧wr.heap[B]?=some (.cells #[.int .i64 (r.1:Int),.int .u64 ((num8 (s8.take j):Nat):Int)] 102 (0,0))∧wr.heap[A]?=some (.cells #[.int .i64 0,.int .u64 0] 102 (0,0))) (fun i _=>(8-intOf i).toNat)
 case atStart=>exact ⟨0,rfl,by omega,HX0.out.1,HX0.out.2.1,HX0.out.2.2⟩
 case round =>
  obtain ⟨j,rfl,hj,hk,hx,ha⟩:=hrel
  have c1:wr.cell? ⟨B,1,none⟩=some (.int .u64 ((num8 (s8.take j):Nat):Int)):=by simp [World.cell?,hx]
  have c0:wr.cell? ⟨B,0,none⟩=some (.int .i64 (r.1:Int)):=by simp [World.cell?,hx]
  have hfr:wr.frozen? ⟨B,1,none⟩=false:=by simp [World.frozen?,hx]
  have HX:=Hid.mk (And.intro hk (And.intro hx ha))
  by_cases hlt:j<8
  ·obtain ⟨u,hu⟩:∃u,s8[j]?=some u:=⟨_,List.getElem?_eq_getElem (by rw [H8.out.1];exact hlt)⟩
   have hcu:=HD.out j u hu wr hk
   unfold B8 at hcu
   have hN:num8 (s8.take j)<72057594037927936:=by
    have h7:=num8_lt (s8.take j)
    rw [List.length_take,H8.out.1,Nat.min_eq_left (by omega)] at h7
    exact Nat.lt_of_lt_of_le h7 (by have:=Nat.pow_le_pow_right (n:=256) (by omega) (show j≤7 by omega);simpa using this)
   have e:num8 (s8.take (j+1))=num8 (s8.take j)*256+u.toNat:=by
    rw [List.take_add_one,hu]
    exact num8_snoc _ _
   have HE:=Hid.mk e
   have hU:=u.toNat_lt
   have hj1:(j:Int)<8:=by omega
   have hj2:(0:Int)≤j:=by omega
   clear hk hx hu e ha c0
   generalize hn8:num8 (s8.take j)=N at *
   generalize u.toNat=U at *
   clear hn8
   have hw:IntKind.u64.wrap ((N:Int)*256)=(N:Int)*256:=by rw [IntKind.wrap_u64];omega
   have hwU:IntKind.u64.wrap (U:Int)=(U:Int):=by rw [IntKind.wrap_u64];omega
   have hor2:=or_run N U hN hU
   go_wp2
   go_roundw
   case rel =>
    refine ⟨j+1,by go_num,by omega,HX.out.1.setCell (.inr (by have:=HAB.out;have:=HAe.out;show w.heap.size≤B;omega)) _,?_,?_⟩
    ·rw [HE.out,setCell_eq_setRow wr B 1 _ 102 (0,0) _ HX.out.2.1,setRow_heap wr B _ _ 102 _ HX.out.2.1]
     rfl
    ·exact ((Kept.refl [B] wr).setCell (.inl (by simp)) _).keeps HX.out.2.2 (by have:=HAB.out;simp;omega)
   case measure=>simp [intOf];omega
  ·have e8:j=8:=by omega
   subst e8
   have e:num8 (s8.take 8)=r.2:=by rw [List.take_of_length_le (by rw [H8.out.1];exact Nat.le_refl _)];exact H8.out.2
   rw [e] at c1
   have a0:wr.cell? ⟨A,0,none⟩=some (.int .i64 0):=by simp [World.cell?,ha]
   have a1:wr.cell? ⟨A,1,none⟩=some (.int .u64 0):=by simp [World.cell?,ha]
   have af0:wr.frozen? ⟨A,0,none⟩=false:=by simp [World.frozen?,ha]
   have af1:wr.frozen? ⟨A,1,none⟩=false:=by simp [World.frozen?,ha]
   have b0:(wr.setCell ⟨A,0,none⟩ (.int .i64 (r.1:Int))).heap[A]?=some (.cells #[.int .i64 (r.1:Int),.int .u64 0] 102 (0,0)):=by
    rw [setCell_eq_setRow wr A 0 _ 102 (0,0) _ ha,setRow_heap wr A _ _ 102 _ ha]
    rfl
   have b1:((wr.setCell ⟨A,0,none⟩ (.int .i64 (r.1:Int))).setCell ⟨A,1,none⟩ (.int .u64 (r.2:Int))).heap[A]?=some (.cells #[.int .i64 (r.1:Int),.int .u64 (r.2:Int)] 102 (0,0)):=by
    rw [setCell_eq_setRow _ A 1 _ 102 (0,0) _ b0,setRow_heap _ A _ _ 102 _ b0]
    rfl
   have bk:Kept [] w ((wr.setCell ⟨A,0,none⟩ (.int .i64 (r.1:Int))).setCell ⟨A,1,none⟩ (.int .u64 (r.2:Int))):=(hk.setCell (.inr (Nat.le_of_eq HAe.out)) _).setCell (.inr (Nat.le_of_eq HAe.out)) _
   have HB1:=Hid.mk (And.intro b1 bk)
   clear hx hk ha b0 b1 bk
   go_wp2
   obtain ⟨b1,bk⟩:=HB1.out
   generalize ((wr.setCell ⟨A,0,none⟩ (.int .i64 (r.1:Int))).setCell ⟨A,1,none⟩ (.int .u64 (r.2:Int)))=W2 at b1 bk ⊢
   have g0:W2.cell? ⟨A,0,none⟩=some (.int .i64 (r.1:Int)):=by simp [World.cell?,b1]
   have g1:W2.cell? ⟨A,1,none⟩=some (.int .u64 (r.2:Int)):=by simp [World.cell?,b1]
   refine bodyPost_ret (v:=.agg #[.int .i64 (r.1:Int),.int .u64 (r.2:Int)]) (by simp [results,Tryz.results140,go_sem,g0,g1];try rfl) rfl ?_
   exact ⟨rfl,bk⟩
end
def Bare (w:World) (u:Nat) (r:Nat × Nat):Prop:=w.heap[u]?=some (.cells #[.int .i64 (r.1:Int),.int .u64 (r.2:Int),.int .i64 0,.slice none 0 0,.slice none 0 0] 114 (0,0))
structure Under (w0 w:World) (a nm sm lv:Nat) (rs:List (Nat × Nat)) (us:List Nat) (vu:Value):Prop where
 node:w.heap[a]?=some (.cells #[.int .i64 (nm:Int),.int .u64 (sm:Int),.int .i64 (lv:Int),.slice none 0 0,vu] 114 (0,0))
 own:OwnsP 77 w vu us
 len:us.length=rs.length
 bare:∀(i u:Nat) (r:Nat × Nat),us[i]?=some u→rs[i]?=some r→Bare w u r
 new:∀u∈us,w0.heap.size≤u∧u<w.heap.size
 nodup:us.Nodup
 apart:∀g,vu.ownBlock=some g→w0.heap.size≤g∧g∉us
 kept:Kept [a] w0 w
theorem Under.start {w:World}{a nm sm lv:Nat} (h:w.heap[a]?=some (.cells #[.int .i64 (nm:Int),.int .u64 (sm:Int),.int .i64 (lv:Int),.slice none 0 0,.slice none 0 0] 114 (0,0))):Under w w a nm sm lv [] [] (.slice none 0 0) :=
 ⟨h,OwnsP.nil 77 w,rfl,by simp,by simp,by simp,fun g hg=>by simp [Value.ownBlock] at hg,Kept.refl _ _⟩
theorem Under.next {w0 w w1:World}{a nm sm lv:Nat}{rs:List (Nat × Nat)}{us:List Nat}{vu:Value} (h:Under w0 w a nm sm lv rs us vu) (ha:a<w0.heap.size) (r:Nat × Nat) (k1:Kept [] w w1) (hl:us.length≤1000) :
  ∃ad c w4,(Builtin.append_ #[112,112] 112 #[vu,.slice (some ⟨w1.heap.size+1,0,none⟩) 1 1]).run Tryz.prog ((w1.alloc (.cells #[.int .i64 (r.1:Int),.int .u64 (r.2:Int),.int .i64 0,.slice none 0 0,.slice none 0 0] 114)).alloc (.cells #[Pp w1.heap.size] 77))=.ok (.slice ad (us.length+1) c) w4∧w4.cell? ⟨a,4,none⟩=some vu∧w4.frozen? ⟨a,4,none⟩=false ∧
   Under w0 (w4.setCell ⟨a,4,none⟩ (.slice ad (us.length+1) c)) a nm sm lv (rs++[r]) (us++[w1.heap.size]) (.slice ad (us.length+1) c):=by
 have k2:Kept [] w (w1.alloc (.cells #[.int .i64 (r.1:Int),.int .u64 (r.2:Int),.int .i64 0,.slice none 0 0,.slice none 0 0] 114)):=k1.alloc _
 have hs2:(w1.alloc (.cells #[.int .i64 (r.1:Int),.int .u64 (r.2:Int),.int .i64 0,.slice none 0 0,.slice none 0 0] 114)).heap.size=w1.heap.size+1:=World.size_alloc _ _
 have hu2:Bare (w1.alloc (.cells #[.int .i64 (r.1:Int),.int .u64 (r.2:Int),.int .i64 0,.slice none 0 0,.slice none 0 0] 114)) w1.heap.size r:=heap_alloc_new w1 _
 obtain ⟨ad,c,w4,hrun,ho4,k4,hN4⟩:=append_ptr rt112 (h.own.kept k2 (by simp)) w1.heap.size (by omega) 77 (0,0) 112
 rw [hs2] at hrun
 generalize (w1.alloc (.cells #[.int .i64 (r.1:Int),.int .u64 (r.2:Int),.int .i64 0,.slice none 0 0,.slice none 0 0] 114))=w2 at *
 have hsz1:=k1.size
 have hsz0:=h.kept.size
 have hvb:∀g∈vu.ownBlock.toList,w0.heap.size≤g∧g∉us∧g<w.heap.size:=fun g hg=>⟨(h.apart g (by simpa using hg)).1,(h.apart g (by simpa using hg)).2,h.own.lt (by simpa using hg)⟩
 have hn4:w4.heap[a]?=some (.cells #[.int .i64 (nm:Int),.int .u64 (sm:Int),.int .i64 (lv:Int),.slice none 0 0,vu] 114 (0,0)):=k4.keeps (k2.keeps h.node (by simp)) (fun hm=>by have:=(hvb _ hm).1;omega)
 have hb4:∀(i u:Nat) (r':Nat × Nat),(us++[w1.heap.size])[i]?=some u→(rs++[r])[i]?=some r'→Bare w4 u r':=fun i u r' hu hr'=>by
  by_cases hi:i<us.length
  ·rw [List.getElem?_append_left hi] at hu
   rw [List.getElem?_append_left (by rw [←h.len];exact hi)] at hr'
   exact k4.keeps (k2.keeps (h.bare i u r' hu hr') (by simp)) (fun hm=>(hvb _ hm).2.1 (List.mem_of_getElem? hu))
  ·have hi':i=us.length:=by
    have:=(List.getElem?_eq_some_iff.1 hu).1
    simp at this
    omega
   subst hi'
   rw [List.getElem?_append_right (Nat.le_refl _)] at hu
   rw [h.len,List.getElem?_append_right (Nat.le_refl _)] at hr'
   simp at hu hr'
   subst hu hr'
   exact k4.keeps hu2 (fun hm=>by have:=(hvb _ hm).2.2;omega)
 have kset:Kept [a] w4 (w4.setCell ⟨a,4,none⟩ (.slice ad (us.length+1) c)):=(Kept.refl [a] w4).setCell (.inl (by simp)) _
 have hk4:Kept [a] w0 w4:=h.kept.trans ((k2.mono (by simp)).trans k4 (fun y hy=>.inl hy):Kept vu.ownBlock.toList w w4) (fun y hy=>.inr (hvb y hy).1)
 have hne:∀u∈us++[w1.heap.size],u≠a:=fun u hu e=>by
  rcases List.mem_append.1 hu with hu|hu
  ·have:=(h.new u hu).1;omega
  ·simp at hu;omega
 have hs4:=k4.size
 refine ⟨ad,c,w4,hrun,by simp [World.cell?,hn4],by simp [World.frozen?,hn4],?_,?_,by simp [h.len],fun i u r' hu hr'=>kset.keeps (hb4 i u r' hu hr') (by simpa using hne u (List.mem_of_getElem? hu)),fun u hu=>?_,?_,fun g hg=>?_,hk4.trans kset (by simp)⟩
 ·rw [setCell_eq_setRow w4 a 4 _ 114 (0,0) _ hn4,setRow_heap w4 a _ _ 114 _ hn4]
  rfl
 ·refine ho4.kept kset (fun g hg=>?_)
  rcases hN4 g hg with h5|h5
  ·have:=(hvb g (by simpa using h5)).1;simp;omega
  ·simp;omega
 ·have hs5:=kset.size
  rcases List.mem_append.1 hu with hu|hu
  ·have:=h.new u hu;omega
  ·simp at hu;omega
 ·rw [List.nodup_append]
  refine ⟨h.nodup,by simp,fun x hx y hy=>?_⟩
  simp at hy
  have:=(h.new x hx).2
  omega
 ·rcases hN4 g hg with h5|h5
  ·have h6:=hvb g (by simpa using h5)
   refine ⟨h6.1,fun hm=>?_⟩
   rcases List.mem_append.1 hm with hm|hm
   ·exact h6.2.1 hm
   ·simp at hm;omega
  ·refine ⟨by omega,fun hm=>?_⟩
   rcases List.mem_append.1 hm with hm|hm
   ·have:=(h.new g hm).2;omega
   ·simp at hm;omega
def slN:Value→Nat
 | .slice _ n _=>n
 | _=>0
theorem refs_length (rs:List (Nat × Nat)):(rs.flatMap encRef).length=rs.length*10:=by
 induction rs with
 | nil=>rfl
 | cons r rs ih=>rw [List.flatMap_cons,List.length_append,ih,encRef_length,List.length_cons];omega
section
variable {w:World}
set_option maxRecDepth 100000 in
set_option maxHeartbeats 4000000 in
theorem fillUnder_any {a nm sm lv:Nat} (hb:w.heap[a]?=some (.cells #[.int .i64 (nm:Int),.int .u64 (sm:Int),.int .i64 (lv:Int),.slice none 0 0,.slice none 0 0] 114 (0,0))) {v:Value}{rs:List (Nat × Nat)} (hva:∀g,v.ownBlock=some g→g≠a) (hr:Reads w v (rs.flatMap encRef)) (hok:∀r∈rs,r.1<65536∧r.2<18446744073709551616) (hl:rs.length≤1000):Calls Tryz.prog 102 #[Pp a,v] w fun e w'=>e=.returned (.bool true)∧∃us vu,Under w w' a nm sm lv rs us vu:=by
 have hlen:=refs_length rs
 obtain ⟨ad,cap,rfl,hrd⟩:=id hr
 rw [hlen] at hr hva ⊢
 have ha:a<w.heap.size:=lt_of_block hb
 have HU0:=Hid.mk (And.intro (Under.start hb) (And.intro hr (And.intro hva ha)))
 have HOK:=Hid.mk hok
 clear hrd hb hr hva hok ha hlen
 go_enter Tryz.func102,Tryz.ntmps102
 go_wp2
 go_loopw [1] (fun u wr=>∃(j:Nat) (us:List Nat) (vu:Value) (ad:Option Addr) (m c:Nat),u=.slice ad m c∧m=(rs.length-j)*10∧j≤rs.length∧Reads w u ((rs.drop j).flatMap encRef)∧(∀g,u.ownBlock=some g→g≠a)∧Under w wr a nm sm lv (rs.take j) us vu) (fun u _=>slN u)
 case atStart=>exact ⟨0,[],_,ad,_,cap,rfl,rfl,by omega,HU0.out.2.1,HU0.out.2.2.1,HU0.out.1⟩
 case round =>
  obtain ⟨j,us,vu,ad,m,c,rfl,hm,hj,hrd,hne,hU⟩:=hrel
  have hc4:wr.cell? ⟨a,4,none⟩=some vu:=by simp [World.cell?,hU.node]
  by_cases hlt:j<rs.length
  ·have hm0:(0:Int)<m:=by omega
   have hm1:0<m:=by omega
   have hd:rs.drop j=rs[j]::rs.drop (j+1):=List.drop_eq_getElem_cons hlt
   generalize hrj:rs[j]=r at hd
   have hrm:r∈rs:=by rw [←hrj];exact List.getElem_mem hlt
   have e1:(rs.drop j).flatMap encRef=encRef r++(rs.drop (j+1)).flatMap encRef:=by rw [hd,List.flatMap_cons]
   have hml:m=((rs.drop j).flatMap encRef).length:=by rw [refs_length,List.length_drop];exact hm
   have hka:Kept [a] w wr:=hU.kept
   have hrw:∀W,Kept [] wr W→Reads W (.slice ad m c) (encRef r++(rs.drop (j+1)).flatMap encRef):=fun W k=>by
    rw [←e1]
    exact hrd.kept (hka.trans k (by simp)) (fun g hg hm=>hne g hg (by simpa using hm))
   have HC:Hid (∀W,Kept [] wr W→Calls Tryz.prog 140 #[.slice ad m c] W fun e w'=>e=.returned (.agg #[.int .i64 (r.1:Int),.int .u64 (r.2:Int)])∧Kept [] W w'):=Hid.mk fun W k=>refIn_any (hrw W k) (HOK.out r hrm).1 (HOK.out r hrm).2
   have hsf:=slice_from (P:=Tryz.prog) 48 5 Tryz.underlying48 (fun W=>by kernel_rfl) .i64 ad c 10 ((rs.drop j).flatMap encRef) w (by rw [←hml];exact hrd) (by omega)
   rw [←hml] at hsf
   obtain ⟨a',c',hsl,hr',hwi⟩:=hsf
   have HS:Hid (∀W,Kept [] wr W→W.cell? ⟨a,4,none⟩=some vu):=Hid.mk fun W k=>by rw [k.cell (lt_of_block hU.node) (by simp)];exact hc4
   have hul:us.length≤1000:=by rw [hU.len,List.length_take];omega
   have HN:=Hid.mk hU
   have hr2:Reads w (.slice a' (m-10) c') ((rs.drop (j+1)).flatMap encRef):=by
    rw [e1,List.drop_left' (encRef_length r)] at hr'
    exact hr'
   have HF:=Hid.mk (And.intro hr2 (And.intro hwi hne))
   have hsl1:∀W,(Instr.slice 48 (.slice ad m c) (some (.int .i64 10)) none none).run Tryz.prog W=.ok (.slice a' (m-10) c') W:=hsl
   have HM:=Hid.mk (And.intro hm (And.intro hlt (And.intro hul (And.intro hrj hd))))
   have kw:Kept [] wr wr.drew:=(Kept.refl [] wr).drew
   clear hsl hr' hr2 hwi hne hrd hU hm hul hd hrj e1 hml hka hrw hrm hj
   go_wp2
   go_region_law (first|(refine step_append_run 112 (.tmp 18) (.tmp 23) (by rfl) (by rfl) _ _ (by rfl) (by rfl) hrun ?_)|(go_simp;go_at_call 140;refine Calls.mono (HC.out _ kw) ?_;rintro e w1 ⟨rfl,k1⟩;have k1:=kw.trans k1 (by simp);obtain ⟨a4,c4,w4,hrun,q4,qf,HU4⟩:=HN.out.next HU0.out.2.2.2 r k1 HM.out.2.2.1;have S4:=Hid.mk HU4;clear HU4;have q1:=HS.out _ k1;have q2:=HS.out _ (k1.alloc (.cells #[.int .i64 (r.1:Int),.int .u64 (r.2:Int),.int .i64 0,.slice none 0 0,.slice none 0 0] 114));have q3:=HS.out _ ((k1.alloc (.cells #[.int .i64 (r.1:Int),.int .u64 (r.2:Int),.int .i64 0,.slice none 0 0,.slice none 0 0] 114)).alloc (.cells #[Pp w1.heap.size] 77));clear k1))
   all_goals
    clear q1 q2 q3 q4 qf hrun hc4
    go_wp2
    go_roundw
    case rel =>
     obtain ⟨e1,e2,e3,e4,e5⟩:=HM.out
     refine ⟨j+1,us++[w1.heap.size],.slice a4 (us.length+1) c4,a',m-10,c',rfl,by omega,by omega,HF.out.1,fun g hg=>HF.out.2.2 g (HF.out.2.1 g hg),?_⟩
     have et:rs.take (j+1)=rs.take j++[r]:=by rw [List.take_add_one,List.getElem?_eq_getElem e2,e4];rfl
     rw [et]
     exact S4.out
    case measure=>simp [slN];omega
  ·have hj':j=rs.length:=by omega
   have hm0:m=0:=by rw [hm,hj'];omega
   have HN:=Hid.mk (And.intro hU hj')
   clear hU hrd hne hc4 hm hlt hj hj'
   subst hm0
   go_wp2
   go_ret
   obtain ⟨h1,h2⟩:=HN.out
   rw [h2,List.take_length] at h1
   exact ⟨rfl,us,vu,h1⟩
end
theorem makeN (n:Nat) (hn:n≤100000) (W:World):(Instr.makeSlice 48 (.int .i64 (n:Int)) (.int .i64 (n:Int))).run Tryz.prog W=.ok (.slice (some ⟨W.heap.size,0,none⟩) n n) (W.alloc (.cells (C8 (zs n)).toArray 5)):=by
 obtain ⟨i0,hi,hz0,hz1,hz2⟩:=info_parts inf5
 have h:=run_make (P:=Tryz.prog) W 48 5 i0 _ Tryz.underlying48 hi hz0 .i64 .i64 (n:Int) (n:Int) (by omega) (by omega) (by rw [hz2];omega) (by omega)
 have e9:(n:Int).toNat=n:=by omega
 rw [h,e9]
 have e:madeCells (Value.int .u8 0).cells (n*i0.size)=(C8 (zs n)).toArray:=by
  rw [hz1]
  apply Array.toList_inj.1
  rw [show (Value.int .u8 0).cells=#[.int .u8 0] from rfl,toList_madeCells_one]
  have e0:B8 0=.int .u8 0:=by simp [B8]
  show _=List.map B8 (List.replicate n 0)
  rw [List.map_replicate,e0,Nat.mul_one]
 rw [e]
theorem encItem_length (ρ:Rho) (i:Itm):(encItem ρ i).length=if 236<3+i.key.length+i.val.length then (if i.val=[] then 13 else 14)+i.key.length else 3+i.key.length+i.val.length:=by
 by_cases hg:lng i=true
 ·have hg':236<3+i.key.length+i.val.length:=by simpa [lng] using hg
  rw [if_pos hg',encItem,if_pos hg]
  simp only [List.length_append,List.length_cons,List.length_nil,encRef_length,List.length_take]
  by_cases hv:i.val=[]
  ·rw [if_pos hv,hv];simp;omega
  ·have:=List.length_pos_iff.2 hv
   rw [if_neg hv];omega
 ·have hg':¬236<3+i.key.length+i.val.length:=by simpa [lng] using hg
  rw [if_neg hg',encItem,if_neg hg]
  simp only [List.length_append,List.length_cons,List.length_nil]
theorem cut_item {w:World}{b o n cap k:Nat}{l:List UInt8} (hr:Reads w (.slice (some ⟨b,o,none⟩) n cap) l) (hn:n=l.length) (hk1:1≤k) (hk:3+k≤n) (hcap:cap≤9223372036854775807) (hc:n≤cap) :
  (∃a5 c5,(∀W,(Instr.slice 48 (.slice (some ⟨b,o,none⟩) n cap) (some (.int .i64 (3+(k:Int)))) none none).run Tryz.prog W=.ok (.slice a5 (n-(3+k)) c5) W)∧Reads w (.slice a5 (n-(3+k)) c5) (l.drop (3+k))∧Within (.slice (some ⟨b,o,none⟩) n cap) (.slice a5 (n-(3+k)) c5)) ∧
  (∀W,(Instr.slice 48 (.slice (some ⟨b,o,none⟩) n cap) (some (.int .i64 3)) (some (.int .i64 (3+(k:Int)))) none).run Tryz.prog W=.ok (.slice (some ⟨b,o+3,none⟩) k (cap-3)) W):=by
 subst hn
 refine ⟨?_,fun W=>slice_mid b o l.length cap 3 k (by omega) (by omega) W⟩
 obtain ⟨a5,c5,h1,h2,h3⟩:=slice_from (P:=Tryz.prog) 48 5 Tryz.underlying48 (fun W=>by kernel_rfl) .i64 (some ⟨b,o,none⟩) cap (3+k) l w hr hk
 have e:((3+k:Nat):Int)=3+(k:Int):=by omega
 rw [e] at h1
 exact ⟨a5,c5,h1,h2,h3⟩
end Go.Proofs.YtgpbhlfdlkemjaaGreat
