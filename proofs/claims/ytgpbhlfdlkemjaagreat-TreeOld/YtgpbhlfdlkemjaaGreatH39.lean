import Derived.Test.YtgpbhlfdlkemjaaGreatH38
/-
 itemIn: an item is read as it was laid.
-/
namespace Go.Proofs.YtgpbhlfdlkemjaaGreat
open Go.RowKit
set_option linter.unusedVariables false
theorem copy_head (w:World) (g:Nat) (L:List UInt8) (dCap:Nat) (a:Option Addr) (n cap:Nat) (l:List UInt8) (hR:Row w g L) (hr:Reads w (.slice a n cap) l) (hn:l.length=n) (h1:L.length≤n) :
  ∃w',(Builtin.copy_ #[48,48] 3 #[.slice (some ⟨g,0,none⟩) L.length dCap,.slice a n cap]).run Tryz.prog w=.ok (goInt L.length) w'∧Row w' g (l.take L.length)∧Kept [g] w w':=by
 obtain ⟨i0,hi,hz0,hz1,hz2⟩:=info_parts inf5
 have hs:(Tryz.prog.info? 5).map (·.size)=some 1:=by rw [hi];simp [hz1]
 rcases reads_cases hr with ⟨a',c',he,rfl,_⟩|⟨b,q,c',he,hh1,hh2,hc⟩
 ·injection he with e1 e2 e3
  subst e1 e2 e3
  have hL:L=[]:=List.eq_nil_of_length_eq_zero (by omega)
  subst hL
  exact ⟨w,run_copy_none w 48 48 3 5 _ _ _ _ _ _ Tryz.underlying48 hs (by simp),by simpa using hR,Kept.refl _ _⟩
 ·injection he with e1 e2 e3
  subst e1 e3
  have hpl:(l.take L.length).length=L.length:=by rw [List.length_take];omega
  have hrun:=run_copy_row (P:=Tryz.prog) w 48 48 3 5 g 0 L.length dCap ⟨b,q,none⟩ n cap (C8 L).toArray 5 (C8 (l.take L.length)) Tryz.underlying48 hs hR (by rw [C8_length,hpl];exact (Nat.min_eq_right h1).symm) (fun j v hv=>by
   simp only [C8,List.getElem?_map,Option.map_eq_some_iff] at hv
   obtain ⟨u,hu,rfl⟩:=hv
   have hadd:(⟨b,q,Option.none⟩:Addr).add j=⟨b,q+j,Option.none⟩:=by unfold Addr.add;split<;>simp_all
   rw [hadd]
   have hj:=(List.getElem?_eq_some_iff.1 hu).1
   rw [hpl] at hj
   exact hc j u (by rwa [List.getElem?_take_of_lt hj] at hu)) (by simp [C8_length];omega) (C8_one _)
  rw [C8_length,hpl] at hrun
  refine ⟨_,hrun,?_,⟨rfl,rfl,rfl,by simp [World.setRow],fun k hk hn=>setRow_other w g k _ (by intro e;subst e;simp at hn)⟩⟩
  have e:splice L 0 (l.take L.length)=l.take L.length:=by
   unfold splice
   rw [hpl]
   simp
  unfold Row
  rw [setRow_heap w g _ _ 5 _ hR]
  conv=>rhs;rw [←e]
  rw [←C8_splice,C8_length,hpl]
def half (i:Itm):List UInt8:=if lng i=true then i.val.take 1++zs (i.val.length-1) else i.val
theorem half_length (i:Itm) (h:i.key.length≤64):(half i).length=i.val.length:=by
 unfold half
 split
 ·rename_i hg
  have hg':236<3+i.key.length+i.val.length:=by simpa [lng] using hg
  rw [List.length_append,zs_length,List.length_take]
  omega
 ·rfl
theorem key_reads {w:World}{b o n cap:Nat}{ρ:Rho}{i:Itm}{rest:List UInt8} (hr:Reads w (.slice (some ⟨b,o,none⟩) n cap) (encItem ρ i++rest)) (hk1:1≤i.key.length) (hn:3+i.key.length≤n):Reads w (.slice (some ⟨b,o+3,none⟩) i.key.length (cap-3)) i.key:=by
 obtain ⟨a,c,hv,h2,h3,h4,h5⟩:=hr
 injection hv with e1 e2 e3
 subst e1 e2 e3
 obtain ⟨b',o',hab,hc⟩:=h5 (by simp [encItem])
 simp at hab
 obtain ⟨rfl,rfl⟩:=hab
 refine ⟨_,cap-3,rfl,by omega,by omega,by simp,fun _=>⟨b,o+3,rfl,fun j u hu=>?_⟩⟩
 rw [Nat.add_assoc]
 refine hc (3+j) u ?_
 have hj:=(List.getElem?_eq_some_iff.1 hu).1
 rw [encItem,List.append_assoc,List.append_assoc,List.getElem?_append_right (by simp),List.getElem?_append_left (by simp;omega)]
 simpa using hu
theorem body_reads {ρ:Rho}{i:Itm} (rest:List UInt8):(encItem ρ i++rest).drop (3+i.key.length)=(if lng i=true then i.val.take 1++encRef (ρ i.ad) else i.val)++rest:=by
 unfold encItem
 have e:[by8 i.key.length 0,by8 i.val.length 1,by8 i.val.length 0]++i.key++(if lng i=true then i.val.take 1++encRef (ρ i.ad) else i.val)++rest=([by8 i.key.length 0,by8 i.val.length 1,by8 i.val.length 0]++i.key)++((if lng i=true then i.val.take 1++encRef (ρ i.ad) else i.val)++rest):=by simp [List.append_assoc]
 rw [e,List.drop_left' (by simp;omega)]
structure ItB (w:World) (lo hi p:Nat) (r:Nat × Nat) (key val:List UInt8):Prop where
 box:∃g,w.heap[p]?=some (.cells #[.int .i64 (r.1:Int),.int .u64 (r.2:Int),.string ⟨key.toArray⟩,.slice (some ⟨g,0,none⟩) val.length val.length] 104 (0,0))∧Row w g val∧lo≤g∧g<hi∧g≠p
 hp:lo≤p∧p<hi
theorem ItB.kept {S:List Nat}{w w':World}{lo hi p:Nat}{r:Nat × Nat}{key val:List UInt8} (h:ItB w lo hi p r key val) (k:Kept S w w') (hS:∀x∈S,¬(lo≤x∧x<hi)):ItB w' lo hi p r key val:=by
 obtain ⟨g,h1,h2,h3,h4,h5⟩:=h.box
 exact ⟨⟨g,k.keeps h1 (fun hm=>hS p hm h.hp),h2.kept k (fun hm=>hS g hm ⟨h3,h4⟩),h3,h4,h5⟩,h.hp⟩
theorem ItB.isI {w:World}{F:Nat→Prop}{ρ:Rho}{lo hi p:Nat}{key val:List UInt8} (h:ItB w lo hi p (ρ p) key val) (hF:∀x,lo≤x→x<hi→F x) (hm:val.length≤maxLen):IsI w F ρ ⟨p,key,val⟩:=by
 obtain ⟨g,h1,h2,h3,h4,h5⟩:=h.box
 refine ⟨_,h1,h2.reads 0 val.length val.length val rfl (Nat.le_refl _) hm (fun j u hu=>by rw [Nat.zero_add];exact hu),hF p h.hp.1 h.hp.2,fun _ g' hg'=>?_⟩
 simp [Value.ownBlock] at hg'
 subst hg'
 exact hF g h3 h4
def refOf (ρ:Rho) (i:Itm):Nat × Nat:=if lng i=true then ρ i.ad else (0,0)
def ItemAt (w:World) (ρ:Rho) (i:Itm) (e:Ending) (w':World):Prop:=∃p,e=.returned (Pp p)∧ItB w' w.heap.size w'.heap.size p (refOf ρ i) i.key (half i)∧Kept [] w w'
section
variable {w:World}
set_option maxRecDepth 100000 in
set_option maxHeartbeats 4000000 in
theorem itemIn_any {v:Value}{ρ:Rho}{i:Itm}{rest:List UInt8} (hr:Reads w v (encItem ρ i++rest)) (hk1:1≤i.key.length) (hk:i.key.length≤64) (hv:i.val.length≤20000) (h1:(ρ i.ad).1<65536) (h2:(ρ i.ad).2<18446744073709551616):Calls Tryz.prog 141 #[v] w fun e w'=>ItemAt w ρ i e w':=by
 have HP:Hid (∀W p,ItB W w.heap.size W.heap.size p (refOf ρ i) i.key (half i)→Kept [] w W→ItemAt w ρ i (.returned (Pp p)) W):=fun W p h1 h2=>⟨p,rfl,h1,h2⟩
 generalize ItemAt w ρ i=R at HP ⊢
 have hbody:=body_reads (ρ:=ρ) (i:=i) rest
 rcases reads_cases hr with ⟨a,cap,rfl,he,_⟩|⟨b,o,cap,rfl,hc1,hc2,hc⟩
 ·simp [encItem] at he
 have d0:w.cell? ⟨b,o,none⟩=some (B8 (by8 i.key.length 0)):=hc 0 _ rfl
 have d1:w.cell? ⟨b,o+1,none⟩=some (B8 (by8 i.val.length 1)):=hc 1 _ rfl
 have d2:w.cell? ⟨b,o+2,none⟩=some (B8 (by8 i.val.length 0)):=hc 2 _ rfl
 have hb:b<w.heap.size:=World.block_lt_of_cell? w _ d0
 have hlen:(encItem ρ i++rest).length=(if 236<3+i.key.length+i.val.length then 14+i.key.length else 3+i.key.length+i.val.length)+rest.length:=by
  by_cases hg:lng i=true
  ·have hg':236<3+i.key.length+i.val.length:=by simpa [lng] using hg
   rw [if_pos hg',encItem,if_pos hg]
   simp only [List.length_append,List.length_cons,List.length_nil,encRef_length,List.length_take]
   omega
  ·have hg':¬236<3+i.key.length+i.val.length:=by simpa [lng] using hg
   rw [if_neg hg',encItem,if_neg hg]
   simp only [List.length_append,List.length_cons,List.length_nil]
   try omega
 have hn3:3+i.key.length≤(encItem ρ i++rest).length:=by rw [hlen];split<;>omega
 have hnZ:(if 236<3+i.key.length+i.val.length then 14+i.key.length else 3+i.key.length+i.val.length)≤(encItem ρ i++rest).length:=by rw [hlen];omega
 have HL:=Hid.mk hlen
 clear hlen
 generalize hng:(encItem ρ i++rest).length=n at *
 have hIS:=fun W=>itemSize_any i.key.length i.val.length (by omega) (by omega) W
 have hIL:=fun W=>isLong_any i.key.length i.val.length (by omega) (by omega) W
 generalize hzg:(if 236<3+i.key.length+i.val.length then 14+i.key.length else 3+i.key.length+i.val.length)=z at *
 unfold B8 at d0 d1 d2
 have hk0:(by8 i.key.length 0).toNat=i.key.length:=by rw [by8_nat];simp;omega
 rw [hk0] at d0
 have hv2:=two_back i.val.length (by omega)
 generalize hy1:(by8 i.val.length 1).toNat=y1 at *
 generalize hy0:(by8 i.val.length 0).toNat=y0 at *
 have hl1:y1<256:=by rw [←hy1];exact UInt8.toNat_lt _
 have hl0:y0<256:=by rw [←hy0];exact UInt8.toNat_lt _
 have hor:bits .or .i64 ((y1:Int)*256) (y0:Int)=(i.val.length:Int):=by rw [or_two y1 y0 hl1 hl0,hv2]
 have hw1:IntKind.i64.wrap (y1:Int)=(y1:Int):=by rw [IntKind.wrap_i64];omega
 have hw2:IntKind.i64.wrap ((y1:Int)*256)=(y1:Int)*256:=by rw [IntKind.wrap_i64];omega
 have hw0:IntKind.i64.wrap (y0:Int)=(y0:Int):=by rw [IntKind.wrap_i64];omega
 have hwk:IntKind.i64.wrap (i.key.length:Int)=(i.key.length:Int):=by rw [IntKind.wrap_i64];omega
 have HX:=Hid.mk (And.intro hr (And.intro hc (And.intro hb (And.intro hn3 (And.intro hnZ (And.intro hng hzg))))))
 have hs0:(0:Int)<n:=by omega
 have hs1:(1:Int)<n:=by omega
 have hs2:(2:Int)<n:=by omega
 have hs3:((n:Int)<3)=False:=by simp;omega
 have ht1:1<n:=by omega
 have ht2:2<n:=by omega
 have ht0:0<n:=by omega
 have hkk:((64:Int)<(i.key.length:Int))=False:=by simp;omega
 have hzz:((n:Int)<(z:Int))=False:=by simp;omega
 have S0:w.drew.cell? ⟨b,o,none⟩=some (.int .u8 (i.key.length:Int))∧w.drew.cell? ⟨b,o+1,none⟩=some (.int .u8 (y1:Int))∧w.drew.cell? ⟨b,o+2,none⟩=some (.int .u8 (y0:Int)):=⟨d0,d1,d2⟩
 have HH:=Hid.mk (And.intro hk (And.intro hv (And.intro h1 h2)))
 clear hr hc hn3 hnZ hng hzg hv2 hl1 hl0 hy1 hy0 hk0 hb hk hv h1 h2 d0 d1 d2
 have hw3:wrap64 (3+(i.key.length:Int))=3+(i.key.length:Int):=IntWalk.wrap64_in _ ⟨by have:=HH.out.1;omega,by have:=HH.out.1;omega⟩
 have hw4:IntKind.i64.wrap (3+(i.key.length:Int))=3+(i.key.length:Int):=by rw [IntWalk.i64_left];exact hw3
 have HKR:=Hid.mk (key_reads HX.out.1 hk1 HX.out.2.2.2.1)
 obtain ⟨⟨a5,c5,hsf1,hr5,hwi5⟩,hsm⟩:=cut_item HX.out.1 HX.out.2.2.2.2.2.1.symm hk1 HX.out.2.2.2.1 hc2 hc1
 have HR5:=Hid.mk (And.intro hr5 hwi5)
 clear hr5 hwi5 hk1
 generalize hkl:i.key.length=kl at *
 generalize hvl:i.val.length=vl at *
 have HE:=Hid.mk hkl
 have HE2:=Hid.mk hvl
 clear hkl hvl
 go_enter Tryz.func141,Tryz.ntmps141
 go_wp2
 go_region_held3 (fun w'=>w'.cell? ⟨b,o,none⟩=some (.int .u8 (kl:Int))∧w'.cell? ⟨b,o+1,none⟩=some (.int .u8 (y1:Int))∧w'.cell? ⟨b,o+2,none⟩=some (.int .u8 (y0:Int))) (exact S0) (fail)
 all_goals clear S0
 all_goals go_wp2_with fail
 refine (hIS _).mono ?_
 rintro e w5 ⟨rfl,hw5⟩
 have k5:Kept [] w w5:=by rw [hw5];exact (Kept.refl [] w).drew
 clear hw5
 go_wp2_with fail
 have HCV:Hid (∀W,Kept [] w W→(convert 48 9 (.slice (some ⟨b,o+3,none⟩) kl (cap-3))).run Tryz.prog W=.ok (.string ⟨i.key.toArray⟩) W):=Hid.mk fun W k=>string_of (P:=Tryz.prog) 48 5 Tryz.underlying48 9 Tryz.underlying5 Tryz.underlying9 _ _ _ (HKR.out.kept k (by simp))
 have hmk:=fun W=>makeN vl (by have:=HH.out.2.1;omega) W
 have kd5:Kept [] w w5.drew:=k5.drew
 go_region_held3 (fun w'=>(convert 48 9 (.slice (some ⟨b,o+3,none⟩) kl (cap-3))).run Tryz.prog w'=.ok (.string ⟨i.key.toArray⟩) w') (first|exact HCV.out _ kd5|exact HCV.out _ (kd5.alloc _)|exact HCV.out _ ((kd5.alloc _).alloc _)) (fail)
 all_goals
  have hz5:=k5.size
  have hRow:Row ((w5.alloc (.cells (C8 (zs vl)).toArray 5)).alloc (.cells #[.int .i64 0,.int .u64 0,.string ⟨i.key.toArray⟩,.slice (some ⟨w5.heap.size,0,none⟩) vl vl] 104)).drew w5.heap.size (zs vl):=((Kept.refl [] _).alloc _).keeps (heap_alloc_new w5 _) (by simp)
  have hbP:((w5.alloc (.cells (C8 (zs vl)).toArray 5)).alloc (.cells #[.int .i64 0,.int .u64 0,.string ⟨i.key.toArray⟩,.slice (some ⟨w5.heap.size,0,none⟩) vl vl] 104)).drew.heap[w5.heap.size+1]?=some (.cells #[.int .i64 0,.int .u64 0,.string ⟨i.key.toArray⟩,.slice (some ⟨w5.heap.size,0,none⟩) vl vl] 104 (0,0)):=by
   have:=heap_alloc_new (w5.alloc (.cells (C8 (zs vl)).toArray 5)) (.cells #[.int .i64 0,.int .u64 0,.string ⟨i.key.toArray⟩,.slice (some ⟨w5.heap.size,0,none⟩) vl vl] 104)
   rw [World.size_alloc] at this
   exact this
  have k7:Kept [] w ((w5.alloc (.cells (C8 (zs vl)).toArray 5)).alloc (.cells #[.int .i64 0,.int .u64 0,.string ⟨i.key.toArray⟩,.slice (some ⟨w5.heap.size,0,none⟩) vl vl] 104)).drew:=((k5.alloc _).alloc _).drew
  generalize ((w5.alloc (.cells (C8 (zs vl)).toArray 5)).alloc (.cells #[.int .i64 0,.int .u64 0,.string ⟨i.key.toArray⟩,.slice (some ⟨w5.heap.size,0,none⟩) vl vl] 104)).drew=W7 at *
  have hg5:w.heap.size≤w5.heap.size:=hz5
  generalize w5.heap.size=g at *
  have hzl:=zs_length vl
  have hvm:vl≤maxLen:=by
   have h1:=HH.out.2.1
   have h2:(20000:Nat)≤maxLen:=by decide
   omega
  have hrd0:Reads W7 (.slice (some ⟨g,0,none⟩) vl vl) (zs vl):=hRow.reads 0 vl vl (zs vl) hzl (Nat.le_refl _) hvm (fun j u hu=>by rw [Nat.zero_add];exact hu)
  have hII:IsI W7 (fun _=>True) (fun _=>(0,0)) ⟨g+1,i.key,zs vl⟩:=⟨_,hbP,hrd0,trivial,fun _ _ _=>trivial⟩
  have HIL:=Hid.mk (item_isLong hII (by have:=HH.out.1;have:=HE.out;show i.key.length≤1000;omega) (by show (zs vl).length≤100000;rw [hzl];have:=HH.out.2.1;omega))
  have hlng:lng (⟨g+1,i.key,zs vl⟩:Itm)=lng i:=by
   show decide (236<3+i.key.length+(zs vl).length)=decide (236<3+i.key.length+i.val.length)
   rw [hzl,HE2.out]
  rw [hlng] at HIL
  have HR5':Hid (Reads w (.slice a5 (n-(3+kl)) c5) ((if lng i=true then i.val.take 1++encRef (ρ i.ad) else i.val)++rest)):=by
   have h:=HR5.out.1
   rw [hbody] at h
   exact h
  clear hII hlng hmk HCV k5 kd5 hrd0
  cases hL:lng i with
  | false =>
   rw [hL] at HIL
   rw [hL,if_neg (by simp)] at HR5'
   have hlb:((i.val++rest).length)=n-(3+kl):=by
    obtain ⟨_,_,e,_⟩:=HR5'.out
    injection e with _ e _
    exact e.symm
   have HRf:Hid (refOf ρ i=(0,0)∧half i=i.val):=by
    unfold refOf half
    rw [hL]
    exact ⟨rfl,rfl⟩
   have HRow:=Hid.mk hRow
   have HbP:=Hid.mk hbP
   have HK7:=Hid.mk k7
   clear hL hRow hbP k7 hbody
   go_wp2_with fail
   refine HIL.out.mono ?_
   rintro e w8 ⟨rfl,q8,hw8⟩
   have hRow8:Row w8 g (zs vl):=by rw [hw8];exact HRow.out
   have hb8:w8.heap[g+1]?=some (.cells #[.int .i64 0,.int .u64 0,.string ⟨i.key.toArray⟩,.slice (some ⟨g,0,none⟩) vl vl] 104 (0,0)):=by rw [hw8];exact HbP.out
   have k8:Kept [] w w8:=by rw [hw8];exact HK7.out.drewN q8
   obtain ⟨w9,hrun,hR9,k9⟩:=copy_head w8 g (zs vl) vl a5 (n-(3+kl)) c5 (i.val++rest) hRow8 (HR5'.out.kept k8 (by simp)) hlb (by rw [hzl,←hlb,List.length_append,HE2.out];omega)
   rw [hzl] at hrun hR9
   have htk:(i.val++rest).take vl=i.val:=by rw [←HE2.out];simp
   rw [htk] at hR9
   have hb9:=k9.keeps hb8 (by simp)
   have c3:=(cells4 hb8).2.2.2
   have hlt9:=lt_of_block hb9
   have HOUT:=Hid.mk (HP.out w9 (g+1) ⟨⟨g,by rw [HRf.out.1,HRf.out.2,HE2.out];exact hb9,by rw [HRf.out.2];exact hR9,hg5,by omega,by omega⟩,by omega,hlt9⟩ (k8.trans k9 (fun x hx=>by simp at hx;subst hx;exact .inr hg5)))
   clear hw8 hRow8 hb8 k8 hR9 k9 hb9
   go_wp2_with fail
   exact HOUT.out
  | true =>
   rw [hL] at HIL
   rw [hL,if_pos rfl] at HR5'
   have hg':236<3+kl+vl:=by
    have h:lng i=true:=hL
    have h2:236<3+i.key.length+i.val.length:=by simpa [lng] using h
    rw [HE.out,HE2.out] at h2
    exact h2
   obtain ⟨x,xs,hx⟩:∃x xs,i.val=x::xs:=by
    cases hv:i.val with
    | nil=>have:=HE2.out;rw [hv] at this;simp at this;have:=HH.out.1;omega
    | cons x xs=>exact ⟨x,xs,rfl⟩
   have hxl:vl=xs.length+1:=by rw [←HE2.out,hx];simp
   have hbd:i.val.take 1++encRef (ρ i.ad)++rest=x::(encRef (ρ i.ad)++rest):=by rw [hx];simp
   rw [hbd] at HR5'
   have HRf:Hid (refOf ρ i=ρ i.ad∧half i=x::zs xs.length):=by
    unfold refOf half
    rw [hL,hx]
    exact ⟨rfl,by simp⟩
   have HRow:=Hid.mk hRow
   have HbP:=Hid.mk hbP
   have HK7:=Hid.mk k7
   clear hL hRow hbP k7 hbody hbd
   obtain ⟨m5,hm5⟩:∃m,n-(3+kl)=m+11:=⟨n-(3+kl)-11,by
    obtain ⟨_,_,e,_⟩:=HR5'.out
    injection e with _ e _
    have h2:(x::(encRef (ρ i.ad)++rest)).length=11+rest.length:=by simp [encRef_length];omega
    omega⟩
   have hlen5:(x::(encRef (ρ i.ad)++rest)).length=n-(3+kl):=by
    obtain ⟨_,_,e,_⟩:=HR5'.out
    injection e with _ e _
    exact e.symm
   rcases reads_cases HR5'.out with ⟨aq,capq,he,hem,_⟩|⟨b5,o5,cap5,he,hq1,hq2,hq⟩
   ·simp at hem
   injection he with he1 he2 he3
   subst he1 he3
   obtain ⟨a6,c6,hs6,hr6,hw6⟩:=slice_from (P:=Tryz.prog) 48 5 Tryz.underlying48 (fun W=>by kernel_rfl) .i64 (some ⟨b5,o5,none⟩) c5 1 (x::(encRef (ρ i.ad)++rest)) w (by rw [hlen5];exact HR5'.out) (by simp)
   rw [hlen5,hm5] at hs6 hr6
   have hr6':Reads w (.slice a6 (m5+11-1) c6) (encRef (ρ i.ad)++rest):=hr6
   have hs6':∀W,(Instr.slice 48 (.slice (some ⟨b5,o5,none⟩) (m5+11) c5) (some (.int .i64 1)) none none).run Tryz.prog W=.ok (.slice a6 (m5+11-1) c6) W:=hs6
   rw [hm5]
   have d5:w.cell? ⟨b5,o5,none⟩=some (.int .u8 (x.toNat:Int)):=hq 0 x rfl
   have hb5:b5<w.heap.size:=World.block_lt_of_cell? w _ d5
   have HRI:Hid (∀W,Kept [] w W→Calls Tryz.prog 140 #[.slice a6 (m5+11-1) c6] W fun e w'=>e=.returned (.agg #[.int .i64 ((ρ i.ad).1:Int),.int .u64 ((ρ i.ad).2:Int)])∧Kept [] W w'):=Hid.mk fun W k=>refIn_any (hr6'.kept k (by simp)) HH.out.2.2.1 HH.out.2.2.2
   have hm0:(0:Int)<(m5:Int)+11:=by omega
   have hmN:0<m5+11:=by omega
   have hv0:(0:Int)<(vl:Int):=by omega
   have hvN:0<vl:=by omega
   clear hs6 hr6 hr6' hq hw6 HR5' hlen5 he2
   go_wp2_with fail
   refine HIL.out.mono ?_
   rintro e w8 ⟨rfl,q8,hw8⟩
   have hRow8:Row w8 g (zs vl):=by rw [hw8];exact HRow.out
   have hb8:w8.heap[g+1]?=some (.cells #[.int .i64 0,.int .u64 0,.string ⟨i.key.toArray⟩,.slice (some ⟨g,0,none⟩) vl vl] 104 (0,0)):=by rw [hw8];exact HbP.out
   have k8:Kept [] w w8:=by rw [hw8];exact HK7.out.drewN q8
   have c3:=(cells4 hb8).2.2.2
   have e5:w8.cell? ⟨b5,o5,none⟩=some (.int .u8 (x.toNat:Int)):=by rw [k8.cell hb5 (by simp)];exact d5
   have z0:w8.cell? ⟨g,0,none⟩=some (.int .u8 0):=by
    have:=hRow8.cell 0 0 (by rw [hxl];rfl)
    simpa [B8] using this
   have zf:w8.frozen? ⟨g,0,none⟩=false:=hRow8.free 0
   have S0:w8.drew.cell? ⟨g+1,3,none⟩=some (.slice (some ⟨g,0,none⟩) vl vl)∧w8.drew.cell? ⟨b5,o5,none⟩=some (.int .u8 (x.toNat:Int)):=⟨c3,e5⟩
   have ks9:Kept [g] w8 (w8.setCell ⟨g,0,none⟩ (.int .u8 (x.toNat:Int))).drew:=((Kept.refl [g] w8).setCell (.inl (by simp)) _).drew
   have hb9:=ks9.keeps hb8 (by simp)
   have S1:(w8.setCell ⟨g,0,none⟩ (.int .u8 (x.toNat:Int))).drew.cell? ⟨g+1,3,none⟩=some (.slice (some ⟨g,0,none⟩) vl vl)∧(w8.setCell ⟨g,0,none⟩ (.int .u8 (x.toNat:Int))).drew.cell? ⟨b5,o5,none⟩=some (.int .u8 (x.toNat:Int)):=⟨(cells4 hb9).2.2.2,by rw [ks9.cell (by have:=k8.size;show b5<w8.heap.size;omega) (by simp;omega)];exact e5⟩
   have hR9:Row (w8.setCell ⟨g,0,none⟩ (.int .u8 (x.toNat:Int))).drew g (x::zs xs.length):=by
    have h:=hRow8.set 0 x
    rw [hxl] at h
    exact h
   have HK9:Hid (Kept [] w (w8.setCell ⟨g,0,none⟩ (.int .u8 (x.toNat:Int))).drew):=k8.trans ks9 (fun y hy=>by simp at hy;subst hy;exact .inr hg5)
   have HR9:=Hid.mk hR9
   have HB9:=Hid.mk hb9
   clear hw8 hRow8 hb8 k8 HIL d5 hR9 hb9 ks9
   go_wp2_with fail
   go_region_held3 (fun V=>V.cell? ⟨g+1,3,none⟩=some (.slice (some ⟨g,0,none⟩) vl vl)∧V.cell? ⟨b5,o5,none⟩=some (.int .u8 (x.toNat:Int))) (first|with_reducible exact S0|with_reducible exact S1) (fail)
   all_goals
    clear S0 S1 z0 zf c3 e5
    generalize (w8.setCell ⟨g,0,none⟩ (.int .u8 (x.toNat:Int))).drew=W9 at *
    go_wp2_with fail
    refine (HRI.out W9 HK9.out).mono ?_
    rintro e w10 ⟨rfl,k10⟩
    have hb10:=k10.keeps HB9.out (by simp)
    obtain ⟨p0,p1,p2,p3⟩:=cells4 hb10
    have fp:=fun j=>free4 hb10 j
    have q0:=fp 0
    have q1:=fp 1
    have hR10:=HR9.out.kept k10 (by simp)
    have hset:((w10.setCell ⟨g+1,0,none⟩ (.int .i64 ((ρ i.ad).1:Int))).setCell ⟨g+1,1,none⟩ (.int .u64 ((ρ i.ad).2:Int))).heap[g+1]?=some (.cells #[.int .i64 ((ρ i.ad).1:Int),.int .u64 ((ρ i.ad).2:Int),.string ⟨i.key.toArray⟩,.slice (some ⟨g,0,none⟩) vl vl] 104 (0,0)):=by
     have h1:(w10.setCell ⟨g+1,0,none⟩ (.int .i64 ((ρ i.ad).1:Int))).heap[g+1]?=some (.cells #[.int .i64 ((ρ i.ad).1:Int),.int .u64 0,.string ⟨i.key.toArray⟩,.slice (some ⟨g,0,none⟩) vl vl] 104 (0,0)):=by
      rw [setCell_eq_setRow w10 (g+1) 0 _ 104 (0,0) _ hb10,setRow_heap w10 (g+1) _ _ 104 _ hb10]
      rfl
     rw [setCell_eq_setRow _ (g+1) 1 _ 104 (0,0) _ h1,setRow_heap _ (g+1) _ _ 104 _ h1]
     rfl
    have ks:Kept [g+1] w10 ((w10.setCell ⟨g+1,0,none⟩ (.int .i64 ((ρ i.ad).1:Int))).setCell ⟨g+1,1,none⟩ (.int .u64 ((ρ i.ad).2:Int))):=((Kept.refl [g+1] w10).setCell (.inl (by simp)) _).setCell (.inl (by simp)) _
    have hR11:=hR10.kept ks (by simp)
    have hlt:=lt_of_block hset
    have HOUT:=Hid.mk (HP.out _ (g+1) ⟨⟨g,by rw [HRf.out.1,HRf.out.2];simp only [List.length_cons,zs_length];rw [←hxl];exact hset,by rw [HRf.out.2];exact hR11,hg5,by omega,by omega⟩,by omega,hlt⟩ ((HK9.out.trans k10 (by simp)).trans ks (fun y hy=>by simp at hy;subst hy;exact .inr (by omega))))
    clear hset ks hR11 hR10 hb10 k10
    go_wp2_with fail
    exact HOUT.out
end
structure Leaf (w0 w:World) (ρ:Rho) (a nm sm:Nat) (is:List Itm) (sp:List (Nat × Nat × Nat)) (vi:Value):Prop where
 node:w.heap[a]?=some (.cells #[.int .i64 (nm:Int),.int .u64 (sm:Int),.int .i64 0,vi,.slice none 0 0] 114 (0,0))
 own:OwnsP 100 w vi (sp.map (·.1))
 len:sp.length=is.length
 item:∀(j:Nat) (s:Nat × Nat × Nat) (i:Itm),sp[j]?=some s→is[j]?=some i→ItB w s.2.1 s.2.2 s.1 (refOf ρ i) i.key (half i)
 rise:sp.Pairwise fun s t=>s.2.2≤t.2.1
 new:∀s∈sp,w0.heap.size≤s.2.1∧s.2.2≤w.heap.size
 apart:∀g,vi.ownBlock=some g→w0.heap.size≤g∧∀s∈sp,¬(s.2.1≤g∧g<s.2.2)
 kept:Kept [a] w0 w
theorem Leaf.start {w:World}{ρ:Rho}{a nm sm:Nat} (h:w.heap[a]?=some (.cells #[.int .i64 (nm:Int),.int .u64 (sm:Int),.int .i64 0,.slice none 0 0,.slice none 0 0] 114 (0,0))):Leaf w w ρ a nm sm [] [] (.slice none 0 0) :=
 ⟨h,OwnsP.nil 100 w,rfl,by simp,by simp,by simp,fun g hg=>by simp [Value.ownBlock] at hg,Kept.refl _ _⟩
theorem Leaf.next {w0 w w1:World}{ρ:Rho}{a nm sm:Nat}{is:List Itm}{sp:List (Nat × Nat × Nat)}{vi:Value} (h:Leaf w0 w ρ a nm sm is sp vi) (ha:a<w0.heap.size) (i:Itm) (p:Nat) (k1:Kept [] w w1) (hi:ItB w1 w.heap.size w1.heap.size p (refOf ρ i) i.key (half i)) (hl:sp.length≤1000) :
  ∃ad c w4,(Builtin.append_ #[111,111] 111 #[vi,.slice (some ⟨w1.heap.size,0,none⟩) 1 1]).run Tryz.prog (w1.alloc (.cells #[Pp p] 100))=.ok (.slice ad (sp.length+1) c) w4∧w4.cell? ⟨a,3,none⟩=some vi∧w4.frozen? ⟨a,3,none⟩=false ∧
   Leaf w0 (w4.setCell ⟨a,3,none⟩ (.slice ad (sp.length+1) c)) ρ a nm sm (is++[i]) (sp++[(p,w.heap.size,w1.heap.size)]) (.slice ad (sp.length+1) c)∧ItB (w4.setCell ⟨a,3,none⟩ (.slice ad (sp.length+1) c)) w.heap.size w1.heap.size p (refOf ρ i) i.key (half i):=by
 obtain ⟨ad,c,w4,hrun,ho4,k4,hN4⟩:=append_ptr rt111 (h.own.kept k1 (by simp)) p (by rw [List.length_map];omega) 100 (0,0) 111
 rw [List.length_map] at hrun ho4 hN4
 have hsz1:=k1.size
 have hsz0:=h.kept.size
 have hvb:∀g∈vi.ownBlock.toList,w0.heap.size≤g∧(∀s∈sp,¬(s.2.1≤g∧g<s.2.2))∧g<w.heap.size:=fun g hg=>⟨(h.apart g (by simpa using hg)).1,(h.apart g (by simpa using hg)).2,h.own.lt (by simpa using hg)⟩
 have hn4:w4.heap[a]?=some (.cells #[.int .i64 (nm:Int),.int .u64 (sm:Int),.int .i64 0,vi,.slice none 0 0] 114 (0,0)):=k4.keeps (k1.keeps h.node (by simp)) (fun hm=>by have:=(hvb _ hm).1;omega)
 have kset:Kept [a] w4 (w4.setCell ⟨a,3,none⟩ (.slice ad (sp.length+1) c)):=(Kept.refl [a] w4).setCell (.inl (by simp)) _
 have hs4:=k4.size
 have kall:Kept (a::vi.ownBlock.toList) w1 (w4.setCell ⟨a,3,none⟩ (.slice ad (sp.length+1) c)):=(k4.mono (fun x hx=>.inl (by simp at hx ⊢;exact .inr hx))).trans kset (fun x hx=>.inl (by simp at hx;subst hx;simp))
 have hnew:ItB (w4.setCell ⟨a,3,none⟩ (.slice ad (sp.length+1) c)) w.heap.size w1.heap.size p (refOf ρ i) i.key (half i):=hi.kept kall (fun x hx hb=>by
  simp only [List.mem_cons] at hx
  rcases hx with rfl|hx
  ·omega
  ·have:=(hvb x hx).2.2;omega)
 have hk4:Kept [a] w0 w4:=h.kept.trans ((k1.mono (by simp)).trans k4 (fun y hy=>.inl hy):Kept vi.ownBlock.toList w w4) (fun y hy=>.inr (hvb y hy).1)
 refine ⟨ad,c,w4,hrun,by simp [World.cell?,hn4],by simp [World.frozen?,hn4],⟨?_,?_,by simp [h.len],fun j s i' hs hi'=>?_,?_,fun s hs=>?_,fun g hg=>?_,hk4.trans kset (by simp)⟩,hnew⟩
 ·rw [setCell_eq_setRow w4 a 3 _ 114 (0,0) _ hn4,setRow_heap w4 a _ _ 114 _ hn4]
  rfl
 ·rw [List.map_append]
  refine ho4.kept kset (fun g hg=>?_)
  rcases hN4 g hg with h5|h5
  ·have:=(hvb g (by simpa using h5)).1;simp;omega
  ·simp;omega
 ·by_cases hj:j<sp.length
  ·rw [List.getElem?_append_left hj] at hs
   rw [List.getElem?_append_left (by rw [←h.len];exact hj)] at hi'
   have hb:=h.new s (List.mem_of_getElem? hs)
   refine ((h.item j s i' hs hi').kept k1 (by simp)).kept kall (fun x hx hbb=>?_)
   simp only [List.mem_cons] at hx
   rcases hx with rfl|hx
   ·omega
   ·exact (hvb x hx).2.1 s (List.mem_of_getElem? hs) hbb
  ·have hj':j=sp.length:=by
    have:=(List.getElem?_eq_some_iff.1 hs).1
    simp at this
    omega
   subst hj'
   rw [List.getElem?_append_right (Nat.le_refl _)] at hs
   rw [h.len,List.getElem?_append_right (Nat.le_refl _)] at hi'
   simp at hs hi'
   subst hs hi'
   exact hnew
 ·rw [List.pairwise_append]
  refine ⟨h.rise,by simp,fun s hs t ht=>?_⟩
  simp at ht
  subst ht
  exact (h.new s hs).2
 ·have hs5:=kset.size
  rcases List.mem_append.1 hs with hs|hs
  ·have:=h.new s hs;omega
  ·simp at hs;subst hs;dsimp only;omega
 ·rcases hN4 g hg with h5|h5
  ·have h6:=hvb g (by simpa using h5)
   refine ⟨h6.1,fun s hs=>?_⟩
   rcases List.mem_append.1 hs with hs|hs
   ·exact h6.2.1 s hs
   ·simp at hs;subst hs;dsimp only;omega
  ·refine ⟨by omega,fun s hs=>?_⟩
   rcases List.mem_append.1 hs with hs|hs
   ·have:=(h.new s hs).2;omega
   ·simp at hs;subst hs;dsimp only;omega
end Go.Proofs.YtgpbhlfdlkemjaaGreat
