import Derived.BigQuiet
import Derived.Lib.MinMax
import Derived.Deep.Slices
import Derived.ChangeArms
import Derived.OpenShut
import Derived.SizedLaws
import Derived.Test.YtgpbhlfdlkemjaaGreatH53
/-
 The document's Apply, Wrong.
-/
namespace Go.Proofs.YtgpbhlfdlkemjaaGreat
open Go.RowKit
set_option linter.unusedVariables false
section
variable {w:World}
set_option maxRecDepth 100000 in
set_option maxHeartbeats 1000000 in
theorem tabApply_any {db:Nat}{v:Value}{T:List KV} (h:IsTab w db v T) (hu:UpK T) {a:Option Addr}{N c:Nat}{rs:List Cq} (hN:Hid (N=rs.length)) (HRW:Hid (∀W,Kept [db] w W→RowQ W (.slice a N c) rs)) (hvs:Hid (∀W,Kept [db] w W→ValsQ W rs)) (hl:Hid (T.length+rs.length≤100000)) (hN2:N≤100000):Calls Tryz.prog 17 #[Pp db,.slice a N c] w fun e w'=>e=.returned (.tuple #[])∧∃v',IsTab w' db v' (tapp T (rs.map Cq.c))∧Kept [db] w w'∧((N=0∧v'=v)∨Fresh w v'):=by
 have HST:Hid (∃v',IsTab w db v' (tapp T ((rs.take 0).map Cq.c))∧Kept [db] w w∧((0=0∧v'=v)∨Fresh w v')):=Hid.mk ⟨v,h,Kept.refl _ _,.inl ⟨rfl,rfl⟩⟩
 have HU:=Hid.mk hu
 clear h hu
 go_enter Tryz.func17,Tryz.ntmps17
 go_wp2_with fail
 go_loopw [7] (fun i wr=>∃j:Nat,i=.int .i64 (j:Int)∧j≤N∧Hid (∃v',IsTab wr db v' (tapp T ((rs.take j).map Cq.c))∧Kept [db] w wr∧((j=0∧v'=v)∨Fresh w v'))) (fun i _=>N-(intOf i).toNat)
 case atStart=>exact ⟨0,rfl,by omega,Hid.mk (by obtain ⟨v',g1,g2,g3⟩:=HST.out;exact ⟨v',g1,g2,g3.imp (fun h=>⟨rfl,h.2⟩) id⟩)⟩
 case round =>
  obtain ⟨j,rfl,hj,hA⟩:=hrel
  by_cases hlt:j<N
  ·obtain ⟨x,hx⟩:∃x,rs[j]?=some x:=⟨_,List.getElem?_eq_getElem (by have:=hN.out;omega)⟩
   obtain ⟨vj,hT,kk,hNw⟩:=hA.out
   have hm:=List.mem_of_getElem? hx
   obtain ⟨b,o,rfl,c0,c1,c2⟩:=(HRW.out wr kk).at hx
   have hval:Reads wr (.slice x.ad x.c.val.length x.cap) x.c.val:=hvs.out wr kk x hm
   have hcall:=tset_any hT (up_tapp _ HU.out) (by
    have h1:=tapp_len ((rs.take j).map Cq.c) T
    have h2:=hl.out
    rw [List.length_map,List.length_take] at h1
    omega) x (Hid.mk hval)
   have HNX:Hid (∀w2,(∃v',IsTab w2 db v' (tset (tapp T ((rs.take j).map Cq.c)) x.c)∧Kept [db] wr w2∧Fresh wr v')→∃v',IsTab w2 db v' (tapp T ((rs.take (j+1)).map Cq.c))∧Kept [db] w w2∧((j+1=0∧v'=v)∨Fresh w v')):=Hid.mk fun w2 ⟨v',g1,g2,g3⟩=>⟨v',by
    rw [tsnoc hx,List.map_append,tapp_append]
    exact g1,kk.trans g2 (fun b hb=>.inl hb),.inr fun g hg=>Nat.le_trans kk.size (g3 g hg)⟩
   clear hx hm hT hval hNw hA kk
   generalize x.ad=va at *
   generalize x.cap=vc at *
   generalize x.c=xc at *
   generalize xc.val.length=vl at *
   generalize xc.key=key at *
   generalize xc.gone=gn at *
   go_wp2_with fail
   refine hcall.mono ?_
   rintro e w2 ⟨rfl,hq⟩
   have HR:=Hid.mk (HNX.out w2 hq)
   clear hcall hq HNX c0 c1 c2
   go_wp2
   go_roundw
   case rel=>exact ⟨j+1,by go_num,by omega,HR⟩
   case measure=>simp [intOf];omega
  ·obtain rfl:j=N:=by omega
   have HF:Hid (∃v',IsTab wr db v' (tapp T (rs.map Cq.c))∧Kept [db] w wr∧((j=0∧v'=v)∨Fresh w v')):=Hid.mk (by have h:=hA.out;rwa [List.take_of_length_le (by have:=hN.out;omega)] at h)
   clear hA
   go_wp2
   go_end0
   exact ⟨rfl,HF.out⟩
end
theorem keysIn_all (T:List KV):keysIn [] [] T=T.map Prod.fst:=by
 unfold keysIn
 rw [List.filter_eq_self.2]
 intro x _
 simp
theorem csAt {w:World}{a:Option Addr}{n c:Nat}{l:List (List UInt8)} (h:ReadsR 1 w (.slice a n c) (CS l)) {j:Nat}{x:List UInt8} (hx:l[j]?=some x):∃b o,a=some ⟨b,o,none⟩∧w.cell? ⟨b,o+j,none⟩=some (Sv x):=by
 obtain ⟨b,o,c',e,hc⟩:=ReadsR.at h j [Sv x] (by simp [CS,hx])
 injection e with e _ _
 have h0:=hc 0 _ rfl
 rw [Nat.mul_one,Nat.add_zero] at h0
 exact ⟨b,o,e,h0⟩
section
variable {w0 w:World}{tb p q:Nat}{V:Nat→Prop}{ρ:Rho}{t:AT}{old:List Nat}{s:St}{fr ct:Nat}{L:List Ent}{fl:List Nat}
set_option maxRecDepth 100000 in
set_option maxHeartbeats 4000000 in
theorem same_any (h:Tre w0 w tb p q V ρ t old s fr ct L fl) {db:Nat}{v:Value}{T:List KV} (hT:(itsT t).map kv=T) (hD:IsTab w db v T) (hl:T.length≤100000) (hv:∀x∈T,x.2.length≤20000):Calls Tryz.prog 19 #[Pp tb,Pp db] w fun e w'=>e=.returned (.bool true)∧Kept [] w w':=by
 have hll:(itsT t).length≤100000:=by rw [←List.length_map (f:=kv),hT];exact hl
 have hup:UpK T:=by rw [←hT];exact h.up
 have hk1:=tre_keys h hll [] []
 rw [hT,keysIn_all] at hk1
 have HK2:Hid (∀W,Kept [] w W→Calls Tryz.prog 21 #[Pp db,Sv [],Sv []] W fun e w'=>∃v',e=.returned v'∧OwnsR 9 1 w' v' (CS (T.map Prod.fst))∧Kept [] W w'∧Fresh W v'):=Hid.mk fun W kW=>by
  have:=tabKeys_any (hD.kept kW (by simp) (by simp)) hl [] []
  rwa [keysIn_all] at this
 have HG1:Hid (∀W x,Kept [] w W→x∈T→Calls Tryz.prog 22 #[Pp tb,Sv x.1] W fun e w'=>∃a n c,e=.returned (.tuple #[.slice a n c,.bool true])∧Reads w' (.slice a n c) x.2∧Kept [] W w'):=Hid.mk fun W x kW hx=>by
  refine (tre_get (h.kept kW) x.1).mono ?_
  rintro e w' ⟨v',val,b,rfl,hr,hg,k'⟩
  rw [hT] at hg
  obtain ⟨rfl,rfl⟩:=hg.one hup (.inl ⟨rfl,by cases x;exact hx⟩:Got T x.1 x.2 true)
  obtain ⟨a',c',rfl,_⟩:=id hr
  exact ⟨a',_,c',rfl,hr,k'⟩
 have HG2:Hid (∀W x,Kept [] w W→x∈T→Calls Tryz.prog 23 #[Pp db,Sv x.1] W fun e w'=>∃a n c b,e=.returned (.tuple #[.slice a n c,.bool b])∧Reads w' (.slice a n c) x.2∧Kept [] W w'):=Hid.mk fun W x kW hx=>by
  refine (tabGet_any (hD.kept kW (by simp) (by simp)) hup hl hv x.1).mono ?_
  rintro e w' ⟨v',val,b,rfl,hr,hg,k'⟩
  obtain ⟨rfl,rfl⟩:=hg.one hup (.inl ⟨rfl,by cases x;exact hx⟩:Got T x.1 x.2 true)
  obtain ⟨a',c',rfl,_⟩:=id hr
  exact ⟨a',_,c',true,rfl,hr,k'⟩
 have hlm:(T.map Prod.fst).length=T.length:=by simp
 obtain ⟨N,hN⟩:∃N,Hid (T.length=N):=⟨_,rfl⟩
 rw [hN.out] at hl
 clear hD hup h hT hv hll
 go_enter Tryz.func19,Tryz.ntmps19
 go_wp2_with fail
 refine hk1.mono ?_
 rintro e w1 ⟨v1,rfl,ho1,k1,hf1⟩
 have hk2:=HK2.out w1 k1
 obtain ⟨a1,c1,rfl,g1,g2⟩:=ho1.form
 rw [CS_length,hlm,hN.out] at ho1 g1 ⊢
 have HO1:=Hid.mk ho1
 clear hk1 HK2 ho1
 go_wp2_with fail
 refine hk2.mono ?_
 rintro e w2 ⟨v2,rfl,ho2,k2,hf2⟩
 obtain ⟨a2,c2,rfl,g3,g4⟩:=ho2.form
 rw [CS_length,hlm,hN.out] at ho2 g3 ⊢
 have kw2:=k1.trans k2 (by simp)
 have HR1:Hid (∀W,Kept [] w2 W→ReadsR 1 W (.slice a1 N c1) (CS (T.map Prod.fst))):=Hid.mk fun W kW=>((HO1.out.kept k2 (by simp)).kept kW (by simp)).reads (CS_wide _)
 have HR2:Hid (∀W,Kept [] w2 W→ReadsR 1 W (.slice a2 N c2) (CS (T.map Prod.fst))):=Hid.mk fun W kW=>(ho2.kept kW (by simp)).reads (CS_wide _)
 have HKW:=Hid.mk kw2
 clear hk2 HO1 ho2 k2 kw2 k1 hf1 hf2 hlm
 go_wp2_with fail
 go_loopw [23] (fun i wr=>∃j:Nat,i=.int .i64 (j:Int)∧j≤N∧Kept [] w2 wr) (fun i _=>N-(intOf i).toNat)
 case atStart=>exact ⟨0,rfl,by omega,Kept.refl [] w2⟩
 case round =>
  obtain ⟨j,rfl,hj,kk⟩:=hrel
  by_cases hlt:j<N
  ·obtain ⟨x,hx⟩:∃x,T[j]?=some x:=⟨_,List.getElem?_eq_getElem (by have:=hN.out;omega)⟩
   have hxm:(T.map Prod.fst)[j]?=some x.1:=by rw [List.getElem?_map,hx];rfl
   obtain ⟨b1,o1,rfl,d1⟩:=csAt (HR1.out wr kk) hxm
   have hget1:=HG1.out wr x (HKW.out.trans kk (by simp)) (List.mem_of_getElem? hx)
   have HX:=Hid.mk (And.intro hxm (List.mem_of_getElem? hx))
   clear hx hxm
   go_wp2_with fail
   refine hget1.mono ?_
   rintro e w3 ⟨a3,n3,c3,rfl,hr3,k3⟩
   have kk3:=kk.trans k3 (by simp)
   obtain ⟨b2,o2,rfl,d2⟩:=csAt (HR2.out w3 kk3) HX.out.1
   have hget2:=HG2.out w3 x (HKW.out.trans kk3 (by simp)) HX.out.2
   clear hget1 d1
   go_wp2_with fail
   refine hget2.mono ?_
   rintro e w4 ⟨a4,n4,c4,b4,rfl,hr4,k4⟩
   have kk4:=kk3.trans k4 (by simp)
   obtain ⟨b1',o1',e1,d1⟩:=csAt (HR1.out w4 kk4) HX.out.1
   injection e1 with e1
   injection e1 with e1 e1' _
   subst e1 e1'
   obtain ⟨b2',o2',e2,d2'⟩:=csAt (HR2.out w4 kk4) HX.out.1
   injection e2 with e2
   injection e2 with e2 e2' _
   subst e2 e2'
   have s3:=fun n=>string_of (P:=Tryz.prog) 48 5 Tryz.underlying48 9 Tryz.underlying5 Tryz.underlying9 _ _ _ ((hr3.kept k4 (by simp)).kept ((Kept.refl [] w4).drewN n) (by simp))
   have s4:=fun n=>string_of (P:=Tryz.prog) 48 5 Tryz.underlying48 9 Tryz.underlying5 Tryz.underlying9 _ _ _ (hr4.kept ((Kept.refl [] w4).drewN n) (by simp))
   have HK4:=Hid.mk kk4
   clear hget2 d2 hr3 hr4 k3 k4 kk kk3 kk4
   have hjN:j<N:=hlt
   have hjI:(j:Int)<(N:Int):=by omega
   generalize (⟨x.2.toArray⟩:ByteArray)=sv at *
   generalize x.1=xk at *
   go_wp2_with fail
   go_quiet (fail)
   go_wp2
   go_roundw
   case rel=>exact ⟨j+1,by go_num,by omega,HK4.out.drewN _⟩
   case measure=>simp [intOf];omega
  ·obtain rfl:j=N:=by omega
   have HF:=Hid.mk (HKW.out.trans kk (by simp))
   go_wp2
   go_ret
   exact ⟨rfl,HF.out⟩
end
theorem Tre.k {w0 w:World}{tb p q:Nat}{V:Nat→Prop}{ρ:Rho}{t:AT}{old:List Nat}{s:St}{fr ct:Nat}{L:List Ent}{fl:List Nat} (h:Tre w0 w tb p q V ρ t old s fr ct L fl):Kept [] w0 w:=by
 obtain ⟨T,vo,h⟩:=h
 exact h.sy.k
def cstK (x:KV):Nat:=if 236<3+x.1.length+x.2.length then (x.2.length+237) / 238 else 0
theorem cst_kv (l:List Itm):(l.map cst).sum=((l.map kv).map cstK).sum:=by
 rw [List.map_map]
 congr 1
 refine List.map_congr_left fun i _=>?_
 unfold cst lng
 show _=cstK (kv i)
 unfold cstK kv
 by_cases h:236<3+i.key.length+i.val.length
 ·simp [h]
 ·simp [h]
section
variable {w:World}
set_option maxRecDepth 100000 in
set_option maxHeartbeats 2000000 in
theorem conv_lit (w:World) (C:Array Value):(convert 48 48 (.slice (some ⟨w.heap.size,0,none⟩) 1 1)).run Tryz.prog (w.alloc (.cells C 5))=.ok (.slice (some ⟨w.heap.size,0,none⟩) 1 1) (w.alloc (.cells C 5 (C.size,C.size+1))):=by
 have hsh:(w.alloc (.cells C 5)).shape? w.heap.size=some (5,C.size):=by
  have:(w.alloc (.cells C 5)).heap[w.heap.size]?=some (.cells C 5):=heap_alloc_new w _
  unfold World.shape?
  rw [this]
 have hfr:∀n:Nat,(w.alloc (.cells C 5)).freeze ⟨w.heap.size,n,none⟩ 1=w.alloc (.cells C 5 (n,n+1)):=fun n=>by
  have hm:∀(a:Array Obj) (x:Obj) (f:Obj→Obj),(a.push x).modify a.size f=a.push (f x):=by
   intro a x f
   apply Array.ext
   ·simp
   ·intro i h1 h2
    simp only [Array.getElem_modify,Array.getElem_push]
    by_cases h:a.size=i
    ·subst h
     simp
    ·have hi:i<a.size:=by simp at h1;omega
     simp [h,hi]
  unfold World.freeze
  rw [if_neg (by decide)]
  show ({ w.alloc (.cells C 5) with heap:=(w.heap.push (.cells C 5)).modify w.heap.size _ }:World)=_
  rw [hm]
  rfl
 simp [convert,run_underlying Tryz.underlying48,run_underlying Tryz.underlying5,markStringish,hsh]
 exact hfr _
set_option maxRecDepth 100000 in
set_option maxHeartbeats 2000000 in
theorem awake_walk {R:World→Prop} (HC:Calls Tryz.prog 12 #[.int .i64 51] w fun e w1=>∃q,e=.returned (Pp q)∧Calls Tryz.prog 11 #[Pp q,.int .i64 1,.int .i64 50,.slice none 0 0] w1 fun e w2=>∃p,e=.returned (.tuple #[Pp p,.int .i64 0])∧Calls Tryz.prog 13 #[Pp p,.int .i64 0] w2 fun e w3=>∃tb,e=.returned (.tuple #[Pp tb,.int .i64 0]) ∧
   Calls Tryz.prog 14 #[Pp tb,.slice (some ⟨w3.heap.size+1,0,none⟩) 1 1] ((w3.alloc (.cells #[.int .u8 49] 5 (1,1+1))).alloc (.cells #[Sv [97],.slice (some ⟨w3.heap.size,0,none⟩) 1 1,.bool false] 61)) fun e w4=>e=.returned (.int .i64 0)∧Calls Tryz.prog 22 #[Pp tb,Sv [97]] w4 fun e w5=>∃a n c,e=.returned (.tuple #[.slice a n c,.bool true])∧(convert 48 9 (.slice a n c)).run Tryz.prog w5=.ok (Sv [49]) w5∧Calls Tryz.prog 25 #[Pp tb] w5 fun e w6=>∃r:Nat,e=.returned (.int .i64 (r:Int))∧r≠0∧R w6) :
  Calls Tryz.prog 9 #[] w fun e w'=>e=.returned (.bool true)∧R w':=by
 have hcv48:=fun w=>conv_lit w #[.int .u8 49]
 simp only [List.size_toArray,List.length_cons,List.length_nil,Nat.zero_add] at hcv48
 go_enter Tryz.func9,Tryz.ntmps9
 go_wp2_with fail
 refine HC.mono ?_
 rintro e w1 ⟨q,rfl,HC⟩
 go_wp2_with fail
 refine HC.mono ?_
 rintro e w2 ⟨p,rfl,HC⟩
 go_wp2_with fail
 refine HC.mono ?_
 rintro e w3 ⟨tb,rfl,HC⟩
 go_wp2_with fail
 refine HC.mono ?_
 rintro e w4 ⟨rfl,HC⟩
 go_wp2_with fail
 refine HC.mono ?_
 rintro e w5 ⟨a,n,c,rfl,hcv,HC⟩
 go_wp2_with fail
 refine HC.mono ?_
 rintro e w6 ⟨r,rfl,hr,hR⟩
 have HR:=Hid.mk hR
 clear hR HC
 have hr1:((r:Int) != 0)=true:=by simpa using hr
 go_wp2
 go_ret
 exact ⟨rfl,HR.out⟩
end
theorem wrong_a:WrongIs [⟨[97],[49],false⟩] 0:=by
 refine .inr (.inr ⟨?_,?_,rfl⟩)
 ·rintro (⟨c,hc,hk⟩|hn)
  ·simp at hc;subst hc;simp at hk
  ·exact hn (by simp)
 ·rintro ⟨c,hc,hk⟩
  simp at hc;subst hc;simp at hk
theorem awake_any (w:World):Calls Tryz.prog 9 #[] w fun e w'=>e=.returned (.bool true)∧Kept [] w w':=by
 refine awake_walk ((psy_new (w0:=w) (Kept.refl [] w) 51 1 50 (by omega) (by omega) (by omega)).mono ?_)
 rintro e w1 ⟨q,rfl,k1,h11⟩
 refine ⟨q,rfl,(h11 w1 (Kept.refl [] w1)).mono ?_⟩
 rintro e w2 ⟨p,fl,rfl,hfl,hsy,k2⟩
 refine ⟨p,rfl,(open_new hsy (by omega) (fun b hb=>hb.elim) (fun b hb=>hb.elim)).mono ?_⟩
 rintro e w3 ⟨tb,rfl,htb,hT,k3⟩
 refine ⟨tb,rfl,?_⟩
 obtain ⟨W3,hW3⟩:∃W3,(w3.alloc (.cells #[.int .u8 49] 5 (1,1+1))).alloc (.cells #[Sv [97],.slice (some ⟨w3.heap.size,0,none⟩) 1 1,.bool false] 61)=W3:=⟨_,rfl⟩
 have kW:Kept [] w3 W3:=by rw [←hW3];exact ((Kept.refl [] w3).alloc _).alloc _
 have hb0:W3.heap[w3.heap.size]?=some (.cells #[.int .u8 49] 5 (1,1+1)):=by
  rw [←hW3]
  exact (kept_alloc _ _).keeps (heap_alloc_new w3 _) (by simp)
 have hb1:W3.heap[w3.heap.size+1]?=some (.cells #[Sv [97],.slice (some ⟨w3.heap.size,0,none⟩) 1 1,.bool false] 61 (0,0)):=by
  rw [←hW3]
  have:=heap_alloc_new (w3.alloc (.cells #[.int .u8 49] 5 (1,1+1))) (.cells #[Sv [97],.slice (some ⟨w3.heap.size,0,none⟩) 1 1,.bool false] 61)
  simpa using this
 rw [hW3]
 have hrow:RowQ W3 (.slice (some ⟨w3.heap.size+1,0,none⟩) 1 1) [⟨⟨[97],[49],false⟩,some ⟨w3.heap.size,0,none⟩,1⟩]:=by
  refine ⟨_,1,rfl,by simp [CQ],by unfold maxLen;omega,by simp,fun _=>⟨w3.heap.size+1,0,rfl,fun j r hj i x hx=>?_⟩⟩
  cases j with
  | zero =>
   simp [CQ,encQ] at hj
   subst hj
   unfold World.cell?
   rw [hb1]
   simpa [Cq.sl] using hx
  | succ j=>simp [CQ] at hj
 have hval:ValsQ W3 [⟨⟨[97],[49],false⟩,some ⟨w3.heap.size,0,none⟩,1⟩]:=fun x hx=>by
  simp at hx
  subst hx
  refine ⟨_,1,rfl,by simp,by unfold maxLen;omega,by simp,fun _=>⟨w3.heap.size,0,rfl,fun j u hu=>?_⟩⟩
  cases j with
  | zero =>
   simp at hu
   subst hu
   simp [World.cell?,hb0,B8]
  | succ j=>simp at hu
 have hT3:=hT.kept kW
 refine (apply_any hT3 hrow hval (by simp [itsT]) (fun _ is his=>?_) (by simp) (by simp) rfl).mono ?_
 ·rw [cst_kv,his]
  simp [itsT,tapp,tset,cstK]
 ·rintro e w4 ⟨er,rfl,hap⟩
  have htab:tapp ((itsT none).map kv) (List.map Cq.c [⟨⟨[97],[49],false⟩,some ⟨w3.heap.size,0,none⟩,1⟩])=[([97],[49])]:=by simp [itsT,tapp,tset]
  rcases hap with ⟨h0,h1,_⟩|⟨_,⟨rfl,ρ4,t4,old4,s4,L4,fl4,hT4,_,hkv,_⟩|⟨rfl,⟨w9,F9,ρ9,t9,g1,g2,g3⟩,_⟩|⟨rfl,g1,_⟩⟩
  ·exact absurd (h1.one wrong_a) h0
  ·rw [htab] at hkv
   refine ⟨rfl,(tre_get hT4 [97]).mono ?_⟩
   rintro e w5 ⟨v5,val,b,rfl,hr5,hg5,k5⟩
   rw [hkv] at hg5
   have hgot:Got [([97],[49])] [97] [49] true:=.inl ⟨rfl,by simp⟩
   obtain ⟨rfl,rfl⟩:=hg5.one (by simp [UpK]) hgot
   have hcv:=string_of (P:=Tryz.prog) 48 5 Tryz.underlying48 9 Tryz.underlying5 Tryz.underlying9 _ _ _ hr5
   obtain ⟨a5,c5,rfl,_⟩:=id hr5
   have hT5:=hT4.kept k5
   refine ⟨a5,_,c5,rfl,hcv,(tre_root hT5).mono ?_⟩
   rintro e w6 ⟨rfl,rfl⟩
   refine ⟨_,rfl,hT5.rootPos (fun e=>?_),hT5.k⟩
   subst e
   simp [itsT] at hkv
  ·rw [htab] at g2
   have h1:(itsT t9).length≤1:=by rw [←List.length_map (f:=kv),g2];simp
   have h2:((itsT t9).map cst).sum=0:=by rw [cst_kv,g2];simp [cstK]
   have:=blT_one g1 h1 h2
   omega
  ·simp at g1
structure Lq where
 rs:List Cq
 ad:Option Addr
 cap:Nat
abbrev Lq.sl (l:Lq):Value:=.slice l.ad l.rs.length l.cap
def CL (ls:List Lq):List (List Value):=ls.map fun l=>[l.sl]
structure RowL (w:World) (v:Value) (ls:List Lq):Prop where
 row:ReadsR 1 w v (CL ls)
 each:∀l∈ls,RowQ w l.sl l.rs
theorem RowL.kept {S:List Nat}{w w':World}{v:Value}{ls:List Lq} (h:RowL w v ls) (k:Kept S w w') (hv:∀g,v.ownBlock=some g→g∉S) (hl:∀l∈ls,∀g,l.sl.ownBlock=some g→g∉S):RowL w' v ls:=⟨h.row.kept k hv,fun l hm=>(h.each l hm).kept k (hl l hm)⟩
theorem RowL.at {w:World}{a:Option Addr}{n c:Nat}{ls:List Lq} (h:RowL w (.slice a n c) ls) {j:Nat}{l:Lq} (hl:ls[j]?=some l):∃b o,a=some ⟨b,o,none⟩∧w.cell? ⟨b,o+j,none⟩=some l.sl:=by
 obtain ⟨b,o,c',e,hc⟩:=ReadsR.at h.row j [l.sl] (by simp [CL,hl])
 injection e with e _ _
 have h0:=hc 0 _ rfl
 rw [Nat.mul_one,Nat.add_zero] at h0
 exact ⟨b,o,e,h0⟩
def wgt (x:Cq):Nat:=30+min x.c.val.length 30000+min x.c.key.length 1000
theorem wgt_le (x:Cq):wgt x≤31030:=by unfold wgt;omega
def wgL (l:Lq):Nat:=(l.rs.map wgt).sum
def FewOk (ls:List Lq):Prop:=ls.length≤40∧(ls.map fun l=>l.rs.length).sum≤500∧(ls.map wgL).sum≤60000
def FewPost (ls:List Lq) (w:World) (e:Ending) (w':World):Prop:=∃b:Bool,e=.returned (.bool b)∧Kept [] w w'∧(b=true→FewOk ls)
theorem sum_wgt:∀l:List Cq,(l.map wgt).sum≤31030*l.length
 | []=>by simp
 | x::l=>by
  have h1:=sum_wgt l
  have h2:=wgt_le x
  simp only [List.map_cons,List.sum_cons,List.length_cons]
  omega
section
variable {w:World}
set_option maxRecDepth 100000 in
set_option maxHeartbeats 4000000 in
theorem few_any {a:Option Addr}{N c:Nat}{ls:List Lq} (hN:Hid (N=ls.length)) (hN2:N≤140737488355328) (hr:RowL w (.slice a N c) ls) (hb:Hid (∀l∈ls,l.rs.length≤4398046511104∧∀x∈l.rs,x.c.val.length≤140737488355328∧x.c.key.length≤140737488355328)):Calls Tryz.prog 10 #[.slice a N c] w fun e w'=>FewPost ls w e w':=by
 have HR:Hid (∀W,Kept [] w W→RowL W (.slice a N c) ls):=Hid.mk fun W kW=>hr.kept kW (by simp) (by simp)
 obtain ⟨S,hS⟩:∃S:Nat→Nat,Hid (∀j,S j=((ls.take j).map wgL).sum):=⟨_,Hid.mk fun _=>rfl⟩
 obtain ⟨C,hC⟩:∃C:Nat→Nat,Hid (∀j,C j=((ls.take j).map fun l=>l.rs.length).sum):=⟨_,Hid.mk fun _=>rfl⟩
 have HS0:Hid (S 0=0∧C 0=0):=Hid.mk ⟨by rw [hS.out];rfl,by rw [hC.out];rfl⟩
 have HSs:Hid (∀j l,ls[j]?=some l→S (j+1)=S j+wgL l∧C (j+1)=C j+l.rs.length):=Hid.mk fun j l hl=>⟨by rw [hS.out,hS.out,tsum_succ wgL ls j l hl],by rw [hC.out,hC.out,tsum_succ (fun l:Lq=>l.rs.length) ls j l hl]⟩
 clear hr
 go_enter Tryz.func10,Tryz.ntmps10
 go_wp2_with fail
 go_loopw [3,4,9] (fun u v i wr=>∃j:Nat,i=.int .i64 (j:Int)∧u=.int .i64 (S j:Int)∧v=.int .i64 (C j:Int)∧j≤N∧j≤40∧S j≤60000∧C j≤500∧Kept [] w wr) (fun _ _ i _=>N-(intOf i).toNat)
 case atStart=>exact ⟨0,rfl,by rw [HS0.out.1];rfl,by rw [HS0.out.2];rfl,by omega,by omega,by rw [HS0.out.1];omega,by rw [HS0.out.2];omega,Kept.refl [] w⟩
 case round =>
  obtain ⟨j,rfl,rfl,rfl,hj,hj40,hSj,hCj,kk⟩:=hrel
  by_cases hlt:j<N
  ·obtain ⟨l,hl⟩:∃l,ls[j]?=some l:=⟨_,List.getElem?_eq_getElem (by have:=hN.out;omega)⟩
   have HL:=Hid.mk hl
   obtain ⟨b,o,rfl,d0⟩:=(HR.out wr kk).at hl
   have hlb:=(hb.out l (List.mem_of_getElem? hl)).1
   have HXB:=Hid.mk (hb.out l (List.mem_of_getElem? hl)).2
   have HD:Hid (∀W,Kept [] w W→W.cell? ⟨b,o+j,none⟩=some (.slice l.ad l.rs.length l.cap)∧RowQ W (.slice l.ad l.rs.length l.cap) l.rs):=Hid.mk fun W kW=>by
    obtain ⟨b',o',e',g0⟩:=(HR.out W kW).at HL.out
    injection e' with e'
    injection e' with e1 e2 _
    subst e1 e2
    exact ⟨g0,(HR.out W kW).each l (List.mem_of_getElem? HL.out)⟩
   have hd0:=(HD.out wr kk).1
   have HNX:=Hid.mk (HSs.out j l hl)
   obtain ⟨s,hs⟩:∃s:Nat→Nat,Hid (∀m,s m=((l.rs.take m).map wgt).sum):=⟨_,Hid.mk fun _=>rfl⟩
   have Hs0:Hid (s 0=0):=Hid.mk (by rw [hs.out];rfl)
   have Hss:Hid (∀m x,l.rs[m]?=some x→s (m+1)=s m+(30+min x.c.val.length 30000+min x.c.key.length 1000)):=Hid.mk fun m x hx=>by rw [hs.out,hs.out,tsum_succ wgt l.rs m x hx];rfl
   have Hsb:Hid (∀m,s m≤31030*m):=Hid.mk fun m=>by
    rw [hs.out]
    have h1:=sum_wgt (l.rs.take m)
    rw [List.length_take] at h1
    omega
   have Hse:Hid (s l.rs.length=wgL l):=Hid.mk (by rw [hs.out,List.take_length];rfl)
   obtain ⟨M,hM⟩:∃M,Hid (l.rs.length=M):=⟨_,rfl⟩
   rw [hM.out] at hlb HD hd0 HNX Hse
   clear hl d0
   have la:∃la,Hid (l.ad=la):=⟨_,rfl⟩
   obtain ⟨la,hla⟩:=la
   obtain ⟨lc,hlc⟩:∃lc,Hid (l.cap=lc):=⟨_,rfl⟩
   rw [hla.out,hlc.out] at HD hd0
   go_wp2_with fail
   go_loopw [3,4,17] (fun u v i wr2=>∃m:Nat,i=.int .i64 (m:Int)∧u=.int .i64 ((S j+s m:Nat):Int)∧v=.int .i64 ((C j+m:Nat):Int)∧m≤M∧Kept [] w wr2) (fun _ _ i _=>M-(intOf i).toNat)
   case atStart=>exact ⟨0,rfl,by rw [Hs0.out,Nat.add_zero],by rw [Nat.add_zero],by omega,kk⟩
   case round =>
    obtain ⟨m,rfl,rfl,rfl,hm,km⟩:=hrel
    by_cases hmlt:m<M
    ·obtain ⟨x,hx⟩:∃x,l.rs[m]?=some x:=⟨_,List.getElem?_eq_getElem (by have:=hM.out;omega)⟩
     obtain ⟨g0,g1⟩:=HD.out _ km
     obtain ⟨b2,o2,rfl,c0,c1,c2⟩:=g1.at hx
     have hstep:=Hid.mk (Hss.out m x hx)
     have hsm:=Hsb.out m
     have hxb:=HXB.out x (List.mem_of_getElem? hx)
     have HK:=Hid.mk km
     clear hx km kk g1 c2
     generalize x.ad=va at *
     generalize x.cap=vc at *
     generalize x.c.val.length=vl at *
     generalize x.c.key=key at *
     obtain ⟨sm,hsme⟩:∃sm,Hid (s m=sm):=⟨_,rfl⟩
     rw [hsme.out] at hsm hstep ⊢
     go_wp2_with fail
     go_quiet (fail)
     go_wp2
     go_roundw
     case rel=>exact ⟨m+1,by go_num,congrArg (Value.int .i64) (by rw [hstep.out];omega),congrArg (Value.int .i64) (by omega),by omega,HK.out.drewN _⟩
     case measure=>simp [intOf];omega
    ·obtain rfl:m=M:=by omega
     have hn1:S j+s m=S (j+1):=by rw [HNX.out.1,Hse.out]
     have hn2:C j+m=C (j+1):=HNX.out.2.symm
     rw [hn1,hn2]
     have hsb:=Hsb.out m
     have hS1:S (j+1)≤60000+31030*m:=by omega
     have hC1:C (j+1)≤500+m:=by omega
     clear hn1 hn2 hsb Hs0 Hss Hsb Hse HNX HSs
     obtain ⟨S1,hS1e⟩:∃S1,Hid (S (j+1)=S1):=⟨_,rfl⟩
     obtain ⟨C1,hC1e⟩:∃C1,Hid (C (j+1)=C1):=⟨_,rfl⟩
     rw [hS1e.out] at hS1 ⊢
     rw [hC1e.out] at hC1 ⊢
     by_cases q1:60000<S1
     ·have i1:(60000:Int)<(S1:Int):=by omega
      go_wp2
      go_ret
      exact ⟨false,rfl,km,fun h=>by cases h⟩
     ·have i1:¬(60000:Int)<(S1:Int):=by omega
      by_cases q2:500<C1
      ·have i2:(500:Int)<(C1:Int):=by omega
       go_wp2
       go_ret
       exact ⟨false,rfl,km,fun h=>by cases h⟩
      ·have i2:¬(500:Int)<(C1:Int):=by omega
       by_cases q3:40≤j
       ·have i3:(40:Int)≤(j:Int):=by omega
        go_wp2
        go_ret
        exact ⟨false,rfl,km,fun h=>by cases h⟩
       ·have i3:¬(40:Int)≤(j:Int):=by omega
        go_wp2
        go_roundw
        case rel=>exact ⟨j+1,by go_num,by rw [hS1e.out],by rw [hC1e.out],by omega,by omega,by rw [hS1e.out];omega,by rw [hC1e.out];omega,km⟩
        case measure=>simp [intOf];omega
  ·obtain rfl:j=N:=by omega
   have HF:Hid (FewOk ls):=Hid.mk ⟨by have:=hN.out;omega,by
    have:=hC.out j
    rw [List.take_of_length_le (by have:=hN.out;omega)] at this
    omega,by
    have:=hS.out j
    rw [List.take_of_length_le (by have:=hN.out;omega)] at this
    omega⟩
   go_wp2
   go_ret
   exact ⟨true,rfl,kk,fun _=>HF.out⟩
end
end Go.Proofs.YtgpbhlfdlkemjaaGreat
namespace Go.Proofs.YtgpbhlfdlkemjaaGreat
open Go.RowKit Go.Deep Go.ChangeShapes
set_option linter.unusedVariables false
theorem weightsAll_mem {H:Type}{P:Program}{e:TypeId}{d:DataW H}{n:Nat}:∀{ds:List (DataW H)},d∈ds→n∈d.weights P e→n∈DataW.weightsAll P e ds
 | [],h,_=>by cases h
 | x::r,h,hn=>by
  simp only [DataW.weightsAll,List.mem_append]
  rcases List.mem_cons.1 h with rfl|h
  ·exact .inl hn
  ·exact .inr (weightsAll_mem h hn)
theorem addr_add_add (a:Addr) (i j:Nat):(a.add i).add j=a.add (i+j):=by
 obtain ⟨b,o,s⟩:=a
 unfold Addr.add
 by_cases hi:i=0
 ·by_cases hj:j=0
  ·simp [hi,hj]
  ·simp [hi,hj]
 ·by_cases hj:j=0
  ·simp [hi,hj]
  ·simp [hi,hj,Nat.add_assoc]
def InQ (rs:List Cq):Prop:=rs.length≤4398046511104∧∀x∈rs,x.c.val.length≤140737488355328∧x.c.key.length≤140737488355328
set_option maxRecDepth 100000 in
theorem open_chs {H:Type}{enc:TypeId × Value→H}{W:World}{fuel:Nat}{cs:List Value}{x:DataW H × List MemPlace} (h:DataW.trod enc Tryz.prog W 0 (fun _=>true) true fuel 40 cs=some x) (hsz:∀n∈x.1.weights Tryz.prog 40,n≤reachBytes) :
  ∃v l,cs=[v]∧RowQ W v l∧ValsQ W l∧InQ l:=by
 rcases open_slice Tryz.underlying40 h with ⟨h0,hx⟩|⟨a,len,cap,m,n,D,Pl,hcs,hb,hl,hm,hmm,hx,hel⟩
 ·exact ⟨_,[],h0,ReadsR.nil 3 W,by intro x hx;simp at hx,by simp,by simp⟩
 ·have hm':m=cap:=by simpa using hmm
  subst hm'
  have hlen:len≤4398046511104:=by
   have:=hsz ((((List.range len).map D).length+((List.range (m-len)).map fun i=>D (len+i)).length)*Tryz.prog.bytesOf 61) (by
    rw [hx]
    simp only [DataW.weights,Tryz.underlying40,List.mem_cons]
    left
    simp)
   rw [show Tryz.prog.bytesOf 61=48 by kernel_rfl] at this
   unfold reachBytes at this
   simp at this
   omega
  have each:∀i,i<len→∃p:Cq,(W.cell? (a.add (i*3))=some (Sv p.c.key)∧W.cell? (a.add (i*3+1))=some (.slice p.ad p.c.val.length p.cap)∧W.cell? (a.add (i*3+2))=some (.bool p.c.gone))∧Reads W (.slice p.ad p.c.val.length p.cap) p.c.val∧p.c.val.length≤140737488355328∧p.c.key.length≤140737488355328:=by
   intro i hi
   obtain ⟨cs',h1,h2⟩:=hel i (by omega)
   have hwt:∀z∈(D i).weights Tryz.prog 61,z≤reachBytes:=fun z hz=>hsz z (by
    rw [hx]
    simp only [DataW.weights,Tryz.underlying40,List.mem_cons,List.mem_append]
    exact .inr (.inl (weightsAll_mem (List.mem_map.2 ⟨i,List.mem_range.2 hi,rfl⟩) hz)))
   rw [show Tryz.prog.cellsOf 61=3 by kernel_rfl] at h1
   obtain ⟨_,hlen,hcell⟩:=World.cells?_some h1
   obtain ⟨xs,k,hk,hxy,_,hxl,hf⟩:=DataW.trod_struct Tryz.underlying61 h2
   match xs,hxl,cs',hlen with
   | [y0,y1,y2],_,[v0,v1,v2],_ =>
    have g0:=hf 0 _ rfl
    have g1:=hf 1 _ rfl
    have g2:=hf 2 _ rfl
    simp [show Tryz.prog.cellsOf 9=1 by kernel_rfl,show Tryz.prog.cellsOf 48=1 by kernel_rfl,show Tryz.prog.cellsOf 4=1 by kernel_rfl] at g0 g1 g2
    obtain ⟨ks,e0,f0,w0⟩:=DataW.trod_string Tryz.underlying9 g0
    obtain ⟨gn,e2,f2⟩:=DataW.trod_bool Tryz.underlying4 g2
    simp at e0 e2
    subst e0 e2
    have c0:=hcell 0 (by omega)
    have c1:=hcell 1 (by omega)
    have c2:=hcell 2 (by omega)
    rw [addr_add_add] at c0 c1 c2
    have hD:D i=.agg [y0.1,y1.1,y2.1]:=by
     have:=congrArg Prod.fst hxy
     simpa using this
    have hkl:ks.data.toList.length≤140737488355328:=by
     have:=hwt ks.data.toList.length (by
      rw [hD,f0]
      simp [DataW.weights,DataW.weightsEach,Tryz.underlying61])
     unfold reachBytes at this
     omega
    have hks:Sv ks.data.toList=.string ks:=by
     obtain ⟨d⟩:=ks
     simp
    have fin:∀B,Reads W v1 B→B.length≤140737488351232→∃p:Cq,(W.cell? (a.add (i*3))=some (Sv p.c.key)∧W.cell? (a.add (i*3+1))=some (.slice p.ad p.c.val.length p.cap)∧W.cell? (a.add (i*3+2))=some (.bool p.c.gone))∧Reads W (.slice p.ad p.c.val.length p.cap) p.c.val∧p.c.val.length≤140737488355328∧p.c.key.length≤140737488355328:=fun B hB hBl=>by
     obtain ⟨ad',cp',rfl,_⟩:=id hB
     exact ⟨⟨⟨ks.data.toList,B,gn⟩,ad',cp'⟩,⟨by rw [hks];simpa using c0,by simpa using c1,by simpa using c2⟩,hB,by show B.length≤_;omega,hkl⟩
    rcases open_ints Tryz.underlying48 Tryz.underlying5 (by kernel_rfl) g1 with ⟨hcs2,hx2⟩|⟨y,l,c,zs,hcs2,_,hl2,hm2,hz,hx2,hcell2,hwz⟩
    ·simp at hcs2
     subst hcs2
     exact fin [] (Reads.nil W) (by simp)
    ·simp at hcs2
     subst hcs2
     have hz2:zs.length=c:=by simpa using hz
     have hw2:zs.length*Tryz.prog.bytesOf 5≤reachBytes:=by
      refine hwt _ ?_
      rw [hD,hx2]
      simp [DataW.weights,DataW.weightsEach,Tryz.underlying61,Tryz.underlying48,lits]
      exact .inr (.inl (by congr 1;omega))
     rw [show Tryz.prog.bytesOf 5=1 by kernel_rfl] at hw2
     obtain ⟨B,hB,hBl⟩:=reads_of_row W y zs hl2 hm2 hz2 hcell2 hwz (by unfold reachBytes at hw2;omega)
     exact fin B hB hBl
  obtain ⟨f,hfp⟩:=choose_lt each
  have hll:((List.range len).map f).length=len:=by simp
  refine ⟨_,(List.range len).map f,hcs,⟨some a,m,by rw [CQ_length,hll],by rw [CQ_length,hll];omega,hm,by simp,fun hne=>?_⟩,?_,by rw [hll];exact hlen,?_⟩
  ·have hpos:0<len:=by
    rcases Nat.eq_zero_or_pos len with h|h
    ·subst h;simp [CQ] at hne
    ·exact h
   obtain ⟨b,o,spot⟩:=a
   have hc:=(hfp 0 (by omega)).1.1
   have hspot:spot=none:=by simpa [Addr.add] using World.cell?_spot hc
   subst hspot
   refine ⟨b,o,rfl,fun j r hr i y hy=>?_⟩
   have hr':((List.range len).map f).map encQ=CQ ((List.range len).map f):=rfl
   rw [←hr',List.getElem?_map,Option.map_eq_some_iff] at hr
   obtain ⟨p,hp,rfl⟩:=hr
   have hj:j<len:=by
    have:=(List.getElem?_eq_some_iff.1 hp).1
    simpa using this
   rw [List.getElem?_map,List.getElem?_range hj] at hp
   simp at hp
   subst hp
   obtain ⟨c0,c1,c2⟩:=(hfp j hj).1
   rw [add_at] at c0 c1 c2
   have hi:i<3:=(List.getElem?_eq_some_iff.1 hy).1
   rcases (by omega:i=0∨i=1∨i=2) with rfl|rfl|rfl
   ·simp [encQ] at hy;subst hy;simpa using c0
   ·simp [encQ] at hy;subst hy;simpa [Nat.add_assoc] using c1
   ·simp [encQ] at hy;subst hy;simpa [Nat.add_assoc] using c2
  ·intro x hx
   simp only [List.mem_map,List.mem_range] at hx
   obtain ⟨i,hi,rfl⟩:=hx
   exact (hfp i hi).2.1
  ·intro x hx
   simp only [List.mem_map,List.mem_range] at hx
   obtain ⟨i,hi,rfl⟩:=hx
   exact (hfp i hi).2.2
end Go.Proofs.YtgpbhlfdlkemjaaGreat
