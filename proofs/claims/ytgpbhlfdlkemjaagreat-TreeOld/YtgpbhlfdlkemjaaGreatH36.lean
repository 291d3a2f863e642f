import Derived.Test.YtgpbhlfdlkemjaaGreatH19
import Derived.Test.YtgpbhlfdlkemjaaGreatH29
import Derived.Test.YtgpbhlfdlkemjaaGreatH30
import Derived.Test.YtgpbhlfdlkemjaaGreatH33
import Derived.Test.YtgpbhlfdlkemjaaGreatH35
/-
 slices.SortFunc of changes; strings.Clone.
-/
namespace Go.Proofs.YtgpbhlfdlkemjaaGreat
open Go.RowKit Go.Shelf Go.Lib Go.Sort
set_option linter.unusedVariables false
theorem ltKey (x y:Cq):ltOf (fun x y:Cq=>Lib.compareBytes x.c.key y.c.key) x y=decide (x.c.key<y.c.key):=by
 unfold ltOf
 rw [decide_eq_decide]
 exact cmp_lt _ _
theorem swoKey:SWO (ltOf fun x y:Cq=>Lib.compareBytes x.c.key y.c.key) where
 irrefl x:=by rw [ltKey];exact decide_eq_false (klt_irrefl _)
 trans x y z h1 h2:=by
  rw [ltKey,decide_eq_true_eq] at *
  exact klt_trans h1 h2
 ntrans x y z h1 h2:=by
  rw [ltKey,decide_eq_false_iff_not] at *
  intro h3
  by_cases h4:y.c.key<x.c.key
  ·exact h2 (klt_trans h4 h3)
  ·by_cases h5:y.c.key=x.c.key
   ·exact h2 (h5▸h3)
   ·exact h1 (klt_total h4 h5)
set_option maxHeartbeats 1000000 in
theorem apply1 (x y:Cq) (W:World):Calls Tryz.prog 44 #[.agg (encQ x).toArray,.agg (encQ y).toArray] W fun e w'=>e=.returned (.int .i64 (Lib.compareBytes x.c.key y.c.key))∧∃q os',w'=grow (W.drewN q) os':=by
 have hcon:=fun W'=>cmp_any x.c.key y.c.key W'
 have hx:(encQ x).toArray=#[Sv x.c.key,.slice x.ad x.c.val.length x.cap,.bool x.c.gone]:=rfl
 have hy:(encQ y).toArray=#[Sv y.c.key,.slice y.ad y.c.val.length y.cap,.bool y.c.gone]:=rfl
 rw [hx,hy]
 clear hx hy
 generalize Lib.compareBytes x.c.key y.c.key=r at hcon ⊢
 go_enter Tryz.func44,Tryz.ntmps44
 go_wp2_with fail
 refine (hcon _).mono ?_
 rintro e w' ⟨rfl,rfl⟩
 go_wp2
 go_ret
 exact ⟨rfl,0,_,by rw [alloc_eq_grow,alloc_eq_grow,grow_grow];rfl⟩
theorem grownBy_sortK {w:World}{g n:Nat}{os:Array Obj} (d:Array Cq):w.grownBy (sortWorldK encQ 3 w g 0 n d os) (some g):=by
 refine ⟨rfl,rfl,rfl,by simp [sortWorldK,putRowK],fun k hk hne=>?_⟩
 unfold sortWorldK putRowK
 rw [heap_grow_old _ _ (by simpa using hk)]
 have:g≠k:=fun e=>hne (by rw [e])
 simp [putRow,mapBlock,Sort.ahead,Array.getElem?_modify,this]
theorem sortQ_any {w:World}{v:Value}{l:List Cq} (ho:OwnsR 61 3 w v (CQ l)) (hl:l.length≤900000):Calls Tryz.prog 43 #[v,.func (.func 44) #[] #[]] w fun e w'=>e=.returned (.tuple #[])∧∃l':List Cq,l'.Perm l∧l'.Pairwise (fun a b=>¬b.c.key<a.c.key)∧RowQ w' v l'∧Kept v.ownBlock.toList w w':=by
 rcases ho.2 with ⟨rfl,h0⟩|⟨g,cap,cur,rfl,_,hb,hcap,hcm,hsz,hcur⟩
 ·have e0:l=[]:=by rw [CQ_length] at h0;exact List.eq_nil_of_length_eq_zero h0
  subst e0
  refine (AnyF.slices_SortFunc_none sortQ none 0 _ w).mono ?_
  rintro e w' ⟨rfl,rfl⟩
  exact ⟨rfl,[],List.Perm.refl _,List.Pairwise.nil,ReadsR.nil 3 _,Kept.refl _ _⟩
 ·have hr:=ho.reads (CQ_wide l)
  rw [CQ_length] at hr ⊢
  have hcell:∀(j:Nat) (x:Cq),l[j]?=some x→∀i u,(encQ x)[i]?=some u→w.cell? ⟨g,0+j*3+i,none⟩=some u:=fun j x hx i u hu=>by
   obtain ⟨b,o,c',e,hc⟩:=ReadsR.at hr j (encQ x) (by simp [CQ,hx])
   injection e with e _ _
   injection e with e
   injection e with e1 e2 _
   subst e1 e2
   exact hc i u hu
  have hH:HoldsK encQ 3 w g 0 l.toArray:=fun t ht=>by
   rw [size_flatK] at ht
   have ht':t<l.length*3:=by simpa using ht
   have hd:t / 3<l.length:=by omega
   obtain ⟨x,hx⟩:∃x,l[t / 3]?=some x:=⟨_,List.getElem?_eq_getElem hd⟩
   have hxx:l.toArray[t / 3]! = x:=by
    rw [getElem!_pos _ _ (by simpa using hd)]
    have:=(List.getElem?_eq_some_iff.1 hx).2
    simpa using this
   have hm:t%3<(encQ x).length:=Nat.mod_lt _ (by decide)
   refine ⟨?_,by simp only [World.frozen?,hb];rfl⟩
   rw [get_flatK _ _ _ _ (by simpa using ht'),hxx]
   have h1:=hcell (t / 3) x hx (t%3) ((encQ x)[t%3]!) (by rw [getElem!_pos (encQ x) (t%3) hm];exact List.getElem?_eq_getElem hm)
   have e:0+t / 3*3+t%3=0+t:=by omega
   rw [e] at h1
   exact h1
  have eg:∀args w,(callFunc 44 args).run Tryz.prog w=.ok (.enter 44 args) w:=enters_of Tryz.func44 (by kernel_rfl) rfl
  have hcon:=AnyQ.slices_SortFunc (α:=Cq) sortQ 3 Tryz.isAgg61 Tryz.sizeOf61 encQ (fun _=>rfl) encQ_one (fun x y=>Lib.compareBytes x.c.key y.c.key) swoKey 44 #[] g 0 cap l.toArray w eg (fun _ _ _ _ x y=>apply1 x y _) hH (lt_of_block hb) (by simp;omega)
  rw [show l.toArray.size=l.length from by simp] at hcon
  refine Calls.mono hcon ?_
  rintro e w' ⟨rfl,d',n,os,hp,hs,rfl⟩
  obtain ⟨hsz',-,hperm⟩:=hp
  have hsz2:d'.size=l.length:=by simpa using hsz'
  have hH':HoldsK encQ 3 (sortWorldK encQ 3 w g 0 n d' os) g 0 d':=holdsK_grow encQ 3 _ _ _ _ _ (by simp [putRowK];exact lt_of_block hb) (holdsK_putRowK encQ 3 _ _ _ _ _ (holdsK_ahead encQ 3 _ _ _ _ _ hH) hsz')
  refine ⟨rfl,d'.toList,?_,?_,?_,?_⟩
  ·have e1:(d'.extract 0 l.length).toList=d'.toList:=by
    rw [Array.toList_extract]
    simp only [List.extract_eq_take_drop,List.drop_zero,Nat.sub_zero]
    exact List.take_of_length_le (by rw [Array.length_toList];omega)
   have e2:(l.toArray.extract 0 l.length).toList=l:=by simp
   rw [e1,e2] at hperm
   exact hperm
  ·refine List.pairwise_iff_getElem.2 fun i j hi hj hij=>?_
   have h1:=hs i j (Nat.zero_le _) hij (by simp at hj ⊢;omega)
   rw [ltKey,decide_eq_false_iff_not] at h1
   rw [getElem!_pos _ _ (by simpa using hj),getElem!_pos _ _ (by simpa using hi)] at h1
   simpa using h1
  ·refine ⟨some ⟨g,0,none⟩,cap,by rw [CQ_length];show Value.slice _ l.length cap=Value.slice _ d'.size cap;rw [hsz2],by rw [CQ_length,Array.length_toList,hsz2];rw [CQ_length] at hcap;exact hcap,by exact hcm,by simp,fun _=>⟨g,0,rfl,fun j u hu i x hx=>?_⟩⟩
   have hj:j<d'.size:=by
    have:=(List.getElem?_eq_some_iff.1 hu).1
    rw [CQ_length] at this
    simpa using this
   obtain ⟨y,hy,rfl⟩:∃y,d'.toList[j]?=some y∧encQ y=u:=by simpa [CQ] using hu
   have hi:i<3:=(List.getElem?_eq_some_iff.1 hx).1
   have h1:=(hH'.cell hj hi).1
   have hyy:d'[j]! = y:=by
    rw [getElem!_pos d' j hj]
    have:=(List.getElem?_eq_some_iff.1 hy).2
    simpa using this
   rw [hyy] at h1
   rw [h1]
   have:=(List.getElem?_eq_some_iff.1 hx)
   rw [getElem!_pos (encQ y) i this.1,this.2]
  ·exact (Kept.refl _ w).grown (grownBy_sortK d') (fun k hk=>.inl (by injection hk with hk;subst hk;simp [Value.ownBlock]))
set_option maxRecDepth 100000 in
theorem cloneS_any (key:List UInt8) (W:World) (hk:key.length≤64):Calls Tryz.prog 77 #[Sv key] W fun e w'=>e=.returned (Sv key)∧Kept [] W w':=by
 have h:Calls Tryz.prog 117 #[Sv key] W fun e w'=>e=.returned (Sv key)∧Below W.heap.size W w':=AnyPu.stringslite_Clone cloneS ⟨key.toArray⟩ W (by show key.toArray.size≤_;simp;omega)
 go_enter Tryz.func77,Tryz.ntmps77
 go_wp2_with fail
 refine h.mono ?_
 rintro e w1 ⟨rfl,hb⟩
 go_wp2
 go_ret
 exact ⟨rfl,Below.kept hb⟩
end Go.Proofs.YtgpbhlfdlkemjaaGreat
namespace Go.Proofs.YtgpbhlfdlkemjaaGreat
open Go.RowKit
set_option linter.unusedVariables false
set_option maxRecDepth 100000 in
set_option maxHeartbeats 4000000 in
theorem apply_walk {w:World}{tb p:Nat}{P v vo:Value}{R:Int→World→Prop}
  (HC:Calls Tryz.prog 42 #[v] w fun e w1=>∃v1,e=.returned v1∧Calls Tryz.prog 43 #[v1,.func (.func 44) #[] #[]] w1 fun e w2=>e=.returned (.tuple #[])∧Calls Tryz.prog 46 #[v1] w2 fun e w3=>∃er:Int,e=.returned (.int .i64 er)∧((er≠0∧R er w3)∨(er=0∧Calls Tryz.prog 47 #[Pp tb,v1] w3 fun e w4=>∃a m c,e=.returned (.slice a m c)∧m≤900000∧((m=0∧R 0 w4)∨(m≠0∧(w4.alloc (.cells #[.slice none 0 0] 89)).cell? ⟨tb,1,none⟩=some P ∧
   Calls Tryz.prog 48 #[Pp w4.heap.size,P,.slice a m c] (w4.alloc (.cells #[.slice none 0 0] 89)) fun e w6=>∃(pp:Option Addr) (B FL:Nat),e=.returned (.pointer pp)∧B≤1000000∧FL≤1000000 ∧
    Hid (∀W,Kept [] w6 W→W.cell? ⟨tb,0,none⟩=some (Pp p))∧Hid (∀W,Kept [] w6 W→Calls Tryz.prog 49 #[.pointer pp] W fun e w'=>e=.returned (.int .i64 (B:Int))∧Kept [] W w')∧Hid (∀W,Kept [] w6 W→Calls Tryz.prog 16 #[Pp p] W fun e w'=>∃a c,e=.returned (.slice a FL c)∧Kept [] W w') ∧
    ∀w7,Kept [] w6 w7→(FL<B∧R 6 w7)∨(¬FL<B∧Calls Tryz.prog 50 #[Pp p,.pointer pp] w7 fun e w8=>∃er:Int,e=.returned (.int .i64 er)∧((er=9∧R 9 w8)∨(er=0∧∃(vl:Value) (an:Option Addr) (ln cn:Nat) (w9:World),w8.heap[tb]?=some (.cells #[Pp p,P,vo] 81 (0,0))∧(w8.setCell ⟨tb,1,none⟩ (.pointer pp)).cell? ⟨w4.heap.size,0,none⟩=some vl∧w9.heap[tb]?=some (.cells #[Pp p,.pointer pp,vo] 81 (0,0))∧(Builtin.append_ #[41,41] 41 #[vo,vl]).run Tryz.prog (w8.setCell ⟨tb,1,none⟩ (.pointer pp)).drew=.ok (.slice an ln cn) w9∧R 0 (w9.setCell ⟨tb,2,none⟩ (.slice an ln cn)))))))))) :
  Calls Tryz.prog 14 #[Pp tb,v] w fun e w'=>∃er:Int,e=.returned (.int .i64 er)∧R er w':=by
 go_enter Tryz.func14,Tryz.ntmps14
 go_wp2_with fail
 refine HC.mono ?_
 rintro e w1 ⟨v1,rfl,HC⟩
 go_wp2_with fail
 refine HC.mono ?_
 rintro e w2 ⟨rfl,HC⟩
 go_wp2_with fail
 refine HC.mono ?_
 rintro e w3 ⟨er,rfl,(⟨hne,hR⟩|⟨rfl,HC⟩)⟩
 ·have HR:=Hid.mk hR
  clear hR
  go_wp2
  go_ret
  exact ⟨er,rfl,HR.out⟩
 ·go_wp2_with fail
  refine HC.mono ?_
  rintro e w4 ⟨a,m,c,rfl,hm,(⟨rfl,hR⟩|⟨hm0,c1,HC⟩)⟩
  ·have HR:=Hid.mk hR
   clear hR
   go_wp2
   go_ret
   exact ⟨0,rfl,HR.out⟩
  ·have hm1:¬(m:Int)=0:=by omega
   go_wp2_with fail
   refine HC.mono ?_
   rintro e w6 ⟨pp,B,FL,rfl,hB,hFL,HT,H49,H16,HN⟩
   have HN:=Hid.mk HN
   clear HC c1
   have k0:Kept [] w6 w6.drew:=(Kept.refl [] w6).drew
   have S0:=HT.out _ k0
   go_wp2_with fail
   go_region_held3 (fun w'=>w'.cell? ⟨tb,0,none⟩=some (Pp p)) (first|exact S0|exact SA|exact SB) (first|(go_at_call 49;first|(refine (H49.out _ k0).mono ?_;rintro e wA ⟨rfl,kA⟩;have kA:=k0.trans kA (by simp);have SA:=HT.out _ kA)|(refine (H49.out _ kB).mono ?_;rintro e wA ⟨rfl,kA⟩;have kA:=kB.trans kA (by simp);have SA:=HT.out _ kA))|(go_at_call 16;first|(refine (H16.out _ k0).mono ?_;rintro e wB ⟨aF,cF,rfl,kB⟩;have kB:=k0.trans kB (by simp);have SB:=HT.out _ kB)|(refine (H16.out _ kA).mono ?_;rintro e wB ⟨aF,cF,rfl,kB⟩;have kB:=kA.trans kB (by simp);have SB:=HT.out _ kB)))
   rcases HN.out wB kB with ⟨hlt,hR⟩|⟨hnl,HC⟩
   ·have HR:=Hid.mk hR
    clear hR HN HT H49 H16 S0 SA SB k0 kA kB
    go_wp2
    go_ret
    exact ⟨6,rfl,HR.out⟩
   ·clear HN HT H49 H16 S0 SA k0 kA kB
    go_wp2_with fail
    refine HC.mono ?_
    rintro e w8 ⟨er,rfl,(⟨rfl,hR⟩|⟨rfl,vl,an,ln,cn,w9,hb,hcu,hb9,hrun,hR⟩)⟩
    ·have HR:=Hid.mk hR
     clear hR
     go_wp2
     go_ret
     exact ⟨9,rfl,HR.out⟩
    ·have HR:=Hid.mk hR
     have d1:w8.cell? ⟨tb,1,none⟩=some P:=by simp only [World.cell?,hb];rfl
     have f1:w8.frozen? ⟨tb,1,none⟩=false:=by simp only [World.frozen?,hb];rfl
     have hb8:(w8.setCell ⟨tb,1,none⟩ (.pointer pp)).heap[tb]?=some (.cells #[Pp p,.pointer pp,vo] 81 (0,0)):=by rw [heap_setCell_same w8 tb 1 _ 81 _ hb];rfl
     have d2:(w8.setCell ⟨tb,1,none⟩ (.pointer pp)).cell? ⟨tb,2,none⟩=some vo:=by simp only [World.cell?,hb8];rfl
     have d9:w9.cell? ⟨tb,2,none⟩=some vo:=by simp only [World.cell?,hb9];rfl
     have f9:w9.frozen? ⟨tb,2,none⟩=false:=by simp only [World.frozen?,hb9];rfl
     clear hR HC hb hb9 SB hb8
     go_wp2_with fail
     generalize w8.setCell ⟨tb,1,none⟩ (.pointer pp)=W8 at *
     clear d1 f1
     go_region_law ((refine step_append_run 41 (.tmp 60) (.tmp 62) (by rfl) (by rfl) _ _ (by rfl) (by rfl) hrun ?_))
     all_goals
      go_wp2
      go_ret
      exact ⟨0,rfl,HR.out⟩
section
variable {w0 w:World}{q p:Nat}{s:St}{fr ct:Nat}{L:List Ent}{fl:List Nat}{X:Nat→Prop}
set_option maxRecDepth 100000 in
set_option maxHeartbeats 1000000 in
theorem settle_all {tb:Nat}{tp vo:Value}{old:List Nat} (hb:w.heap[tb]?=some (.cells #[Pp p,tp,vo] 81 (0,0))) (ho:OwnsI w vo old) (hap:vo.ownBlock≠some tb) (hsy:Hid (SyP w0 w q p s fr ct L fl X)) (hlow:Hid (∀x,X x→x<w.heap.size)) (hxt:Hid (X tb)) (hxo:Hid (∀g,vo.ownBlock=some g→X g)) (hin:Hid (∀y∈old,y≤1000000)) (hol:old.length≤1000000) (htw:Hid (w0.heap.size≤tb)) :
  Calls Tryz.prog 18 #[Pp tb] w fun e w'=>e=.returned (.tuple #[])∧w'.heap[tb]?=some (.cells #[Pp p,tp,.slice none 0 0] 81 (0,0))∧∃fl',SyP w0 w' q p s fr ct (remE L old) fl' X∧∃w1,KP X w w1∧Kept [tb] w1 w':=by
 obtain ⟨aO,cO,e,hcap,hcm⟩:=ho.form
 have HO:Hid (OwnsI w vo old):=Hid.mk ho
 have HB:=Hid.mk hb
 have c0:w.cell? ⟨tb,0,none⟩=some (Pp p):=by simp only [World.cell?,hb];rfl
 have c2:w.cell? ⟨tb,2,none⟩=some vo:=by simp only [World.cell?,hb];rfl
 subst e
 obtain ⟨N,HN⟩:∃N,Hid (old.length=N):=⟨_,rfl⟩
 rw [HN.out] at c2 HO hxo hap hcap hol
 have HK:Hid (∀W,KP X w W→W.heap[tb]?=some (.cells #[Pp p,tp,.slice aO N cO] 81 (0,0))∧OwnsI W (.slice aO N cO) old):=Hid.mk fun W kW=>by
  obtain ⟨S,k,hS⟩:=kW
  have hb:=HB.out
  rw [HN.out] at hb
  exact ⟨k.keeps hb (hS tb hxt.out),HO.out.kept k (fun g hg=>hS g (hxo.out g hg))⟩
 have hnm:=Hid.mk hsy.out.ok.names
 clear hb ho HB HO
 go_enter Tryz.func18,Tryz.ntmps18
 go_wp2_with fail
 go_loopw [11] (fun i wr=>∃j:Nat,i=.int .i64 (j:Int)∧j≤N∧Hid (KP X w wr)∧Hid (∃fl',SyP w0 wr q p s fr ct (remE L (old.take j)) fl' X)) (fun i _=>N-(intOf i).toNat)
 case atStart=>exact ⟨0,rfl,by omega,Hid.mk (KP.refl X w),Hid.mk ⟨fl,by rw [List.take_zero,remE_nil];exact hsy.out⟩⟩
 case round =>
  obtain ⟨j,rfl,hj,hkp,hsj⟩:=hrel
  obtain ⟨hbr,hor⟩:=HK.out wr hkp.out
  have d0:wr.cell? ⟨tb,0,none⟩=some (Pp p):=by simp only [World.cell?,hbr];rfl
  have d2:wr.cell? ⟨tb,2,none⟩=some (.slice aO N cO):=by simp only [World.cell?,hbr];rfl
  have f2:wr.frozen? ⟨tb,2,none⟩=false:=by simp only [World.frozen?,hbr];rfl
  by_cases hlt:j<N
  ·obtain ⟨y,hy⟩:∃y,old[j]?=some y:=⟨_,List.getElem?_eq_getElem (by have:=HN.out;omega)⟩
   obtain ⟨g,c',e,hcell⟩:=hor.at j y hy
   injection e with e eN e2
   subst e e2
   clear eN
   have hts:=tsnoc hy
   have hyb:=hin.out y (List.mem_of_getElem? hy)
   obtain ⟨fl',hs'⟩:=hsj.out
   have hdr:Calls Tryz.prog 54 #[.pointer (some ⟨p,0,none⟩),.int .i64 (y:Int)] wr fun e w'=>∃z:Int,e=.returned (.int .i64 z)∧(∃fl',SyP w0 w' q p s fr ct (remE L (old.take (j+1))) fl' X)∧KP X wr w':=by
    by_cases hm:y∈(remE L (old.take j)).map (·.1)
    ·have hyn:y∉old.take j:=by
      obtain ⟨x,hx,e⟩:=List.mem_map.1 hm
      have:=(List.mem_filter.1 hx).2
      rw [←e]
      simpa using this
     have hm2:y∈L.map (·.1):=by
      obtain ⟨x,hx,e⟩:=List.mem_map.1 hm
      exact List.mem_map.2 ⟨x,(List.mem_filter.1 hx).1,e⟩
     obtain ⟨A,x,B,hx1,hx2,hx3⟩:=remE_step hnm.out hyn hm2
     rw [hx2] at hs'
     have hdr:=psy_drop hs' (fun z hz=>Nat.lt_of_lt_of_le (hlow.out z hz) (by obtain ⟨S,k,_⟩:=hkp.out;exact k.size))
     rw [hx1] at hdr
     refine hdr.mono ?_
     rintro e w2 ⟨rfl,h1,h2⟩
     exact ⟨0,rfl,⟨_,by rw [hts,hx3];exact h1⟩,h2⟩
    ·refine (psy_drop_none hs' (y:Int) (wf_nat (by omega)) (fun x hx e=>hm (List.mem_map.2 ⟨x,hx,by omega⟩))).mono ?_
     rintro e w2 ⟨rfl,rfl⟩
     refine ⟨5,rfl,⟨fl',?_⟩,KP.refl X wr⟩
     have:remE L (old.take (j+1))=remE L (old.take j):=by
      rw [hts]
      unfold remE
      refine List.filter_congr fun z hz=>?_
      by_cases h1:z.1∈old.take j
      ·simp [h1]
      ·have:z.1≠y:=fun e=>hm (List.mem_map.2 ⟨z,List.mem_filter.2 ⟨hz,by simpa using h1⟩,e⟩)
       simp [h1,this]
     rw [this]
     exact hs'
   clear hy hyb hs' hts hbr hor d2 f2 c0 c2
   go_wp2_with fail
   refine hdr.mono ?_
   rintro e w2 ⟨z,rfl,h1,h2⟩
   have HR:Hid (KP X w w2):=Hid.mk (hkp.out.trans h2)
   have HS:Hid (∃fl',SyP w0 w2 q p s fr ct (remE L (old.take (j+1))) fl' X):=Hid.mk h1
   clear hdr h1 h2 hsj hkp
   go_wp2
   go_roundw
   case rel=>exact ⟨j+1,by go_num,by omega,HR,HS⟩
   case measure=>simp [intOf];omega
  ·obtain rfl:j=N:=by omega
   have HD:Hid ((wr.setCell ⟨tb,2,none⟩ (.slice none 0 0)).heap[tb]?=some (.cells #[Pp p,tp,.slice none 0 0] 81 (0,0))∧∃fl',SyP w0 (wr.setCell ⟨tb,2,none⟩ (.slice none 0 0)) q p s fr ct (remE L old) fl' X∧∃w1,KP X w w1∧Kept [tb] w1 (wr.setCell ⟨tb,2,none⟩ (.slice none 0 0))):=Hid.mk (by
    obtain ⟨fl',hs'⟩:=hsj.out
    rw [List.take_of_length_le (by have:=HN.out;omega)] at hs'
    have k5:Kept [tb] wr (wr.setCell ⟨tb,2,none⟩ (.slice none 0 0)):=(Kept.refl [tb] wr).setCell (.inl (by simp)) _
    refine ⟨by rw [heap_setCell_same wr tb 2 _ 81 _ hbr];rfl,fl',hs'.turn k5 (fun x hx=>by simp at hx;subst hx;exact .inl hxt.out) (fun x hx=>by simp at hx;subst hx;exact htw.out),wr,hkp.out,k5⟩)
   clear hbr hor hsj hkp c0 c2
   go_wp2
   go_end0
   exact ⟨rfl,HD.out⟩
end
section
variable {w:World}
set_option maxRecDepth 100000 in
set_option maxHeartbeats 1000000 in
theorem index_any {v:Value}{l:List Nat} (hr:ReadsI w v l) (hl:l.length≤1000000) (y:Nat) (hy:y≤1000000) (hlb:∀x∈l,x≤1000000):Calls Tryz.prog 100 #[v,.int .i64 (y:Int)] w fun e w'=>(∃i:Int,e=.returned (.int .i64 i)∧((i=-1∧y∉l)∨(0≤i∧y∈l)))∧w=w':=by
 obtain ⟨a,c,rfl,h1,h2⟩:=hr.form
 have HR:=Hid.mk hr
 have HB:=Hid.mk hlb
 obtain ⟨N,hN⟩:∃N,Hid (l.length=N):=⟨_,rfl⟩
 rw [hN.out] at hl HR h1
 clear hr hlb
 rw [hN.out]
 go_enter Tryz.func100,Tryz.ntmps100
 go_wp2_with fail
 go_loopw [8] (fun i wr=>∃j:Nat,i=.int .i64 (j:Int)∧j≤N∧Hid (y∉l.take j)∧w=wr) (fun i _=>N-(intOf i).toNat)
 case atStart=>exact ⟨0,rfl,by omega,Hid.mk (by simp),rfl⟩
 case round =>
  obtain ⟨j,rfl,hj,hA,rfl⟩:=hrel
  by_cases hlt:j<N
  ·obtain ⟨x,hx⟩:∃x,l[j]?=some x:=⟨_,List.getElem?_eq_getElem (by have:=hN.out;omega)⟩
   obtain ⟨b,o,c',e,hcell⟩:=HR.out.at j x hx
   injection e with e eN e2
   subst e e2
   clear eN
   have hxb:=HB.out x (List.mem_of_getElem? hx)
   by_cases hyx:y=x
   ·subst hyx
    have HF:Hid (y∈l):=Hid.mk (List.mem_of_getElem? hx)
    clear hx hA
    go_wp2
    go_ret
    exact ⟨⟨_,rfl,.inr ⟨by omega,HF.out⟩⟩,rfl⟩
   ·have HA2:Hid (y∉l.take (j+1)):=Hid.mk (by
     rw [tsnoc hx]
     intro hm
     rcases List.mem_append.1 hm with hm|hm
     ·exact hA.out hm
     ·simp at hm;exact hyx hm)
    have hne:¬(y:Int)=(x:Int):=by omega
    clear hx hA
    go_wp2
    go_roundw
    case rel=>exact ⟨j+1,by go_num,by omega,HA2,trivial⟩
    case measure=>simp [intOf];omega
  ·obtain rfl:j=N:=by omega
   have HF:Hid (y∉l):=Hid.mk (by have h:=hA.out;rwa [List.take_of_length_le (by have:=hN.out;omega)] at h)
   clear hA
   go_wp2
   go_ret
   exact ⟨⟨-1,rfl,.inl ⟨rfl,HF.out⟩⟩,rfl⟩
set_option maxRecDepth 100000 in
set_option maxHeartbeats 1000000 in
theorem contains_any {v:Value}{l:List Nat} (hr:ReadsI w v l) (hl:l.length≤1000000) (y:Nat) (hy:y≤1000000) (hlb:∀x∈l,x≤1000000):Calls Tryz.prog 66 #[v,.int .i64 (y:Int)] w fun e w'=>e=.returned (.bool (decide (y∈l)))∧w=w':=by
 have h:Calls Tryz.prog 100 #[v,.int .i64 (y:Int)] w fun e w'=>(∃i:Int,e=.returned (.int .i64 i)∧decide (0≤i)=decide (y∈l))∧w=w':=(index_any hr hl y hy hlb).mono (by
  rintro e w' ⟨⟨i,rfl,⟨rfl,h1⟩|⟨h0,h1⟩⟩,rfl⟩
  ·exact ⟨⟨-1,rfl,by rw [decide_eq_false h1];rfl⟩,rfl⟩
  ·exact ⟨⟨i,rfl,by rw [decide_eq_true h1,decide_eq_true h0]⟩,rfl⟩)
 clear hr hl hlb
 generalize decide (y∈l)=bb at *
 go_enter Tryz.func66,Tryz.ntmps66
 go_wp2_with fail
 refine h.mono ?_
 rintro e w' ⟨⟨i,rfl,hi⟩,rfl⟩
 clear h
 go_wp2
 go_ret
 exact ⟨rfl,rfl⟩
end
def CI (l:List Nat):List (List Value):=l.map fun (n:Nat)=>[Value.int .i64 (n:Int)]
theorem CI_length (l:List Nat):(CI l).length=l.length:=by simp [CI]
theorem CI_flat:∀l:List Nat,(CI l).flatten=C64 l
 | []=>rfl
 | n::l=>by
  have:=CI_flat l
  simp only [CI,C64,List.map_cons,List.flatten_cons,List.singleton_append,List.cons.injEq,true_and] at this ⊢
  exact this
theorem CI_wide (l:List Nat):Wide 1 (CI l):=fun r hr=>by
 obtain ⟨x,_,rfl⟩:=List.mem_map.1 hr
 exact ⟨rfl,fun u hu=>by simp at hu;subst hu;rfl⟩
theorem rt41:RowT 41 3 1 8 (.int .i64 0):=⟨Tryz.underlying41,by kernel_rfl,rfl,by omega,by omega⟩
theorem run_appendI {w:World}{v x:Value}{l m:List Nat} (ho:OwnsI w v l) (hr:ReadsI w x m) (hb:l.length+m.length≤1000000) :
  ∃ad c w',(Builtin.append_ #[41,41] 41 #[v,x]).run Tryz.prog w=.ok (.slice ad (l.length+m.length) c) w'∧OwnsI w' (.slice ad (l.length+m.length) c) (l++m)∧Kept v.ownBlock.toList w w'∧New w v (.slice ad (l.length+m.length) c):=by
 have ho':OwnsR 3 1 w v (CI l):=by unfold OwnsR;rw [CI_length,CI_flat];exact ho
 have hr':ReadsR 1 w x (CI m):=by
  obtain ⟨a,cap,rfl,h2,h3,h4,h5⟩:=hr
  refine ⟨a,cap,by rw [CI_length],by rw [CI_length];exact h2,h3,h4,fun hl=>?_⟩
  obtain ⟨b,o,rfl,hc⟩:=h5 (by intro e;subst e;simp [CI] at hl)
  refine ⟨b,o,rfl,fun j r hj i y hy=>?_⟩
  obtain ⟨n,hn,rfl⟩:∃n,m[j]?=some n∧[Value.int .i64 (n:Int)]=r:=by simpa [CI] using hj
  cases i with
  | zero=>simp at hy;subst hy;rw [Nat.mul_one,Nat.add_zero];exact hc j n hn
  | succ i=>simp at hy
 have h:=run_appendR rt41 w 41 v (CI l) ho' x (CI m) (CI_wide m) hr' (by rw [CI_length,CI_length];exact hb)
 rw [CI_length,CI_length] at h
 obtain ⟨ad,c,w',h1,h2,h3,h4⟩:=h
 refine ⟨ad,c,w',h1,?_,(Kept.refl _ w).grown h3 (fun x hx=>.inl (by rw [Option.mem_toList];exact hx)),h4⟩
 have e:CI l++CI m=CI (l++m):=by simp [CI]
 rw [e] at h2
 unfold OwnsR at h2
 rw [CI_length,CI_flat] at h2
 exact h2
def cst (i:Itm):Nat:=if lng i=true then (i.val.length+237) / 238 else 0
theorem ib_le (ρ:Rho) (i:Itm):ib ρ i≤cst i:=by
 unfold ib cst
 by_cases h:lng i=true
 ·rw [if_pos h]
  split<;>omega
 ·rw [if_neg (fun h'=>h h'.1)]
  omega
theorem sum_add {α:Type} (f g:α→Nat):∀l:List α,(l.map fun x=>f x+g x).sum=(l.map f).sum+(l.map g).sum
 | []=>rfl
 | a::l=>by simp only [List.map_cons,List.sum_cons,sum_add f g l];omega
theorem sum_flat {α β:Type} (f:β→Nat) (h:α→List β):∀l:List α,((l.flatMap h).map f).sum=(l.map fun x=>((h x).map f).sum).sum
 | []=>rfl
 | a::l=>by simp only [List.flatMap_cons,List.map_append,List.sum_append,List.map_cons,List.sum_cons,sum_flat f h l]
theorem bl_le (ρ:Rho):{k:Nat}→(n:Tr k)→bl ρ n≤nn n+((its n).map cst).sum
 | 0,n=>by
  have h1:=sum_le_sum (l:=n.2) fun i _=>ib_le ρ i
  show (if (ρ n.1).1=0 then 1+(n.2.map (ib ρ)).sum else 0)≤1+(n.2.map cst).sum
  split<;>omega
 | k+1,n=>by
  have h1:=sum_le_sum (l:=n.2) fun u _=>bl_le ρ u
  rw [sum_add] at h1
  have h2:((its n).map cst).sum=(n.2.map fun u=>((its u).map cst).sum).sum:=by rw [its_succ,sum_flat]
  have h3:nn n=1+(n.2.map nn).sum:=rfl
  rw [h2,h3]
  show (if (ρ n.1).1=0 then 1+(n.2.map (bl ρ)).sum else 0)≤_
  split<;>omega
theorem pn_len (ρ:Rho) (a:Nat):(pn ρ a).length≤1:=by unfold pn;split<;>simp
theorem len_flat {α β:Type} (h:α→List β):∀l:List α,(l.flatMap h).length=(l.map fun x=>(h x).length).sum
 | []=>rfl
 | a::l=>by simp only [List.flatMap_cons,List.length_append,List.map_cons,List.sum_cons,len_flat h l]
theorem nms_len (ρ:Rho):{k:Nat}→(n:Tr k)→(nms ρ n).length≤nn n+(its n).length
 | 0,n=>by
  have h1:=sum_le_sum (l:=n.2) (g:=fun _=>1) fun i _=>pn_len ρ i.ad
  rw [sum_ones] at h1
  have h2:=pn_len ρ n.1
  have h3:=len_flat (fun i:Itm=>pn ρ i.ad) n.2
  show ((n.2.flatMap fun i=>pn ρ i.ad)++pn ρ n.1).length≤1+n.2.length
  rw [List.length_append]
  omega
 | k+1,n=>by
  have h1:=sum_le_sum (l:=n.2) fun u _=>nms_len ρ u
  rw [sum_add] at h1
  have h2:=pn_len ρ n.1
  have h3:=len_flat (nms ρ) n.2
  have h4:=len_its_succ n
  have h5:nn n=1+(n.2.map nn).sum:=rfl
  show (n.2.flatMap (nms ρ)++pn ρ n.1).length≤_
  rw [List.length_append]
  omega
def blT (ρ:Rho):AT→Nat
 | none=>0
 | some n=>bl ρ n.2
theorem blT_le {w:World}{F:Nat→Prop}{ρ:Rho}{t:AT} (h:IsT w F ρ t) (hl:(itsT t).length≤500) (hc:((itsT t).map cst).sum≤900):blT ρ t≤1460:=by
 cases t with
 | none=>simp [blT]
 | some n =>
  have h1:=bl_le ρ n.2
  have h2:=nn_le n.2 h.2.1 h.2.2 hl
  show bl ρ n.2≤1460
  have h3:((itsT (some n)).map cst).sum=((its n.2).map cst).sum:=rfl
  omega
theorem blT_one {w:World}{F:Nat→Prop}{ρ:Rho}{t:AT} (h:IsT w F ρ t) (hl:(itsT t).length≤1) (hc:((itsT t).map cst).sum=0):blT ρ t≤1:=by
 cases t with
 | none=>simp [blT]
 | some n =>
  obtain ⟨k,n⟩:=n
  have h1:=bl_le ρ n
  have h3:((itsT (some ⟨k,n⟩)).map cst).sum=((its n).map cst).sum:=rfl
  have h4:(itsT (some ⟨k,n⟩)).length=(its n).length:=rfl
  show bl ρ n≤1
  cases k with
  | zero =>
   have h5:nn n=1:=rfl
   omega
  | succ k =>
   have ht:n.2.length≠1:=h.2.2
   have hw:Wf n:=h.2.1
   have h6:=sum_ge (fun _=>1) (fun u:Tr k=>(its u).length) n.2 fun u hu=>List.length_pos_iff.2 (hw.2.2.1 u hu).some
   rw [sum_ones] at h6
   have h7:=len_its_succ n
   have h8:0<n.2.length:=List.length_pos_iff.2 hw.1
   omega
theorem nmsT_le {w:World}{F:Nat→Prop}{ρ:Rho}{t:AT} (h:IsT w F ρ t) (hl:(itsT t).length≤500):(nmsT ρ t).length≤1060:=by
 cases t with
 | none=>simp [nmsT]
 | some n =>
  have h1:=nms_len ρ n.2
  have h2:=nn_le n.2 h.2.1 h.2.2 hl
  show (nms ρ n.2).length≤1060
  have h3:(itsT (some n)).length=(its n.2).length:=rfl
  omega
theorem IsT.kept {S:List Nat}{w w':World}{F:Nat→Prop}{ρ:Rho}{t:AT} (h:IsT w F ρ t) (k:Kept S w w') (hS:∀x∈S,¬F x):IsT w' F ρ t:=by
 cases t with
 | none=>trivial
 | some n=>exact ⟨h.1.kept k hS,h.2⟩
theorem IsT.monoS {w:World}{F F':Nat→Prop}{ρ:Rho}{t:AT} (h:IsT w F ρ t) (hF:∀x,x<w.heap.size→F x→F' x):IsT w F' ρ t:=by
 cases t with
 | none=>trivial
 | some n=>exact ⟨h.1.monoS hF,h.2⟩
theorem ptrT_form (t:AT):∃pp,ptrT t=.pointer pp:=by
 cases t with
 | none=>exact ⟨_,rfl⟩
 | some n=>exact ⟨_,rfl⟩
structure IsTree (w0 w:World) (tb p q:Nat) (T V:Nat→Prop) (ρ:Rho) (t:AT) (vo:Value) (old:List Nat) (s:St) (fr ct:Nat) (L:List Ent) (fl:List Nat):Prop where
 box:w.heap[tb]?=some (.cells #[Pp p,ptrT t,vo] 81 (0,0))
 own:OwnsI w vo old
 tree:IsT w T ρ t
 up:Up (itsT t)
 sz:Sized (itsT t)
 sy:SyP w0 w q p s fr ct L fl (fun b=>T b∨b=tb∨vo.ownBlock=some b∨V b)
 lt:∀b,T b∨b=tb∨vo.ownBlock=some b∨V b→b<w.heap.size
 ge:∀b,T b∨b=tb∨vo.ownBlock=some b∨V b→w0.heap.size≤b
 tt:∀b,T b→b≠tb∧vo.ownBlock≠some b∧¬V b
 tv:¬V tb∧vo.ownBlock≠some tb∧∀b,vo.ownBlock=some b→¬V b
 blank:Blank ρ w
 ok:RhoOk ρ
 olds:∀y∈old,y≤1000000
 root:∀n,t=some n→(ρ (adr n.2)).1≠0
 fr1:1≤fr
theorem IsTree.kept {w0 w w':World}{tb p q:Nat}{T V:Nat→Prop}{ρ:Rho}{t:AT}{vo:Value}{old:List Nat}{s:St}{fr ct:Nat}{L:List Ent}{fl:List Nat} (h:IsTree w0 w tb p q T V ρ t vo old s fr ct L fl) (k:Kept [] w w'):IsTree w0 w' tb p q T V ρ t vo old s fr ct L fl :=
 ⟨k.keeps h.box (by simp),h.own.kept k (by simp),h.tree.kept k (by simp),h.up,h.sz,h.sy.kept k,fun b hb=>Nat.lt_of_lt_of_le (h.lt b hb) k.size,h.ge,h.tt,h.tv,h.blank.kept k,h.ok,h.olds,h.root,h.fr1⟩
def Tre (w0 w:World) (tb p q:Nat) (V:Nat→Prop) (ρ:Rho) (t:AT) (old:List Nat) (s:St) (fr ct:Nat) (L:List Ent) (fl:List Nat):Prop:=∃T vo,IsTree w0 w tb p q T V ρ t vo old s fr ct L fl
theorem Tre.kept {w0 w w':World}{tb p q:Nat}{V:Nat→Prop}{ρ:Rho}{t:AT}{old:List Nat}{s:St}{fr ct:Nat}{L:List Ent}{fl:List Nat} (h:Tre w0 w tb p q V ρ t old s fr ct L fl) (k:Kept [] w w'):Tre w0 w' tb p q V ρ t old s fr ct L fl:=by
 obtain ⟨T,vo,h⟩:=h
 exact ⟨T,vo,h.kept k⟩
def Applied (w0 w:World) (tb p q:Nat) (V:Nat→Prop) (ρ:Rho) (t:AT) (old:List Nat) (s:St) (fr ct:Nat) (L:List Ent) (fl:List Nat) (list:List Cg) (er:Int) (w':World):Prop :=
 (er≠0∧WrongIs list er∧Kept [] w w') ∨
 (WrongIs list 0 ∧
  ((er=0∧∃ρ' t' old' s' L' fl',Tre w0 w' tb p q V ρ' t' old' s' fr ct L' fl'∧KP V w w'∧(itsT t').map kv=tapp ((itsT t).map kv) list∧(itsT t').length≤(itsT t).length+list.length∧old'.length≤old.length+1060∧s'.ws.length≤s.ws.length+1460∧s'.down=false∧(s.fuse<0→s'.fuse=s.fuse)) ∨
    (er=6∧(∃(w2:World) (F2:Nat→Prop) (ρ2:Rho) (t2:AT),IsT w2 F2 ρ2 t2∧(itsT t2).map kv=tapp ((itsT t).map kv) list∧fl.length<blT ρ2 t2)∧Kept [] w w') ∨
    (er=9∧0≤s.fuse∧∃ρ' s' fl',Tre w0 w' tb p q V ρ' t old s' fr ct L fl'∧rootN ρ' t=rootN ρ t∧KP V w w'∧s'.down=true)))
end Go.Proofs.YtgpbhlfdlkemjaaGreat
