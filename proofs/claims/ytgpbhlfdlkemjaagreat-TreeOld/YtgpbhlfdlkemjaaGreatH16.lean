import Derived.Test.YtgpbhlfdlkemjaaGreatH05
import Derived.Test.YtgpbhlfdlkemjaaGreatH15
/-
 underFor, itemAt, find.
-/
namespace Go.Proofs.YtgpbhlfdlkemjaaGreat
open Go.RowKit
set_option linter.unusedVariables false
def kpl (fs:List (List UInt8)) (key:List UInt8):Nat:=fs.countP fun x=>decide (x<key)
theorem place_kpl (key:List UInt8):∀{fs:List (List UInt8)},fs.Pairwise (·<·)→PlaceOf fs key (kpl fs key)
 | [],_=>⟨by simp [kpl],fun j x h=>by simp at h⟩
 | a::r,h=>by
  obtain ⟨h1,h2⟩:=List.pairwise_cons.1 h
  obtain ⟨i1,i2⟩:=place_kpl key h2
  by_cases ha:a<key
  ·have e:kpl (a::r) key=kpl r key+1:=by simp [kpl,ha]
   rw [e]
   refine ⟨by simp;exact i1,fun j x hx=>?_⟩
   cases j with
   | zero=>simp at hx;subst hx;simp [ha]
   | succ j=>rw [i2 j x (by simpa using hx)];omega
  ·have hn:∀x∈r,¬x<key:=fun x hx hk=>ha (klt_trans (h1 x hx) hk)
   have e:kpl (a::r) key=0:=by
    simp only [kpl,List.countP_cons,ha,decide_false,Bool.false_eq_true,if_false,Nat.add_zero]
    exact List.countP_eq_zero.2 fun x hx=>by simpa using hn x hx
   rw [e]
   refine ⟨by simp,fun j x hx=>?_⟩
   have:¬x<key:=by
    rcases List.mem_cons.1 (List.mem_of_getElem? hx) with rfl|hm
    ·exact ha
    ·exact hn x hm
   simp [this]
theorem PlaceOf.uniq {fs:List (List UInt8)}{key:List UInt8}{a b:Nat} (h:PlaceOf fs key a) (h':PlaceOf fs key b):a=b:=by
 rcases Nat.lt_trichotomy a b with hl|hl|hl
 ·obtain ⟨x,hx⟩:∃x,fs[a]?=some x:=⟨_,List.getElem?_eq_getElem (by have:=h'.1;omega)⟩
  have:=(h.2 a x hx).1 ((h'.2 a x hx).2 hl)
  omega
 ·exact hl
 ·obtain ⟨x,hx⟩:∃x,fs[b]?=some x:=⟨_,List.getElem?_eq_getElem (by have:=h.1;omega)⟩
  have:=(h'.2 b x hx).1 ((h.2 b x hx).2 hl)
  omega
theorem Searched.at {fs:List (List UInt8)}{key:List UInt8}{w w':World}{e:Ending} (hup:fs.Pairwise (·<·)) (h:Searched fs key w e w'):e=.returned (.tuple #[.int .i64 (kpl fs key:Int),.bool (decide (fs[kpl fs key]?=some key))])∧w=w':=by
 obtain ⟨a,b,rfl,h2,h3,rfl⟩:=h
 have e:=h3.uniq (place_kpl key hup)
 subst e
 refine ⟨?_,rfl⟩
 have:b=decide (fs[kpl fs key]?=some key):=by rw [Bool.eq_iff_iff,h2];simp
 rw [this]
def fks {k:Nat} (l:List (Tr k)):List (List UInt8):=l.map fun u=>((its u).head?.map Itm.key).getD []
theorem fks_length {k:Nat} (l:List (Tr k)):(fks l).length=l.length:=by simp [fks]
theorem fks_at {k:Nat}{l:List (Tr k)}{j:Nat}{u:Tr k}{i:Itm} (h:l[j]?=some u) (hi:(its u).head?=some i):(fks l)[j]?=some i.key:=by simp [fks,h,hi]
theorem fks_up {k:Nat}:∀{l:List (Tr k)},(∀u∈l,Wf u)→Up (l.flatMap its)→(fks l).Pairwise (·<·)
 | [],_,_=>List.Pairwise.nil
 | u::r,hw,hu=>by
  rw [List.flatMap_cons,Up.append] at hu
  obtain ⟨h1,h2,h3⟩:=hu
  refine List.pairwise_cons.2 ⟨fun y hy=>?_,fks_up (fun x hx=>hw x (by simp [hx])) h2⟩
  obtain ⟨x,hx,rfl⟩:=List.mem_map.1 hy
  cases e1:its u with
  | nil=>exact absurd e1 (hw u (by simp)).some
  | cons i _ =>
   cases e2:its x with
   | nil=>exact absurd e2 (hw x (by simp [hx])).some
   | cons j _ =>
    have:=h3 i (by rw [e1];simp) j (List.mem_flatMap.2 ⟨x,hx,by rw [e2];simp⟩)
    simpa [e1,e2] using this
def uIdx (fs:List (List UInt8)) (key:List UInt8):Nat:=if fs[kpl fs key]?=some key then kpl fs key else kpl fs key-1
theorem uIdx_parts {k:Nat}{l:List (Tr k)} (hw:∀u∈l,Wf u) (hu:Up (l.flatMap its)) (hl:l≠[]) (key:List UInt8):uIdx (fks l) key<l.length∧(∀p u,l[p]?=some u→p<uIdx (fks l) key→∀i∈its u,i.key<key)∧∀p u,l[p]?=some u→uIdx (fks l) key<p→∀i∈its u,key<i.key:=by
 have hup:=fks_up hw hu
 obtain ⟨h1,h2⟩:=place_kpl key hup
 rw [fks_length] at h1
 have hpos:=List.length_pos_iff.2 hl
 have hfst:∀p u,l[p]?=some u→∃i,i∈its u∧(fks l)[p]?=some i.key∧∀j∈its u,¬j.key<i.key:=fun p u hp=>by
  cases e:its u with
  | nil=>exact absurd e (hw u (List.mem_of_getElem? hp)).some
  | cons i r =>
   refine ⟨i,by simp,fks_at hp (by rw [e];rfl),fun j hj=>?_⟩
   have hm:Up (its u):=by
    obtain ⟨A,B,e2⟩:=List.append_of_mem (List.mem_of_getElem? hp)
    rw [e2,List.flatMap_append,List.flatMap_cons] at hu
    exact (Up.append.1 (Up.append.1 hu).2.1).1
   rw [e] at hm
   rcases List.mem_cons.1 hj with rfl|hj
   ·exact klt_irrefl _
   ·exact klt_asymm ((List.pairwise_cons.1 hm).1 j hj)
 have hord:∀p q u v,l[p]?=some u→l[q]?=some v→p<q→∀i∈its u,∀j∈its v,i.key<j.key:=fun p q u v hp hq hpq i hi j hj=>by
  have hq2:q<l.length:=(List.getElem?_eq_some_iff.1 hq).1
  have e2:l=l.take q++l.drop q:=(List.take_append_drop q l).symm
  rw [e2,List.flatMap_append] at hu
  refine (Up.append.1 hu).2.2 i (List.mem_flatMap.2 ⟨u,?_,hi⟩) j (List.mem_flatMap.2 ⟨v,?_,hj⟩)
  ·refine List.mem_of_getElem? (i:=p) ?_
   rw [List.getElem?_take,if_pos hpq];exact hp
  ·refine List.mem_of_getElem? (i:=0) ?_
   rw [List.getElem?_drop];exact hq
 unfold uIdx
 split
 ·rename_i hf
  have hlt:=(List.getElem?_eq_some_iff.1 hf).1
  rw [fks_length] at hlt
  obtain ⟨v,hv⟩:∃v,l[kpl (fks l) key]?=some v:=⟨_,List.getElem?_eq_getElem hlt⟩
  obtain ⟨i0,hi0,hf0,hle⟩:=hfst _ v hv
  rw [hf0] at hf
  injection hf with hf
  refine ⟨hlt,fun p u hp hpq i hi=>?_,fun p u hp hpq i hi=>?_⟩
  ·rw [←hf];exact hord p _ u v hp hv hpq i hi i0 hi0
  ·rw [←hf];exact hord _ p v u hv hp hpq i0 hi0 i hi
 ·rename_i hf
  refine ⟨by omega,fun p u hp hpq i hi=>?_,fun p u hp hpq i hi=>?_⟩
  ·obtain ⟨v,hv⟩:∃v,l[kpl (fks l) key-1]?=some v:=⟨_,List.getElem?_eq_getElem (by omega)⟩
   obtain ⟨i0,hi0,hf0,hle⟩:=hfst _ v hv
   exact klt_trans (hord p _ u v hp hv hpq i hi i0 hi0) ((h2 _ _ hf0).2 (by omega))
  ·have hlt:kpl (fks l) key<l.length:=by have:=(List.getElem?_eq_some_iff.1 hp).1;omega
   obtain ⟨v,hv⟩:∃v,l[kpl (fks l) key]?=some v:=⟨_,List.getElem?_eq_getElem hlt⟩
   obtain ⟨i0,hi0,hf0,hle⟩:=hfst _ v hv
   have hn:¬i0.key<key:=fun h=>by have:=(h2 _ _ hf0).1 h;omega
   have h0:key<i0.key:=klt_total hn (fun e=>hf (by rw [hf0,e]))
   rcases Nat.lt_or_ge (kpl (fks l) key) p with h|h
   ·exact klt_trans h0 (hord _ p v u hv hp h i0 hi0 i hi)
   ·have:p=kpl (fks l) key:=by omega
    subst this
    rw [hv] at hp
    injection hp with hp
    subst hp
    have h3:=hle i hi
    by_cases e:i0.key=i.key
    ·rw [←e];exact h0
    ·exact klt_trans h0 (klt_total h3 (fun e2=>e e2.symm))
section
variable {w:World}{F:Nat→Prop}{ρ:Rho}
set_option maxRecDepth 100000 in
set_option maxHeartbeats 400000 in
theorem itemAt_any {n:Tr 0} (h:IsN w F ρ n) (hu:Up n.2) (hl:n.2.length≤1000000) (key:List UInt8):Calls Tryz.prog 91 #[Pp n.1,Sv key] w fun e w'=>e=.returned (.tuple #[.int .i64 (kpl (n.2.map Itm.key) key:Int),.bool (decide ((n.2.map Itm.key)[kpl (n.2.map Itm.key) key]?=some key))])∧w'=w:=by
 obtain ⟨aI,cI,aU,cU,c2,c3,c4,r3,r4⟩:=h.lf
 have hup:(n.2.map Itm.key).Pairwise (·<·):=List.pairwise_map.2 hu
 have hs:=searchI aI n.2.length cI (n.2.map Itm.ad) (Hid.mk (by simp)) r3 hl key (n.2.map Itm.key) (Hid.mk (by simp)) hup (Hid.mk fun j x kx hx hk=>by
  simp only [List.getElem?_map,Option.map_eq_some_iff] at hx hk
  obtain ⟨i,hi,rfl⟩:=hx
  obtain ⟨i',hi',rfl⟩:=hk
  rw [hi] at hi'
  injection hi' with hi'
  subst hi'
  obtain ⟨a,c,-,-,d2,-,-⟩:=(h.2 i (List.mem_of_getElem? hi)).cells
  have hcm:=cmp_any i.key key w
  generalize Lib.compareBytes i.key key=r at hcm ⊢
  clear h hup hi
  go_enter Tryz.func136,Tryz.ntmps136
  go_wp2_with fail
  refine hcm.mono ?_
  rintro e w' ⟨rfl,rfl⟩
  go_wp2
  go_ret
  exact ⟨rfl,rfl⟩)
 have hs2:=hs.mono fun e w' he=>he.at hup
 clear hs h hup hu r3 r4
 generalize n.2.length=N at *
 generalize decide ((n.2.map Itm.key)[kpl (n.2.map Itm.key) key]?=some key)=B at *
 generalize kpl (n.2.map Itm.key) key=A at *
 generalize n.1=ad at *
 go_enter Tryz.func91,Tryz.ntmps91
 go_wp2_with fail
 refine hs2.mono ?_
 rintro e w' ⟨rfl,rfl⟩
 go_wp2
 go_ret2
 exact ⟨rfl,rfl⟩
set_option maxRecDepth 100000 in
set_option maxHeartbeats 400000 in
theorem underFor_any {k:Nat}{n:Tr (k+1)} (h:IsN w F ρ n) (hw:∀u∈n.2,Wf u) (hu:Up (its n)) (hl:n.2.length≤1000000) (key:List UInt8):Calls Tryz.prog 90 #[Pp n.1,Sv key] w fun e w'=>e=.returned (.int .i64 (uIdx (fks n.2) key:Int))∧w'=w:=by
 obtain ⟨aI,cI,aU,cU,c2,c3,c4,r3,r4⟩:=h.br
 have hup:=fks_up hw hu
 have hs:=searchN aU n.2.length cU (n.2.map adr) (Hid.mk (by simp)) r4 hl key (fks n.2) (Hid.mk (fks_length _)) hup (Hid.mk fun j x kx hx hk=>by
  simp only [List.getElem?_map,Option.map_eq_some_iff] at hx
  obtain ⟨u,hju,rfl⟩:=hx
  have hm:=List.mem_of_getElem? hju
  obtain ⟨i,hi⟩:∃i,(its u).head?=some i:=by
   cases e:its u with
   | nil=>exact absurd e (hw u hm).some
   | cons i r=>exact ⟨i,rfl⟩
  rw [fks_at hju hi] at hk
  injection hk with hk
  subst hk
  have hf:=first_any (h.2 u hm) (hw u hm) i hi
  have hcm:=cmp_any i.key key w
  generalize Lib.compareBytes i.key key=r at hcm ⊢
  generalize adr u=U at *
  clear h hup hi hju hm c2 c3 c4 r3 r4
  go_enter Tryz.func133,Tryz.ntmps133
  go_wp2_with fail
  refine hf.mono ?_
  rintro e w' ⟨rfl,rfl⟩
  go_wp2_with fail
  refine hcm.mono ?_
  rintro e w' ⟨rfl,rfl⟩
  go_wp2
  go_ret
  exact ⟨rfl,rfl⟩)
 have hs2:=hs.mono fun e w' he=>he.at hup
 have hle:=(place_kpl key hup).1
 rw [fks_length] at hle
 clear hs h hup hu r3 r4
 unfold uIdx
 by_cases hf:(fks n.2)[kpl (fks n.2) key]?=some key
 ·rw [if_pos hf]
  rw [decide_eq_true hf] at hs2
  clear hf
  generalize n.2.length=N at *
  generalize kpl (fks n.2) key=A at *
  generalize n.1=ad at *
  clear hw
  go_enter Tryz.func90,Tryz.ntmps90
  go_wp2_with fail
  refine hs2.mono ?_
  rintro e w' ⟨rfl,rfl⟩
  go_wp2
  go_ret
  exact ⟨rfl,rfl⟩
 ·rw [if_neg hf]
  rw [decide_eq_false hf] at hs2
  clear hf
  generalize n.2.length=N at *
  generalize kpl (fks n.2) key=A at *
  generalize n.1=ad at *
  clear hw
  go_enter Tryz.func90,Tryz.ntmps90
  go_wp2_with fail
  refine hs2.mono ?_
  rintro e w' ⟨rfl,rfl⟩
  go_wp2
  go_ret
  exact ⟨congrArg (fun x=>Ending.returned (.int .i64 x)) (by omega),rfl⟩
end
end Go.Proofs.YtgpbhlfdlkemjaaGreat
namespace Go.Proofs.YtgpbhlfdlkemjaaGreat
open Go.RowKit
def FoundAt (its:List Itm) (key:List UInt8) (e:Ending):Prop:=(∃i∈its,i.key=key∧e=.returned (Pp i.ad))∨((∀i∈its,i.key≠key)∧e=.returned (.pointer none))
section
variable {w:World}{F:Nat→Prop}{ρ:Rho}
def Few:{k:Nat}→Tr k→Prop
 | 0,n=>n.2.length≤1000000
 | k+1,n=>n.2.length≤1000000∧∀u∈n.2,Few (k:=k) u
theorem isz_pos (i:Itm):1≤isz i:=by unfold isz;split<;>omega
theorem len_le_sum:∀l:List Itm,l.length≤(l.map isz).sum
 | []=>by simp
 | i::r=>by have:=len_le_sum r;have:=isz_pos i;simp;omega
theorem Wf.few:{k:Nat}→{n:Tr k}→Wf n→Few n
 | 0,n,h=>by have:=len_le_sum n.2;have h2:(n.2.map isz).sum≤236:=h.2;show n.2.length≤1000000;omega
 | k+1,n,h=>⟨by have:=h.2.1;omega,fun u hu=>Wf.few (h.2.2.1 u hu)⟩
theorem up_sub {k:Nat}{l:List (Tr k)}{u:Tr k} (hu:Up (l.flatMap its)) (hm:u∈l):Up (its u):=by
 obtain ⟨A,B,e2⟩:=List.append_of_mem hm
 rw [e2,List.flatMap_append,List.flatMap_cons] at hu
 exact (Up.append.1 (Up.append.1 hu).2.1).1
theorem find_nil (key:List UInt8) (w:World):Calls Tryz.prog 56 #[.pointer none,Sv key] w fun e w'=>e=.returned (.pointer none)∧w'=w:=by
 go_enter Tryz.func56,Tryz.ntmps56
 go_wp2
 go_ret
 exact ⟨rfl,rfl⟩
set_option maxRecDepth 100000 in
set_option maxHeartbeats 1000000 in
theorem find_any {k:Nat}{n:Tr k} (h:IsN w F ρ n) (hw:Wf n) (hu:Up (its n)) (key:List UInt8):Calls Tryz.prog 56 #[Pp (adr n),Sv key] w fun e w'=>FoundAt (its n) key e∧∃q,w'=w.drewN q:=by
 go_enter Tryz.func56,Tryz.ntmps56
 go_wp2_with fail
 go_loopw [0] (fun v wr=>∃(j:Nat) (m:Tr j),v=Pp (adr m)∧Hid (∃q,wr=w.drewN q)∧IsN wr F ρ m∧Wf m∧Up (its m)∧Hid (∀e,FoundAt (its m) key e→FoundAt (its n) key e)) (fun v wr=>lvAt wr v)
 case atStart=>exact ⟨k,n,rfl,Hid.mk ⟨0,rfl⟩,h,hw,hu,Hid.mk fun e he=>he⟩
 case round =>
  obtain ⟨j,m,rfl,HQ,hm,hwm,hum,HF⟩:=hrel
  clear h hw hu
  cases j with
  | zero =>
   obtain ⟨aI,cI,aU,cU,c2,c3,c4,r3,r4⟩:=hm.lf
   have hit:=itemAt_any hm hum hwm.few key
   have hple:=(place_kpl key (List.pairwise_map.2 hum:(m.2.map Itm.key).Pairwise (·<·))).1
   rw [List.length_map] at hple
   by_cases hf:(m.2.map Itm.key)[kpl (m.2.map Itm.key) key]?=some key
   ·rw [decide_eq_true hf] at hit
    simp only [List.getElem?_map,Option.map_eq_some_iff] at hf
    obtain ⟨i,hi,hik⟩:=hf
    have hlt:=(List.getElem?_eq_some_iff.1 hi).1
    obtain ⟨b,o,c,e3,hc⟩:=r3.at _ i.ad (by rw [List.getElem?_map,hi];rfl)
    rw [List.length_map] at e3
    injection e3 with e3 _ e33
    subst e3 e33
    have HG:Hid (FoundAt (its n) key (.returned (Pp i.ad))):=Hid.mk (HF.out _ (.inl ⟨i,List.mem_of_getElem? hi,hik,rfl⟩))
    clear hm hwm hum HF r3 r4 hi hik
    have ha:adr m=m.1:=rfl
    rw [ha]
    generalize m.2.length=N at *
    generalize kpl (m.2.map Itm.key) key=A at *
    generalize m.1=M at *
    clear ha
    go_wp2_with fail
    refine hit.mono ?_
    rintro e w' ⟨rfl,rfl⟩
    go_wp2
    go_ret
    exact ⟨HG.out,HQ.out⟩
   ·have hno:∀i∈m.2,i.key≠key:=fun i hi e=>by
     obtain ⟨p,hp⟩:=List.getElem?_of_mem hi
     have hup:(m.2.map Itm.key).Pairwise (·<·):=List.pairwise_map.2 hum
     have hpl:=place_kpl key hup
     have hpk:(m.2.map Itm.key)[p]?=some key:=by rw [List.getElem?_map,hp,Option.map_some,e]
     rcases Nat.lt_trichotomy p (kpl (m.2.map Itm.key) key) with hl|hl|hl
     ·exact klt_irrefl _ ((hpl.2 p _ hpk).2 hl)
     ·rw [hl] at hpk;exact hf hpk
     ·have hlen:p<(m.2.map Itm.key).length:=(List.getElem?_eq_some_iff.1 hpk).1
      obtain ⟨x,hx⟩:∃x,(m.2.map Itm.key)[kpl (m.2.map Itm.key) key]?=some x:=⟨_,List.getElem?_eq_getElem (by omega)⟩
      have h3:=rising_le hup hx hpk hl
      have:=(hpl.2 _ _ hx).1 h3
      omega
    rw [decide_eq_false hf] at hit
    have HG:Hid (FoundAt (its n) key (.returned (.pointer none))):=Hid.mk (HF.out _ (.inr ⟨hno,rfl⟩))
    clear hm hwm hum HF r3 r4 hno hf
    have ha:adr m=m.1:=rfl
    rw [ha]
    generalize m.2.length=N at *
    generalize kpl (m.2.map Itm.key) key=A at *
    generalize m.1=M at *
    clear ha
    go_wp2_with fail
    refine hit.mono ?_
    rintro e w' ⟨rfl,rfl⟩
    go_wp2
    go_ret
    exact ⟨HG.out,HQ.out⟩
  | succ j =>
   obtain ⟨aI,cI,aU,cU,c2,c3,c4,r3,r4⟩:=hm.br
   have huf:=fun q2=>underFor_any (hm.kept ((Kept.refl [] wr).drewN q2) (by simp)) hwm.2.2.1 hum (by have:=hwm.2.1;omega) key
   obtain ⟨hlt,hbe,hab⟩:=uIdx_parts hwm.2.2.1 hum hwm.1 key
   obtain ⟨u,hju⟩:∃u,m.2[uIdx (fks m.2) key]?=some u:=⟨_,List.getElem?_eq_getElem hlt⟩
   obtain ⟨b,o,c,e4,hc⟩:=r4.at _ (adr u) (by rw [List.getElem?_map,hju];rfl)
   rw [List.length_map] at e4
   injection e4 with e4 _ e44
   subst e4 e44
   have hmu:=List.mem_of_getElem? hju
   have hiu:=hm.2 u hmu
   have hstep:∀e,FoundAt (its u) key e→FoundAt (its m) key e:=by
    rintro e (⟨i,hi,he⟩|⟨hno,he⟩)
    ·exact .inl ⟨i,by rw [its_succ];exact List.mem_flatMap.2 ⟨u,hmu,hi⟩,he⟩
    ·refine .inr ⟨fun i hi hk=>?_,he⟩
     rw [its_succ] at hi
     obtain ⟨v,hv,hi⟩:=List.mem_flatMap.1 hi
     obtain ⟨p,hp⟩:=List.getElem?_of_mem hv
     rcases Nat.lt_trichotomy p (uIdx (fks m.2) key) with hl|hl|hl
     ·exact klt_irrefl _ (hk▸hbe p v hp hl i hi)
     ·rw [hl,hju] at hp
      injection hp with hp
      subst hp
      exact hno i hi hk
     ·exact klt_irrefl _ (hk▸hab p v hp hl i hi)
   have HR:Hid (∀q',(∃(j:Nat) (m:Tr j),Pp (adr u)=Pp (adr m)∧Hid (∃q,wr.drewN q'=w.drewN q)∧IsN (wr.drewN q') F ρ m∧Wf m∧Up (its m)∧Hid (∀e,FoundAt (its m) key e→FoundAt (its n) key e))∧lvAt (wr.drewN q') (Pp (adr u))<lvAt wr (Pp (adr m))):=Hid.mk fun q'=>⟨⟨j,u,rfl,Hid.mk (by obtain ⟨q,e⟩:=HQ.out;exact ⟨q+q',by rw [e,World.drewN_drewN]⟩),hiu.kept ((Kept.refl [] wr).drewN q') (by simp),hwm.2.2.1 u hmu,up_sub hum hmu,Hid.mk fun e he=>HF.out e (hstep e he)⟩,by rw [lvAt_of (hiu.kept ((Kept.refl [] wr).drewN q') (by simp)),lvAt_of hm];omega⟩
   have ha:adr m=m.1:=rfl
   rw [ha] at HR ⊢
   generalize uIdx (fks m.2) key=A at *
   generalize m.2.length=N at *
   generalize m.1=M at *
   generalize adr u=U at *
   clear hm hwm hum HF r3 r4 ha hiu hmu hstep hju hbe hab
   go_wp2_with fail
   go_quiet ((go_at_call 90;exact Calls.quiet_of_same (huf _)))
   go_wp2
   exact HR.out _
end
end Go.Proofs.YtgpbhlfdlkemjaaGreat
namespace Go.Proofs.YtgpbhlfdlkemjaaGreat
set_option linter.unusedVariables false
structure RunsOk {α:Type} (sz:α→Nat) (l:List α) (R:List (List α)):Prop where
 flat:R.flatten=l
 runs:∀r∈R,r≠[]∧(r.map sz).sum≤236
 cnt:(∀x∈l,sz x=10)→2≤l.length→R.length<l.length
structure RunInv {α:Type} (sz:α→Nat) (l:List α) (C:List (List α)) (st f j:Nat):Prop where
 flat:C.flatten=l.take st
 le:st≤j
 ne:j=st→j=0
 sum:f=(((l.take j).drop st).map sz).sum
 room:f≤236
 runs:∀r∈C,r≠[]∧(r.map sz).sum≤236
 cnt:(∀x∈l,sz x=10)→2≤l.length→(C=[]∧st=0)∨C.length<st
section
variable {α:Type}{sz:α→Nat}{l:List α}{C:List (List α)}{st f j:Nat}{x:α}
theorem RunInv.start:RunInv sz l [] 0 0 0:=⟨rfl,Nat.le_refl _,fun _=>rfl,by simp,by omega,by simp,fun _ _=>.inl ⟨rfl,rfl⟩⟩
theorem take_drop_snoc (hx:l[j]?=some x) (h:st≤j):(l.take (j+1)).drop st=(l.take j).drop st++[x]:=by
 rw [List.take_add_one,hx,List.drop_append_of_le_length (by rw [List.length_take];have:=(List.getElem?_eq_some_iff.1 hx).1;omega)]
 rfl
theorem RunInv.stay (h:RunInv sz l C st f j) (hx:l[j]?=some x) (hf:j=st∨f+sz x≤236) (hs:sz x≤236):RunInv sz l C st (f+sz x) (j+1):=by
 refine ⟨h.flat,by have:=h.le;omega,fun e=>by have:=h.le;omega,?_,?_,h.runs,h.cnt⟩
 ·rw [take_drop_snoc hx h.le,List.map_append,List.sum_append,←h.sum]
  simp
 ·rcases hf with hf|hf
  ·have h0:=h.ne hf
   subst h0
   have:=h.sum
   simp at this
   omega
  ·exact hf
theorem sum_const (h:∀x∈l,sz x=10):(l.map sz).sum=10*l.length:=by
 induction l with
 | nil=>rfl
 | cons a r ih =>
  have h1:=ih fun x hx=>h x (by simp [hx])
  have h2:=h a (by simp)
  simp only [List.map_cons,List.sum_cons,List.length_cons]
  omega
theorem RunInv.cut (h:RunInv sz l C st f j) (hlt:st<j) (hx:l[j]?=some x) (hc:(l.map sz).sum≤f*(((l.map sz).sum+235) / 236)∨236<f+sz x) (hs:sz x≤236):RunInv sz l (C++[(l.take j).drop st]) j (sz x) (j+1):=by
 have hj:=(List.getElem?_eq_some_iff.1 hx).1
 refine ⟨?_,by omega,fun e=>by omega,?_,hs,fun r hr=>?_,fun h10 h2=>?_⟩
 ·rw [List.flatten_append,h.flat]
  simp only [List.flatten_cons,List.flatten_nil,List.append_nil]
  have:(l.take j).take st=l.take st:=by rw [List.take_take,Nat.min_eq_left (by omega)]
  rw [←this,List.take_append_drop]
 ·rw [take_drop_snoc hx (Nat.le_refl _),List.drop_of_length_le (by rw [List.length_take];omega)]
  simp
 ·rcases List.mem_append.1 hr with hr|hr
  ·exact h.runs r hr
  ·simp at hr
   subst hr
   refine ⟨fun e=>?_,by rw [←h.sum];exact h.room⟩
   have:=congrArg List.length e
   rw [List.length_drop,List.length_take] at this
   simp at this
   omega
 ·refine .inr ?_
  rw [List.length_append]
  simp only [List.length_cons,List.length_nil]
  rcases h.cnt h10 h2 with ⟨rfl,rfl⟩|hc2
  ·have e1:=sum_const h10
   have e2:=h10 x (List.mem_of_getElem? hx)
   have e3:=h.sum
   rw [sum_const (fun y hy=>h10 y (List.mem_of_mem_take (List.mem_of_mem_drop hy))),List.length_drop,List.length_take] at e3
   rw [e1,e2] at hc
   simp only [List.length_nil]
   refine Nat.lt_of_not_le fun hle=>?_
   have ej:j=1:=by omega
   subst ej
   have ef:f=10:=by omega
   subst ef
   omega
  ·omega
theorem RunInv.done (h:RunInv sz l C st f l.length) (hl:st=l.length):RunsOk sz l C:=by
 refine ⟨by rw [h.flat,hl,List.take_length],h.runs,fun h10 h2=>?_⟩
 rcases h.cnt h10 h2 with ⟨rfl,rfl⟩|hc
 ·simp;omega
 ·omega
theorem RunInv.last (h:RunInv sz l C st f l.length) (hl:st<l.length):RunsOk sz l (C++[l.drop st]):=by
 refine ⟨by rw [List.flatten_append,h.flat];simp,fun r hr=>?_,fun h10 h2=>?_⟩
 ·rcases List.mem_append.1 hr with hr|hr
  ·exact h.runs r hr
  ·simp at hr
   subst hr
   refine ⟨fun e=>by have:=congrArg List.length e;simp at this;omega,?_⟩
   have:=h.sum
   rw [List.take_length] at this
   rw [←this]
   exact h.room
 ·rw [List.length_append]
  simp only [List.length_cons,List.length_nil]
  rcases h.cnt h10 h2 with ⟨rfl,rfl⟩|hc
  ·simp;omega
  ·omega
end
end Go.Proofs.YtgpbhlfdlkemjaaGreat
