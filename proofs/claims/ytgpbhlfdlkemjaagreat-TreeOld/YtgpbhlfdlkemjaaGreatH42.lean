import Derived.Test.YtgpbhlfdlkemjaaGreatH29
import Derived.Test.YtgpbhlfdlkemjaaGreatH41
/-
 values, as it goes: the long items of the leaves are gathered, their texts read, and they are filled.
-/
namespace Go.Proofs.YtgpbhlfdlkemjaaGreat
open Go.RowKit
set_option linter.unusedVariables false
section
variable {w:World}
set_option maxRecDepth 100000 in
set_option maxHeartbeats 4000000 in
theorem values_walk {lb:Nat}{ρ:Rho}{L:Nat→Bool}{vl:Value}{ps:List Nat}{Ks:List (List Nat)} (hps:ReadsP w vl ps) (hK:ps.length=Ks.length)
  (hB:∀(i p:Nat) (us:List Nat),ps[i]?=some p→Ks[i]?=some us→∃a b lv vi vu,w.heap[p]?=some (.cells #[a,b,lv,vi,vu] 114 (0,0))∧ReadsP w vi us) (hU:∀u∈Ks.flatten,∀W,Kept [] w W→W.cell? ⟨u,0,none⟩=some (.int .i64 ((ρ u).1:Int))∧W.cell? ⟨u,1,none⟩=some (.int .u64 ((ρ u).2:Int))∧Calls Tryz.prog 83 #[Pp u] W fun e w'=>e=.returned (.bool (L u))∧Kept [] W w') (hl:Ks.flatten.length≤100000) (hpl:ps.length≤100000)
  {I:Value→Value→Nat→World→Prop}{R:World→Prop}
  (HT:∀w1 v6 v7,Gat 100 ρ w w1 v6 v7 (Ks.flatten.filter L)→Calls Tryz.prog 104 #[Pp lb,v7] w1 fun e w2=>∃vt,e=.returned (.tuple #[vt,.int .i64 0])∧I v6 vt 0 w2)
  (HI:∀v6 vt i wr,I v6 vt i wr→i<(Ks.flatten.filter L).length→∃u b6 o6 c6 bt ot ct v,v6=.slice (some ⟨b6,o6,none⟩) (Ks.flatten.filter L).length c6∧wr.cell? ⟨b6,o6+i,none⟩=some (Pp u)∧vt=.slice (some ⟨bt,ot,none⟩) (Ks.flatten.filter L).length ct∧wr.cell? ⟨bt,ot+i,none⟩=some v∧Calls Tryz.prog 105 #[Pp u,v] wr fun e w'=>e=.returned (.bool true)∧I v6 vt (i+1) w')
  (HZ:∀v6 vt wr,I v6 vt (Ks.flatten.filter L).length wr→R wr) :
  Calls Tryz.prog 71 #[Pp lb,vl] w fun e w'=>e=.returned (.int .i64 0)∧R w':=by
 obtain ⟨al,cl,rfl,hc1,hc2⟩:=hps.form
 have H0:=Hid.mk (And.intro hps (And.intro hK (And.intro hB hU)))
 have H1:=Hid.mk (And.intro HT (And.intro HI HZ))
 clear hps hK hB hU HT HI HZ hc1 hc2
 go_enter Tryz.func71,Tryz.ntmps71
 go_wp2
 go_loopw [5,6,17] (fun v6 v7 x wr=>∃i:Nat,i≤ps.length∧x=.int .i64 (i:Int)∧Hid (Gat 100 ρ w wr v6 v7 ((Ks.take i).flatten.filter L))) (fun _ _ x _=>ps.length-(intOf x).toNat)
 case atStart=>exact ⟨0,by omega,rfl,Hid.mk (Gat.start 100 ρ w)⟩
 case round =>
  obtain ⟨i,hi,rfl,HG⟩:=hrel
  by_cases hlt:i<ps.length
  ·obtain ⟨p,hp⟩:∃p,ps[i]?=some p:=⟨_,List.getElem?_eq_getElem hlt⟩
   obtain ⟨us,hus⟩:∃us,Ks[i]?=some us:=⟨_,List.getElem?_eq_getElem (by rw [←H0.out.2.1];exact hlt)⟩
   have hk:=HG.out.kept
   obtain ⟨b,o,c',e,hcp⟩:=(H0.out.1.kept hk (by simp)).at i p hp
   injection e with e eN e2
   subst e e2
   clear eN
   obtain ⟨xa,xb,xl,vi,vu,hpb,hvu⟩:=H0.out.2.2.1 i p us hp hus
   obtain ⟨au,cu,rfl,-,-⟩:=hvu.form
   have hpw:=hk.keeps hpb (by simp)
   have d4:wr.cell? ⟨p,3,none⟩=some (.slice au us.length cu):=by simp [World.cell?,hpw]
   have HV:=Hid.mk (And.intro hvu (And.intro hus hp))
   have hul:(Ks.take i).flatten.length+us.length≤100000:=by
    have h1:=flat_take_le Ks (i+1)
    rw [flat_take hus,List.length_append] at h1
    omega
   have HLT:=Hid.mk hlt
   obtain ⟨Lx,HLx⟩:∃Lx,Hid ((Ks.take i).flatten.length=Lx):=⟨_,Hid.mk rfl⟩
   rw [HLx.out] at hul
   clear hpb hvu hpw hk hp hus
   go_wp2_with fail
   go_loopw [5,6,26] (fun v6 v7 x w'=>∃j:Nat,j≤us.length∧x=.int .i64 (j:Int)∧Hid (Gat 100 ρ w w' v6 v7 (((Ks.take i).flatten++us.take j).filter L))) (fun _ _ x _=>us.length-(intOf x).toNat)
   case atStart=>exact ⟨0,by omega,rfl,by simpa using HG⟩
   case round =>
    obtain ⟨j,hj,rfl,HG2⟩:=hrel
    by_cases hlt2:j<us.length
    ·obtain ⟨u,hu⟩:∃u,us[j]?=some u:=⟨_,List.getElem?_eq_getElem hlt2⟩
     have HUB:=Hid.mk (H0.out.2.2.2 u (flat_mem HV.out.2.1 hu))
     obtain ⟨b3,o3,c3,e3,hcu⟩:=(HV.out.1.kept HG2.out.kept (by simp)).at j u hu
     injection e3 with e3 eN e4
     subst e3 e4
     clear eN
     have HC:=Hid.mk (HUB.out wr HG2.out.kept).2.2
     have HES:Hid (us.take j++[u]=us.take (j+1)):=Hid.mk (by rw [List.take_add_one,hu];rfl)
     clear hu
     go_wp2_with fail
     refine HC.out.mono ?_
     rintro e w0 ⟨rfl,k0⟩
     have hG1:=HG2.out.later k0
     by_cases hLu:L u=true
     ·have hlen:(((Ks.take i).flatten++us.take j).filter L).length≤Lx+j:=by
       have:=List.length_filter_le L ((Ks.take i).flatten++us.take j)
       rw [List.length_append,List.length_take,HLx.out] at this
       omega
      obtain ⟨ad6,c6,w1,hrun1,k1,ad7,c7,w2,hrun2,hG2⟩:=Gat.next rt111 hG1 u (by omega) 100
      obtain ⟨d0,d1,-⟩:=HUB.out w1 k1
      have HG3:Hid (Gat 100 ρ w w2 (.slice ad6 ((((Ks.take i).flatten++us.take j).filter L).length+1) c6) (.slice ad7 ((((Ks.take i).flatten++us.take j).filter L).length+1) c7) (((Ks.take i).flatten++us.take (j+1)).filter L)):=by
       have e:((Ks.take i).flatten++us.take (j+1)).filter L=((Ks.take i).flatten++us.take j).filter L++[u]:=by
        rw [←HES.out,←List.append_assoc,List.filter_append]
        simp [hLu]
       rw [e]
       exact hG2
      generalize (((Ks.take i).flatten++us.take j).filter L).length=M at *
      clear hG2 k1 hlen hG1 HUB k0 HG2 HC
      rw [hLu]
      go_wp2_with (at_builtin;first|refine wpList_append_run 111 (.tmp 32) (.tmp 34) rfl rfl _ _ rfl rfl _ _ hrun1 ?_|refine wpList_append_run 170 (.tmp 36) (.tmp 41) rfl rfl _ _ rfl rfl _ _ hrun2 ?_)
      go_roundw
      case rel=>exact ⟨j+1,by omega,by go_num,HG3⟩
      case measure=>simp [intOf];omega
     ·have hLf:L u=false:=by simpa using hLu
      have HG3:Hid (Gat 100 ρ w w0 u5 u6 (((Ks.take i).flatten++us.take (j+1)).filter L)):=by
       have e:((Ks.take i).flatten++us.take (j+1)).filter L=((Ks.take i).flatten++us.take j).filter L:=by
        rw [←HES.out,←List.append_assoc,List.filter_append]
        simp [hLf]
       rw [e]
       exact hG1
      clear hG1 HUB k0 HG2 HC hLu
      rw [hLf]
      go_wp2_with fail
      go_roundw
      case rel=>exact ⟨j+1,by omega,by go_num,HG3⟩
      case measure=>simp [intOf];omega
    ·have hje:j=us.length:=by omega
     subst hje
     have HG3:Hid (Gat 100 ρ w wr u5 u6 ((Ks.take (i+1)).flatten.filter L)):=by
      rw [flat_take HV.out.2.1]
      have:=HG2.out
      rw [List.take_length] at this
      exact this
     clear HG2 hlt2 hj
     go_wp2_with fail
     go_roundw
     case rel=>exact ⟨i+1,by have:=HLT.out;omega,by go_num,HG3⟩
     case measure=>have:=HLT.out;simp [intOf];omega
  ·have hie:i=ps.length:=by omega
   subst hie
   rw [H0.out.2.1,List.take_length] at HG
   obtain ⟨a6,c6,rfl,-,-⟩:=HG.out.own.form
   have HC:=Hid.mk (H1.out.1 wr _ u6 HG.out)
   have HI:=Hid.mk H1.out.2.1
   have HZ:=Hid.mk H1.out.2.2
   have hN1:(Ks.flatten.filter L).length≤100000:=Nat.le_trans (List.length_filter_le ..) hl
   clear HG hlt hi H1 H0
   generalize (Ks.flatten.filter L).length=N at *
   go_wp2_with fail
   refine HC.out.mono ?_
   rintro e w2 ⟨vt,rfl,hI⟩
   have HI0:=Hid.mk hI
   clear hI HC
   go_wp2_with fail
   go_loopw [56] (fun x wr=>∃i:Nat,i≤N∧x=.int .i64 (i:Int)∧Hid (I (.slice a6 N c6) vt i wr)) (fun x _=>N-(intOf x).toNat)
   case atStart=>exact ⟨0,by omega,rfl,HI0⟩
   case round =>
    obtain ⟨i,hi,rfl,HX⟩:=hrel
    by_cases hlt:i<N
    ·obtain ⟨u,b6,o6,c6',bt,ot,ct,v,e6,d6,et,dt,hcall⟩:=HI.out _ _ i wr HX.out hlt
     injection e6 with e6 eN e7
     subst e6 e7 et
     clear eN
     have HCL:=Hid.mk hcall
     clear hcall HX HI0
     go_wp2_with fail
     refine HCL.out.mono ?_
     rintro e w5 ⟨rfl,hI5⟩
     have HI5:=Hid.mk hI5
     clear hI5
     go_wp2_with fail
     go_roundw
     case rel=>exact ⟨i+1,by omega,by go_num,HI5⟩
     case measure=>simp [intOf];omega
    ·have hie:i=N:=by omega
     subst hie
     have HF:=Hid.mk (HZ.out _ _ _ HX.out)
     clear HX HI0 hlt hi
     go_wp2_with fail
     go_ret
     exact ⟨rfl,HF.out⟩
end
theorem flat_at {α:Type}{Ks:List (List α)}{i j:Nat}{us:List α}{u:α} (h:Ks[i]?=some us) (hu:us[j]?=some u):Ks.flatten[(Ks.take i).flatten.length+j]?=some u:=by
 obtain ⟨hi,e⟩:=List.getElem?_eq_some_iff.1 h
 have e1:Ks=Ks.take i++us::Ks.drop (i+1):=by rw [←e,List.getElem_cons_drop,List.take_append_drop]
 have e2:Ks.flatten=(Ks.take i).flatten++(us++(Ks.drop (i+1)).flatten):=by
  conv=>lhs;rw [e1]
  rw [List.flatten_append,List.flatten_cons]
 rw [e2,List.getElem?_append_right (by omega),Nat.add_sub_cancel_left,List.getElem?_append_left (List.getElem?_eq_some_iff.1 hu).1]
 exact hu
def lst (K:List (List UInt8)) (n:Nat):List UInt8:=(([]:List UInt8)::K).getD n []
theorem lst_next {K:List (List UInt8)}{n:Nat}{k:List UInt8} (hk:K[n]?=some k):lst K (n+1)=k:=by simp [lst,hk]
theorem lst_lt {K:List (List UInt8)} (hp:(([]:List UInt8)::K).Pairwise (·<·)) {n:Nat}{k:List UInt8} (hk:K[n]?=some k):lst K n<k:=by
 obtain ⟨hn,e⟩:=List.getElem?_eq_some_iff.1 hk
 have h:=List.pairwise_iff_getElem.1 hp n (n+1) (by simp;omega) (by simp;omega) (by omega)
 have e1:(([]:List UInt8)::K)[n+1]'(by simp;omega)=k:=by simpa using e
 rw [e1] at h
 unfold lst
 rw [List.getD_eq_getElem?_getD,List.getElem?_eq_getElem (by simp;omega)]
 exact h
section
variable {w:World}
set_option maxRecDepth 100000 in
set_option maxHeartbeats 4000000 in
theorem isRising_any {kf:Nat→List UInt8}{vl:Value}{ps:List Nat}{Ks:List (List Nat)} (hps:ReadsP w vl ps) (hK:ps.length=Ks.length)
  (hB:∀(i p:Nat) (us:List Nat),ps[i]?=some p→Ks[i]?=some us→∃a b lv vi vu,w.heap[p]?=some (.cells #[a,b,lv,vi,vu] 114 (0,0))∧ReadsP w vi us) (hU:∀u∈Ks.flatten,∀W,Kept [] w W→W.cell? ⟨u,2,none⟩=some (Sv (kf u))) (hl:Ks.flatten.length≤100000) (hpl:ps.length≤100000) (hr:(([]:List UInt8)::Ks.flatten.map kf).Pairwise (·<·)) :
  Calls Tryz.prog 72 #[vl] w fun e w'=>e=.returned (.bool true)∧Kept [] w w':=by
 obtain ⟨al,cl,rfl,hc1,hc2⟩:=hps.form
 have H0:=Hid.mk (And.intro hps (And.intro hK (And.intro hB (And.intro hU hr))))
 clear hps hK hB hU hc1 hc2 hr
 go_enter Tryz.func72,Tryz.ntmps72
 go_wp2
 go_loopw [3,10] (fun s x wr=>∃i:Nat,i≤ps.length∧x=.int .i64 (i:Int)∧s=Sv (lst (Ks.flatten.map kf) (Ks.take i).flatten.length)∧Hid (Kept [] w wr)) (fun _ x _=>ps.length-(intOf x).toNat)
 case atStart=>exact ⟨0,by omega,rfl,rfl,Hid.mk (Kept.refl _ _)⟩
 case round =>
  obtain ⟨i,hi,rfl,rfl,HG⟩:=hrel
  by_cases hlt:i<ps.length
  ·obtain ⟨p,hp⟩:∃p,ps[i]?=some p:=⟨_,List.getElem?_eq_getElem hlt⟩
   obtain ⟨us,hus⟩:∃us,Ks[i]?=some us:=⟨_,List.getElem?_eq_getElem (by rw [←H0.out.2.1];exact hlt)⟩
   have hk:=HG.out
   obtain ⟨b,o,c',e,hcp⟩:=(H0.out.1.kept hk (by simp)).at i p hp
   injection e with e eN e2
   subst e e2
   clear eN
   obtain ⟨xa,xb,xl,vi,vu,hpb,hvu⟩:=H0.out.2.2.1 i p us hp hus
   obtain ⟨au,cu,rfl,-,-⟩:=hvu.form
   have hpw:=hk.keeps hpb (by simp)
   have d4:wr.cell? ⟨p,3,none⟩=some (.slice au us.length cu):=by simp [World.cell?,hpw]
   have HV:=Hid.mk (And.intro hvu (And.intro hus hp))
   have hul:(Ks.take i).flatten.length+us.length≤100000:=by
    have h1:=flat_take_le Ks (i+1)
    rw [flat_take hus,List.length_append] at h1
    omega
   have HLT:=Hid.mk hlt
   have HLn:Hid ((Ks.take (i+1)).flatten.length=(Ks.take i).flatten.length+us.length):=Hid.mk (by rw [flat_take hus,List.length_append])
   have HAt:Hid (∀(j u:Nat),us[j]?=some u→(Ks.flatten.map kf)[(Ks.take i).flatten.length+j]?=some (kf u)):=Hid.mk fun j u hu=>by rw [List.getElem?_map,flat_at hus hu];rfl
   generalize (Ks.take i).flatten.length=Lx at *
   clear hpb hvu hpw hk hp hus
   go_wp2_with fail
   go_loopw [3,19] (fun s x w'=>∃j:Nat,j≤us.length∧x=.int .i64 (j:Int)∧s=Sv (lst (Ks.flatten.map kf) (Lx+j))∧Hid (Kept [] w w')) (fun _ x _=>us.length-(intOf x).toNat)
   case atStart=>exact ⟨0,by omega,rfl,rfl,HG⟩
   case round =>
    obtain ⟨j,hj,rfl,rfl,HG2⟩:=hrel
    by_cases hlt2:j<us.length
    ·obtain ⟨u,hu⟩:∃u,us[j]?=some u:=⟨_,List.getElem?_eq_getElem hlt2⟩
     have d2:=H0.out.2.2.2.1 u (flat_mem HV.out.2.1 hu) wr HG2.out
     obtain ⟨b3,o3,c3,e3,hcu⟩:=(HV.out.1.kept HG2.out (by simp)).at j u hu
     injection e3 with e3 eN e4
     subst e3 e4
     clear eN
     have hkk:=HAt.out j u hu
     have hlt3:=lst_lt H0.out.2.2.2.2 hkk
     have HNX:Hid (lst (Ks.flatten.map kf) (Lx+(j+1))=kf u):=Hid.mk (lst_next hkk)
     generalize lst (Ks.flatten.map kf) (Lx+j)=l0 at *
     generalize kf u=k1 at *
     have hb1:Op.bytesLess k1 l0=false:=by rw [bytesLess_eq];simpa using klt_asymm hlt3
     have hb2:(k1 == l0)=false:=by
      simp
      rintro rfl
      exact klt_irrefl _ hlt3
     clear hu hkk hlt3
     go_wp2_with fail
     go_roundw
     case rel=>exact ⟨j+1,by omega,by go_num,by rw [HNX.out],HG2⟩
     case measure=>simp [intOf];omega
    ·have hje:j=us.length:=by omega
     subst hje
     clear hlt2 hj
     rw [←HLn.out]
     go_wp2_with fail
     go_roundw
     case rel=>exact ⟨i+1,by have:=HLT.out;omega,by go_num,rfl,HG2⟩
     case measure=>have:=HLT.out;simp [intOf];omega
  ·have hie:i=ps.length:=by omega
   subst hie
   clear hlt hi H0
   go_wp2_with fail
   go_ret
   exact ⟨rfl,HG.out⟩
end
def lvS (w:World) (v:Value):Nat:=match v with
 | .slice (some a) _ _=>match w.cell? a with
  | some (.pointer (some p))=>match w.cell? ⟨p.block,2,none⟩ with
   | some (.int _ z)=>z.toNat
   | _=>0
  | _=>0
 | _=>0
theorem lvS_eq {w:World}{b o n c p l:Nat} (h1:w.cell? ⟨b,o,none⟩=some (Pp p)) (h2:w.cell? ⟨p,2,none⟩=some (.int .i64 (l:Int))):lvS w (.slice (some ⟨b,o,none⟩) n c)=l:=by
 unfold lvS
 simp [h1,h2]
section
variable {w:World}
set_option maxRecDepth 100000 in
set_option maxHeartbeats 4000000 in
theorem load_walk {f:FuncId}{cap:Array Value}{nm:Nat} (hnm:nm≠0) (hnb:nm<65536) (hent:∀(args:Array Value) (W:World),(callFunc f args).run Tryz.prog W=.ok (.enter f args) W)
  {J:Nat→Nat→Value→Nat→World→Prop}{R:Nat→World→Prop}
  (HR:Calls Tryz.prog f (#[.slice (some ⟨w.heap.size,0,none⟩) 1 1]++cap) (w.alloc (.cells #[.int .i64 (nm:Int)] 3)) fun e w1=>∃bt ot ct nt v,e=.returned (.tuple #[.slice (some ⟨bt,ot,none⟩) nt ct,.int .i64 0])∧0<nt∧w1.cell? ⟨bt,ot,none⟩=some v ∧
   Calls Tryz.prog 68 #[.int .i64 (nm:Int),v] w1 fun e w2=>∃sm:Nat,e=.returned (.agg #[.int .i64 (nm:Int),.int .u64 (sm:Int)])∧(w2.alloc (.cells #[.int .i64 (nm:Int),.int .u64 (sm:Int),.int .i64 0,.slice none 0 0,.slice none 0 0] 114)).cell? ⟨bt,ot,none⟩=some v ∧
   Calls Tryz.prog 69 #[Pp w2.heap.size,.int .u8 2,v] (w2.alloc (.cells #[.int .i64 (nm:Int),.int .u64 (sm:Int),.int .i64 0,.slice none 0 0,.slice none 0 0] 114)) fun e w3=>e=.returned (.bool true) ∧
    ∀w4,Mp w4 w3.heap.size [((nm:Int),unit0)]→Kept [] w3 w4→∃lv:Nat,J w2.heap.size w4.heap.size (.slice (some ⟨w4.heap.size+1,0,none⟩) 1 1) lv ((w4.alloc (.cells #[.func (.func f) #[] cap,.map (some w3.heap.size)] 135)).alloc (.cells #[Pp w2.heap.size] 77)))
  (HJ:∀top lb v lv wr,J top lb v lv wr→∃b o n c p,v=.slice (some ⟨b,o,none⟩) n c∧0<n∧wr.cell? ⟨b,o,none⟩=some (Pp p)∧wr.cell? ⟨p,2,none⟩=some (.int .i64 (lv:Int))∧(∀l,lv=l+1→Calls Tryz.prog 70 #[Pp lb,v] wr fun e w'=>∃v',e=.returned (.tuple #[v',.int .i64 0])∧J top lb v' l w')∧(lv=0→Calls Tryz.prog 71 #[Pp lb,v] wr fun e w1=>e=.returned (.int .i64 0)∧Calls Tryz.prog 72 #[v] w1 fun e w2=>e=.returned (.bool true)∧R top w2)) :
  Calls Tryz.prog 41 #[.func (.func f) #[] cap,.int .i64 (nm:Int)] w fun e w'=>∃top,e=.returned (.tuple #[Pp top,.int .i64 0])∧R top w':=by
 have hnz:((nm:Int) == 0)=false:=by simp;omega
 have HC:=Hid.mk HR
 have HE:=Hid.mk hent
 have HJJ:=Hid.mk HJ
 clear HR hent HJ
 go_enter Tryz.func41,Tryz.ntmps41
 go_wp2_with (go_at_fn f)
 rw [HE.out]
 refine HC.out.mono ?_
 rintro e w1 ⟨bt,ot,ct,nt,v,rfl,hnt,d0,hC2⟩
 have HC2:=Hid.mk hC2
 clear hC2 HC
 have hnt1:(0:Int)<(nt:Int):=by omega
 go_wp2_with fail
 refine HC2.out.mono ?_
 rintro e w2 ⟨sm,rfl,d1,hC3⟩
 have HC3:=Hid.mk hC3
 clear hC3 HC2 d0
 go_wp2_with fail
 refine HC3.out.mono ?_
 rintro e w3 ⟨rfl,hC4⟩
 obtain ⟨w4,hrun4,hM4,k4⟩:=(Mp.made w3).see (k:=(nm:Int)) unit0 (wf_nat (by omega)) (by simp) (by simp)
 have k34:Kept [] w3 w4:=((Kept.refl [] w3).alloc (.map #[] 0)).trans k4 (fun x hx=>.inr (by simp at hx;omega))
 obtain ⟨lv,hJ⟩:=hC4 w4 (by simpa using hM4) k34
 have HJ0:=Hid.mk hJ
 clear hC4 HC3 d1 hM4 k4 k34 hJ
 have hmk:(Instr.makeMap 133 none).run Tryz.prog w3=.ok (.map (some w3.heap.size)) (w3.alloc (.map #[] 0)):=by kernel_rfl
 have hstf:∀(a:Addr) (W:World),(store a (.func (.func f) #[] cap) .plain).run Tryz.prog W=stored Tryz.prog W a (.func (.func f) #[] cap) .plain:=fun a W=>run_store Tryz.prog W a _ .plain rfl
 generalize w2.heap.size=top at *
 generalize w3.heap.size=mb at *
 go_wp2_with fail
 generalize w4.heap.size=lb at *
 go_loopw [10] (fun u wr=>∃l:Nat,Hid (J top lb u l wr)) (fun u wr=>lvS wr u)
 case atStart=>exact ⟨lv,HJ0⟩
 case round =>
  obtain ⟨l,HL⟩:=hrel
  obtain ⟨b,o,n,c,p,e1,hn,d0,d2,hS,hZ⟩:=HJJ.out _ _ _ _ _ HL.out
  subst e1
  have hms:=Hid.mk (lvS_eq (n:=n) (c:=c) d0 d2)
  have hn1:(0:Int)<(n:Int):=by omega
  cases l with
  | zero =>
   have HZ:=Hid.mk (hZ rfl)
   clear hS hZ HL HJ0
   go_wp2_with fail
   refine HZ.out.mono ?_
   rintro e w6 ⟨rfl,h72⟩
   have H72:=Hid.mk h72
   clear h72 HZ d0 d2 hms
   go_wp2_with fail
   refine H72.out.mono ?_
   rintro e w7 ⟨rfl,hR⟩
   have HR:=Hid.mk hR
   clear hR H72
   go_wp2_with fail
   go_ret2
   exact ⟨_,rfl,HR.out⟩
  | succ l =>
   have HS:=Hid.mk (hS l rfl)
   clear hS hZ HL HJ0
   have d2':wr.cell? ⟨p,2,none⟩=some (.int .i64 ((l:Int)+1)):=d2
   have hl0:(0:Int)<(l:Int)+1:=by omega
   clear d2
   go_wp2_with fail
   refine HS.out.mono ?_
   rintro e w6 ⟨v6,rfl,hJ6⟩
   have HJ6:=Hid.mk hJ6
   clear hJ6 HS d0 d2'
   go_wp2_with fail
   go_roundw
   case rel=>exact ⟨l,HJ6⟩
   case measure =>
    obtain ⟨b6,o6,n6,c6,p6,e6,-,d6,d7,-⟩:=HJJ.out _ _ _ _ _ HJ6.out
    subst e6
    rw [hms.out,lvS_eq d6 d7]
    omega
end
theorem rt73:RowT 73 48 1 24 (.slice none 0 0):=⟨Tryz.underlying73,by kernel_rfl,rfl,by omega,by omega⟩
def TxG (w wr:World) (vt:Value) (ls:List (List UInt8)):Prop :=
 ∃vs:List Value,OwnsR 48 1 wr vt (vs.map fun v=>[v])∧Wide 1 (vs.map fun v=>[v])∧vs.length=ls.length∧Fresh w vt∧Kept [] w wr∧∀(j:Nat) (v:Value) (l:List UInt8),vs[j]?=some v→ls[j]?=some l→Reads wr v l∧∀g,v.ownBlock=some g→w.heap.size≤g∧g<wr.heap.size∧vt.ownBlock≠some g
theorem TxG.start (w:World):TxG w w (.slice none 0 0) [] :=
 ⟨[],OwnsR.nil 48 1 w,fun r hr=>by simp at hr,rfl,fun g hg=>by simp [Value.ownBlock] at hg,Kept.refl _ _,by simp⟩
theorem TxG.kept {w wr:World}{vt:Value}{ls:List (List UInt8)} (h:TxG w wr vt ls):Kept [] w wr:=by
 obtain ⟨vs,h1,h2,h3,h4,h5,h6⟩:=h
 exact h5
theorem TxG.txs {w wr:World}{vt:Value}{ls:List (List UInt8)} (h:TxG w wr vt ls):Txs w wr vt ls:=by
 obtain ⟨vs,h1,h2,h3,h4,h5,h6⟩:=h
 exact ⟨vs,h1.reads h2,h3,fun g hg=>⟨h4 g hg,h1.lt hg⟩,fun j v l hv hl=>⟨(h6 j v l hv hl).1,fun g hg=>⟨((h6 j v l hv hl).2 g hg).1,((h6 j v l hv hl).2 g hg).2.1⟩⟩⟩
theorem TxG.next {w wr w1:World}{vt v:Value}{ls:List (List UInt8)}{l:List UInt8} (h:TxG w wr vt ls) (k1:Kept [] wr w1) (ho:Owns 5 w1 v l) (hf:Fresh wr v) (hn:ls.length≤100000) :
  ∃ad c w2,(Builtin.append_ #[73,73] 73 #[vt,.slice (some ⟨w1.heap.size,0,none⟩) 1 1]).run Tryz.prog (w1.alloc (.cells #[v] 48))=.ok (.slice ad (ls.length+1) c) w2∧TxG w w2 (.slice ad (ls.length+1) c) (ls++[l]):=by
 obtain ⟨vs,h1,h2,h3,h4,h5,h6⟩:=h
 obtain ⟨av,cv,hvf,-⟩:=ho.reads
 have hone:v.oneCell'=true:=by rw [hvf];rfl
 obtain ⟨ad,c,w2,hrun,h7,k2,n2⟩:=append_rowR rt73 (h1.kept k1 (by simp)) [v] rfl (fun u hu=>by simp at hu;subst hu;exact hone) (by rw [List.length_map,h3];omega) 48 (0,0) 73
 rw [List.length_map,h3] at hrun h7 n2
 have hz1:=k1.size
 have hz2:=k2.size
 have hz0:=h5.size
 have hlt:∀g,vt.ownBlock=some g→g<wr.heap.size:=fun g hg=>h1.lt hg
 refine ⟨ad,c,w2,hrun,vs++[v],by simpa using h7,?_,by simp [h3],fun g hg=>?_,(h5.trans k1 (by simp)).trans k2 (fun x hx=>.inr (h4 x (by simpa using hx))),fun j x y hx hy=>?_⟩
 ·intro r hr
  rw [List.map_append] at hr
  rcases List.mem_append.1 hr with hr|hr
  ·exact h2 r hr
  ·simp at hr
   subst hr
   exact ⟨rfl,fun u hu=>by simp at hu;subst hu;exact hone⟩
 ·rcases n2 g hg with h8|h8
  ·exact h4 g h8
  ·omega
 ·by_cases hj:j<vs.length
  ·rw [List.getElem?_append_left hj] at hx
   rw [List.getElem?_append_left (by omega)] at hy
   obtain ⟨h8,h9⟩:=h6 j x y hx hy
   refine ⟨(h8.kept k1 (by simp)).kept k2 (fun g hg hm=>(h9 g hg).2.2 (by simpa using hm)),fun g hg=>⟨(h9 g hg).1,by have:=(h9 g hg).2.1;omega,fun e=>?_⟩⟩
   have h10:=h9 g hg
   rcases n2 g e with h8|h8
   ·exact h10.2.2 h8
   ·omega
  ·have hj':j=vs.length:=by
    have:=(List.getElem?_eq_some_iff.1 hx).1
    simp at this
    omega
   subst hj'
   simp at hx
   rw [h3] at hy
   simp at hy
   subst hx hy
   refine ⟨ho.reads.kept k2 (fun g hg hm=>?_),fun g hg=>?_⟩
   ·have h8:=hf g hg
    have h9:=hlt g (by simpa using hm)
    omega
   ·have h8:=hf g hg
    have h9:=ho.lt hg
    refine ⟨by omega,by omega,fun e=>?_⟩
    rcases n2 g e with h10|h10
    ·have:=hlt g h10
     omega
    ·omega
section
variable {w:World}
set_option maxRecDepth 100000 in
set_option maxHeartbeats 4000000 in
theorem textsOf_any {p:Nat}{tx:Nat→List UInt8}{v:Value}{ns:List Nat} (hr:ReadsI w v ns) (hl:ns.length≤100000) (HG:∀(W:World) (n:Nat),Kept [] w W→n∈ns→Calls Tryz.prog 67 #[Pp p,.int .i64 (n:Int)] W fun e w'=>∃v,e=.returned (.tuple #[v,.int .i64 0])∧Owns 5 w' v (tx n)∧Kept [] W w'∧Fresh W v) :
  Calls Tryz.prog 40 #[Pp p,v] w fun e w'=>∃vt,e=.returned (.tuple #[vt,.int .i64 0])∧Txs w w' vt (ns.map tx)∧Kept [] w w':=by
 obtain ⟨a,c,rfl,-,-⟩:=hr.form
 have H0:=Hid.mk (And.intro hr HG)
 clear hr HG
 go_enter Tryz.func40,Tryz.ntmps40
 go_wp2
 go_loopw [6,13] (fun u x wr=>∃j:Nat,j≤ns.length∧x=.int .i64 (j:Int)∧Hid (TxG w wr u ((ns.take j).map tx))) (fun _ x _=>ns.length-(intOf x).toNat)
 case atStart=>exact ⟨0,by omega,rfl,Hid.mk (TxG.start w)⟩
 case round =>
  obtain ⟨j,hj,rfl,HX⟩:=hrel
  by_cases hlt:j<ns.length
  ·obtain ⟨n,hn⟩:∃n,ns[j]?=some n:=⟨_,List.getElem?_eq_getElem hlt⟩
   obtain ⟨b,o,c',e,d0⟩:=(H0.out.1.kept HX.out.kept (by simp)).at j n hn
   injection e with e eN e2
   subst e e2
   clear eN
   have HC:=Hid.mk (H0.out.2 wr n HX.out.kept (List.mem_of_getElem? hn))
   have HN:Hid ((ns.take (j+1)).map tx=(ns.take j).map tx++[tx n]):=Hid.mk (by rw [List.take_add_one,hn];simp)
   clear hn
   go_wp2_with fail
   refine HC.out.mono ?_
   rintro e w1 ⟨v1,rfl,ho1,k1,hf1⟩
   obtain ⟨av,cv,hvf,-⟩:=ho1.reads
   subst hvf
   obtain ⟨ad,c2,w2,hrun,hT⟩:=HX.out.next k1 ho1 hf1 (by rw [List.length_map,List.length_take];omega)
   rw [←HN.out] at hT
   rw [List.length_map,List.length_take,Nat.min_eq_left (Nat.le_of_lt hlt)] at hrun hT
   have HT:=Hid.mk hT
   clear hT ho1 k1 hf1 HX HC d0
   go_wp2_with (at_builtin;refine wpList_append_run 73 (.tmp 27) (.tmp 29) rfl rfl _ _ rfl rfl _ _ hrun ?_)
   go_roundw
   case rel=>exact ⟨j+1,by omega,by go_num,HT⟩
   case measure=>simp [intOf];omega
  ·have hje:j=ns.length:=by omega
   subst hje
   rw [List.take_length] at HX
   clear hlt hj H0
   go_wp2_with fail
   go_ret2
   exact ⟨_,rfl,HX.out.txs,HX.out.kept⟩
set_option maxRecDepth 100000 in
set_option maxHeartbeats 4000000 in
theorem open1_any {g p:Nat}{v:Value}  (d0:w.cell? ⟨g,0,none⟩=some (Pp p)) {P:Value→World→Prop} (HC:Calls Tryz.prog 40 #[Pp p,v] w fun e w'=>∃vt,e=.returned (.tuple #[vt,.int .i64 0])∧P vt w') :
  Calls Tryz.prog 39 #[v,Pp g] w fun e w'=>∃vt,e=.returned (.tuple #[vt,.int .i64 0])∧P vt w':=by
 have HC:=Hid.mk HC
 go_enter Tryz.func39,Tryz.ntmps39
 go_wp2_with fail
 refine HC.out.mono ?_
 rintro e w1 ⟨vt,rfl,hP⟩
 have HP:=Hid.mk hP
 clear hP HC d0
 go_wp2_with fail
 go_ret2
 exact ⟨_,rfl,HP.out⟩
end
theorem rdr_pages {w0 w:World}{q p g fr ct:Nat}{s:St}{L:List Ent}{fl:List Nat}{X:Nat→Prop}{tx:Nat→List UInt8} (h:SyP w0 w q p s fr ct L fl X) (hd:s.down=false) (hg:w.heap[g]?=some (.cells #[Pp p] 26 (0,0))) :
  Rdr (fun x=>x<w.heap.size) (fun n=>∃x∈L,x.1=n∧x.2.2=tx n) tx 39 #[Pp g] w:=by
 refine ⟨fun args W=>by kernel_rfl,fun S w' v ns k hS hr hl hnd hn=>?_⟩
 have k0:Kept [] w w':=k.mono (fun x hx=>.inr (by have:=hS x hx;omega))
 have hg':=k0.keeps hg (by simp)
 refine open1_any (p:=p) (by simp [World.cell?,hg']) (textsOf_any hr hl fun W n kW hm=>?_)
 obtain ⟨x,hx,rfl,e⟩:=hn n hm
 rw [←e]
 exact psy_get ((h.kept k0).kept kW) hd x hx
theorem bls_same:∀{L:List Ent},(bls L).Nodup→∀{x y:Ent},x∈L→y∈L→∀{b:Nat},b∈x.2.1→b∈y.2.1→x=y
 | [],_,_,_,hx,_,_,_,_=>by simp at hx
 | z::L,hn,x,y,hx,hy,b,hb,hc=>by
  have e:bls (z::L)=z.2.1++bls L:=by simp [bls]
  rw [e] at hn
  have h:=List.nodup_append.1 hn
  rcases List.mem_cons.1 hx with rfl|hx2<;>rcases List.mem_cons.1 hy with rfl|hy2
  ·rfl
  ·exact absurd rfl (h.2.2 b hb b (mem_bls.2 ⟨y,hy2,hc⟩))
  ·exact absurd rfl (h.2.2 b hc b (mem_bls.2 ⟨x,hx2,hb⟩))
  ·exact bls_same h.2.1 hx2 hy2 hb hc
theorem bls_each:∀{L:List Ent},(bls L).Nodup→∀{x:Ent},x∈L→x.2.1.Nodup
 | [],_,_,hx=>by simp at hx
 | z::L,hn,x,hx=>by
  have e:bls (z::L)=z.2.1++bls L:=by simp [bls]
  rw [e] at hn
  have h:=List.nodup_append.1 hn
  rcases List.mem_cons.1 hx with rfl|hx
  ·exact h.1
  ·exact bls_each h.2.1 hx
theorem bls_sub {L:List Ent} (hn:(bls L).Nodup):∀{M:List Ent},M.Nodup→(∀x∈M,x∈L)→(bls M).Nodup
 | [],_,_=>by simp [bls]
 | z::M,hd,hs=>by
  have e:bls (z::M)=z.2.1++bls M:=by simp [bls]
  rw [e]
  have hd':=List.nodup_cons.1 hd
  refine List.nodup_append.2 ⟨bls_each hn (hs z (List.mem_cons_self ..)),bls_sub hn hd'.2 (fun x hx=>hs x (List.mem_cons_of_mem _ hx)),fun a ha b hb e=>?_⟩
  subst e
  obtain ⟨x,hx,hxb⟩:=mem_bls.1 hb
  have:=bls_same hn (hs z (List.mem_cons_self ..)) (hs x (List.mem_cons_of_mem _ hx)) ha hxb
  subst this
  exact hd'.1 hx
theorem ents_of {L:List Ent}{tx:Nat→List UInt8}:∀{ns:List Nat},(∀n∈ns,∃x∈L,x.1=n∧x.2.2=tx n)→∃M:List Ent,M.map (·.1)=ns∧∀x∈M,x∈L∧x.2.2=tx x.1
 | [],_=>⟨[],rfl,by simp⟩
 | n::ns,h=>by
  obtain ⟨x,hx,rfl,e⟩:=h n (List.mem_cons_self ..)
  obtain ⟨M,h1,h2⟩:=ents_of (ns:=ns) (fun m hm=>h m (List.mem_cons_of_mem _ hm))
  exact ⟨x::M,by rw [List.map_cons,h1],fun y hy=>by
   rcases List.mem_cons.1 hy with rfl|hy
   ·exact ⟨hx,e⟩
   ·exact h2 y hy⟩
theorem sub_length {ns ms:List Nat} (hd:ns.Nodup) (hs:∀n∈ns,n∈ms):ns.length≤ms.length:=by
 induction ns generalizing ms with
 | nil=>simp
 | cons n ns ih =>
  have hd':=List.nodup_cons.1 hd
  have hm:n∈ms:=hs n (List.mem_cons_self ..)
  have h:=ih (ms:=ms.erase n) hd'.2 (fun x hx=>(List.mem_erase_of_ne (show x≠n from fun e=>hd'.1 (by rw [←e];exact hx))).2 (hs x (List.mem_cons_of_mem _ hx)))
  rw [List.length_erase_of_mem hm] at h
  have:=List.length_pos_of_mem hm
  simp
  omega
section
variable {w:World}
set_option maxRecDepth 100000 in
set_option maxHeartbeats 4000000 in
theorem names1_walk {g1 g2 g3 q:Nat}{fr ct:Int}{v:Value} (d1:w.cell? ⟨g1,0,none⟩=some (Pp q)) (d2:w.cell? ⟨g2,0,none⟩=some (.int .i64 fr)) (d3:w.cell? ⟨g3,0,none⟩=some (.int .i64 ct)) {P:Value→World→Prop} (HC:Calls Tryz.prog 11 #[Pp q,.int .i64 fr,.int .i64 ct,v] w fun e w1=>∃p,e=.returned (.tuple #[Pp p,.int .i64 0])∧Calls Tryz.prog 40 #[Pp p,v] w1 fun e w'=>∃vt,e=.returned (.tuple #[vt,.int .i64 0])∧P vt w') :
  Calls Tryz.prog 59 #[v,Pp g1,Pp g2,Pp g3] w fun e w'=>∃vt,e=.returned (.tuple #[vt,.int .i64 0])∧P vt w':=by
 have HC:=Hid.mk HC
 go_enter Tryz.func59,Tryz.ntmps59
 go_wp2_with fail
 refine HC.out.mono ?_
 rintro e w1 ⟨p,rfl,h40⟩
 have H40:=Hid.mk h40
 clear h40 HC d1 d2 d3
 go_wp2_with fail
 refine H40.out.mono ?_
 rintro e w2 ⟨vt,rfl,hP⟩
 have HP:=Hid.mk hP
 clear hP H40
 go_wp2_with fail
 go_ret2
 exact ⟨_,rfl,HP.out⟩
end
end Go.Proofs.YtgpbhlfdlkemjaaGreat
