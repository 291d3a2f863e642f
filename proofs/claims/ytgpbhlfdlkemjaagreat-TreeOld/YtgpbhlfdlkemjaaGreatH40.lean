import Derived.Test.YtgpbhlfdlkemjaaGreatH39
/-
 fillItems: a leaf's items are taken in.
-/
namespace Go.Proofs.YtgpbhlfdlkemjaaGreat
open Go.RowKit
set_option linter.unusedVariables false
def ItOk (ρ:Rho) (i:Itm):Prop:=1≤i.key.length∧i.key.length≤64∧i.val.length≤20000∧(ρ i.ad).1<65536∧(ρ i.ad).2<18446744073709551616
theorem encItem_isz {ρ:Rho}{i:Itm} (h:ItOk ρ i):(encItem ρ i).length=isz i:=by
 rw [encItem_length]
 show _=(if 236<3+i.key.length+i.val.length then 14+i.key.length else 3+i.key.length+i.val.length)
 obtain ⟨h1,h2,h3,-⟩:=h
 by_cases hg:236<3+i.key.length+i.val.length
 ·have hv:i.val≠[]:=fun e=>by rw [e] at hg;simp at hg;omega
  rw [if_pos hg,if_pos hg,if_neg hv]
 ·rw [if_neg hg,if_neg hg]
section
variable {w:World}
set_option maxRecDepth 100000 in
set_option maxHeartbeats 4000000 in
theorem fillItems_any {a nm sm:Nat}{ρ:Rho} (hb:w.heap[a]?=some (.cells #[.int .i64 (nm:Int),.int .u64 (sm:Int),.int .i64 0,.slice none 0 0,.slice none 0 0] 114 (0,0))) {v:Value}{is:List Itm} (hva:∀g,v.ownBlock=some g→g≠a) (hr:Reads w v (is.flatMap (encItem ρ))) (hok:∀i∈is,ItOk ρ i) (hl:is.length≤1000):Calls Tryz.prog 103 #[Pp a,v] w fun e w'=>e=.returned (.bool true)∧∃sp vi,Leaf w w' ρ a nm sm is sp vi:=by
 obtain ⟨ad,cap,rfl,hrd⟩:=id hr
 have ha:a<w.heap.size:=lt_of_block hb
 have HU0:=Hid.mk (And.intro (Leaf.start (ρ:=ρ) hb) (And.intro hr (And.intro hva ha)))
 have HOK:=Hid.mk hok
 clear hrd hb hr hva hok ha
 go_enter Tryz.func103,Tryz.ntmps103
 go_wp2
 go_loopw [1] (fun u wr=>∃(j:Nat) (sp:List (Nat × Nat × Nat)) (vi:Value) (ad:Option Addr) (m c:Nat),u=.slice ad m c∧Hid (m=((is.drop j).flatMap (encItem ρ)).length)∧j≤is.length∧Hid (Reads w u ((is.drop j).flatMap (encItem ρ))∧(∀g,u.ownBlock=some g→g≠a)∧Leaf w wr ρ a nm sm (is.take j) sp vi)) (fun u _=>slN u)
 case atStart=>exact ⟨0,[],_,ad,_,cap,rfl,Hid.mk (by simp),by omega,Hid.mk ⟨HU0.out.2.1,HU0.out.2.2.1,HU0.out.1⟩⟩
 case round =>
  obtain ⟨j,sp,vi,ad,m,c,rfl,HM,hj,HX⟩:=hrel
  obtain ⟨hrd,hne,hU⟩:=HX.out
  by_cases hlt:j<is.length
  ·have hd:is.drop j=is[j]::is.drop (j+1):=List.drop_eq_getElem_cons hlt
   generalize hrj:is[j]=i at hd
   have him:i∈is:=by rw [←hrj];exact List.getElem_mem hlt
   have hio:=HOK.out i him
   have e1:(is.drop j).flatMap (encItem ρ)=encItem ρ i++(is.drop (j+1)).flatMap (encItem ρ):=by rw [hd,List.flatMap_cons]
   have hil:=encItem_isz hio
   have hip:=isz_pos i
   have hme:m=isz i+((is.drop (j+1)).flatMap (encItem ρ)).length:=by rw [HM.out,e1,List.length_append,hil]
   have hm0:(0:Int)<m:=by omega
   have hm1:0<m:=by omega
   have hka:Kept [a] w wr:=hU.kept
   have hrw:Reads wr (.slice ad m c) (encItem ρ i++(is.drop (j+1)).flatMap (encItem ρ)):=by
    rw [←e1]
    exact hrd.kept hka (fun g hg hm=>hne g hg (by simpa using hm))
   have HC:=Hid.mk (itemIn_any hrw hio.1 hio.2.1 hio.2.2.1 hio.2.2.2.1 hio.2.2.2.2)
   have hml:m=((is.drop j).flatMap (encItem ρ)).length:=HM.out
   have hsf:=slice_from (P:=Tryz.prog) 48 5 Tryz.underlying48 (fun W=>by kernel_rfl) .i64 ad c (isz i) ((is.drop j).flatMap (encItem ρ)) w (by rw [←hml];exact hrd) (by rw [←hml];omega)
   rw [←hml] at hsf
   obtain ⟨a',c',hsl,hr',hwi⟩:=hsf
   have hr2:Reads w (.slice a' (m-isz i) c') ((is.drop (j+1)).flatMap (encItem ρ)):=by
    rw [e1,List.drop_left' hil] at hr'
    exact hr'
   have HF:=Hid.mk (And.intro hr2 (And.intro hwi hne))
   have hsl1:∀W,(Instr.slice 48 (.slice ad m c) (some (.int .i64 (isz i:Int))) none none).run Tryz.prog W=.ok (.slice a' (m-isz i) c') W:=hsl
   have hsl2:sp.length≤1000:=by rw [hU.len,List.length_take];omega
   have HN:=Hid.mk hU
   have HM2:Hid (m-isz i=((is.drop (j+1)).flatMap (encItem ρ)).length):=by show _=_;omega
   have het:is.take (j+1)=is.take j++[i]:=by rw [List.take_add_one,List.getElem?_eq_getElem hlt,hrj];rfl
   have HET:=Hid.mk het
   have HIO:=Hid.mk hio
   have HL:=Hid.mk (And.intro hm1 (And.intro hip (And.intro hlt hsl2)))
   clear hsl hr' hr2 hwi hne hrd hU hd hrj e1 hka hrw him hj hil hme hml hio het HX HM hsl2
   go_wp2_with fail
   refine HC.out.mono ?_
   rintro e w1 ⟨p,rfl,hit,k1⟩
   obtain ⟨ad4,c4,w4,hrun,hc0,hf0,hL4,hit4⟩:=HN.out.next HU0.out.2.2.2 i p k1 hit HL.out.2.2.2
   have hc3:w1.cell? ⟨a,3,none⟩=some vi:=by have:=k1.keeps HN.out.node (by simp);simp [World.cell?,this]
   have HL4:=Hid.mk hL4
   have hvm:(half i).length≤maxLen:=by
    have h1:=half_length i HIO.out.2.1
    have h2:=HIO.out.2.2.1
    have h3:(20000:Nat)≤maxLen:=by decide
    omega
   have hii:IsI (w4.setCell ⟨a,3,none⟩ (.slice ad4 (sp.length+1) c4)) (fun _=>True) (fun _=>refOf ρ i) ⟨p,i.key,half i⟩:=ItB.isI (ρ:=fun _=>refOf ρ i) hit4 (fun _ _ _=>trivial) hvm
   have HSz:=Hid.mk (item_size hii (by have:=HIO.out.2.1;show i.key.length≤1000;omega) (by have h1:=half_length i HIO.out.2.1;have h2:=HIO.out.2.2.1;show (half i).length≤100000;omega))
   have hsz:isz (⟨p,i.key,half i⟩:Itm)=isz i:=by
    show (if 236<3+i.key.length+(half i).length then 14+i.key.length else 3+i.key.length+(half i).length)=(if 236<3+i.key.length+i.val.length then 14+i.key.length else 3+i.key.length+i.val.length)
    rw [half_length i HIO.out.2.1]
   rw [hsz] at HSz
   clear hL4 hii hsz hit hit4 k1 HC
   go_wp2_with (at_builtin;refine wpList_append_run 111 (.tmp 17) (.tmp 19) rfl rfl _ _ rfl rfl _ _ hrun ?_)
   refine HSz.out.mono ?_
   rintro e w6 ⟨rfl,q6,hw6⟩
   have HL6:Hid (Leaf w w6 ρ a nm sm (is.take j++[i]) (sp++[(p,wr.heap.size,w1.heap.size)]) (.slice ad4 (sp.length+1) c4)):=by
    rw [hw6]
    have h:=HL4.out
    have kq:=(Kept.refl [] (w4.setCell ⟨a,3,none⟩ (.slice ad4 (sp.length+1) c4))).drewN q6
    exact ⟨h.node,h.own.kept kq (by simp),h.len,fun j s i' hs hi=>(h.item j s i' hs hi).kept kq (by simp),h.rise,h.new,h.apart,h.kept.drewN q6⟩
   clear hw6 HSz hrun hc0 hf0 hc3 HL4
   go_wp2
   go_roundw
   case rel =>
    have HL7:Hid (Leaf w w6 ρ a nm sm (is.take (j+1)) (sp++[(p,wr.heap.size,w1.heap.size)]) (.slice ad4 (sp.length+1) c4)):=by rw [HET.out];exact HL6
    exact ⟨j+1,_,_,a',m-isz i,c',rfl,HM2,by have:=HL.out.2.2.1;omega,Hid.mk ⟨HF.out.1,fun g hg=>HF.out.2.2 g (HF.out.2.1 g hg),HL7.out⟩⟩
   case measure=>have:=HL.out;simp [slN];omega
  ·have hj':j=is.length:=by omega
   have hm0:m=0:=by rw [HM.out,hj'];simp
   have HN:=Hid.mk (And.intro hU hj')
   clear hU hrd hne HM hlt hj hj' HX
   subst hm0
   go_wp2
   go_ret
   obtain ⟨h1,h2⟩:=HN.out
   rw [h2,List.take_length] at h1
   exact ⟨rfl,sp,vi,h1⟩
end
theorem step_copy_run {w:World}{ops:Array Oper}{o:Oper}{a:Act}{Q:Exit→Act→World→Prop} (dT sT:TypeId) (d s:Operand) (ho:o.op=.call { callee:=.builtin .copy,args:=#[d,s],argTypes:=#[dT,sT] }) (hg:o.guard=none) (v y:Value) (hs:a.eval d=v) (hx:a.eval s=y) {K:Act→World→Prop}{E:Prop}{r:Value}{w':World} (hrun:(Builtin.copy_ #[dT,sT] o.type #[v,y]).run Tryz.prog w=.ok r w') (hK:K (a.put o.dst r) w') :
  if Region.wanted o (yielded ops a.tmps)=true then Oper.wp Tryz.prog o a w K Q else E:=by
 have hw:Region.wanted o (yielded ops a.tmps)=true:=by simp [Region.wanted,hg]
 rw [if_pos hw]
 unfold Oper.wp execOp
 simp only [ho,resolve,invoke,builtin,Sem.run_bind,Sem.run_pure,Result.andThen_ok,List.map_toArray,List.map_cons,List.map_nil,hs,hx,hrun]
 exact hK
theorem slice_one (g n:Nat) (h1:1≤n) (hn:n≤100000) (W:World):(Instr.slice 48 (.slice (some ⟨g,0,none⟩) (n+1) (n+1)) (some (.int .i64 1)) none none).run Tryz.prog W=.ok (.slice (some ⟨g,1,none⟩) n n) W:=by
 have ht':Tryz.prog.underlying 48=some (.slice (Tryz.prog.elem 48)):=by simp [Program.elem,Tryz.underlying48]
 have he:Tryz.prog.elem 48=5:=by simp [Program.elem,Tryz.underlying48]
 have hz:∀w,(Go.sizeOf 5).run Tryz.prog w=.ok 1 w:=fun w=>by kernel_rfl
 have h:=run_slice_l W 48 (some ⟨g,0,none⟩) (n+1) (n+1) ht' .i64 1 (by omega) (by omega)
 rw [h,he,hz]
 simp [Result.andThen,sliced,Addr.add]
 omega
section
variable {w:World}
set_option maxRecDepth 100000 in
set_option maxHeartbeats 4000000 in
theorem itemFill_any {lo hi p:Nat}{r:Nat × Nat}{key:List UInt8}{x:UInt8}{z t:List UInt8}{v:Value} (h:ItB w lo hi p r key (x::z)) (hr:Reads w v (1::t)) (hz:z.length=t.length) (hl:t.length≤20000) (hl1:1≤t.length) :
  Calls Tryz.prog 105 #[Pp p,v] w fun e w'=>e=.returned (.bool true)∧ItB w' lo hi p r key (x::t)∧∃g,lo≤g∧g<hi∧Kept [g] w w':=by
 obtain ⟨g,hb,hR,hg1,hg2,hgp⟩:=h.box
 have hp:=h.hp
 rcases reads_cases hr with ⟨a,cap,rfl,he,_⟩|⟨b,o,cap,rfl,hc1,hc2,hc⟩
 ·simp at he
 have d0:w.cell? ⟨b,o,none⟩=some (.int .u8 1):=hc 0 _ rfl
 have hlen:(x::z).length=t.length+1:=by simp [hz]
 have hlen2:((1:UInt8)::t).length=t.length+1:=by simp
 obtain ⟨a5,c5,hs5,hr5,hw5⟩:=slice_from (P:=Tryz.prog) 48 5 Tryz.underlying48 (fun W=>by kernel_rfl) .i64 (some ⟨b,o,none⟩) cap 1 (1::t) w hr (by simp)
 rw [hlen2] at hs5 hr5 hc1 ⊢
 rw [hlen] at hb
 obtain ⟨c0,c1,c2,c3⟩:=cells4 hb
 have hr5':Reads w (.slice a5 t.length c5) t:=by simpa using hr5
 have hs5':∀W,(Instr.slice 48 (.slice (some ⟨b,o,none⟩) (t.length+1) cap) (some (.int .i64 1)) none none).run Tryz.prog W=.ok (.slice a5 t.length c5) W:=by simpa using hs5
 have hs6:=slice_one g t.length hl1 (by omega)
 have hspl:splice (x::z) 1 t=x::t:=by
  unfold splice
  simp [hz]
  omega
 obtain ⟨w3,hrun,hR3,k3⟩:=copy_part w.drew g 1 t.length t.length (x::z) a5 t.length c5 t hR hr5' rfl (Nat.le_refl _) (by simp [hz];omega)
 rw [hspl] at hR3
 have hb3:w3.heap[p]?=some (.cells #[.int .i64 (r.1:Int),.int .u64 (r.2:Int),.string ⟨key.toArray⟩,.slice (some ⟨g,0,none⟩) (t.length+1) (t.length+1)] 104 (0,0)):=k3.keeps hb (by simpa using hgp.symm)
 have HE:Hid (ItB w3 lo hi p r key (x::t)∧Kept [g] w w3):=⟨⟨⟨g,by simpa using hb3,hR3,hg1,hg2,hgp⟩,hp⟩,((Kept.refl [g] w).drew).trans k3 (fun x hx=>.inl hx)⟩
 have HG:=Hid.mk (And.intro hg1 hg2)
 have hn0:(0:Int)<(t.length:Int)+1:=by omega
 have hn1:((t.length:Int)+1 != (t.length:Int)+1)=false:=by simp
 have S0:w.drew.cell? ⟨p,3,none⟩=some (.slice (some ⟨g,0,none⟩) (t.length+1) (t.length+1)):=c3
 have S3:w3.cell? ⟨p,3,none⟩=some (.slice (some ⟨g,0,none⟩) (t.length+1) (t.length+1)):=by simp [World.cell?,hb3]
 clear h hb hR hr hc hs5 hr5 hr5' hw5 c0 c1 c2 hb3 k3 hR3 hlen hlen2 hspl hp hg1 hg2
 generalize t.length=n at *
 go_enter Tryz.func105,Tryz.ntmps105
 go_wp2_with fail
 go_region_held3 (fun V=>V.cell? ⟨p,3,none⟩=some (.slice (some ⟨g,0,none⟩) (n+1) (n+1))) (first|exact S0|exact S3) (first|(refine step_copy_run 48 48 (.tmp 23) (.tmp 25) (by rfl) (by rfl) _ _ (by rfl) (by rfl) hrun ?_))
 all_goals
  go_wp2_with fail
  go_ret
  exact ⟨rfl,HE.out.1,g,HG.out.1,HG.out.2,HE.out.2⟩
end
theorem node_set {w:World}{a nm sm k:Nat} (hb:Bare w a (nm,sm)):(w.setCell ⟨a,2,none⟩ (.int .i64 (k:Int))).heap[a]?=some (.cells #[.int .i64 (nm:Int),.int .u64 (sm:Int),.int .i64 (k:Int),.slice none 0 0,.slice none 0 0] 114 (0,0)):=by
 rw [setCell_eq_setRow w a 2 _ 114 (0,0) _ hb,setRow_heap w a _ _ 114 _ hb]
 rfl
theorem Leaf.back {w w1 w':World}{ρ:Rho}{a nm sm:Nat}{is:List Itm}{sp:List (Nat × Nat × Nat)}{vi:Value} (h:Leaf w1 w' ρ a nm sm is sp vi) (k:Kept [a] w w1) (hs:w.heap.size=w1.heap.size):Leaf w w' ρ a nm sm is sp vi :=
 ⟨h.node,h.own,h.len,h.item,h.rise,fun s hs'=>by rw [hs];exact h.new s hs',fun g hg=>by rw [hs];exact h.apart g hg,k.trans h.kept (fun x hx=>.inl hx)⟩
theorem Under.back {w w1 w':World}{a nm sm lv:Nat}{rs:List (Nat × Nat)}{us:List Nat}{vu:Value} (h:Under w1 w' a nm sm lv rs us vu) (k:Kept [a] w w1) (hs:w.heap.size=w1.heap.size):Under w w' a nm sm lv rs us vu :=
 ⟨h.node,h.own,h.len,h.bare,fun u hu=>by rw [hs];exact h.new u hu,h.nodup,fun g hg=>by rw [hs];exact h.apart g hg,k.trans h.kept (fun x hx=>.inl hx)⟩
section
variable {w:World}
set_option maxRecDepth 100000 in
set_option maxHeartbeats 4000000 in
theorem fill_leaf {a nm sm:Nat}{ρ:Rho}{kd:UInt8} (hb:Bare w a (nm,sm)) {v:Value}{n:Tr 0} (hva:∀g,v.ownBlock=some g→g≠a) (hr:Reads w v (encNode kd ρ n)) (hok:∀i∈n.2,ItOk ρ i) (hl:n.2.length≤1000) (hlen:(encNode kd ρ n).length≤238) (hne:n.2≠[]) :
  Calls Tryz.prog 69 #[Pp a,.int .u8 (kd.toNat:Int),v] w fun e w'=>e=.returned (.bool true)∧∃sp vi,Leaf w w' ρ a nm sm n.2 sp vi:=by
 have hk2:3≤(encKids ρ n).length:=by
  show 3≤(n.2.flatMap (encItem ρ)).length
  cases hn:n.2 with
  | nil=>exact absurd hn hne
  | cons i is =>
   rw [List.flatMap_cons,List.length_append]
   simp only [encItem,List.length_append,List.length_cons,List.length_nil]
   omega
 have hln:(encNode kd ρ n).length=2+(encKids ρ n).length:=by unfold encNode;simp;omega
 rcases reads_cases hr with ⟨ad,cap,rfl,he,_⟩|⟨b,o,cap,rfl,hc1,hc2,hc⟩
 ·simp [encNode] at he
 have d0:w.cell? ⟨b,o,none⟩=some (.int .u8 (kd.toNat:Int)):=hc 0 _ rfl
 have d1:w.cell? ⟨b,o+1,none⟩=some (.int .u8 0):=by
  have:=hc 1 (by8 0 0) rfl
  simpa [B8,by8] using this
 have hbl:b≠a:=hva b (by simp [Value.ownBlock])
 obtain ⟨a5,c5,hs5,hr5,hw5⟩:=slice_from (P:=Tryz.prog) 48 5 Tryz.underlying48 (fun W=>by kernel_rfl) .i64 (some ⟨b,o,none⟩) cap 2 (encNode kd ρ n) w hr (by rw [hln];omega)
 have ha:a<w.heap.size:=lt_of_block hb
 have c2:w.cell? ⟨a,2,none⟩=some (.int .i64 0):=by have h:w.heap[a]?=_:=hb;simp [World.cell?,h]
 have f2:w.frozen? ⟨a,2,none⟩=false:=by have h:w.heap[a]?=_:=hb;simp [World.frozen?,h]
 have ks:Kept [a] w (w.setCell ⟨a,2,none⟩ (.int .i64 0)):=(Kept.refl [a] w).setCell (.inl (by simp)) _
 have hnb:(w.setCell ⟨a,2,none⟩ (.int .i64 0)).heap[a]?=some (.cells #[.int .i64 (nm:Int),.int .u64 (sm:Int),.int .i64 0,.slice none 0 0,.slice none 0 0] 114 (0,0)):=node_set (k:=0) hb
 have hdr:(encNode kd ρ n).drop 2=n.2.flatMap (encItem ρ):=rfl
 rw [hdr] at hr5
 have hv5:∀g,(Value.slice a5 ((encNode kd ρ n).length-2) c5).ownBlock=some g→g≠a:=fun g hg=>hva g (hw5 g hg)
 have HF:=Hid.mk (fillItems_any (ρ:=ρ) hnb hv5 (hr5.kept ks (fun g hg hm=>hv5 g hg (by simpa using hm))) hok hl)
 have hs5':∀W,(Instr.slice 48 (.slice (some ⟨b,o,none⟩) (encNode kd ρ n).length cap) (some (.int .i64 2)) none none).run Tryz.prog W=.ok (.slice a5 ((encNode kd ρ n).length-2) c5) W:=hs5
 have hsz:w.heap.size=(w.setCell ⟨a,2,none⟩ (.int .i64 0)).heap.size:=by simp
 have HX:=Hid.mk (And.intro ks hsz)
 have hL:¬((encNode kd ρ n).length:Int)≤2:=by omega
 have hL2:¬(238:Int)<((encNode kd ρ n).length:Int):=by omega
 have hL0:(0:Int)<((encNode kd ρ n).length:Int):=by omega
 have hL1:(1:Int)<((encNode kd ρ n).length:Int):=by omega
 have hN0:0<(encNode kd ρ n).length:=by omega
 have hN1:1<(encNode kd ρ n).length:=by omega
 have hkd:((kd.toNat:Int) != (kd.toNat:Int))=false:=by simp
 have d1':(w.setCell ⟨a,2,none⟩ (.int .i64 0)).cell? ⟨a,2,none⟩=some (.int .i64 0):=by simp [World.cell?,hnb]
 clear hb hr hc hs5 hr5 hw5 hva hv5 hnb ks hsz hdr hk2 hln hok
 generalize (encNode kd ρ n).length=m at *
 go_enter Tryz.func69,Tryz.ntmps69
 go_wp2_with fail
 refine HF.out.mono ?_
 rintro e w2 ⟨rfl,sp,vi,hL⟩
 go_wp2_with fail
 go_ret
 exact ⟨rfl,sp,vi,hL.back HX.out.1 HX.out.2⟩
set_option maxRecDepth 100000 in
set_option maxHeartbeats 4000000 in
theorem fill_branch {a nm sm k:Nat}{ρ:Rho}{kd:UInt8} (hb:Bare w a (nm,sm)) {v:Value}{n:Tr (k+1)} (hva:∀g,v.ownBlock=some g→g≠a) (hr:Reads w v (encNode kd ρ n)) (hok:∀u∈n.2,(ρ (adr u)).1<65536∧(ρ (adr u)).2<18446744073709551616) (hlen:(encNode kd ρ n).length≤238) (hne:n.2≠[]) (hk:k+1<256) :
  Calls Tryz.prog 69 #[Pp a,.int .u8 (kd.toNat:Int),v] w fun e w'=>e=.returned (.bool true)∧∃us vu,Under w w' a nm sm (k+1) (n.2.map fun u=>ρ (adr u)) us vu:=by
 have hkids:encKids ρ n=(n.2.map fun u=>ρ (adr u)).flatMap encRef:=by
  show (n.2.flatMap fun u=>encRef (ρ (adr u)))=_
  rw [List.flatMap_map]
 have hk2:10≤(encKids ρ n).length:=by
  rw [hkids,refs_length,List.length_map]
  have:=List.length_pos_iff.2 hne
  omega
 have hln:(encNode kd ρ n).length=2+(encKids ρ n).length:=by unfold encNode;simp;omega
 have hl:(n.2.map fun u=>ρ (adr u)).length≤1000:=by
  have:=refs_length (n.2.map fun u=>ρ (adr u))
  rw [←hkids] at this
  omega
 rcases reads_cases hr with ⟨ad,cap,rfl,he,_⟩|⟨b,o,cap,rfl,hc1,hc2,hc⟩
 ·simp [encNode] at he
 have d0:w.cell? ⟨b,o,none⟩=some (.int .u8 (kd.toNat:Int)):=hc 0 _ rfl
 have d1:w.cell? ⟨b,o+1,none⟩=some (.int .u8 ((k:Int)+1)):=by
  have:=hc 1 (by8 (k+1) 0) rfl
  rw [this]
  have e:(by8 (k+1) 0).toNat=k+1:=by rw [by8_nat];simp;omega
  unfold B8
  rw [e]
  rfl
 have hbl:b≠a:=hva b (by simp [Value.ownBlock])
 obtain ⟨a5,c5,hs5,hr5,hw5⟩:=slice_from (P:=Tryz.prog) 48 5 Tryz.underlying48 (fun W=>by kernel_rfl) .i64 (some ⟨b,o,none⟩) cap 2 (encNode kd ρ n) w hr (by rw [hln];omega)
 have ha:a<w.heap.size:=lt_of_block hb
 have c2:w.cell? ⟨a,2,none⟩=some (.int .i64 0):=by have h:w.heap[a]?=_:=hb;simp [World.cell?,h]
 have f2:w.frozen? ⟨a,2,none⟩=false:=by have h:w.heap[a]?=_:=hb;simp [World.frozen?,h]
 have ks:Kept [a] w (w.setCell ⟨a,2,none⟩ (.int .i64 ((k:Int)+1))):=(Kept.refl [a] w).setCell (.inl (by simp)) _
 have ek:((k+1:Nat):Int)=(k:Int)+1:=by omega
 have hnb:=node_set (k:=k+1) hb
 rw [ek] at hnb
 have hnb':=hnb
 rw [←ek] at hnb
 have hdr:(encNode kd ρ n).drop 2=encKids ρ n:=rfl
 rw [hdr,hkids] at hr5
 have hv5:∀g,(Value.slice a5 ((encNode kd ρ n).length-2) c5).ownBlock=some g→g≠a:=fun g hg=>hva g (hw5 g hg)
 have hF:=fillUnder_any (w:=w.setCell ⟨a,2,none⟩ (.int .i64 ((k:Int)+1))) (a:=a) (nm:=nm) (sm:=sm) (lv:=k+1) (by rw [ek];exact hnb') hv5 (hr5.kept ks (fun g hg hm=>hv5 g hg (by simpa using hm))) (fun r hr=>by
  obtain ⟨u,hu,rfl⟩:=List.mem_map.1 hr
  exact hok u hu) hl
 have HF:=Hid.mk hF
 have hs5':∀W,(Instr.slice 48 (.slice (some ⟨b,o,none⟩) (encNode kd ρ n).length cap) (some (.int .i64 2)) none none).run Tryz.prog W=.ok (.slice a5 ((encNode kd ρ n).length-2) c5) W:=hs5
 have hsz:w.heap.size=(w.setCell ⟨a,2,none⟩ (.int .i64 ((k:Int)+1))).heap.size:=by simp
 have HX:=Hid.mk (And.intro ks hsz)
 have hL:¬((encNode kd ρ n).length:Int)≤2:=by omega
 have hL2:¬(238:Int)<((encNode kd ρ n).length:Int):=by omega
 have hL0:(0:Int)<((encNode kd ρ n).length:Int):=by omega
 have hL1:(1:Int)<((encNode kd ρ n).length:Int):=by omega
 have hN0:0<(encNode kd ρ n).length:=by omega
 have hN1:1<(encNode kd ρ n).length:=by omega
 have hkd:((kd.toNat:Int) != (kd.toNat:Int))=false:=by simp
 have hk0:(0:Int)<(k:Int)+1:=by omega
 have hwk:IntKind.i64.wrap ((k:Int)+1)=(k:Int)+1:=by rw [IntKind.wrap_i64];omega
 have d1':(w.setCell ⟨a,2,none⟩ (.int .i64 ((k:Int)+1))).cell? ⟨a,2,none⟩=some (.int .i64 ((k:Int)+1)):=by simp [World.cell?,hnb']
 clear hb hr hc hs5 hr5 hw5 hva hv5 hnb hnb' ks hsz hdr hk2 hln hok hF hkids hl
 generalize (encNode kd ρ n).length=m at *
 go_enter Tryz.func69,Tryz.ntmps69
 go_wp2_with fail
 refine HF.out.mono ?_
 rintro e w2 ⟨rfl,us,vu,hU⟩
 go_wp2_with fail
 go_ret
 exact ⟨rfl,us,vu,hU.back HX.out.1 HX.out.2⟩
end
end Go.Proofs.YtgpbhlfdlkemjaaGreat
namespace Go.Proofs.YtgpbhlfdlkemjaaGreat
open Go.RowKit
open Go.Maps (Keyed)
set_option linter.unusedVariables false
abbrev unit0:Value:=.agg #[]
theorem zero132 (w:World):(zeroValue 132).run Tryz.prog w=.ok unit0 w:=by kernel_rfl
theorem Mp.unseen {w:World}{b:Nat}{m:List (Int × Value)} (h:Mp w b m) {k:Int} (hw:(Lit.int .i64 k).wf=true) (hm:k∉m.map (·.1)):(Instr.lookup 133 (.map (some b)) (.int .i64 k) true).run Tryz.prog w=.ok (.tuple #[unit0,.bool false]) w:=by
 obtain ⟨D,h1,h2,h3,_⟩:=h.own
 obtain ⟨v',ps,hrun,hv⟩:=h1.look_ok law3 Tryz.underlying133 (zero132 w) (zd:=.held unit0) (zp:=[]) rfl (key3 hw)
 rw [h2,any_not hm] at hrun
 rw [Maps.atKey_of_not_has (by rw [h2,any_not hm])] at hv
 unfold RV at hv
 simp at hv
 rw [hrun,hv.1]
theorem Mp.see {w:World}{b:Nat}{m:List (Int × Value)} (h:Mp w b m) {k:Int} (v:Value) (hw:(Lit.int .i64 k).wf=true) (hm:k∉m.map (·.1)) (hn:m.length<1000000) :
  ∃w',(Instr.mapUpdate 133 (.map (some b)) (.int .i64 k) v).run Tryz.prog w=.ok () w'∧Mp w' b (m++[(k,v)])∧Kept [b] w w':=by
 obtain ⟨D,h1,h2,h3,h4⟩:=h.own
 obtain ⟨w',hrun,h1',hg⟩:=h1.update law3 Tryz.underlying133 (by unfold maxLen;omega) (val:=v) (d:=.held v) (ps:=[]) (key3 hw) rfl
 have hKey:=law3.key (key3 hw)
 refine ⟨w',hrun,⟨⟨D.put (kl k) (.held v),by rw [List.length_append];exact h1',fun x=>?_,fun x hx z=>?_,fun x hx=>?_⟩,?_,?_⟩,kept_map hg⟩
 ·rw [List.any_append]
  by_cases hx:x=k
  ·subst hx
   rw [Maps.has_put_same h1.isMap hKey]
   simp
  ·rw [Maps.has_put_other (by simp [kl];exact hx),h2]
   have:(k == x)=false:=by simp;exact fun e=>hx e.symm
   simp [this]
 ·rcases List.mem_append.1 hx with hx|hx
  ·have:x.1≠k:=fun e=>hm (List.mem_map.2 ⟨x,hx,e⟩)
   rw [Maps.atKey_put_other (by simp [kl];exact this)]
   exact h3 x hx z
  ·simp at hx
   subst hx
   exact Maps.atKey_put_same h1.isMap hKey _ _
 ·by_cases he:x=kl k
  ·exact ⟨k,he⟩
  ·rw [Maps.has_put_other he] at hx
   exact h4 x hx
 ·rw [List.map_append,List.nodup_append]
  refine ⟨h.nodup,by simp,fun a ha c hc e=>?_⟩
  simp at hc
  subst hc e
  exact hm ha
 ·intro x hx
  rcases List.mem_append.1 hx with hx|hx
  ·exact h.wf x hx
  ·simp at hx;subst hx;exact hw
def Txs (w0 w:World) (vt:Value) (ls:List (List UInt8)):Prop :=
 ∃vs:List Value,ReadsR 1 w vt (vs.map fun v=>[v])∧vs.length=ls.length∧(∀g,vt.ownBlock=some g→w0.heap.size≤g∧g<w.heap.size)∧∀(j:Nat) (v:Value) (l:List UInt8),vs[j]?=some v→ls[j]?=some l→Reads w v l∧∀g,v.ownBlock=some g→w0.heap.size≤g∧g<w.heap.size
theorem Txs.kept {S:List Nat}{w0 w w':World}{vt:Value}{ls:List (List UInt8)} (h:Txs w0 w vt ls) (k:Kept S w w') (hS:∀x∈S,x<w0.heap.size∨w.heap.size≤x):Txs w0 w' vt ls:=by
 obtain ⟨vs,h1,h2,h3,h4⟩:=h
 have hz:=k.size
 refine ⟨vs,h1.kept k (fun g hg hm=>?_),h2,fun g hg=>⟨(h3 g hg).1,by have:=(h3 g hg).2;omega⟩,fun j v l hv hl=>?_⟩
 ·have h5:=h3 g hg
  rcases hS g hm with h6|h6<;>omega
 ·obtain ⟨h5,h6⟩:=h4 j v l hv hl
  refine ⟨h5.kept k (fun g hg hm=>?_),fun g hg=>⟨(h6 g hg).1,by have:=(h6 g hg).2;omega⟩⟩
  have h7:=h6 g hg
  rcases hS g hm with h8|h8<;>omega
theorem Txs.older {w0 w1 w:World}{vt:Value}{ls:List (List UInt8)} (h:Txs w1 w vt ls) (hz:w0.heap.size≤w1.heap.size):Txs w0 w vt ls:=by
 obtain ⟨vs,h1,h2,h3,h4⟩:=h
 exact ⟨vs,h1,h2,fun g hg=>⟨by have:=(h3 g hg).1;omega,(h3 g hg).2⟩,fun j v l hv hl=>⟨(h4 j v l hv hl).1,fun g hg=>⟨by have:=((h4 j v l hv hl).2 g hg).1;omega,((h4 j v l hv hl).2 g hg).2⟩⟩⟩
theorem Txs.form {w0 w:World}{vt:Value}{ls:List (List UInt8)} (h:Txs w0 w vt ls):∃a c,vt=.slice a ls.length c∧ls.length≤c∧c≤9223372036854775807:=by
 obtain ⟨vs,h1,h2,-⟩:=h
 obtain ⟨a,c,h3,h4,h5⟩:=h1.form
 rw [List.length_map,h2] at h3 h4
 exact ⟨a,c,h3,h4,h5⟩
theorem Txs.at {w0 w:World}{vt:Value}{ls:List (List UInt8)} (h:Txs w0 w vt ls) (j:Nat) (l:List UInt8) (hj:ls[j]?=some l):∃b o c v,vt=.slice (some ⟨b,o,none⟩) ls.length c∧w.cell? ⟨b,o+j,none⟩=some v∧Reads w v l∧∀g,v.ownBlock=some g→w0.heap.size≤g∧g<w.heap.size:=by
 obtain ⟨vs,h1,h2,h3,h4⟩:=h
 have hlt:j<vs.length:=by rw [h2];exact (List.getElem?_eq_some_iff.1 hj).1
 have hv:vs[j]?=some vs[j]:=List.getElem?_eq_getElem hlt
 obtain ⟨b,o,c,h5,h6⟩:=h1.at j [vs[j]] (by rw [List.getElem?_map,hv];rfl)
 rw [List.length_map,h2] at h5
 obtain ⟨h7,h8⟩:=h4 j _ l hv hj
 exact ⟨b,o,c,vs[j],h5,by have:=h6 0 vs[j] rfl;simpa using this,h7,h8⟩
structure Rdr (X D:Nat→Prop) (tx:Nat→List UInt8) (f:FuncId) (cap:Array Value) (w:World):Prop where
 ent:∀(args:Array Value) (W:World),(callFunc f args).run Tryz.prog W=.ok (.enter f args) W
 ask:∀(S:List Nat) (w':World) (v:Value) (ns:List Nat),Kept S w w'→(∀x∈S,¬X x)→ReadsI w' v ns→ns.length≤100000→ns.Nodup→(∀n∈ns,D n)→Calls Tryz.prog f (#[v]++cap) w' fun e w2=>∃vt,e=.returned (.tuple #[vt,.int .i64 0])∧Txs w' w2 vt (ns.map tx)∧Kept [] w' w2
theorem Rdr.later {X D:Nat→Prop}{tx:Nat→List UInt8}{f:FuncId}{cap:Array Value}{w w':World}{S:List Nat} (h:Rdr X D tx f cap w) (k:Kept S w w') (hS:∀x∈S,¬X x):Rdr X D tx f cap w':=⟨h.ent,fun S2 w2 v ns k2 hS2 hr hl hd hn =>
 h.ask (S++S2) w2 v ns ((k.mono (fun x hx=>.inl (List.mem_append.2 (.inl hx)))).trans k2 (fun x hx=>.inl (List.mem_append.2 (.inr hx)))) (fun x hx=>by
  rcases List.mem_append.1 hx with hx|hx
  ·exact hS x hx
  ·exact hS2 x hx) hr hl hd hn⟩
end Go.Proofs.YtgpbhlfdlkemjaaGreat
