import Derived.Test.YtgpbhlfdlkemjaaGreatH10
/-
 slices.Clone; Put.
-/
namespace Go.Proofs.YtgpbhlfdlkemjaaGreat
open Go.RowKit
set_option linter.unusedVariables false
theorem nil_eq (w:World):(binOp .eql 41 (.slice none 0 0) (.slice none 0 0)).run Tryz.prog w=.ok (.bool true) w:=by kernel_rfl
theorem nil_ne (a:Addr) (n c:Nat) (w:World):(binOp .eql 41 (.slice (some a) n c) (.slice none 0 0)).run Tryz.prog w=.ok (.bool false) w:=by kernel_rfl
theorem frs_empty (w:World):FrS (w.alloc (.cells #[] 3)) (.slice (some ⟨w.heap.size,0,none⟩) 0 0) [] :=
 .inr ⟨w.heap.size,0,0,rfl,Nat.le_refl _,by unfold maxLen;omega,by simp,fun j hj=>by omega,fun j u hu=>by simp at hu⟩
set_option maxRecDepth 100000 in
set_option maxHeartbeats 400000 in
theorem cloneI_nil (w:World):Calls Tryz.prog 99 #[.slice none 0 0] w fun e w'=>e=.returned (.slice none 0 0)∧w=w':=by
 have hq:=nil_eq
 go_enter Tryz.func99,Tryz.ntmps99
 go_wp2
 go_ret
 exact ⟨rfl,rfl⟩
set_option maxRecDepth 100000 in
set_option maxHeartbeats 400000 in
theorem cloneI_some {w:World} (a:Addr) (c:Nat) (l:List Nat) (h:ReadsI w (.slice (some a) l.length c) l) (hl:l.length≤100000):Calls Tryz.prog 99 #[.slice (some a) l.length c] w fun e w'=>∃v',e=.returned v'∧FrS w' v' l∧Kept [] w w'∧Fresh w v':=by
 have k0:=kept_alloc w (.cells #[] 3)
 obtain ⟨ad,c',w',hrun,hF,k,hN⟩:=(frs_empty w).append (h.kept k0 (by simp)) (by simp;omega)
 rw [List.nil_append] at hF
 have kk:Kept [] w w':=k0.trans k (fun x hx=>.inr (by simp [Value.ownBlock] at hx;omega))
 have hFr:Fresh w (.slice ad ([].length+l.length) c'):=fun g hg=>by
  rcases hN g hg with h|h
  ·simp [Value.ownBlock] at h;omega
  ·have:=k0.size;omega
 have hfin:=Hid.mk (And.intro hF (And.intro kk hFr))
 clear hF kk hFr k hN k0 h
 obtain ⟨n,hn⟩:∃n,([]:List Nat).length+l.length=n:=⟨_,rfl⟩
 rw [hn] at hrun hfin
 clear hn
 have hq:=nil_ne a
 go_enter Tryz.func99,Tryz.ntmps99
 go_wp2_with (at_builtin;refine wpList_append_run 41 _ _ rfl rfl _ _ rfl rfl _ _ hrun ?_)
 go_ret
 exact ⟨_,rfl,hfin.out⟩
theorem clone_ints {w:World} (v:Value) (l:List Nat) (h:ReadsI w v l) (hl:l.length≤100000):Calls Tryz.prog 99 #[v] w fun e w'=>∃v',e=.returned v'∧FrS w' v' l∧Kept [] w w'∧Fresh w v':=by
 obtain ⟨a,c,rfl,h2,h3,h4,h5⟩:=id h
 cases a with
 | none =>
  have hc:=h4 rfl
  have:l=[]:=List.eq_nil_of_length_eq_zero (by omega)
  subst this hc
  exact (cloneI_nil w).mono fun e w' ⟨he,hw⟩=>⟨_,he,FrS.nil w',hw▸Kept.refl [] w,fun g hg=>by simp [Value.ownBlock] at hg⟩
 | some a=>exact cloneI_some a c l h hl
theorem cut_to {w:World}{v:Value}{fl:List Nat} (h:FrS w v fl) (k:Nat) (hk:k≤fl.length):∃a' c',(∀W,(Instr.slice 41 v none (some (.int .i64 (k:Int))) none).run Tryz.prog W=.ok (.slice a' k c') W)∧ReadsI w (.slice a' k c') (fl.take k):=by
 have ht':Tryz.prog.underlying 41=some (.slice (Tryz.prog.elem 41)):=by simp [Program.elem,Tryz.underlying41]
 have he:Tryz.prog.elem 41=3:=by simp [Program.elem,Tryz.underlying41]
 obtain ⟨i0,hi,hz0,hz1,hz2⟩:=info_parts inf3
 have hz:∀w,(Go.sizeOf 3).run Tryz.prog w=.ok 1 w:=fun w=>by simp [Go.sizeOf,typeInfo,hi,hz1]
 have hlt:(fl.take k).length=k:=by rw [List.length_take];omega
 rcases h with ⟨rfl,rfl⟩|⟨g,o,c,rfl,h2,h3,h4,h5,h6⟩
 ·simp at hk
  subst hk
  refine ⟨none,0,fun W=>?_,ReadsI.nil w⟩
  rw [run_slice_h W 41 _ _ _ ht' .i64 _ (by omega) (by omega),he,hz]
  simp [Result.andThen,sliced]
 ·refine ⟨some ⟨g,o,none⟩,c,fun W=>?_,?_⟩
  ·rw [run_slice_h W 41 _ _ _ ht' .i64 _ (by omega) (by omega),he,hz]
   have e3:(⟨g,o,none⟩:Addr).add 0=⟨g,o,none⟩:=by unfold Addr.add;split<;>simp_all
   by_cases hc:c=0
   ·simp [Result.andThen,sliced,hc]
   ·simp [Result.andThen,sliced,hc,e3]
  ·refine ⟨_,c,by rw [hlt],by omega,h3,by simp,fun _=>⟨g,o,rfl,fun j u hu=>?_⟩⟩
   rw [List.getElem?_take] at hu
   split at hu
   ·exact h6 j u hu
   ·cases hu
theorem cut_from {w:World}{v:Value}{fl:List Nat} (h:FrS w v fl) (k:Nat) (hk:k≤fl.length) (h0:0<k):∃a' c',(∀W,(Instr.slice 41 v (some (.int .i64 (k:Int))) none none).run Tryz.prog W=.ok (.slice a' (fl.length-k) c') W)∧FrS w (.slice a' (fl.length-k) c') (fl.drop k)∧∀x,(Value.slice a' (fl.length-k) c').ownBlock=some x→v.ownBlock=some x:=by
 have ht':Tryz.prog.underlying 41=some (.slice (Tryz.prog.elem 41)):=by simp [Program.elem,Tryz.underlying41]
 have he:Tryz.prog.elem 41=3:=by simp [Program.elem,Tryz.underlying41]
 obtain ⟨i0,hi,hz0,hz1,hz2⟩:=info_parts inf3
 have hz:∀w,(Go.sizeOf 3).run Tryz.prog w=.ok 1 w:=fun w=>by simp [Go.sizeOf,typeInfo,hi,hz1]
 rcases h with ⟨rfl,rfl⟩|⟨g,o,c,rfl,h2,h3,h4,h5,h6⟩
 ·simp at hk;omega
 ·have e3:(⟨g,o,none⟩:Addr).add k=⟨g,o+k,none⟩:=by unfold Addr.add;split<;>simp_all
  refine ⟨if c=k then some ⟨g,o,none⟩ else some ⟨g,o+k,none⟩,c-k,fun W=>?_,?_,fun x hx=>?_⟩
  ·rw [run_slice_l W 41 _ _ _ ht' .i64 _ (by omega) (by omega),he,hz]
   by_cases hc:c=k
   ·subst hc
    simp [Result.andThen,sliced]
   ·simp [Result.andThen,sliced,hc,e3]
  ·by_cases hc:c=k
   ·subst hc
    rw [if_pos rfl]
    have hd:fl.drop c=[]:=List.drop_eq_nil_of_le (by omega)
    refine .inr ⟨g,o,c-c,by rw [List.length_drop],by rw [List.length_drop];omega,by omega,h4,fun j hj=>by omega,fun j u hu=>?_⟩
    rw [hd] at hu
    simp at hu
   ·rw [if_neg hc]
    refine .inr ⟨g,o+k,c-k,by rw [List.length_drop],by rw [List.length_drop];omega,by omega,h4,fun j hj=>?_,fun j u hu=>?_⟩
    ·rw [Nat.add_assoc];exact h5 (k+j) (by omega)
    ·rw [List.getElem?_drop] at hu
     rw [Nat.add_assoc]
     exact h6 (k+j) u hu
  ·split at hx<;>simpa [Value.ownBlock] using hx
theorem keys_map (M:List Tx):(M.map entry).map (·.1)=M.map (fun x=>(x.1:Int)):=by simp [entry]
theorem IsP.put {w:World}{G:List Nat}{p q fr ct:Nat}{T:List (Nat × List Nat)}{fl:List Nat} (h:IsP w G p q fr ct T fl) (nm:Nat) (bs:List Nat) (v:Value) (hv:ReadsI w v bs) (hg:∀g,v.ownBlock=some g→g<w.heap.size∧g∉G) (hn:nm∉T.map (·.1)) (hnm:nm<65536) (hT:T.length<100000) (k:Nat) (hk:k≤fl.length) (h0:0<k) :
  ∃vf a' c' mb w3 G',w.cell? ⟨p,4,none⟩=some vf∧w.frozen? ⟨p,4,none⟩=false∧(∀W,(Instr.slice 41 vf (some (.int .i64 (k:Int))) none none).run Tryz.prog W=.ok (.slice a' (fl.length-k) c') W)∧w.cell? ⟨p,3,none⟩=some (.map (some mb)) ∧
   (Instr.mapUpdate 63 (.map (some mb)) (.int .i64 (nm:Int)) v).run Tryz.prog (w.setCell ⟨p,4,none⟩ (.slice a' (fl.length-k) c'))=.ok () w3∧IsP w3 G' p q fr ct (T++[(nm,bs)]) (fl.drop k)∧Kept G w w3∧∀x∈G',x∈G∨v.ownBlock=some x:=by
 obtain ⟨mb,vf,M,rfl,h1,h2,h3,h4,h5,h6,h7,h8⟩:=h
 obtain ⟨a',c',hrun,hF,hbl⟩:=cut_from h5 k hk h0
 have k2:Kept [p] w (w.setCell ⟨p,4,none⟩ (.slice a' (fl.length-k) c')):=(Kept.refl [p] w).setCell (.inl (by simp)) _
 have hx:(w.setCell ⟨p,4,none⟩ (.slice a' (fl.length-k) c')).heap[p]?=some (.cells #[.pointer (some ⟨q,0,none⟩),.int .i64 (fr:Int),.int .i64 (ct:Int),.map (some mb),.slice a' (fl.length-k) c'] 65 (0,0)):=by
  rw [heap_setCell_same w p 4 _ 65 _ h1];rfl
 have hM2:=h2.kept k2 (by simp;omega)
 obtain ⟨w3,hup,hM3,k3⟩:=hM2.put v (wf_nat (n:=nm) (by omega)) (by
  rw [keys_map]
  intro hm
  obtain ⟨y,hy,he⟩:=List.mem_map.1 hm
  refine hn ?_
  rw [h3,List.map_map]
  exact List.mem_map.2 ⟨y,hy,by have he':(y.1:Int)=(nm:Int):=he;show y.1=nm;omega⟩) (by rw [List.length_map];rw [h3,List.length_map] at hT;omega)
 have kk:Kept [p,mb] w w3:=(k2.mono (fun x hx=>.inl (by simp at hx;simp [hx]))).trans k3 (fun x hx=>.inl (by simp at hx;simp [hx]))
 have hvg:∀g,v.ownBlock=some g→g<w.heap.size∧g≠p∧g≠mb∧vf.ownBlock≠some g:=fun g hgv=>by
  have:=hg g hgv
  simp only [List.mem_cons,List.mem_append,Option.mem_toList,not_or] at this
  exact ⟨this.1,this.2.1,this.2.2.1,this.2.2.2.1⟩
 have hbn:∀g,vf.ownBlock≠some g→(Value.slice a' (fl.length-k) c').ownBlock≠some g:=fun g hne he=>hne (hbl g he)
 refine ⟨vf,a',c',mb,w3,p::mb::((Value.slice a' (fl.length-k) c').ownBlock.toList++obs ((M++[(nm,bs,v)]).map (·.2.2))),by simp [World.cell?,h1],by simp [World.frozen?,h1],hrun,by simp [World.cell?,h1],hup,⟨mb,.slice a' (fl.length-k) c',M++[(nm,bs,v)],rfl,k3.keeps hx (by simp;omega),by rw [List.map_append];exact hM3,by rw [List.map_append,h3];rfl,?_,?_,h6,hbn _ h7,hbn _ h8⟩,kk.mono (fun x hx=>.inl (by simp at hx;rcases hx with rfl|rfl<;>simp)),?_⟩
 ·intro x hx
  have key:∀g,x.2.2.ownBlock=some g→g<w.heap.size∧g≠p∧g≠mb∧vf.ownBlock≠some g:=fun g hg'=>by
   rcases List.mem_append.1 hx with hx|hx
   ·exact (h4 x hx).2 g hg'
   ·simp at hx;subst hx;exact hvg g hg'
  have hr:ReadsI w x.2.2 x.2.1:=by
   rcases List.mem_append.1 hx with hx|hx
   ·exact (h4 x hx).1
   ·simp at hx;subst hx;exact hv
  refine ⟨hr.kept kk (fun g hg'=>by have:=key g hg';simp;omega),fun g hg'=>?_⟩
  have:=key g hg'
  exact ⟨Nat.lt_of_lt_of_le this.1 kk.size,this.2.1,this.2.2.1,hbn g this.2.2.2⟩
 ·refine (hF.kept k2 (fun g hg'=>?_)).kept k3 (fun g hg'=>?_)
  ·simp;rintro rfl;exact h7 (hbl _ hg')
  ·simp;rintro rfl;exact h8 (hbl _ hg')
 ·intro x hx
  simp only [List.mem_cons,List.mem_append,Option.mem_toList,mem_obs,List.mem_map] at hx
  rcases hx with rfl|rfl|hx|⟨y,⟨z,hz,rfl⟩,hy⟩
  ·exact .inl (by simp)
  ·exact .inl (by simp)
  ·exact .inl (by simp [hbl x hx])
  ·rcases hz with hz|hz
   ·refine .inl ?_
    simp only [List.mem_cons,List.mem_append,mem_obs,List.mem_map]
    exact .inr (.inr (.inr ⟨_,⟨z,hz,rfl⟩,hy⟩))
   ·simp at hz
    subst hz
    exact .inr hy
def PutAt (F G:List Nat) (p q:Nat) (s:St) (fr ct:Nat) (T:List (Nat × List Nat)) (fl:List Nat) (l:List UInt8) (nm:Nat) (w:World) (e:Ending) (w':World):Prop :=
 ∃(t:Bool) (F' G':List Nat),IsD w' F' q (wrAll s (wsOf t nm (fl.take (bks l.length)) l (bks l.length))).2∧Kept (F++G) w w'∧NewF w F F'∧NewF w G G'∧(∀x∈G',x∉F') ∧
  ((wrAll s (wsOf t nm (fl.take (bks l.length)) l (bks l.length))).1=0∧e=.returned (.tuple #[.int .i64 (nm:Int),.int .i64 0])∧IsP w' G' p q fr ct (T++[(nm,fl.take (bks l.length))]) (fl.drop (bks l.length)) ∨
    (wrAll s (wsOf t nm (fl.take (bks l.length)) l (bks l.length))).1≠0∧e=.returned (.tuple #[.int .i64 0,.int .i64 (wrAll s (wsOf t nm (fl.take (bks l.length)) l (bks l.length))).1])∧IsP w' G' p q fr ct T fl)
set_option maxRecDepth 100000 in
set_option maxHeartbeats 2000000 in
theorem put_any {w:World}{F G:List Nat}{p q fr ct:Nat}{T:List (Nat × List Nat)}{fl:List Nat}{s:St} (hD:IsD w F q s) (hP:IsP w G p q fr ct T fl) (hFG:∀x∈G,x∉F) (hd:s.down=false) (a:Option Addr) (c:Nat) (l:List UInt8) (hr:Reads w (.slice a l.length c) l) (hv:∀g,(Value.slice a l.length c).ownBlock=some g→g∉F) (hlong:l.length≤20000) (hsz:bks l.length≤fl.length) (hin:∀x∈fl,x<s.nb) (hfl:fl.length≤65536) (nm:Nat) (hnm:fl.head?=some nm) (hnT:nm∉T.map (·.1)) (hT:T.length<100000) (hws:s.ws.length≤90000) :
  Calls Tryz.prog 152 #[.pointer (some ⟨p,0,none⟩),.slice a l.length c] w fun e w'=>PutAt F G p q s fr ct T fl l nm w e w':=by
 have hnb:=hD.ok.nb
 have hb:=bks_any l.length (by omega) w
 have hbp:=bks_pos l.length
 have hb85:=bks_le hlong
 obtain ⟨vf,hc4,hfr⟩:=hP.frs
 obtain ⟨a7,c7,s7,hr7⟩:=cut_to hfr (bks l.length) hsz
 obtain ⟨av,cv,rfl,-⟩:=id hfr.reads
 have hbl:(fl.take (bks l.length)).length=bks l.length:=by rw [List.length_take];omega
 have hcl:=clone_ints _ _ hr7 (by rw [hbl];omega)
 have hle:¬(fl.length:Int)<(bks l.length:Int):=by omega
 have hhd:(fl.take (bks l.length)).head?=some nm:=by
  rw [List.head?_take,if_neg (by omega)]
  exact hnm
 have hnmb:nm<s.nb:=hin nm (List.mem_of_mem_head? (by rw [hnm];rfl))
 have hFlt:=hD.lt
 have hGlt:=hP.lt
 have Z:Hid (∀e w',(∃(t:Bool) (F' G':List Nat),IsD w' F' q (wrAll s (wsOf t nm (fl.take (bks l.length)) l (bks l.length))).2∧Kept (F++G) w w'∧NewF w F F'∧NewF w G G'∧(∀x∈G',x∉F') ∧
  ((wrAll s (wsOf t nm (fl.take (bks l.length)) l (bks l.length))).1=0∧e=.returned (.tuple #[.int .i64 (nm:Int),.int .i64 0])∧IsP w' G' p q fr ct (T++[(nm,fl.take (bks l.length))]) (fl.drop (bks l.length)) ∨
    (wrAll s (wsOf t nm (fl.take (bks l.length)) l (bks l.length))).1≠0∧e=.returned (.tuple #[.int .i64 0,.int .i64 (wrAll s (wsOf t nm (fl.take (bks l.length)) l (bks l.length))).1])∧IsP w' G' p q fr ct T fl))→PutAt F G p q s fr ct T fl l nm w e w'):=fun e w' h=>h
 generalize PutAt F G p q s fr ct T fl l nm w=R at Z
 go_enter Tryz.func152,Tryz.ntmps152
 go_wp2_with fail
 refine hb.mono ?_
 rintro e w' ⟨rfl,rfl⟩
 clear hb
 obtain ⟨N,hN⟩:∃N,Hid (bks l.length=N):=⟨_,rfl⟩
 obtain ⟨bs,hbs⟩:∃bs,Hid (fl.take (bks l.length)=bs):=⟨_,rfl⟩
 have hlen:bs.length=bks l.length:=by rw [←hbs.out];exact hbl
 rw [hbs.out] at hcl hhd Z
 rw [hN.out] at hsz hbp hb85 s7 hcl hle Z hr7 hbl hlen ⊢
 have hmem:∀x∈bs,x<s.nb:=fun x hx=>hin x (List.mem_of_mem_take (by rw [hbs.out];exact hx))
 clear hr7 hbl
 go_wp2_with fail
 refine hcl.mono ?_
 rintro e w1 ⟨v1,rfl,hF1,k1,hFr1⟩
 obtain ⟨a1,c1,rfl,-⟩:=id hF1.reads
 have hD1:=hD.kept k1 (by simp)
 have hP1:=hP.kept k1 (by simp)
 have hr1:=hr.kept k1 (by simp)
 obtain ⟨d0,-,-⟩:=hP1.cells
 have hpG:=hP.pG
 have hwr:=write_all hD1 d0 (hFG p hpG) hd a1 c1 bs hF1.reads (fun g hg hm=>by have:=hFr1 g hg;have:=hFlt g hm;omega) a c l hr1 hv (by rw [hlen,hN.out]) hlong hmem nm hhd hws
 clear hcl hc4 d0 hfr
 rw [hlen] at hwr ⊢
 go_wp2_with fail
 refine hwr.mono ?_
 rintro e w2 ⟨t,F2,rfl,hD2,k2,hN2⟩
 clear hwr
 rw [hlen] at hD2 ⊢
 have hP2:=hP1.kept k2 hFG
 have kk2:Kept (F++G) w w2:=((k1.mono (by simp)).trans k2 (fun x hx=>.inl (by simp [hx])))
 have hN02:NewF w F F2:=fun x hx=>by
  rcases hN2 x hx with h|h
  ·exact .inl h
  ·exact .inr (Nat.le_trans k1.size h)
 have hGF:∀x∈G,x∉F2:=fun x hx hm=>by
  rcases hN2 x hm with h|h
  ·exact hFG x hx h
  ·have:=hGlt x hx;have:=k1.size;omega
 by_cases hE:(wrAll s (wsOf t nm bs l N)).1=0
 ·rw [hE]
  have hF2:FrS w2 (.slice a1 N c1) bs:=by
   rw [←hlen]
   exact hF1.kept k2 (fun g hg hm=>by have:=hFr1 g hg;have:=hFlt g hm;omega)
  obtain ⟨vf2,a5,c5,mb,w3,G3,g1,g2,g3,g4,g5,hP3,k3,hG3⟩:=hP2.put nm bs (.slice a1 N c1) hF2.reads (fun g hg=>⟨hF2.lt hg,fun hm=>by rw [←hlen] at hg;have:=hFr1 g hg;have:=hGlt g hm;omega⟩) hnT (by omega) hT N (by omega) hbp
  obtain ⟨ab,ob,cb,hve,hc0⟩:=hF2.reads.at 0 nm (by rw [←List.head?_eq_getElem?];exact hhd)
  rw [hlen] at hve
  injection hve with q1 q2 q3
  subst q1 q3
  rw [Nat.add_zero] at hc0
  have hNi:(0:Int)<(N:Int):=by omega
  obtain ⟨av2,cv2,rfl⟩:∃av2 cv2,vf2=.slice av2 fl.length cv2:=by
   obtain ⟨vf3,h3,hfr3⟩:=hP2.frs
   rw [g1] at h3
   injection h3 with h3
   subst h3
   obtain ⟨x,y,e,-⟩:=hfr3.reads
   exact ⟨x,y,e⟩
  have hfin:=Z.out (.returned (.tuple #[.int .i64 (nm:Int),.int .i64 0])) w3 ⟨t,F2,G3,hD2.kept k3 (fun x hx hm=>hGF x hm hx),kk2.trans k3 (fun x hx=>.inl (by simp [hx])),hN02,fun x hx=>by
   rcases hG3 x hx with h|h
   ·exact .inl h
   ·rw [←hlen] at h;exact .inr (hFr1 x h),fun x hx hm=>by
   rcases hG3 x hx with h|h
   ·exact hGF x h hm
   ·rw [←hlen] at h
    have h1:=hFr1 x h
    have h2:=hF1.lt h
    rcases hN2 x hm with h3|h3
    ·have:=hFlt x h3;omega
    ·omega,.inl ⟨hE,rfl,by rw [←hN.out] at hP3 ⊢;exact hP3⟩⟩
  have Hf:=Hid.mk hfin
  clear hfin Z hD2 hP2 hP3 k3 hG3 hF1 hF2 kk2 hN02 hGF k2 hN2 hE
  go_wp2_with fail
  exact Hf.out
 ·have hfin:=Z.out (.returned (.tuple #[.int .i64 0,.int .i64 (wrAll s (wsOf t nm bs l N)).1])) w2 ⟨t,F2,G,hD2,kk2,hN02,NewF.refl w G,hGF,.inr ⟨hE,rfl,hP2⟩⟩
  have Hf:=Hid.mk hfin
  have hE2:((wrAll s (wsOf t nm bs l N)).1 != 0)=true:=by simpa using hE
  clear hfin Z hD2 hP2 hF1 kk2 hN02 hGF k2 hN2
  generalize (wrAll s (wsOf t nm bs l N)).1=E at hE hE2 Hf ⊢
  go_wp2_with fail
  exact Hf.out
end Go.Proofs.YtgpbhlfdlkemjaaGreat
