import Derived.BigQuiet
import Derived.Test.YtgpbhlfdlkemjaaGreatH07
/-
 partIn: the part that lies in a block.
-/
namespace Go.Proofs.YtgpbhlfdlkemjaaGreat
open Go.RowKit
set_option linter.unusedVariables false
theorem size90:(Tryz.prog.info? 161).map (·.size)=some 4:=by kernel_rfl
def PartAt (nm i:Nat) (B:List UInt8) (w:World) (e:Ending) (w':World):Prop :=
 ∃v',e=.returned (.tuple #[ptV (partOf (plc nm i) B).1 (partOf (plc nm i) B).2.1 (partOf (plc nm i) B).2.2.1 v',.bool (decide (isPart (plc nm i) B))])∧Reads w' v' (partOf (plc nm i) B).2.2.2∧Kept [] w w'∧Fresh w v'
theorem partAt_none {nm i:Nat}{B:List UInt8}{w:World} (h:¬isPart (plc nm i) B) {w':World} (k:Kept [] w w'):PartAt nm i B w (.returned (.tuple #[ptV false 0 0 (.slice none 0 0),.bool false])) w':=by
 have e:partOf (plc nm i) B=(false,0,0,[]):=by unfold partOf;rw [if_neg h]
 unfold PartAt
 rw [e,decide_eq_false h]
 exact ⟨_,rfl,Reads.nil w',k,by intro g hg;simp [Value.ownBlock] at hg⟩
theorem zero90 (w:World):(Instr.build 161 #[]).run Tryz.prog w=.ok (ptV false 0 0 (.slice none 0 0)) w:=by kernel_rfl
theorem results_cell_row2 {fn:Func}{p u:Tmp}{ty:TypeId} (h:fn.results=#[.cell p ty,.tmp u]) (tmps:Array Value) (w:World) (g:Nat) (cs:Array Value)
  (hp:tmps.getD p undef=.pointer (some ⟨g,0,none⟩)) (hl:(loadVar ty ⟨g,0,none⟩).run Tryz.prog w=.ok (.agg cs) w) (r:Value) (hr:tmps.getD u undef=r) :
  (results fn tmps).run Tryz.prog w=.ok (.tuple #[.agg cs,r]) w:=by
 have hp':tmps[p]?.getD undef=.pointer (some ⟨g,0,none⟩):=by simpa using hp
 have hr':tmps[u]?.getD undef=r:=by simpa using hr
 simp [results,h,hp',hr',asAddr,hl]
theorem Bx.load {w:World}{b n nx:Nat}{t:Bool}{v:Value} (h:Bx w b t n nx v):(loadVar 161 ⟨b,0,none⟩).run Tryz.prog w=.ok (ptV t n nx v) w:=run_loadVar_row w b 161 161 _ (0,0) _ h Tryz.underlying161 rfl size90
set_option maxRecDepth 100000 in
set_option maxHeartbeats 400000 in
theorem pin_no (nm i:Nat) (v:Value) (B:List UInt8) (w:World) (hnm:nm<65536) (hi:i<65536) (hr:Reads w v B) (hF:¬(Fits 3 (plc nm i) B∧4≤(payloadOf B).length)) :
  Calls Tryz.prog 96 #[.int .i64 (nm:Int),.int .i64 (i:Int),v] w fun e w'=>PartAt nm i B w e w':=by
 have k0:=kept_alloc w (.cells #[.bool false,.int .i64 0,.int .i64 0,.slice none 0 0] 161)
 have hb:Bx (w.alloc (.cells #[.bool false,.int .i64 0,.int .i64 0,.slice none 0 0] 161)) w.heap.size false 0 0 (.slice none 0 0):=heap_alloc_new w _
 have hop:Calls Tryz.prog 138 #[.int .u8 3,.int .u32 (plc nm i:Int),v] (w.alloc (.cells #[.bool false,.int .i64 0,.int .i64 0,.slice none 0 0] 161)) fun e w'=>Opened 3 (plc nm i) B (w.alloc (.cells #[.bool false,.int .i64 0,.int .i64 0,.slice none 0 0] 161)) e w':=open_any 3 (plc nm i) v B _ (plc_lt hnm hi) (hr.kept k0 (by simp))
 have hP:=place_any nm i (w.alloc (.cells #[.bool false,.int .i64 0,.int .i64 0,.slice none 0 0] 161)) hnm hi
 have hz:=zero90
 have fin:∀w',Kept [] w w'→PartAt nm i B w (.returned (.tuple #[ptV false 0 0 (.slice none 0 0),.bool false])) w':=fun w' k=>partAt_none (fun h=>hF ⟨h.1,h.2.1⟩) k
 generalize PartAt nm i B w=R at fin
 go_enter Tryz.func96,Tryz.ntmps96
 go_wp2_with fail
 generalize hw0:w.alloc (.cells #[.bool false,.int .i64 0,.int .i64 0,.slice none 0 0] 161)=w0 at k0 hb hop hP
 generalize hbb:w.heap.size=b at hb
 clear hw0
 refine hP.mono ?_
 rintro e wp ⟨rfl,rfl⟩
 clear hP
 go_wp2_with fail
 refine hop.mono ?_
 rintro e w1 ⟨v1,ok,p,rfl,hR1,k1,hF1,h1⟩
 have hb1:=hb.kept k1 (by simp)
 have kk:=k0.trans k1 (by simp)
 obtain ⟨b0,b1,b2,b3⟩:=hb1.cells
 have f0:=hb1.free 0
 have f1:=hb1.free 1
 have f2:=hb1.free 2
 have f3:=hb1.free 3
 obtain ⟨hb2,k2⟩:=hb1.set false 0 0 (.slice none 0 0)
 have kk2:=kk.trans k2 (fun x hx=>.inr (by simp at hx;omega))
 clear hop k1 k2 kk
 unfold Bx at hb1
 rcases h1 with ⟨rfl,hfits,rfl⟩|⟨rfl,_,rfl⟩
 ·have hl:¬4≤(payloadOf B).length:=fun h=>hF ⟨hfits,h⟩
  obtain ⟨a1,cp,rfl,_⟩:=hR1
  have hl2:((payloadOf B).length:Int)<4:=by omega
  generalize (payloadOf B).length=n at hl hl2
  clear hfits hF hr
  go_wp2_with fail
  refine bodyPost_ret (results_cell_row2 (ty:=161) (p:=6) (u:=7) rfl _ _ b _ rfl hb2.load _ rfl) rfl ?_
  exact fin _ kk2
 ·obtain ⟨a1,cp,rfl,_⟩:=hR1
  go_wp2_with fail
  refine bodyPost_ret (results_cell_row2 (ty:=161) (p:=6) (u:=7) rfl _ _ b _ rfl hb2.load _ rfl) rfl ?_
  exact fin _ kk2
theorem slice_from4 (b o n c:Nat) (h:4≤c) (h2:4≤n) (hcm:c≤maxLen):∃a4,(∀g,(Value.slice a4 (n-4) (c-4)).ownBlock=some g→g=b)∧(∀W,(Instr.slice 48 (.slice (some ⟨b,o,none⟩) n c) (some (.int .i64 4)) none none).run Tryz.prog W=.ok (.slice a4 (n-4) (c-4)) W) ∧
  ∀W l,Reads W (.slice (some ⟨b,o,none⟩) n c) l→Reads W (.slice a4 (n-4) (c-4)) (l.drop 4):=by
 obtain ⟨i0,hi,hz0,hz1,hz2⟩:=info_parts inf5
 have ht':Tryz.prog.underlying 48=some (.slice (Tryz.prog.elem 48)):=by simp [Program.elem,Tryz.underlying48]
 have he:Tryz.prog.elem 48=5:=by simp [Program.elem,Tryz.underlying48]
 have hz:∀w,(Go.sizeOf 5).run Tryz.prog w=.ok 1 w:=fun w=>by simp [Go.sizeOf,typeInfo,hi,hz1]
 have e3:(⟨b,o,none⟩:Addr).add 4=⟨b,o+4,none⟩:=by unfold Addr.add;split<;>simp_all
 refine ⟨if c=4 then some ⟨b,o,none⟩ else some ⟨b,o+4,none⟩,fun g hg=>by split at hg<;>simp [Value.ownBlock] at hg<;>omega,fun W=>?_,fun W l hr=>?_⟩
 ·rw [run_slice_l W 48 _ _ _ ht' .i64 _ (by omega) (by omega),he,hz]
  by_cases hc:c=4
  ·simp [Result.andThen,sliced,hc]
  ·simp [Result.andThen,sliced,hc,e3]
 ·obtain ⟨a,cap,hv,h3,h4,h5,h6⟩:=hr
  injection hv with e1 e2 e4
  subst e1 e2 e4
  refine ⟨_,c-4,by rw [List.length_drop],by rw [List.length_drop];omega,by omega,fun hn=>by split at hn<;>simp at hn,fun hl=>?_⟩
  have hlen:0<(l.drop 4).length:=List.length_pos_iff.2 hl
  rw [List.length_drop] at hlen
  rw [if_neg (by omega)]
  obtain ⟨b',o',hab,hc⟩:=h6 (by intro e;subst e;simp at hlen)
  simp at hab
  obtain ⟨rfl,rfl⟩:=hab
  refine ⟨b,o+4,rfl,fun j u hu=>?_⟩
  rw [List.getElem?_drop] at hu
  have:=hc (4+j) u hu
  rw [Nat.add_assoc]
  exact this
set_option maxRecDepth 100000 in
set_option maxHeartbeats 2000000 in
theorem pin_yes (nm i:Nat) (v:Value) (B:List UInt8) (w:World) (hnm:nm<65536) (hi:i<65536) (hr:Reads w v B) (hF:Fits 3 (plc nm i) B) (h4:4≤(payloadOf B).length) :
  Calls Tryz.prog 96 #[.int .i64 (nm:Int),.int .i64 (i:Int),v] w fun e w'=>PartAt nm i B w e w':=by
 have k0:=kept_alloc w (.cells #[.bool false,.int .i64 0,.int .i64 0,.slice none 0 0] 161)
 have hb:Bx (w.alloc (.cells #[.bool false,.int .i64 0,.int .i64 0,.slice none 0 0] 161)) w.heap.size false 0 0 (.slice none 0 0):=heap_alloc_new w _
 have hop:Calls Tryz.prog 138 #[.int .u8 3,.int .u32 (plc nm i:Int),v] (w.alloc (.cells #[.bool false,.int .i64 0,.int .i64 0,.slice none 0 0] 161)) fun e w'=>Opened 3 (plc nm i) B (w.alloc (.cells #[.bool false,.int .i64 0,.int .i64 0,.slice none 0 0] 161)) e w':=open_any 3 (plc nm i) v B _ (plc_lt hnm hi) (hr.kept k0 (by simp))
 have hP:=place_any nm i (w.alloc (.cells #[.bool false,.int .i64 0,.int .i64 0,.slice none 0 0] 161)) hnm hi
 have hz:=zero90
 have hpl:(payloadOf B).length≤242:=by
  have:=hF.2.1
  unfold payloadOf
  rw [List.length_take]
  omega
 have fin0:∀w',¬((bodyOf (payloadOf B)).2.1≤20000∧(bodyOf (payloadOf B)).2.2.2.length=min (bodyOf (payloadOf B)).2.1 238)→Kept [] w w'→PartAt nm i B w (.returned (.tuple #[ptV false 0 0 (.slice none 0 0),.bool false])) w':=fun w' hn k=>partAt_none (fun h=>hn h.2.2) k
 have fin1:∀v' w',(bodyOf (payloadOf B)).2.1≤20000∧(bodyOf (payloadOf B)).2.2.2.length=min (bodyOf (payloadOf B)).2.1 238→Reads w' v' (bodyOf (payloadOf B)).2.2.2→Kept [] w w'→Fresh w v'→PartAt nm i B w (.returned (.tuple #[ptV (bodyOf (payloadOf B)).1 (bodyOf (payloadOf B)).2.1 (bodyOf (payloadOf B)).2.2.1 v',.bool true])) w':=fun v' w' hn h k hFr=>by
  have hip:isPart (plc nm i) B:=⟨hF,h4,hn⟩
  have e:partOf (plc nm i) B=bodyOf (payloadOf B):=by unfold partOf;rw [if_pos hip]
  unfold PartAt
  rw [e,decide_eq_true hip]
  exact ⟨_,rfl,h,k,hFr⟩
 generalize PartAt nm i B w=R at fin0 fin1
 go_enter Tryz.func96,Tryz.ntmps96
 go_wp2_with fail
 generalize hw0:w.alloc (.cells #[.bool false,.int .i64 0,.int .i64 0,.slice none 0 0] 161)=w0 at k0 hb hop hP
 generalize hbb:w.heap.size=b at hb
 clear hw0
 refine hP.mono ?_
 rintro e wp ⟨rfl,rfl⟩
 clear hP
 go_wp2_with fail
 refine hop.mono ?_
 rintro e w1 ⟨v1,ok,p,rfl,hR1,k1,hF1,h1⟩
 have hb1:=hb.kept k1 (by simp)
 have kk:=k0.trans k1 (by simp)
 clear hop k1 hb
 rcases h1 with ⟨rfl,hfits,rfl⟩|⟨_,hfits,rfl⟩
 case inr=>exact absurd hF hfits
 generalize payloadOf B=P at fin0 fin1 hR1 h4 hpl
 clear hfits hF hr
 rcases reads_cases hR1 with ⟨a,cap,rfl,rfl,_⟩|⟨pb,po,c,rfl,hc1,hc2,hc⟩
 ·simp at h4
 have hx:¬(P.length:Int)<4:=by omega
 have hcj:∀j,j<4→w1.cell? ⟨pb,po+j,none⟩=some (.int .u8 (byteN P j:Int)):=fun j hj=>by
  have hu:P[j]?=some (P[j]'(by omega)):=by simp
  have:=hc j _ hu
  rw [this]
  unfold byteN B8
  rw [hu]
  rfl
 have hpbw:w.heap.size≤pb:=by have:=hF1 pb rfl;have:=k0.size;omega
 clear hF1
 have hpbb:pb≠b:=by
  intro e
  subst e
  have h0:=hcj 0 (by omega)
  have hb':=hb1.cells.1
  rw [Nat.add_comm] at h0
  unfold Bx at hb1
  have h3:=hcj 0 (by omega)
  simp only [World.cell?,hb1] at h3
  have hlt:=hcj 3 (by omega)
  simp only [World.cell?,hb1] at hlt
  by_cases hpo:po=0
  ·subst hpo;simp at h3
  ·rw [Array.getElem?_eq_none (by simp;omega)] at hlt
   cases hlt
 obtain ⟨a4,hb4,s4,hr4⟩:=slice_from4 pb po P.length c (by omega) h4 hc2
 have U0l:=byteN_lt P 0
 have U1l:=byteN_lt P 1
 have U2l:=byteN_lt P 2
 have U3l:=byteN_lt P 3
 have hb0:bodyOf P=(decide (32768≤byteN P 0*256+byteN P 1),(byteN P 0*256+byteN P 1)%32768,byteN P 2*256+byteN P 3,P.drop 4):=rfl
 rw [hb0] at fin0 fin1
 simp only [List.length_drop] at fin0 fin1
 have c0:w1.cell? ⟨pb,po,none⟩=some (.int .u8 (byteN P 0:Int)):=hcj 0 (by omega)
 have c1:=hcj 1 (by omega)
 have c2:=hcj 2 (by omega)
 have c3:=hcj 3 (by omega)
 have HR:=Hid.mk hR1
 clear hc hcj hR1 hb0
 generalize byteN P 0=U0 at fin0 fin1 c0 U0l
 generalize byteN P 1=U1 at fin0 fin1 c1 U1l
 generalize byteN P 2=U2 at fin0 fin1 c2 U2l
 generalize byteN P 3=U3 at fin0 fin1 c3 U3l
 have hL1:IntKind.i64.wrap ((U0:Int)*256)=(U0:Int)*256:=by rw [IntKind.wrap_i64];omega
 have hL2:=or_two U0 U1 U0l U1l
 have hX1:IntKind.i64.wrap ((U2:Int)*256)=(U2:Int)*256:=by rw [IntKind.wrap_i64];omega
 have hX2:=or_two U2 U3 U2l U3l
 have hT:=and_turn (U0*256+U1) (by omega)
 have hlf:=andNot_turn (U0*256+U1) (by omega)
 have hLl:U0*256+U1<65536:=by omega
 have hlfl:(U0*256+U1)%32768<32768:=by omega
 have hnxl:U2*256+U3<65536:=by omega
 generalize hLd:U0*256+U1=L at fin0 fin1 hL2 hT hlf hLl hlfl
 generalize U2*256+U3=nx at fin0 fin1 hX2 hnxl
 generalize decide (32768≤L)=T at fin1 hT
 generalize hlfd:L%32768=lf at fin0 fin1 hlf hlfl
 clear hLd hlfd
 obtain ⟨n,hn⟩:∃n,Hid (P.length=n):=⟨_,rfl⟩
 rw [hn.out] at hb4 hx h4 hpl hc1 s4 fin0 fin1 HR hr4 ⊢
 obtain ⟨n4,hn4⟩:∃n4,n-4=n4:=⟨_,rfl⟩
 obtain ⟨c4,hc4⟩:∃c4,c-4=c4:=⟨_,rfl⟩
 have hn4':n4≤238:=by omega
 rw [hn4] at fin0 fin1
 rw [hn4,hc4] at hb4 s4 hr4
 clear hn4 hc4 hc1 hc2
 go_wp2_with fail
 go_quiet (fail)
 have kd:Kept [] w1 (w1.drewN nq):=(Kept.refl [] w1).drewN nq
 have hb2:=hb1.kept kd (by simp)
 have kk2:=kk.trans kd (by simp)
 have HR2:=Hid.mk (HR.out.kept kd (by simp))
 have S2:(w1.drewN nq).cell? ⟨pb,po+2,none⟩=some (.int .u8 (U2:Int)):=by simpa using c2
 have S3:(w1.drewN nq).cell? ⟨pb,po+3,none⟩=some (.int .u8 (U3:Int)):=by simpa using c3
 clear c0 c1 c2 c3 hb1 kk HR kd
 generalize w1.drewN nq=w2 at hb2 kk2 HR2 S2 S3
 have hi2:¬(n:Int)≤2:=by omega
 have hi3:¬(n:Int)≤3:=by omega
 have hw2:IntKind.i64.wrap (U2:Int)=(U2:Int):=by rw [IntKind.wrap_i64];omega
 have hw3:IntKind.i64.wrap (U3:Int)=(U3:Int):=by rw [IntKind.wrap_i64];omega
 have S0:w2.drew.cell? ⟨pb,po+2,none⟩=some (.int .u8 (U2:Int))∧w2.drew.cell? ⟨pb,po+3,none⟩=some (.int .u8 (U3:Int)):=⟨S2,S3⟩
 go_wp2_with fail
 refine wp_region_held_drew (S:=fun w'=>w'.cell? ⟨pb,po+2,none⟩=some (.int .u8 (U2:Int))∧w'.cell? ⟨pb,po+3,none⟩=some (.int .u8 (U3:Int))) (by kernel_rfl) S0 (fun _=>?_)
 refine wpAnyH_take (i:=0) (v:=.int .i64 (L:Int)) rfl (by kernel_rfl) (by kernel_rfl) (by kernel_rfl) (fun _ _ _ h=>h) (Or.inl ⟨by rfl,fun w hS=>by have hS':w.cell? ⟨pb,po+2,none⟩=some (.int .u8 (U2:Int))∧w.cell? ⟨pb,po+3,none⟩=some (.int .u8 (U3:Int)):=hS;go_simp⟩) S0 ?_
 go_simp
 refine wpAnyH_take (i:=1) (v:=.int .i64 (bits .and .i64 (L:Int) 32768)) rfl (by kernel_rfl) (by kernel_rfl) (by kernel_rfl) (fun _ _ _ h=>h) (Or.inl ⟨by rfl,fun w hS=>by have hS':w.cell? ⟨pb,po+2,none⟩=some (.int .u8 (U2:Int))∧w.cell? ⟨pb,po+3,none⟩=some (.int .u8 (U3:Int)):=hS;go_simp⟩) S0 ?_
 go_simp
 refine wpAnyH_take (i:=2) (v:=.bool T) rfl (by kernel_rfl) (by kernel_rfl) (by kernel_rfl) (fun _ _ _ h=>h) (Or.inl ⟨by rfl,fun w hS=>by have hS':w.cell? ⟨pb,po+2,none⟩=some (.int .u8 (U2:Int))∧w.cell? ⟨pb,po+3,none⟩=some (.int .u8 (U3:Int)):=hS;go_simp⟩) S0 ?_
 go_simp
 refine wpAnyH_take (i:=3) (v:=.int .i64 (L:Int)) rfl (by kernel_rfl) (by kernel_rfl) (by kernel_rfl) (fun _ _ _ h=>h) (Or.inl ⟨by rfl,fun w hS=>by have hS':w.cell? ⟨pb,po+2,none⟩=some (.int .u8 (U2:Int))∧w.cell? ⟨pb,po+3,none⟩=some (.int .u8 (U3:Int)):=hS;go_simp⟩) S0 ?_
 go_simp
 refine wpAnyH_take (i:=4) (v:=.int .i64 (lf:Int)) rfl (by kernel_rfl) (by kernel_rfl) (by kernel_rfl) (fun _ _ _ h=>h) (Or.inl ⟨by rfl,fun w hS=>by have hS':w.cell? ⟨pb,po+2,none⟩=some (.int .u8 (U2:Int))∧w.cell? ⟨pb,po+3,none⟩=some (.int .u8 (U3:Int)):=hS;go_simp⟩) S0 ?_
 go_simp
 refine wpAnyH_take (i:=5) (v:=.slice (some ⟨pb,po,none⟩) n c) rfl (by kernel_rfl) (by kernel_rfl) (by kernel_rfl) (fun _ _ _ h=>h) (Or.inl ⟨by rfl,fun w hS=>by have hS':w.cell? ⟨pb,po+2,none⟩=some (.int .u8 (U2:Int))∧w.cell? ⟨pb,po+3,none⟩=some (.int .u8 (U3:Int)):=hS;go_simp⟩) S0 ?_
 go_simp
 refine wpAnyH_take (i:=6) (v:=.pointer (some ⟨pb,po+2,none⟩)) rfl (by kernel_rfl) (by kernel_rfl) (by kernel_rfl) (fun _ _ _ h=>h) (Or.inl ⟨by rfl,fun w hS=>by have hS':w.cell? ⟨pb,po+2,none⟩=some (.int .u8 (U2:Int))∧w.cell? ⟨pb,po+3,none⟩=some (.int .u8 (U3:Int)):=hS;go_simp⟩) S0 ?_
 go_simp
 refine wpAnyH_take (i:=7) (v:=.int .u8 (U2:Int)) rfl (by kernel_rfl) (by kernel_rfl) (by kernel_rfl) (fun _ _ _ h=>h) (Or.inl ⟨by rfl,fun w hS=>by have hS':w.cell? ⟨pb,po+2,none⟩=some (.int .u8 (U2:Int))∧w.cell? ⟨pb,po+3,none⟩=some (.int .u8 (U3:Int)):=hS;obtain ⟨hS1',hS2'⟩:=hS';go_simp⟩) S0 ?_
 go_simp
 refine wpAnyH_take (i:=8) (v:=.int .i64 (U2:Int)) rfl (by kernel_rfl) (by kernel_rfl) (by kernel_rfl) (fun _ _ _ h=>h) (Or.inl ⟨by rfl,fun w hS=>by have hS':w.cell? ⟨pb,po+2,none⟩=some (.int .u8 (U2:Int))∧w.cell? ⟨pb,po+3,none⟩=some (.int .u8 (U3:Int)):=hS;go_simp⟩) S0 ?_
 go_simp
 refine wpAnyH_take (i:=9) (v:=.int .i64 ((U2:Int)*256)) rfl (by kernel_rfl) (by kernel_rfl) (by kernel_rfl) (fun _ _ _ h=>h) (Or.inl ⟨by rfl,fun w hS=>by have hS':w.cell? ⟨pb,po+2,none⟩=some (.int .u8 (U2:Int))∧w.cell? ⟨pb,po+3,none⟩=some (.int .u8 (U3:Int)):=hS;go_simp⟩) S0 ?_
 go_simp
 refine wpAnyH_take (i:=10) (v:=.slice (some ⟨pb,po,none⟩) n c) rfl (by kernel_rfl) (by kernel_rfl) (by kernel_rfl) (fun _ _ _ h=>h) (Or.inl ⟨by rfl,fun w hS=>by have hS':w.cell? ⟨pb,po+2,none⟩=some (.int .u8 (U2:Int))∧w.cell? ⟨pb,po+3,none⟩=some (.int .u8 (U3:Int)):=hS;go_simp⟩) S0 ?_
 go_simp
 refine wpAnyH_take (i:=11) (v:=.pointer (some ⟨pb,po+3,none⟩)) rfl (by kernel_rfl) (by kernel_rfl) (by kernel_rfl) (fun _ _ _ h=>h) (Or.inl ⟨by rfl,fun w hS=>by have hS':w.cell? ⟨pb,po+2,none⟩=some (.int .u8 (U2:Int))∧w.cell? ⟨pb,po+3,none⟩=some (.int .u8 (U3:Int)):=hS;go_simp⟩) S0 ?_
 go_simp
 refine wpAnyH_take (i:=12) (v:=.int .u8 (U3:Int)) rfl (by kernel_rfl) (by kernel_rfl) (by kernel_rfl) (fun _ _ _ h=>h) (Or.inl ⟨by rfl,fun w hS=>by have hS':w.cell? ⟨pb,po+2,none⟩=some (.int .u8 (U2:Int))∧w.cell? ⟨pb,po+3,none⟩=some (.int .u8 (U3:Int)):=hS;obtain ⟨hS1',hS2'⟩:=hS';go_simp⟩) S0 ?_
 go_simp
 refine wpAnyH_take (i:=13) (v:=.int .i64 (U3:Int)) rfl (by kernel_rfl) (by kernel_rfl) (by kernel_rfl) (fun _ _ _ h=>h) (Or.inl ⟨by rfl,fun w hS=>by have hS':w.cell? ⟨pb,po+2,none⟩=some (.int .u8 (U2:Int))∧w.cell? ⟨pb,po+3,none⟩=some (.int .u8 (U3:Int)):=hS;go_simp⟩) S0 ?_
 go_simp
 refine wpAnyH_take (i:=14) (v:=.int .i64 (nx:Int)) rfl (by kernel_rfl) (by kernel_rfl) (by kernel_rfl) (fun _ _ _ h=>h) (Or.inl ⟨by rfl,fun w hS=>by have hS':w.cell? ⟨pb,po+2,none⟩=some (.int .u8 (U2:Int))∧w.cell? ⟨pb,po+3,none⟩=some (.int .u8 (U3:Int)):=hS;go_simp⟩) S0 ?_
 go_simp
 refine wpAnyH_take (i:=15) (v:=.slice (some ⟨pb,po,none⟩) n c) rfl (by kernel_rfl) (by kernel_rfl) (by kernel_rfl) (fun _ _ _ h=>h) (Or.inl ⟨by rfl,fun w hS=>by have hS':w.cell? ⟨pb,po+2,none⟩=some (.int .u8 (U2:Int))∧w.cell? ⟨pb,po+3,none⟩=some (.int .u8 (U3:Int)):=hS;go_simp⟩) S0 ?_
 go_simp
 refine wpAnyH_take (i:=16) (v:=.slice a4 n4 c4) rfl (by kernel_rfl) (by kernel_rfl) (by kernel_rfl) (fun _ _ _ h=>h) (Or.inl ⟨by rfl,fun w hS=>by have hS':w.cell? ⟨pb,po+2,none⟩=some (.int .u8 (U2:Int))∧w.cell? ⟨pb,po+3,none⟩=some (.int .u8 (U3:Int)):=hS;go_simp⟩) S0 ?_
 go_simp
 refine wpAnyH_take (i:=17) (v:=.agg #[.bool T,.int .i64 (lf:Int),.int .i64 (nx:Int),.slice a4 n4 c4]) rfl (by kernel_rfl) (by kernel_rfl) (by kernel_rfl) (fun _ _ _ h=>h) (Or.inl ⟨by rfl,fun w hS=>by have hS':w.cell? ⟨pb,po+2,none⟩=some (.int .u8 (U2:Int))∧w.cell? ⟨pb,po+3,none⟩=some (.int .u8 (U3:Int)):=hS;go_simp⟩) S0 ?_
 go_simp
 have S1:(w2.drew.alloc (.cells #[.bool false,.int .i64 0,.int .i64 0,.slice none 0 0] 161)).cell? ⟨pb,po+2,none⟩=some (.int .u8 (U2:Int))∧(w2.drew.alloc (.cells #[.bool false,.int .i64 0,.int .i64 0,.slice none 0 0] 161)).cell? ⟨pb,po+3,none⟩=some (.int .u8 (U3:Int)):=⟨by rw [(kept_alloc w2.drew _).cell (World.block_lt_of_cell? _ _ S0.1) (by simp)];exact S0.1,by rw [(kept_alloc w2.drew _).cell (World.block_lt_of_cell? _ _ S0.2) (by simp)];exact S0.2⟩
 refine wpAnyH_ready (rs:=[18]) (by kernel_rfl) (by simp) (AllReadyH.cons rfl (fun K hK=>?_) AllReadyH.nil)
 go_simp
 refine hK.out _ _ S1 (fun _=>?_)
 clear hK K
 go_simp
 have k3:Kept [] w2 (w2.alloc (.cells #[.bool T,.int .i64 (lf:Int),.int .i64 (nx:Int),.slice a4 n4 c4] 161)).drew:=((Kept.refl [] w2).alloc _).drew
 have hd3:Bx (w2.alloc (.cells #[.bool T,.int .i64 (lf:Int),.int .i64 (nx:Int),.slice a4 n4 c4] 161)).drew w2.heap.size T lf nx (.slice a4 n4 c4):=heap_alloc_new w2 _
 have S3':(w2.alloc (.cells #[.bool T,.int .i64 (lf:Int),.int .i64 (nx:Int),.slice a4 n4 c4] 161)).drew.cell? ⟨pb,po+2,none⟩=some (.int .u8 (U2:Int))∧(w2.alloc (.cells #[.bool T,.int .i64 (lf:Int),.int .i64 (nx:Int),.slice a4 n4 c4] 161)).drew.cell? ⟨pb,po+3,none⟩=some (.int .u8 (U3:Int)):=⟨by rw [k3.cell (World.block_lt_of_cell? _ _ S2) (by simp)];exact S2,by rw [k3.cell (World.block_lt_of_cell? _ _ S3) (by simp)];exact S3⟩
 refine wpAnyH_ready (rs:=[19]) (by kernel_rfl) (by simp) (AllReadyH.cons rfl (fun K hK=>?_) AllReadyH.nil)
 go_simp
 refine hK.out _ _ S3' (fun _=>?_)
 clear hK K
 go_simp
 refine wpAnyH_done (by kernel_rfl) ?_ _
 have hb3:=hb2.kept k3 (by simp)
 have kk3:=kk2.trans k3 (by simp)
 have HR3:=Hid.mk (hr4 _ _ (HR2.out.kept k3 (by simp)))
 have hdb:w2.heap.size≠b:=by have:=hb2.lt;omega
 have hpb4:∀g,(Value.slice a4 n4 c4).ownBlock=some g→g≠b:=fun g hg=>by rw [hb4 g hg];exact hpbb
 have hF4:Fresh w (.slice a4 n4 c4):=fun g hg=>by rw [hb4 g hg];exact hpbw
 clear S0 S1 S2 S3 S3' HR2 hr4 s4 k3 hb2 kk2
 generalize w2.heap.size=d at hd3 hdb
 generalize (w2.alloc (.cells #[.bool T,.int .i64 (lf:Int),.int .i64 (nx:Int),.slice a4 n4 c4] 161)).drew=w3 at hd3 hb3 kk3 HR3
 obtain ⟨d0,d1,d2,d3⟩:=hd3.cells
 obtain ⟨b0,b1,b2,b3⟩:=hb3.cells
 have f0:=hb3.free 0
 have f1:=hb3.free 1
 have f2:=hb3.free 2
 have f3:=hb3.free 3
 obtain ⟨hz2,kz⟩:=hb3.set false 0 0 (.slice none 0 0)
 obtain ⟨hy2,ky⟩:=hb3.set T lf nx (.slice a4 n4 c4)
 have kkz:=kk3.trans kz (fun x hx=>.inr (by simp at hx;omega))
 have kky:=kk3.trans ky (fun x hx=>.inr (by simp at hx;omega))
 have HRy:=Hid.mk (HR3.out.kept ky (fun g hg=>by simp;exact hpb4 g hg))
 clear HR3 kz ky hn
 unfold Bx at hd3 hb3
 by_cases h2:lf≤20000
 ·have h2i:¬(20000:Int)<(lf:Int):=by omega
  by_cases h3:n4=min lf 238
  ·have h3i:((n4:Int) != min (lf:Int) 238)=false:=by simp;omega
   have hf:=Hid.mk (fin1 _ _ ⟨h2,h3⟩ HRy.out kky hF4)
   clear fin0 fin1 HRy kky kkz hz2 h3
   go_wp2_with fail
   refine bodyPost_ret (results_cell_row2 (ty:=161) (p:=6) (u:=7) rfl _ _ b _ rfl hy2.load _ rfl) rfl ?_
   exact hf.out
  ·have h3i:((n4:Int) != min (lf:Int) 238)=true:=by simp;omega
   have hf:=Hid.mk (fin0 _ (fun h=>h3 h.2) kkz)
   clear fin0 fin1 HRy kky kkz hy2 h3
   go_wp2_with fail
   refine bodyPost_ret (results_cell_row2 (ty:=161) (p:=6) (u:=7) rfl _ _ b _ rfl hz2.load _ rfl) rfl ?_
   exact hf.out
 ·have h2i:(20000:Int)<(lf:Int):=by omega
  have hf:=Hid.mk (fin0 _ (fun h=>h2 h.1) kkz)
  clear fin0 fin1 HRy kky kkz hy2
  go_wp2_with fail
  refine bodyPost_ret (results_cell_row2 (ty:=161) (p:=6) (u:=7) rfl _ _ b _ rfl hz2.load _ rfl) rfl ?_
  exact hf.out
theorem pin_any (nm i:Nat) (v:Value) (B:List UInt8) (w:World) (hnm:nm<65536) (hi:i<65536) (hr:Reads w v B) :
  Calls Tryz.prog 96 #[.int .i64 (nm:Int),.int .i64 (i:Int),v] w fun e w'=>PartAt nm i B w e w':=by
 by_cases h:Fits 3 (plc nm i) B∧4≤(payloadOf B).length
 ·exact pin_yes nm i v B w hnm hi hr h.1 h.2
 ·exact pin_no nm i v B w hnm hi hr h
def obs (vs:List Value):List Nat:=vs.flatMap fun v=>v.ownBlock.toList
theorem mem_obs {vs:List Value}{x:Nat}:x∈obs vs↔∃v∈vs,v.ownBlock=some x:=by simp [obs,List.mem_flatMap,Option.mem_toList]
abbrev Tx:=Nat × List Nat × Value
def entry (x:Tx):Int × Value:=((x.1:Int),x.2.2)
def IsP (w:World) (G:List Nat) (p q fr ct:Nat) (T:List (Nat × List Nat)) (fl:List Nat):Prop :=
 ∃(mb:Nat) (vf:Value) (M:List Tx),G=p::mb::(vf.ownBlock.toList++obs (M.map (·.2.2))) ∧
  w.heap[p]?=some (.cells #[.pointer (some ⟨q,0,none⟩),.int .i64 (fr:Int),.int .i64 (ct:Int),.map (some mb),vf] 65 (0,0)) ∧
  Mp w mb (M.map entry)∧T=M.map (fun x=>(x.1,x.2.1))∧(∀x∈M,ReadsI w x.2.2 x.2.1∧∀g,x.2.2.ownBlock=some g→g<w.heap.size∧g≠p∧g≠mb∧vf.ownBlock≠some g) ∧
  FrS w vf fl∧p≠mb∧vf.ownBlock≠some p∧vf.ownBlock≠some mb
section
variable {w w':World}{G S:List Nat}{p q fr ct:Nat}{T:List (Nat × List Nat)}{fl:List Nat}
theorem IsP.kept (h:IsP w G p q fr ct T fl) (k:Kept S w w') (hn:∀x∈G,x∉S):IsP w' G p q fr ct T fl:=by
 obtain ⟨mb,vf,M,rfl,h1,h2,h3,h4,h5,h6⟩:=h
 refine ⟨mb,vf,M,rfl,k.keeps h1 (hn p (by simp)),h2.kept k (hn mb (by simp)),h3,fun x hx=>⟨(h4 x hx).1.kept k fun g hg=>hn g ?_,fun g hg=>⟨Nat.lt_of_lt_of_le ((h4 x hx).2 g hg).1 k.size,((h4 x hx).2 g hg).2⟩⟩,h5.kept k fun g hg=>hn g (by simp [hg]),h6⟩
 simp only [List.mem_cons,List.mem_append,mem_obs,List.mem_map]
 exact .inr (.inr (.inr ⟨x.2.2,⟨x,hx,rfl⟩,hg⟩))
theorem IsP.lt (h:IsP w G p q fr ct T fl):∀x∈G,x<w.heap.size:=by
 obtain ⟨mb,vf,M,rfl,h1,h2,h3,h4,h5,h6⟩:=h
 intro x hx
 simp only [List.mem_cons,List.mem_append,Option.mem_toList,mem_obs,List.mem_map] at hx
 rcases hx with rfl|rfl|hx|⟨v,⟨y,hy,rfl⟩,hx⟩
 ·exact lt_of_block h1
 ·exact h2.lt
 ·exact h5.lt hx
 ·exact ((h4 y hy).2 x hx).1
theorem IsP.pG (h:IsP w G p q fr ct T fl):p∈G:=by
 obtain ⟨mb,vf,M,rfl,_⟩:=h
 simp
theorem IsP.cells (h:IsP w G p q fr ct T fl):w.cell? ⟨p,0,none⟩=some (.pointer (some ⟨q,0,none⟩))∧w.cell? ⟨p,1,none⟩=some (.int .i64 (fr:Int))∧w.cell? ⟨p,2,none⟩=some (.int .i64 (ct:Int)):=by
 obtain ⟨mb,vf,M,rfl,h1,_⟩:=h
 simp [World.cell?,h1]
theorem IsP.free (h:IsP w G p q fr ct T fl) (j:Nat):w.frozen? ⟨p,j,none⟩=false:=by
 obtain ⟨mb,vf,M,rfl,h1,_⟩:=h
 simp [World.frozen?,h1]
theorem IsP.map (h:IsP w G p q fr ct T fl):∃(mb:Nat) (M:List Tx),w.cell? ⟨p,3,none⟩=some (.map (some mb))∧Mp w mb (M.map entry)∧T=M.map (fun x=>(x.1,x.2.1))∧(∀x∈M,ReadsI w x.2.2 x.2.1)∧mb∈G:=by
 obtain ⟨mb,vf,M,rfl,h1,h2,h3,h4,h5⟩:=h
 exact ⟨mb,M,by simp [World.cell?,h1],h2,h3,fun x hx=>(h4 x hx).1,by simp⟩
theorem IsP.frs (h:IsP w G p q fr ct T fl):∃vf,w.cell? ⟨p,4,none⟩=some vf∧FrS w vf fl:=by
 obtain ⟨mb,vf,M,rfl,h1,h2,h3,h4,h5,_⟩:=h
 exact ⟨vf,by simp [World.cell?,h1],h5⟩
end
theorem IsP.new (w:World) (q fr ct:Nat):IsP ((w.alloc (.map #[] 0)).alloc (.cells #[.pointer (some ⟨q,0,none⟩),.int .i64 (fr:Int),.int .i64 (ct:Int),.map (some w.heap.size),.slice none 0 0] 65)) [w.heap.size+1,w.heap.size] (w.heap.size+1) q fr ct [] []:=by
 have hb:=heap_alloc_new (w.alloc (.map #[] 0)) (.cells #[.pointer (some ⟨q,0,none⟩),.int .i64 (fr:Int),.int .i64 (ct:Int),.map (some w.heap.size),.slice none 0 0] 65)
 rw [World.size_alloc] at hb
 exact ⟨w.heap.size,.slice none 0 0,[],rfl,hb,(Mp.made w).kept (kept_alloc _ _) (by simp),rfl,by simp,FrS.nil _,by omega,by simp [Value.ownBlock],by simp [Value.ownBlock]⟩
set_option maxRecDepth 100000 in
theorem has_in (p fr ct i:Nat) (w:World) (c1:w.cell? ⟨p,1,none⟩=some (.int .i64 (fr:Int))) (c2:w.cell? ⟨p,2,none⟩=some (.int .i64 (ct:Int))) (h1:fr≤i) (h2:i<fr+ct) (hb:fr+ct≤65536) :
  Calls Tryz.prog 35 #[.pointer (some ⟨p,0,none⟩),.int .i64 (i:Int)] w fun e w'=>e=.returned (.bool true)∧Kept [] w w':=by
 have d1:decide ((fr:Int)≤(i:Int))=true:=by simp;omega
 have hw:IntKind.i64.wrap ((i:Int)-(fr:Int))=(i:Int)-(fr:Int):=by rw [IntKind.wrap_i64];omega
 have d2:decide ((i:Int)-(fr:Int)<(ct:Int))=true:=by simp;omega
 have kd:∀N,Kept [] w (w.drewN N):=fun N=>(Kept.refl [] w).drewN N
 go_enter Tryz.func35,Tryz.ntmps35
 go_wp2_with fail
 go_quiet (fail)
 go_wp2
 go_ret
 exact ⟨by first|rfl|(simp;omega)|simp,kd _⟩
set_option maxRecDepth 100000 in
theorem has_out (p fr ct i:Nat) (w:World) (c1:w.cell? ⟨p,1,none⟩=some (.int .i64 (fr:Int))) (c2:w.cell? ⟨p,2,none⟩=some (.int .i64 (ct:Int))) (h:i<fr∨fr+ct≤i) (hb:fr+ct≤65536) (hi:i<4611686018427387904) :
  Calls Tryz.prog 35 #[.pointer (some ⟨p,0,none⟩),.int .i64 (i:Int)] w fun e w'=>e=.returned (.bool false)∧Kept [] w w':=by
 have hw:IntKind.i64.wrap ((i:Int)-(fr:Int))=(i:Int)-(fr:Int):=by rw [IntKind.wrap_i64];omega
 have kd:∀N,Kept [] w (w.drewN N):=fun N=>(Kept.refl [] w).drewN N
 by_cases h1:fr≤i
 ·have d1:decide ((fr:Int)≤(i:Int))=true:=by simp;omega
  have d2:decide ((i:Int)-(fr:Int)<(ct:Int))=false:=by simp;omega
  go_enter Tryz.func35,Tryz.ntmps35
  go_wp2_with fail
  go_quiet (fail)
  go_wp2
  go_ret
  exact ⟨by first|rfl|(simp;omega)|simp,kd _⟩
 ·have d1:decide ((fr:Int)≤(i:Int))=false:=by simp;omega
  go_enter Tryz.func35,Tryz.ntmps35
  go_wp2_with fail
  go_quiet (fail)
  go_wp2
  go_ret
  exact ⟨by first|rfl|(simp;omega)|simp,kd _⟩
end Go.Proofs.YtgpbhlfdlkemjaaGreat
