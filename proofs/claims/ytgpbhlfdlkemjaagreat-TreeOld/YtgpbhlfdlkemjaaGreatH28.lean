import Derived.Deep.RegionLaw
import Derived.Deep.DrawnRows
import Derived.Test.YtgpbhlfdlkemjaaGreatH27
/-
 An item's bytes in a leaf.
-/
namespace Go.Proofs.YtgpbhlfdlkemjaaGreat
open Go.RowKit
set_option linter.unusedVariables false
def encItem (ρ:Rho) (i:Itm):List UInt8:=[by8 i.key.length 0,by8 i.val.length 1,by8 i.val.length 0]++i.key++(if lng i then i.val.take 1++encRef (ρ i.ad) else i.val)
theorem wpList_append_run2 {w:World}{ops:Array Oper}{rest:List Oper}{o:Oper}{a:Act}{Q:Exit→Act→World→Prop} (t u:TypeId) (sl x:Operand)
  (ho:o.op=.call { callee:=.builtin .append,args:=#[sl,x],argTypes:=#[t,u] }) (hgd:Region.wanted o (yielded ops a.tmps)=true) (v y:Value) (hs:a.eval sl=v) (hx:a.eval x=y) (r:Value) (w':World) (hrun:(Builtin.append_ #[t,u] o.type #[v,y]).run Tryz.prog w=.ok r w')
  (h:wpList Tryz.prog ops Q rest (a.put o.dst r) w'):wpList Tryz.prog ops Q (o::rest) a w:=by
 refine wpList_step fun K hK=>?_
 rw [if_pos hgd]
 unfold Oper.wp execOp
 simp only [ho,resolve,invoke,builtin,Sem.run_bind,Sem.run_pure,Result.andThen_ok,List.map_toArray,List.map_cons,List.map_nil,hs,hx,hrun]
 exact hK _ _ h
section
variable {w:World}{F:Nat→Prop}{ρ:Rho}
set_option maxRecDepth 100000 in
set_option maxHeartbeats 4000000 in
theorem appendTo_any {i:Itm} (hI:IsI w F ρ i) (hk:i.key.length≤64) (hv:i.val.length≤20000) (hr:(ρ i.ad).1≤1000000∧(ρ i.ad).2<18446744073709551616) {v:Value}{l:List UInt8} (ho:Owns 5 w v l) (hF:Hid (∀g,v.ownBlock=some g→¬F g)) (hl:l.length≤800000):Calls Tryz.prog 154 #[Pp i.ad,v] w fun e w'=>∃v',e=.returned v'∧Owns 5 w' v' (l++encItem ρ i)∧Kept v.ownBlock.toList w w'∧New w v v':=by
 obtain ⟨aV,cV,c0,c1,c2,c3,hrd⟩:=hI.cells
 have hbk:IntKind.u8.wrap (i.key.length:Int)=((by8 i.key.length 0).toNat:Int):=by rw [IntKind.wrap_u8];simp [by8]
 have hbv:IntKind.u8.wrap ((i.val.length:Int) / 256)=((by8 i.val.length 1).toNat:Int):=by rw [IntKind.wrap_u8];simp [by8]
 have hbl:IntKind.u8.wrap (i.val.length:Int)=((by8 i.val.length 0).toNat:Int):=by rw [IntKind.wrap_u8];simp [by8]
 obtain ⟨a1,e1,w1,hrun1,ho1,k1,hN1⟩:=append_lit (w:=w.drew) (ho.kept (Kept.refl [] w).drew (by simp)) [by8 i.key.length 0,by8 i.val.length 1,by8 i.val.length 0] #[.int .u8 (IntKind.u8.wrap (i.key.length:Int)),.int .u8 (IntKind.u8.wrap ((i.val.length:Int) / 256)),.int .u8 (IntKind.u8.wrap (i.val.length:Int))] (by rw [hbk,hbv,hbl];rfl) 3 rfl (by omega) 48
 clear hbk hbv hbl
 have hdd:Kept [] w w.drew:=(Kept.refl [] w).drew
 have HKV:Hid (Kept v.ownBlock.toList w w1∧New w v (.slice a1 (l.length+3) e1)):=Hid.mk ⟨(hdd.mono (by simp)).trans k1 (fun b hb=>.inl hb),hN1⟩
 have hI1:IsI w1 F ρ i:=hI.kept HKV.out.1 (fun x hx=>hF.out x (by simpa using hx))
 have HF1:Hid (∀g,(Value.slice a1 (l.length+3) e1).ownBlock=some g→¬(F g∧g<w.heap.size)):=Hid.mk fun g hg h=>by
  rcases HKV.out.2 g hg with h1|h1
  ·exact hF.out g h1 h.1
  ·have:=h.2;omega
 obtain ⟨i5,hi5,hz0,hz1,hz2⟩:=info_parts inf5
 have hI1':IsI w1 (fun b=>F b∧b<w.heap.size) ρ i:=(hI.monoS (F':=fun b=>F b∧b<w.heap.size) fun b hb hf=>⟨hf,hb⟩).kept HKV.out.1 (fun x hx h=>hF.out x (by simpa using hx) h.1)
 obtain ⟨v2,w2,hrun2,ho2,hg2,hN2⟩:=run_append_str_lies (P:=Tryz.prog) w1 48 9 48 5 i5 Tryz.underlying48 Tryz.underlying9 hi5 hz0 hz1 hz2 _ _ ho1 ⟨i.key.toArray⟩ (by simp [ByteArray.size];omega)
 have k2:Kept (Value.slice a1 (l.length+3) e1).ownBlock.toList w1 w2:=(Kept.refl _ w1).grown hg2 (fun x hx=>.inl (by rw [Option.mem_toList];exact hx))
 have hI2:IsI w2 (fun b=>F b∧b<w.heap.size) ρ i:=hI1'.kept k2 (fun x hx=>HF1.out x (by simpa using hx))
 have HK2:Hid (Kept v.ownBlock.toList w w2∧New w v v2):=Hid.mk ⟨HKV.out.1.trans k2 (fun b hb=>by
  rcases HKV.out.2 b (by simpa using hb) with h|h
  ·exact .inl (by simpa using h)
  ·exact .inr h),HKV.out.2.trans hN2 HKV.out.1.size⟩
 have hO2:Owns 5 w2 v2 (l++[by8 i.key.length 0,by8 i.val.length 1,by8 i.val.length 0]++i.key):=ho2
 clear ho2 hg2 hN2 k2 hI1' ho1
 have hlong:=item_isLong hI2 (by omega) (by omega)
 have S0:w.drew.cell? ⟨i.ad,2,none⟩=some (.string ⟨i.key.toArray⟩)∧w.drew.cell? ⟨i.ad,3,none⟩=some (.slice aV i.val.length cV):=⟨c2,c3⟩
 have SA:∀o,(w.drew.alloc o).cell? ⟨i.ad,2,none⟩=some (.string ⟨i.key.toArray⟩)∧(w.drew.alloc o).cell? ⟨i.ad,3,none⟩=some (.slice aV i.val.length cV):=fun o=>⟨by rw [(hdd.alloc o).cell (World.block_lt_of_cell? w _ c2) (by simp)];exact c2,by rw [(hdd.alloc o).cell (World.block_lt_of_cell? w _ c3) (by simp)];exact c3⟩
 have S1:w1.cell? ⟨i.ad,2,none⟩=some (.string ⟨i.key.toArray⟩)∧w1.cell? ⟨i.ad,3,none⟩=some (.slice aV i.val.length cV):=by
  have hnv:i.ad∉v.ownBlock.toList:=fun h=>by
   obtain ⟨_,_,_,h3,_⟩:=hI
   exact hF.out _ (by simpa using h) h3
  exact ⟨by rw [HKV.out.1.cell (World.block_lt_of_cell? w _ c2) hnv];exact c2,by rw [HKV.out.1.cell (World.block_lt_of_cell? w _ c3) hnv];exact c3⟩
 go_enter Tryz.func154,Tryz.ntmps154
 go_wp2_with fail
 go_region_held3 (fun w'=>w'.cell? ⟨i.ad,2,none⟩=some (.string ⟨i.key.toArray⟩)∧w'.cell? ⟨i.ad,3,none⟩=some (.slice aV i.val.length cV)) (first|exact S0|exact SA _|exact S1) (first|(refine step_append_run 48 (.tmp 5) (.tmp 25) (by rfl) (by rfl) _ _ (by rfl) (by rfl) hrun1 ?_))
 clear S0 SA S1 hrun1 c0 c1 c2 c3 hrd hdd k1 hN1 hI
 obtain ⟨aV,cV,-,-,c2,-,-⟩:=hI1.cells
 clear hI1
 generalize l.length+3=n1 at *
 go_wp2_with (at_builtin;refine wpList_append_run2 48 9 _ _ rfl rfl _ _ rfl rfl _ _ hrun2 ?_)
 refine hlong.mono ?_
 rintro e w3 ⟨rfl,q,rfl⟩
 clear hrun2 hlong c2
 have kq:Kept [] w2 (w2.drewN q):=(Kept.refl [] w2).drewN q
 have hO3:=hO2.kept kq (by simp)
 have hI3:=hI2.kept kq (by simp)
 have HK3:Hid (Kept v.ownBlock.toList w (w2.drewN q)):=Hid.mk (HK2.out.1.trans kq (by simp))
 generalize w2.drewN q=W3 at *
 clear kq hO2 hI2
 cases hlg:lng i with
 | false =>
  obtain ⟨aV,cV,c0,c1,c2,c3,hrd⟩:=hI3.cells
  obtain ⟨a4,n4,e4,w4,hrun4,ho4,hg4,hN4⟩:=run_append_reads W3 48 v2 _ hO3 _ _ hrd (by simp;omega)
  have HD:Hid (Owns 5 w4 (.slice a4 n4 e4) (l++encItem ρ i)∧Kept v.ownBlock.toList w w4∧New w v (.slice a4 n4 e4)):=Hid.mk ⟨by
   have e:encItem ρ i=[by8 i.key.length 0,by8 i.val.length 1,by8 i.val.length 0]++i.key++i.val:=by unfold encItem;rw [hlg];rfl
   rw [e]
   simpa using ho4,HK3.out.trans ((Kept.refl _ W3).grown hg4 (fun x hx=>.inl (by simpa using hx)):Kept v2.ownBlock.toList W3 w4) (fun b hb=>by
   rcases HK2.out.2 b (by simpa using hb) with h|h
   ·exact .inl (by simpa using h)
   ·exact .inr h),HK2.out.2.trans hN4 HK3.out.size⟩
  clear ho4 hg4 hN4 hO3 hrd hI3 c0 c1 c2
  go_wp2_with (at_builtin;refine wpList_append_run 48 _ _ rfl rfl _ _ rfl rfl _ _ hrun4 ?_)
  go_ret
  exact ⟨_,rfl,HD.out⟩
 | true =>
  obtain ⟨x,xs,hval⟩:∃x xs,i.val=x::xs:=by
   cases e:i.val with
   | nil =>
    have:236<3+i.key.length+i.val.length:=by simpa [lng] using hlg
    rw [e] at this
    simp at this
    omega
   | cons x xs=>exact ⟨x,xs,rfl⟩
  have hne:i.val≠[]:=by rw [hval];simp
  obtain ⟨vv,hbox,hrd,hF3,hFv⟩:=hI3
  obtain ⟨aV,cV,rfl,-,-,-,h5⟩:=hrd
  obtain ⟨b,o,rfl,hcb⟩:=h5 hne
  have hb0:W3.cell? ⟨b,o,none⟩=some (B8 x):=by have:=hcb 0 x (by rw [hval];rfl);rwa [Nat.add_zero] at this
  have hbF:=hFv hne b rfl
  have HNF:Hid (∀g,v2.ownBlock=some g→¬(F g∧g<w.heap.size)):=Hid.mk fun g hg h=>by
   rcases HK2.out.2 g hg with h1|h1
   ·exact hF.out g h1 h.1
   ·have:=h.2;omega
  have SW:Hid (∀W,Kept v2.ownBlock.toList W3 W→(W.cell? ⟨i.ad,0,none⟩=some (.int .i64 ((ρ i.ad).1:Int))∧W.cell? ⟨i.ad,1,none⟩=some (.int .u64 ((ρ i.ad).2:Int))∧W.cell? ⟨i.ad,3,none⟩=some (.slice (some ⟨b,o,none⟩) i.val.length cV)∧W.cell? ⟨b,o,none⟩=some (.int .u8 (x.toNat:Int)))):=Hid.mk fun W kW=>by
   have hh:=kW.keeps hbox (fun h=>HNF.out _ (by simpa using h) hF3)
   refine ⟨by simp [World.cell?,hh],by simp [World.cell?,hh],by simp [World.cell?,hh],?_⟩
   rw [kW.cell (World.block_lt_of_cell? _ _ hb0) (fun h=>HNF.out _ (by simpa using h) hbF)]
   exact hb0
  have kd:Kept v2.ownBlock.toList W3 W3.drew:=(Kept.refl _ W3).drew
  have S0:=SW.out _ kd
  have SA:=fun ob=>SW.out _ (kd.alloc ob)
  obtain ⟨a5,e5,w5,hrun5,ho5,k5,hN5⟩:=append_lit (w:=W3.drew) (hO3.kept (Kept.refl [] W3).drew (by simp)) [x] #[.int .u8 (x.toNat:Int)] rfl 1 rfl (by simp;omega) 48
  have kk5:=kd.trans k5 (fun b hb=>.inl hb)
  have S5:=SW.out _ kk5
  have hN5':New W3 v2 (.slice a5 ((l++[by8 i.key.length 0,by8 i.val.length 1,by8 i.val.length 0]++i.key).length+1) e5):=hN5
  have hcall:Calls Tryz.prog 153 #[.slice a5 ((l++[by8 i.key.length 0,by8 i.val.length 1,by8 i.val.length 0]++i.key).length+1) e5,.agg #[.int .i64 ((ρ i.ad).1:Int),.int .u64 ((ρ i.ad).2:Int)]] w5 fun e w'=>∃v',e=.returned v'∧(w'.cell? ⟨i.ad,0,none⟩=some (.int .i64 ((ρ i.ad).1:Int))∧w'.cell? ⟨i.ad,1,none⟩=some (.int .u64 ((ρ i.ad).2:Int))∧w'.cell? ⟨i.ad,3,none⟩=some (.slice (some ⟨b,o,none⟩) i.val.length cV)∧w'.cell? ⟨b,o,none⟩=some (.int .u8 (x.toNat:Int)))∧Hid (Owns 5 w' v' (l++encItem ρ i)∧Kept v.ownBlock.toList w w'∧New w v v'):=by
   refine (appendRef_any ho5 (by simp;omega) (ρ i.ad).1 (ρ i.ad).2 hr.1 hr.2).mono ?_
   rintro e w6 ⟨v6,rfl,ho6,k6,hN6⟩
   have kk6:Kept v2.ownBlock.toList W3 w6:=kk5.trans k6 (fun b hb=>by
    rcases hN5' b (by simpa using hb) with h|h
    ·exact .inl (by simpa using h)
    ·exact .inr h)
   refine ⟨v6,rfl,SW.out _ kk6,Hid.mk ⟨?_,HK3.out.trans kk6 (fun b hb=>?_),(HK2.out.2.trans hN5' HK3.out.size).trans hN6 (HK3.out.trans kk5 (fun b hb=>?_)).size⟩⟩
   ·have e:encItem ρ i=[by8 i.key.length 0,by8 i.val.length 1,by8 i.val.length 0]++i.key++([x]++encRef (ρ i.ad)):=by unfold encItem;rw [hlg,hval];rfl
    rw [e]
    simpa using ho6
   ·rcases HK2.out.2 b (by simpa using hb) with h|h
    ·exact .inl (by simpa using h)
    ·exact .inr h
   ·rcases HK2.out.2 b (by simpa using hb) with h|h
    ·exact .inl (by simpa using h)
    ·exact .inr h
  have hvl:0<i.val.length:=List.length_pos_iff.2 hne
  generalize (l++[by8 i.key.length 0,by8 i.val.length 1,by8 i.val.length 0]++i.key).length+1=n5 at *
  clear SW kd ho5 k5 hN5 hN5' kk5 hO3 hbox hF3 hFv hcb hb0 hbF h5 hlg hval
  generalize i.val.length=vn at *
  have j1:(0:Int)<(vn:Int):=by omega
  have j2:(0:Int)≤(vn:Int):=by omega
  have j3:(1:Int)≤(vn:Int):=by omega
  go_wp2_with fail
  go_region_held3 (fun w'=>w'.cell? ⟨i.ad,0,none⟩=some (.int .i64 ((ρ i.ad).1:Int))∧w'.cell? ⟨i.ad,1,none⟩=some (.int .u64 ((ρ i.ad).2:Int))∧w'.cell? ⟨i.ad,3,none⟩=some (.slice (some ⟨b,o,none⟩) vn cV)∧w'.cell? ⟨b,o,none⟩=some (.int .u8 (x.toNat:Int))) (first|exact S0|exact SA _|exact S5|exact S6) (first|(go_at_call 153;refine hcall.mono ?_;rintro e w6 ⟨v6,rfl,S6,HD⟩)|(refine step_append_run 48 (.tmp 35) (.tmp 42) (by rfl) (by rfl) _ _ (by rfl) (by rfl) hrun5 ?_))
  all_goals
   clear S0 SA S5 S6 hcall hrun5
   go_wp2
   go_ret
   exact ⟨_,rfl,HD.out⟩
end
section
variable {w:World}{F:Nat→Prop}{ρ:Rho}
set_option maxRecDepth 100000 in
set_option maxHeartbeats 1000000 in
theorem itemText_any {i:Itm} (hI:IsI w F ρ i) (h1:1≤i.val.length) (hv:i.val.length≤20000):Calls Tryz.prog 128 #[Pp i.ad] w fun e w'=>∃v',e=.returned v'∧Owns 5 w' v' (1::i.val.drop 1)∧Kept [] w w'∧Fresh w v':=by
 obtain ⟨aV,cV,c0,c1,c2,c3,hrd⟩:=hI.cells
 obtain ⟨i5,hi5,hz0,hz1,hz2⟩:=info_parts inf5
 have ka:Kept [] w (w.alloc (.cells #[.int .u8 1] 5)):=(Kept.refl [] w).alloc _
 obtain ⟨a',c',hsl,hr',-⟩:=slice_from (P:=Tryz.prog) 48 5 Tryz.underlying48 (fun W=>by kernel_rfl) .i64 aV cV 1 i.val _ (hrd.kept ka (by simp)) h1
 have hO:Owns 5 (w.alloc (.cells #[.int .u8 1] 5)) (.slice (some ⟨w.heap.size,0,none⟩) 1 1) [1]:=own_new w [1] _ (by simp [C8,B8]) 1 rfl (by unfold maxLen;omega)
 obtain ⟨ad,n,cap,w2,hrun,ho2,hg2,hN2⟩:=run_append_reads _ 48 _ _ hO _ _ hr' (by simp;omega)
 have HD:Hid (Owns 5 w2 (.slice ad n cap) (1::i.val.drop 1)∧Kept [] w w2∧Fresh w (.slice ad n cap)):=Hid.mk ⟨ho2,ka.grown hg2 (fun x hx=>.inr (Nat.le_of_eq (by simpa [Value.ownBlock] using hx))),fun g hg=>by
  rcases hN2 g hg with h|h
  ·have e:w.heap.size=g:=by simpa [Value.ownBlock] using h
   omega
  ·exact Nat.le_trans ka.size h⟩
 have c3':(w.alloc (.cells #[.int .u8 1] 5)).cell? ⟨i.ad,3,none⟩=some (.slice aV i.val.length cV):=by rw [ka.cell (World.block_lt_of_cell? w _ c3) (by simp)];exact c3
 clear ho2 hg2 hN2 hO hr' hrd c0 c1 c2 hI ka
 have hsl1:∀W,(Instr.slice 48 (.slice aV i.val.length cV) (some (.int .i64 1)) none none).run Tryz.prog W=.ok (.slice a' (i.val.length-1) c') W:=hsl
 clear hsl
 generalize i.val.length-1=m' at *
 go_enter Tryz.func128,Tryz.ntmps128
 go_wp2_with (at_builtin;refine wpList_append_run 48 _ _ rfl rfl _ _ rfl rfl _ _ hrun ?_)
 go_ret
 exact ⟨_,rfl,HD.out⟩
set_option maxRecDepth 100000 in
set_option maxHeartbeats 1000000 in
theorem refTo_any (nm:Nat) {v:Value}{l:List UInt8} (hr:Reads w v l):Calls Tryz.prog 68 #[.int .i64 (nm:Int),v] w fun e w'=>e=.returned (.agg #[.int .i64 (nm:Int),.int .u64 ((fnv l:Nat):Int)])∧Kept [] w w':=by
 have ka:∀ob,Kept [] w (w.alloc ob):=fun ob=>(Kept.refl [] w).alloc ob
 have hs:=fun ob=>sum_any v l (w.alloc ob) (hr.kept (ka ob) (by simp))
 go_enter Tryz.func68,Tryz.ntmps68
 go_wp2_with fail
 refine (hs _).mono ?_
 rintro e w' ⟨rfl,rfl⟩
 go_wp2
 refine bodyPost_ret (by simp [results,Tryz.results68,go_sem];try rfl) rfl ?_
 exact ⟨rfl,ka _⟩
end
def encKids (ρ:Rho):{k:Nat}→Tr k→List UInt8
 | 0,n=>n.2.flatMap (encItem ρ)
 | _+1,n=>n.2.flatMap fun u=>encRef (ρ (adr u))
def encNode (kd:UInt8) (ρ:Rho) {k:Nat} (n:Tr k):List UInt8:=[kd,by8 k 0]++encKids ρ n
def RhoOk (ρ:Rho):Prop:=∀b,(ρ b).1≤1000000∧(ρ b).2<18446744073709551616
theorem make238 (W:World):(Instr.makeSlice 48 (.int .i64 0) (.int .i64 238)).run Tryz.prog W=.ok (.slice (some ⟨W.heap.size,0,none⟩) 0 238) (W.alloc (.cells (C8 (zs 238)).toArray 5)):=make4 234 (by omega) W
theorem head_runs (w:World) (kd lb:UInt8) (M:Array Value) (hM:M=(C8 (zs 238)).toArray) (B:Array Value) (hB:B=#[.int .u8 (kd.toNat:Int),.int .u8 (lb.toNat:Int)]) :
  (∃a c w',(Builtin.append_ #[48,48] 48 #[.slice (some ⟨w.heap.size,0,none⟩) 0 238,.slice (some ⟨w.heap.size+1,0,none⟩) 2 2]).run Tryz.prog ((w.alloc (.cells M 5)).alloc (.cells B 5))=.ok (.slice a 2 c) w'∧Owns 5 w' (.slice a 2 c) [kd,lb]∧Kept [] w w'∧Fresh w (.slice a 2 c)) ∧
  (∃a c w',(Builtin.append_ #[48,48] 48 #[.slice (some ⟨w.heap.size+1,0,none⟩) 0 238,.slice (some ⟨w.heap.size,0,none⟩) 2 2]).run Tryz.prog ((w.alloc (.cells B 5)).alloc (.cells M 5))=.ok (.slice a 2 c) w'∧Owns 5 w' (.slice a 2 c) [kd,lb]∧Kept [] w w'∧Fresh w (.slice a 2 c)):=by
 have hB':B=(C8 [kd,lb]).toArray:=by rw [hB];simp [C8,B8]
 have hMo:∀W:World,Owns 5 (W.alloc (.cells M 5)) (.slice (some ⟨W.heap.size,0,none⟩) 0 238) []:=fun W=>by
  have hR:Row (W.alloc (.cells M 5)) W.heap.size ([]++zs 238):=by rw [hM];exact heap_alloc_new W _
  exact owns_row hR 0 238 rfl (by rw [zs,List.length_replicate]) (by unfold maxLen;omega)
 have kM:Kept [] w (w.alloc (.cells M 5)):=(Kept.refl [] w).alloc _
 have kB:Kept [] w (w.alloc (.cells B 5)):=(Kept.refl [] w).alloc _
 refine ⟨?_,?_⟩
 ·obtain ⟨a,c,w',h1,h2,h3,h4⟩:=append_lit (hMo w) [kd,lb] B hB' 2 rfl (by simp) 48
  rw [World.size_alloc] at h1
  refine ⟨a,c,w',h1,h2,(kM.mono (by simp)).trans h3 (fun b hb=>.inr (by simp [Value.ownBlock] at hb;exact Nat.le_of_eq hb.symm)),fun g hg=>?_⟩
  rcases h4 g hg with h|h
  ·exact Nat.le_of_eq (by simpa [Value.ownBlock] using h)
  ·exact Nat.le_trans kM.size h
 ·have hr:=((own_new w [kd,lb] B hB' 2 rfl (by unfold maxLen;omega)).kept ((Kept.refl [] _).alloc (.cells M 5)) (by simp)).reads
  have hMo':=hMo (w.alloc (.cells B 5))
  rw [World.size_alloc] at hMo'
  obtain ⟨a,n,c,w',h1,h2,h3,h4⟩:=run_append_reads _ 48 _ [] hMo' _ _ hr (by simp)
  obtain ⟨a',c',e⟩:=h2.form
  injection e with _ e _
  subst e
  have hs:=kB.size
  rw [World.size_alloc] at hs
  refine ⟨a,c,w',h1,h2,(kB.alloc _).grown h3 (fun x hx=>.inr ?_),fun g hg=>?_⟩
  ·have e:w.heap.size+1=x:=by simpa [Value.ownBlock] using hx
   omega
  ·rcases h4 g hg with h|h
   ·have e:w.heap.size+1=g:=by simpa [Value.ownBlock] using h
    omega
   ·exact Nat.le_trans (kB.alloc _).size h
def AtT (w:World) (x:List UInt8) (wr:World) (u:Value):Prop:=Owns 5 wr u x∧Kept [] w wr∧Fresh w u
theorem AtT.next {w wr w2:World}{u u2:Value}{x y:List UInt8} (h:AtT w x wr u) (ho:Owns 5 w2 u2 y) (k:Kept u.ownBlock.toList wr w2) (hN:New wr u u2):AtT w y w2 u2:=by
 obtain ⟨h1,h2,h3⟩:=h
 refine ⟨ho,h2.trans k (fun b hb=>.inr (h3 b (by simpa using hb))),fun g hg=>?_⟩
 rcases hN g hg with h|h
 ·exact h3 g h
 ·exact Nat.le_trans h2.size h
section
variable {w:World}{F:Nat→Prop}{ρ:Rho}
theorem enc_len_le {α:Type} (f:α→List UInt8) (g:α→Nat) (h:∀a,(f a).length≤g a) (l:List α):(l.flatMap f).length≤(l.map g).sum:=by
 induction l with
 | nil=>simp
 | cons a r ih =>
  rw [List.flatMap_cons,List.length_append,List.map_cons,List.sum_cons]
  have:=h a
  omega
set_option maxRecDepth 100000 in
set_option maxHeartbeats 2000000 in
theorem nodeText_br {k:Nat}{n:Tr (k+1)} (hN:IsN w F ρ n) (hk:k≤100000) (hl:n.2.length≤23) (hρ:Hid (RhoOk ρ)) (kd:UInt8):Calls Tryz.prog 129 #[Pp n.1,.int .u8 (kd.toNat:Int)] w fun e w'=>∃v',e=.returned v'∧Owns 5 w' v' (encNode kd ρ n)∧Kept [] w w'∧Fresh w v':=by
 obtain ⟨aI,cI,aU,cU,c0,c1,c2,c3,c4,r3,r4,-⟩:=hN.isB.raw
 rw [show adr n=n.1 from rfl] at c0 c1 c2 c3 c4
 have hui:(ia n).length=0:=rfl
 have huu:(ua n).length=n.2.length:=by show (n.2.map adr).length=_;rw [List.length_map]
 have hua:Hid (ua n=n.2.map adr):=Hid.mk rfl
 rw [hui] at c3
 rw [huu] at c4 r4
 rw [hua.out] at r4
 have hkk:((k+1:Nat):Int)=(k:Int)+1:=by omega
 rw [hkk] at c2
 have hlb:IntKind.u8.wrap ((k:Int)+1)=((by8 (k+1) 0).toNat:Int):=by rw [IntKind.wrap_u8];simp [by8]
 have hlt0:Hid (n.1<w.heap.size):=Hid.mk hN.lt
 have HK:Hid (∀W i,Kept [] w W→W.cell? ⟨n.1,i,none⟩=w.cell? ⟨n.1,i,none⟩):=Hid.mk fun W i kW=>kW.cell hlt0.out (by simp)
 have SW:Hid (∀W,Kept [] w W→W.cell? ⟨n.1,2,none⟩=some (.int .i64 ((k:Int)+1))):=Hid.mk fun W kW=>by rw [HK.out W 2 kW];exact c2
 have HK3:Hid (∀W,Kept [] w W→W.cell? ⟨n.1,3,none⟩=some (.slice aI 0 cI)):=Hid.mk fun W kW=>by rw [HK.out W 3 kW];exact c3
 have HK4:Hid (∀W,Kept [] w W→W.cell? ⟨n.1,4,none⟩=some (.slice aU n.2.length cU)):=Hid.mk fun W kW=>by rw [HK.out W 4 kW];exact c4
 have HRD:Hid (∀W,Kept [] w W→ReadsP W (.slice aU n.2.length cU) (n.2.map adr)):=Hid.mk fun W kW=>r4.kept kW (by simp)
 have HU:Hid (∀u∈n.2,∀W,Kept [] w W→IsN W F ρ u):=Hid.mk fun u hu W kW=>(hN.2 u hu).kept kW (by simp)
 obtain ⟨HrA,HrB⟩:=head_runs w.drew kd (by8 (k+1) 0) _ rfl _ rfl
 have hmk:=make238
 obtain ⟨M,HM⟩:∃M,Hid ((C8 (zs 238)).toArray=M):=⟨_,rfl⟩
 rw [HM.out] at HrA HrB hmk
 rw [←hlb] at HrA HrB
 obtain ⟨aA,eA,wA,hrA,pA⟩:=HrA
 obtain ⟨aB,eB,wB,hrB,pB⟩:=HrB
 have HrA:Hid (∃a c w',(∀v y W,v=.slice (some ⟨w.heap.size,0,none⟩) 0 238→y=.slice (some ⟨w.heap.size+1,0,none⟩) 2 2→W=(w.drew.alloc (.cells M 5)).alloc (.cells #[.int .u8 (kd.toNat:Int),.int .u8 (IntKind.u8.wrap ((k:Int)+1))] 5)→(Builtin.append_ #[48,48] 48 #[v,y]).run Tryz.prog W=.ok (.slice a 2 c) w')∧Owns 5 w' (.slice a 2 c) [kd,by8 (k+1) 0]∧Kept [] w.drew w'∧Fresh w.drew (.slice a 2 c)):=Hid.mk ⟨aA,eA,wA,fun v y W e1 e2 e3=>by subst e1 e2 e3;exact hrA,pA⟩
 have HrB:Hid (∃a c w',(∀v y W,v=.slice (some ⟨w.heap.size+1,0,none⟩) 0 238→y=.slice (some ⟨w.heap.size,0,none⟩) 2 2→W=(w.drew.alloc (.cells #[.int .u8 (kd.toNat:Int),.int .u8 (IntKind.u8.wrap ((k:Int)+1))] 5)).alloc (.cells M 5)→(Builtin.append_ #[48,48] 48 #[v,y]).run Tryz.prog W=.ok (.slice a 2 c) w')∧Owns 5 w' (.slice a 2 c) [kd,by8 (k+1) 0]∧Kept [] w.drew w'∧Fresh w.drew (.slice a 2 c)):=Hid.mk ⟨aB,eB,wB,fun v y W e1 e2 e3=>by subst e1 e2 e3;exact hrB,pB⟩
 clear hrA pA hrB pB
 have kd0:Kept [] w w.drew:=(Kept.refl [] w).drew
 have S0:=SW.out _ kd0
 have SA:=fun ob=>SW.out _ (kd0.alloc ob)
 have SB:=fun ob ob'=>SW.out _ ((kd0.alloc ob).alloc ob')
 have HE:Hid (encNode kd ρ n=[kd,by8 (k+1) 0]++n.2.flatMap fun u=>encRef (ρ (adr u))):=Hid.mk rfl
 have Hlen:Hid (∀j,([kd,by8 (k+1) 0]++(n.2.take j).flatMap fun u=>encRef (ρ (adr u))).length≤1000):=Hid.mk fun j=>by
  have h1:=enc_len_le (fun u:Tr k=>encRef (ρ (adr u))) (fun _=>10) (fun u=>Nat.le_of_eq (encRef_length _)) (n.2.take j)
  have h2:((n.2.take j).map fun _=>10).sum≤10*n.2.length:=by
   have h3:(n.2.take j).length≤n.2.length:=by rw [List.length_take];omega
   have h4:∀l:List (Tr k),(l.map fun _=>10).sum=10*l.length:=fun l=>by
    induction l with
    | nil=>rfl
    | cons a r ih=>rw [List.map_cons,List.sum_cons,ih,List.length_cons];omega
   rw [h4]
   omega
  rw [List.length_append]
  show 2+_≤1000
  omega
 obtain ⟨N,HN⟩:∃N,Hid (n.2.length=N):=⟨_,rfl⟩
 rw [HN.out] at hl HK4 HRD
 obtain ⟨A,HA⟩:∃A,Hid (n.1=A):=⟨_,rfl⟩
 rw [HA.out] at SW HK3 HK4 S0 SA SB ⊢
 clear hN c0 c1 c2 c3 c4 r3 r4 hui huu hua hkk hlb HK
 go_enter Tryz.func129,Tryz.ntmps129
 go_wp2_with fail
 go_region_held3 (fun w'=>w'.cell? ⟨A,2,none⟩=some (.int .i64 ((k:Int)+1))) (first|exact S0|exact SA _|exact SB _ _|exact S1) (first|(obtain ⟨a1,e1,w1,hrun1,ho1,k1,hf1⟩:=HrA.out;have S1:=SW.out _ (kd0.trans k1 (by simp));refine step_append_run 48 (.tmp 10) (.tmp 17) (by rfl) (by rfl) _ _ (by rfl) (by rfl) (hrun1 _ _ _ rfl rfl rfl) ?_)|(obtain ⟨a1,e1,w1,hrun1,ho1,k1,hf1⟩:=HrB.out;have S1:=SW.out _ (kd0.trans k1 (by simp));refine step_append_run 48 (.tmp 10) (.tmp 17) (by rfl) (by rfl) _ _ (by rfl) (by rfl) (hrun1 _ _ _ rfl rfl rfl) ?_))
 all_goals
  have hT1:AtT w [kd,by8 (k+1) 0] w1 (.slice a1 2 e1):=⟨ho1,kd0.trans k1 (by simp),hf1⟩
  have d4:=HK4.out w1 hT1.2.1
  have HT1:=Hid.mk hT1
  clear hrun1 ho1 k1 hf1 S0 SA SB S1 hmk hT1 kd0
  go_wp2_with fail
  go_loopw [5,24] (fun u i wr=>∃j:Nat,i=.int .i64 (j:Int)∧j≤N∧Hid (AtT w ([kd,by8 (k+1) 0]++(n.2.take j).flatMap fun u=>encRef (ρ (adr u))) wr u)) (fun _ i _=>N-(intOf i).toNat)
  case atStart=>exact ⟨0,rfl,by omega,Hid.mk (by simpa using HT1.out)⟩
  case round =>
   obtain ⟨j,rfl,hj,hA⟩:=hrel
   by_cases hlt:j<N
   ·obtain ⟨u,hu⟩:∃u,n.2[j]?=some u:=⟨_,List.getElem?_eq_getElem (by have:=HN.out;omega)⟩
    have kk:=hA.out.2.1
    obtain ⟨b,o,c',e,hcell⟩:=(HRD.out wr kk).at j (adr u) (by rw [List.getElem?_map,hu];rfl)
    rw [List.length_map,HN.out] at e
    injection e with e eN e2
    subst e e2
    clear eN
    obtain ⟨x0,x1⟩:=(HU.out u (List.mem_of_getElem? hu) wr kk).ref
    have hcall:=appendRef_any hA.out.1 (Nat.le_trans (Hlen.out j) (by omega)) (ρ (adr u)).1 (ρ (adr u)).2 (hρ.out _).1 (hρ.out _).2
    have HNX:Hid (∀w2 u2,Owns 5 w2 u2 ([kd,by8 (k+1) 0]++((n.2.take j).flatMap fun u=>encRef (ρ (adr u)))++encRef ((ρ (adr u)).1,(ρ (adr u)).2))→Kept u5.ownBlock.toList wr w2→New wr u5 u2→AtT w ([kd,by8 (k+1) 0]++(n.2.take (j+1)).flatMap fun u=>encRef (ρ (adr u))) w2 u2):=Hid.mk fun w2 u2 h1 h2 h3=>hA.out.next (by
     rw [tsnoc hu,List.flatMap_append]
     simpa using h1) h2 h3
    clear hu kk d4
    generalize adr u=U at *
    generalize (ρ U).1=r1 at *
    generalize (ρ U).2=r2 at *
    go_wp2_with fail
    refine hcall.mono ?_
    rintro e w2 ⟨v2,rfl,h1,h2,h3⟩
    have HR2:=Hid.mk (HNX.out w2 v2 h1 h2 h3)
    clear hcall HNX h1 h2 h3 hA x0 x1 hcell
    go_wp2
    go_roundw
    case rel=>exact ⟨j+1,by go_num,by omega,HR2⟩
    case measure=>simp [intOf];omega
   ·obtain rfl:j=N:=by omega
    have d3:=HK3.out wr hA.out.2.1
    have HF:Hid (Owns 5 wr u5 (encNode kd ρ n)∧Kept [] w wr∧Fresh w u5):=Hid.mk (by
     have h1:=hA.out
     rw [List.take_of_length_le (by have:=HN.out;omega),←HE.out] at h1
     exact h1)
    clear d4 hA
    go_wp2_with fail
    go_loopw [5,40] (fun u i w'=>u=u5∧i=.int .i64 0∧wr=w') (fun _ _ _=>0)
    case atStart=>exact ⟨rfl,rfl,rfl⟩
    case round =>
     obtain ⟨rfl,rfl,rfl⟩:=hrel
     go_wp2
     go_ret
     exact ⟨_,rfl,HF.out⟩
end
end Go.Proofs.YtgpbhlfdlkemjaaGreat
