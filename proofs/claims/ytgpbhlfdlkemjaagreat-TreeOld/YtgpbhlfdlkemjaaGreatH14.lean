import Derived.Shelf.SlIterI.Nil
import Derived.Shelf.SortM.Plain
import Derived.Shelf.SortM.SortNone
import Derived.Ground.GgzProg
import Derived.Ground.SlgmProg
import Derived.Test.YtgpbhlfdlkemjaaGreatProg
import Derived.Test.YtgpbhlfdlkemjaaGreatH13
/-
 maps.Keys, slices.Sorted and slices.Sort of this program, held against the library's contracts.
-/
namespace Go.Proofs.YtgpbhlfdlkemjaaGreat
open Go.Shelf
def keysA_ren:Go.Shelf.Ren:=⟨fun|7=>61|10=>94|n=>n,fun|23=>63|26=>3|3=>41|28=>94|0=>0|27=>93|33=>67|4=>4|n=>n,fun|n=>n⟩
theorem keysA:Go.Proofs.SlLaysZI.n7 Tryz.prog keysA_ren:={
 mixed:=by kernel_rfl
 f7:=⟨Tryz.f61.name,by decide,Tryz.func61.trans (congrArg some (by kernel_rfl))⟩
 f10:=⟨Tryz.f94.name,by decide,Tryz.func94.trans (congrArg some (by kernel_rfl))⟩
 t0:=Tryz.underlying0
 a0:=Tryz.isAgg0
 z0:=Tryz.sizeOf0
 v0:=Tryz.zeroValue0
 t4:=Tryz.underlying4
 a4:=Tryz.isAgg4
 z4:=Tryz.sizeOf4
 v4:=Tryz.zeroValue4
 t23:=Tryz.underlying63
 a23:=Tryz.isAgg63
 z23:=Tryz.sizeOf63
 v23:=Tryz.zeroValue63
 t26:=Tryz.underlying3
 a26:=Tryz.isAgg3
 z26:=Tryz.sizeOf3
 v26:=Tryz.zeroValue3
 t27:=Tryz.underlying93
 a27:=Tryz.isAgg93
 z27:=Tryz.sizeOf93
 v27:=Tryz.zeroValue93
 t28:=Tryz.underlying94
 a28:=Tryz.isAgg94
 z28:=Tryz.sizeOf94
 v28:=Tryz.zeroValue94
 t33:=Tryz.underlying67
 a33:=Tryz.isAgg67
 z33:=Tryz.sizeOf67
 v33:=Tryz.zeroValue67 }
def sortedA_ren:Go.Shelf.Ren:=⟨fun|6=>51|8=>85|9=>86|11=>130|13=>74|12=>131|23=>114|24=>115|14=>155|15=>156|16=>157|17=>158|18=>159|19=>160|20=>161|21=>162|22=>163|25=>171|26=>144|27=>145|28=>172|29=>173|30=>174|31=>180|n=>n,fun|26=>3|28=>94|24=>41|0=>0|3=>3|37=>44|48=>180|50=>23|4=>4|40=>174|39=>173|45=>157|5=>5|9=>9|51=>207|55=>211|57=>229|58=>230|33=>67|n=>n,fun|n=>n⟩
theorem sortedA:Go.Proofs.SlLaysZI.n6 Tryz.prog sortedA_ren:={
 mixed:=by kernel_rfl
 f6:=⟨Tryz.f51.name,by decide,Tryz.func51.trans (congrArg some (by kernel_rfl))⟩
 f8:=⟨Tryz.f85.name,by decide,Tryz.func85.trans (congrArg some (by kernel_rfl))⟩
 f11:=⟨Tryz.f130.name,by decide,Tryz.func130.trans (congrArg some (by kernel_rfl))⟩
 t0:=Tryz.underlying0
 a0:=Tryz.isAgg0
 z0:=Tryz.sizeOf0
 v0:=Tryz.zeroValue0
 t24:=Tryz.underlying41
 a24:=Tryz.isAgg41
 z24:=Tryz.sizeOf41
 v24:=Tryz.zeroValue41
 t26:=Tryz.underlying3
 a26:=Tryz.isAgg3
 z26:=Tryz.sizeOf3
 v26:=Tryz.zeroValue3
 t28:=Tryz.underlying94
 a28:=Tryz.isAgg94
 z28:=Tryz.sizeOf94
 v28:=Tryz.zeroValue94
 i26:=by kernel_rfl }
def sortA_ren:Go.Shelf.Ren:=⟨fun|5=>86|8=>74|7=>131|19=>114|20=>115|10=>155|11=>156|12=>157|13=>158|14=>159|15=>160|16=>161|17=>162|18=>163|30=>171|31=>144|32=>145|33=>172|34=>173|35=>174|40=>180|n=>n,fun|23=>41|25=>3|3=>3|32=>44|22=>41|0=>0|44=>180|46=>23|4=>4|36=>174|35=>173|41=>157|5=>5|9=>9|53=>207|57=>211|63=>229|64=>230|n=>n,fun|n=>n⟩
theorem sortA:Go.Proofs.SlLaysM.n5 Tryz.prog sortA_ren:={
 mixed:=by kernel_rfl
 f5:=⟨Tryz.f86.name,by decide,Tryz.func86.trans (congrArg some (by kernel_rfl))⟩
 f7:=⟨Tryz.f131.name,by decide,Tryz.func131.trans (congrArg some (by kernel_rfl))⟩
 f8:=Tryz.func74.trans (congrArg some (by kernel_rfl))
 f10:=⟨Tryz.f155.name,by decide,Tryz.func155.trans (congrArg some (by kernel_rfl))⟩
 f11:=⟨Tryz.f156.name,by decide,Tryz.func156.trans (congrArg some (by kernel_rfl))⟩
 f12:=⟨Tryz.f157.name,by decide,Tryz.func157.trans (congrArg some (by kernel_rfl))⟩
 f13:=⟨Tryz.f158.name,by decide,Tryz.func158.trans (congrArg some (by kernel_rfl))⟩
 f14:=⟨Tryz.f159.name,by decide,Tryz.func159.trans (congrArg some (by kernel_rfl))⟩
 f15:=⟨Tryz.f160.name,by decide,Tryz.func160.trans (congrArg some (by kernel_rfl))⟩
 f16:=⟨Tryz.f161.name,by decide,Tryz.func161.trans (congrArg some (by kernel_rfl))⟩
 f17:=⟨Tryz.f162.name,by decide,Tryz.func162.trans (congrArg some (by kernel_rfl))⟩
 f18:=⟨Tryz.f163.name,by decide,Tryz.func163.trans (congrArg some (by kernel_rfl))⟩
 f19:=Tryz.func114.trans (congrArg some (by kernel_rfl))
 f20:=Tryz.func115.trans (congrArg some (by kernel_rfl))
 f30:=⟨Tryz.f171.name,by decide,Tryz.func171.trans (congrArg some (by kernel_rfl))⟩
 f31:=Tryz.func144.trans (congrArg some (by kernel_rfl))
 f32:=Tryz.func145.trans (congrArg some (by kernel_rfl))
 f33:=⟨Tryz.f172.name,by decide,Tryz.func172.trans (congrArg some (by kernel_rfl))⟩
 f34:=⟨Tryz.f173.name,by decide,Tryz.func173.trans (congrArg some (by kernel_rfl))⟩
 f35:=⟨Tryz.f174.name,by decide,Tryz.func174.trans (congrArg some (by kernel_rfl))⟩
 f40:=⟨Tryz.f180.name,by decide,Tryz.func180.trans (congrArg some (by kernel_rfl))⟩
 t0:=Tryz.underlying0
 a0:=Tryz.isAgg0
 z0:=Tryz.sizeOf0
 v0:=Tryz.zeroValue0
 t3:=Tryz.underlying3
 a3:=Tryz.isAgg3
 z3:=Tryz.sizeOf3
 v3:=Tryz.zeroValue3
 t4:=Tryz.underlying4
 a4:=Tryz.isAgg4
 z4:=Tryz.sizeOf4
 v4:=Tryz.zeroValue4
 t5:=Tryz.underlying5
 a5:=Tryz.isAgg5
 z5:=Tryz.sizeOf5
 v5:=Tryz.zeroValue5
 t9:=Tryz.underlying9
 a9:=Tryz.isAgg9
 z9:=Tryz.sizeOf9
 v9:=Tryz.zeroValue9
 t22:=Tryz.underlying41
 a22:=Tryz.isAgg41
 z22:=Tryz.sizeOf41
 v22:=Tryz.zeroValue41
 t23:=Tryz.underlying41
 a23:=Tryz.isAgg41
 z23:=Tryz.sizeOf41
 v23:=Tryz.zeroValue41
 t25:=Tryz.underlying3
 a25:=Tryz.isAgg3
 z25:=Tryz.sizeOf3
 v25:=Tryz.zeroValue3
 t32:=Tryz.underlying44
 a32:=Tryz.isAgg44
 z32:=Tryz.sizeOf44
 v32:=Tryz.zeroValue44
 t35:=Tryz.underlying173
 a35:=Tryz.isAgg173
 z35:=Tryz.sizeOf173
 v35:=Tryz.zeroValue173
 t36:=Tryz.underlying174
 a36:=Tryz.isAgg174
 z36:=Tryz.sizeOf174
 v36:=Tryz.zeroValue174
 t41:=Tryz.underlying157
 a41:=Tryz.isAgg157
 z41:=Tryz.sizeOf157
 v41:=Tryz.zeroValue157
 t44:=Tryz.underlying180
 a44:=Tryz.isAgg180
 z44:=Tryz.sizeOf180
 v44:=Tryz.zeroValue180
 t46:=Tryz.underlying23
 a46:=Tryz.isAgg23
 z46:=Tryz.sizeOf23
 v46:=Tryz.zeroValue23
 t53:=Tryz.underlying207
 a53:=Tryz.isAgg207
 z53:=Tryz.sizeOf207
 v53:=Tryz.zeroValue207
 t57:=Tryz.underlying211
 a57:=Tryz.isAgg211
 z57:=Tryz.sizeOf211
 v57:=Tryz.zeroValue211
 t63:=Tryz.underlying229
 a63:=Tryz.isAgg229
 z63:=Tryz.sizeOf229
 v63:=Tryz.zeroValue229
 t64:=Tryz.underlying230
 a64:=Tryz.isAgg230
 z64:=Tryz.sizeOf230
 v64:=Tryz.zeroValue230 }
end Go.Proofs.YtgpbhlfdlkemjaaGreat
namespace Go.Proofs.YtgpbhlfdlkemjaaGreat
open Go.RowKit Go.Maps Go.Sort Go.Shelf
set_option linter.unusedVariables false
theorem sortsA (m:Nat):AnyZI.SortsIn Tryz.prog sortedA_ren Fence.wide m :=
 ⟨fun blk off cap ss W hH hblk hsz=>callsIn_wide.2 (AnyM.slices_Sort_int sortA blk off cap ss W hH hblk hsz),
   fun p cap W=>callsIn_wide.2 (AnyM.slices_Sort_int_none sortA p cap W)⟩
theorem Below.kept {w w':World} (h:Below w.heap.size w w'):Kept [] w w':=⟨h.os,h.tape,h.output,h.size,fun k hk _=>h.block k hk⟩
theorem ownsI_of {w0 w:World}{v:Value}{zs:List Int} (h:w.ownsRow w0.heap.size 3 1 v zs.length (zs.map encZ)) (hz:∀z∈zs,0≤z):OwnsI w v (zs.map Int.toNat)∧Fresh w0 v:=by
 have e:C64 (zs.map Int.toNat)=zs.map encZ:=by
  unfold C64
  rw [List.map_map]
  apply List.map_congr_left
  intro z hm
  have:=hz z hm
  simp [encZ]
  omega
 constructor
 ·unfold OwnsI
  rw [e,List.length_map]
  refine ⟨h.1,?_⟩
  rcases h.2 with h0|⟨g,cap,cur,h1,h2,h3⟩
  ·exact .inl h0
  ·exact .inr ⟨g,cap,cur,h1,Nat.zero_le _,h3⟩
 ·intro g hg
  rcases h.2 with ⟨rfl,_⟩|⟨g',cap,cur,rfl,h2,h3⟩
  ·simp [Value.ownBlock] at hg
  ·simp [Value.ownBlock] at hg
   omega
set_option maxRecDepth 100000 in
set_option maxHeartbeats 1000000 in
theorem names_int {w:World}{G:List Nat}{p q fr ct:Nat}{T:List (Nat × List Nat)}{fl:List Nat} (hP:IsP w G p q fr ct T fl) (hT:T.length≤100000) :
  Calls Tryz.prog 27 #[.pointer (some ⟨p,0,none⟩)] w fun e w'=>∃(v:Value) (ss:List Int),e=.returned v∧ss.Perm (T.map fun x=>(x.1:Int))∧w'.ownsRow w.heap.size 3 1 v ss.length ((ss.mergeSort (fun x y=>decide (x≤y))).map encZ)∧Below w.heap.size w w':=by
 obtain ⟨mb,M,c3,hM,hTM,-,-⟩:=hP.map
 obtain ⟨D0,hown,hsz,hperm⟩:=hM.keys
 have hMl:(M.map entry).length=T.length:=by rw [hTM,List.length_map,List.length_map]
 have hmax:Maps.size D0≤maxLen:=by unfold maxLen;omega
 have hbytes:Maps.size D0*8≤140737488355328:=by omega
 have hkeys:(intKeys D0).Perm (T.map fun x=>(x.1:Int)):=by
  refine hperm.symm.trans ?_
  rw [keys_map,hTM,List.map_map]
  exact List.Perm.refl _
 refine (callsIn_wide (n:=6)).1 ?_
 have hbl:=hown.lt
 have hseq:SeqGives Fence.wide 2 Tryz.prog 94 #[.pointer (some ⟨w.heap.size,0,none⟩)] encZ (fun ss=>ss.Perm (intKeys D0)) (Maps.size D0) (w.alloc (.cells #[.map (some mb)] 63)) :=
  AnyZI.keys_gives (ρ:=keysA_ren) { keysA with } Fence.wide _ trivial rfl (by omega) w.heap.size mb _ D0 _ (by simp) (by simp) (by
   obtain ⟨es,clock,hb,Ft,hs,hD⟩:=hown
   exact ⟨es,clock,(Below.heap_alloc _ _ mb hbl).trans hb,Ft,hs,hD⟩)
 have cK:∀mb W,CallsIn Fence.wide 5 Tryz.prog 61 #[.map mb] W fun e w'=>e=.returned (.func (.func 94) #[] #[.pointer (some ⟨W.heap.size,0,none⟩)])∧w'=W.alloc (.cells #[.map mb] 63):=fun mb W=>AnyZI.keys_in keysA Fence.wide 5 trivial rfl mb W
 have cS:=AnyZI.sorted_in sortedA Fence.wide 5 trivial trivial trivial trivial rfl (by omega) (sortsA _) (enters_of Tryz.func86 (by kernel_rfl) rfl) 94 #[.pointer (some ⟨w.heap.size,0,none⟩)] trivial (enters_of Tryz.func94 (by kernel_rfl) rfl) _ _ hmax hbytes _ hseq
 change CallsIn _ _ Tryz.prog 51 _ _ _ at cS
 have hfK:Fence.wide.fn 61:=trivial
 have hfS:Fence.wide.fn 51:=trivial
 clear hP hM hown hseq
 refine callsIn_of_wp Tryz.func27 rfl trivial ?_ rfl
 simp only [Tryz.ntmps27,List.size_toArray,List.length_cons,List.length_nil,Nat.reduceAdd,Nat.reduceSub,Array.replicate_succ,Array.replicate_zero,List.push_toArray,List.append_toArray,List.nil_append,List.cons_append]
 gi_wp2_with (first
  | (gi_at_call 61;refine (cK _ _).mono ?_;rintro e w' ⟨rfl,rfl⟩)
  | (gi_at_call 51;refine cS.mono ?_;rintro e w' ⟨v,ss,rfl,hS,hrow,hnil,hb⟩))
 go_ret
 exact ⟨v,ss,rfl,hS.trans hkeys,ownsRow_base_a hrow (by simp),((Below.refl _ w).alloc (Nat.le_refl _) _).trans (hb.mono (by simp))⟩
end Go.Proofs.YtgpbhlfdlkemjaaGreat
namespace Go.Proofs.YtgpbhlfdlkemjaaGreat
open Go.RowKit Go.Maps Go.Sort Go.Shelf
set_option linter.unusedVariables false
attribute [local go_sem] Oper.semAt_some
theorem take_next {zs:List Nat}{k:Nat} (h:k<zs.length):zs.take (k+1)=zs.take k++[zs[k]?.getD 0]:=by
 rw [List.take_succ_eq_append_getElem h,List.getElem?_eq_getElem h]
 rfl
set_option maxRecDepth 100000 in
set_option maxHeartbeats 2000000 in
theorem values1 (n:Nat) (l Bs n₀:Nat) (a:Option Addr) (cap:Nat) (zs:List Nat) (hbig:zs.length≤1000000) (J Jx:List Nat→World→Prop)
  (hY:∀(pre:List Nat) (x:Nat) (W:World),J pre W→pre.length<zs.length→YieldAt Fence.wide (n-1) Tryz.prog l #[.int .i64 (x:Int)] W fun e W' =>
   (e=.returned (.bool true)∧J (pre++[x]) W'∧Below n₀ W W')∨(e=.returned (.bool false)∧Jx (pre++[x]) W'))
  (W:World) (hBs:W.cell? ⟨Bs,0,none⟩=some (.slice a zs.length cap)) (hc:∀W',Below n₀ W W'→ReadsI W' (.slice a zs.length cap) zs) (h0:J [] W) :
  CallsIn Fence.wide n Tryz.prog 87 #[.func (.yield l) #[] #[],.pointer (some ⟨Bs,0,none⟩)] W fun e W'=>(∃v,e=.returned v) ∧
   ((∃ys,ys=zs∧J ys W')∨(∃pre,pre <+: zs∧Jx pre W')):=by
 refine callsIn_of_wp Tryz.func87 rfl trivial ?_ rfl
 simp only [Tryz.ntmps87,List.size_toArray,List.length_cons,List.length_nil,Nat.reduceAdd,Nat.reduceSub,Array.replicate_succ,Array.replicate_zero,List.push_toArray,List.append_toArray,List.nil_append,List.cons_append]
 gi_wp2
 gi_loopw [7] (fun i wr=>∃k:Nat,k≤zs.length∧i=.int .i64 (k:Int)∧J (zs.take k) wr∧Below n₀ W wr) (fun i _=>zs.length-(numOf i).toNat)
 case atStart=>exact ⟨0,Nat.zero_le _,rfl,h0,Below.refl _ _⟩
 case round =>
  obtain ⟨k,hk,rfl,hJs,hnx⟩:=hrel
  by_cases hlt:k<zs.length
  ·obtain ⟨g,o,c,hve,hck⟩:=(hc wr hnx).at k (zs[k]?.getD 0) (by rw [List.getElem?_eq_getElem hlt];rfl)
   injection hve with q1 q2 q3
   subst q1 q3
   obtain ⟨fn,tmps,assign,body,hy,hR⟩:=hY _ (zs[k]?.getD 0) wr hJs (by rw [List.length_take];omega)
   rw [←take_next hlt] at hR
   have hki:(k:Int)<(zs.length:Int):=by omega
   obtain ⟨A,hA⟩:∃A,Hid (zs[k]?.getD 0=A):=⟨_,rfl⟩
   rw [hA.out] at hck hy
   gi_wp2
   refine ⟨fun hd=>absurd hd (by simp [Fence.wide]),hR.mono ?_⟩
   rintro e W3 (⟨rfl,hJ3,hk3⟩|⟨rfl,hJx3⟩)
   ·gi_wp2
    go_roundw
    case rel=>exact ⟨k+1,by omega,by go_num,hJ3,hnx.trans hk3⟩
    case measure=>simp [numOf];omega
   ·gi_wp2
    refine bodyPost_ret (results_none rfl _ _ _) rfl ?_
    exact ⟨⟨_,rfl⟩,.inr ⟨_,List.take_prefix _ _,hJx3⟩⟩
  ·obtain rfl:k=zs.length:=by omega
   rw [List.take_of_length_le (Nat.le_refl _)] at hJs
   have hni:¬(zs.length:Int)<(zs.length:Int):=by omega
   gi_wp2
   go_end0
   exact ⟨⟨_,rfl⟩,.inl hJs⟩
set_option maxHeartbeats 1000000 in
theorem values_in (n:Nat) (a:Option Addr) (len cap:Nat) (w:World) :
  CallsIn Fence.wide n Tryz.prog 52 #[.slice a len cap] w fun e w'=>e=.returned (.func (.func 87) #[] #[.pointer (some ⟨w.heap.size,0,none⟩)])∧w'=w.alloc (.cells #[.slice a len cap] 41):=by
 refine callsIn_of_wp Tryz.func52 rfl trivial ?_ rfl
 simp only [Tryz.ntmps52,List.size_toArray,List.length_cons,List.length_nil,Nat.reduceAdd,Nat.reduceSub,Array.replicate_succ,Array.replicate_zero,List.push_toArray,List.append_toArray,List.nil_append,List.cons_append]
 gi_wp2
 go_ret
 exact ⟨rfl,rfl⟩
theorem ReadsI.below {n₀:Nat}{W W':World}{v:Value}{l:List Nat} (h:ReadsI W v l) (hb:Below n₀ W W') (hn:∀g,v.ownBlock=some g→g<n₀):ReadsI W' v l:=by
 obtain ⟨a,cap,rfl,h2,h3,h4,h5⟩:=h
 refine ⟨a,cap,rfl,h2,h3,h4,fun hl=>?_⟩
 obtain ⟨b,o,rfl,hc⟩:=h5 hl
 exact ⟨b,o,rfl,fun j u hu=>(hb.cell (p:=⟨b,o+j,none⟩) (hn b rfl)).trans (hc j u hu)⟩
theorem values_stops (n:Nat) (Bs n₀:Nat) (a:Option Addr) (cap:Nat) (zs:List Nat) (hbig:zs.length≤1000000) (w:World) (hn₀:n₀≤w.heap.size) (hBl:Bs<w.heap.size) (hBs:w.cell? ⟨Bs,0,none⟩=some (.slice a zs.length cap)) (hr:ReadsI w (.slice a zs.length cap) zs) (hb:∀g,(Value.slice a zs.length cap).ownBlock=some g→g<n₀) :
  SeqStopsK Fence.wide n Tryz.prog 87 #[.pointer (some ⟨Bs,0,none⟩)] (fun x:Nat=>#[Value.int .i64 (x:Int)]) (Below n₀) (fun ys=>ys=zs) (fun pre=>pre <+: zs) zs.length w:=fun l J Jx W hW _ _ hY h0 =>
 values1 n l Bs n₀ a cap zs hbig J Jx hY W ((hW.cell (p:=⟨Bs,0,none⟩) hBl).trans hBs) (fun W' hb'=>(hr.below (hW.mono hn₀) hb).below hb' hb) h0
theorem wpListIn_append_run {F:Fence}{n:Nat}{w:World}{ops:Array Oper}{rest:List Oper}{o:Oper}{a:Act}{Q:Exit→Act→World→Prop} (t:TypeId) (sl x:Operand)
  (hop:o.op=.call { callee:=.builtin .append,args:=#[sl,x],argTypes:=#[t,t] }) (hg:o.guard=none) (v y:Value) (hs:a.eval sl=v) (hx:a.eval x=y) (r:Value) (w':World) (hrun:(Builtin.append_ #[t,t] o.type #[v,y]).run Tryz.prog w=.ok r w')
  (h:wpListIn F n Tryz.prog ops Q rest (a.put o.dst r) w'):wpListIn F n Tryz.prog ops Q (o::rest) a w:=by
 refine wpListIn_plain hg fun K hK'=>?_
 unfold Oper.wpIn
 refine ⟨?_,?_⟩
 ·simp [Oper.about,hop,resolve,Target.leads,Sem.run_pure]
 ·rw [Oper.semAt_plain F _ _ (by rw [hop];intro c hc';cases hc')]
  unfold execOp
  simp only [hop,resolve,invoke,builtin,Sem.run_bind,Sem.run_pure,Result.andThen_ok,List.map_toArray,List.map_cons,List.map_nil,hs,hx,hrun]
  exact hK' _ _ h
def Col (w:World) (b:Nat) (pre:List Nat) (W:World):Prop:=∃ad c,B1 W b 41 (.slice ad pre.length c)∧OwnsI W (.slice ad pre.length c) pre∧Fresh w (.slice ad pre.length c)∧(Value.slice ad pre.length c).ownBlock≠some b∧Kept [] w W
theorem Col.own {w:World}{b:Nat}{pre:List Nat}{A B:World}{row:Option Nat} (h:Col w b pre A) (hg:A.grownBy B row) (hr:∀r,row=some r→w.heap.size≤r∧∃o:Obj,A.heap[r]?=some o∧o.isCells=false):Col w b pre B:=by
 obtain ⟨ad,c,h1,h2,h3,h4,h5⟩:=h
 refine ⟨ad,c,h1.own hg (fun r e=>(hr r e).2),h2.kept ((Kept.refl row.toList A).grown hg (fun x hx=>.inl (by rw [Option.mem_toList];exact hx))) (fun g hgv hm=>?_),h3,h4,h5.grown hg (fun x hx=>.inr (hr x hx).1)⟩
 rw [Option.mem_toList] at hm
 obtain ⟨_,o,ho,hn⟩:=hr g hm
 rcases h2.2 with ⟨h,_⟩|⟨g',cap,cur,h,_,hg',_⟩
 ·injection h with h;subst h;simp [Value.ownBlock] at hgv
 ·injection h with h
  subst h
  simp [Value.ownBlock] at hgv
  subst hgv
  rw [hg'] at ho
  cases ho
  cases hn
set_option maxRecDepth 100000 in
set_option maxHeartbeats 2000000 in
theorem appendSeq_in (Bs:Nat) (a:Option Addr) (cap:Nat) (zs:List Nat) (hbig:zs.length≤100000) (w:World) (hBl:Bs<w.heap.size) (hBs:w.cell? ⟨Bs,0,none⟩=some (.slice a zs.length cap)) (hr:ReadsI w (.slice a zs.length cap) zs) (hb:∀g,(Value.slice a zs.length cap).ownBlock=some g→g<w.heap.size) :
  CallsIn Fence.wide 3 Tryz.prog 130 #[.slice none 0 0,.func (.func 87) #[] #[.pointer (some ⟨Bs,0,none⟩)]] w fun e w'=>∃v,e=.returned v∧OwnsI w' v zs∧Kept [] w w'∧Fresh w v:=by
 have kB:=kept_alloc w (.cells #[.slice none 0 0] 41)
 have b2:B1 (w.alloc (.cells #[.slice none 0 0] 41)) w.heap.size 41 (.slice none 0 0):=heap_alloc_new w _
 have hst:Col w w.heap.size [] (w.alloc (.cells #[.slice none 0 0] 41)):=⟨none,0,b2,OwnsI.nil _,by intro g hg;simp [Value.ownBlock] at hg,by simp [Value.ownBlock],kB⟩
 have hI:OwnFrom (w.alloc (.cells #[.slice none 0 0] 41)).heap.size (fun (pre:List Nat) W=>Col w w.heap.size pre W):=fun pre A B row h hg hr'=>h.own hg (fun r e=>⟨by have:=(hr' r e).1;simp at this;omega,(hr' r e).2⟩)
 refine callsIn_of_wp_marks Tryz.func130 rfl trivial ?_ rfl
 simp only [Tryz.ntmps130,List.size_toArray,List.length_cons,List.length_nil,Nat.reduceAdd,Nat.reduceSub,Array.replicate_succ,Array.replicate_zero,List.push_toArray,List.append_toArray,List.nil_append,List.cons_append]
 gi_wp2_with fail
 refine wpIn_rangeFunc_ownG rfl (by omega) (gf:=87) (lb:=#[.pointer (some ⟨Bs,0,none⟩)]) rfl trivial (enters_of Tryz.func87 (by kernel_rfl) rfl)
  (values_stops 2 Bs w.heap.size a cap zs (by omega) (w.alloc (.cells #[.slice none 0 0] 41)) (by simp) (by simp;omega) (by rw [kB.cell hBl (by simp)];exact hBs) (hr.kept kB (by simp)) hb) belowK_t (belowK_b (by simp)) (Below.refl _ _) (fun _=>rfl)
  (fun (pre:List Nat) W=>Col w w.heap.size pre W) (fun _ _ _=>False) hI (fun _ _ _ _ _ h _ _=>h) hst ?a1 ?assign ?body ?done ?stop
 case assign =>
  intro l' x W K hK
  gi_wp2
  exact hK
 case body =>
  rintro l' pre x W ⟨ad,c,b2,hO,hF,hne,kk⟩ hlt
  obtain ⟨ad2,c2,w3,hrun,hO3,k3,hN3⟩:=append_int hO x (by omega)
  have hlen:(pre++[x]).length=pre.length+1:=by simp
  have b3:=b2.kept k3 (by rw [Option.mem_toList];exact hne)
  have kk3:Kept [] w w3:=kk.trans k3 (fun y hy=>.inr (hF y (by rw [Option.mem_toList] at hy;exact hy)))
  have hF3:Fresh w (.slice ad2 (pre.length+1) c2):=fun g hg=>by
   rcases hN3 g hg with h|h
   ·exact hF g h
   ·have:=kk.size;omega
  have hne3:(Value.slice ad2 (pre.length+1) c2).ownBlock≠some w.heap.size:=fun e=>by
   rcases hN3 _ e with h|h
   ·exact hne h
   ·have:=b2.lt;omega
  obtain ⟨b4,k4⟩:=b3.set (.slice ad2 (pre.length+1) c2)
  have kk4:Kept [] w (w3.setCell ⟨w.heap.size,0,none⟩ (.slice ad2 (pre.length+1) c2)):=kk3.trans k4 (fun y hy=>.inr (by simp at hy;omega))
  have hO4:=hO3.kept k4 (fun g hg=>by simp;rintro rfl;exact hne3 hg)
  have kW:Kept (w.heap.size::(Value.slice ad pre.length c).ownBlock.toList) W (w3.setCell ⟨w.heap.size,0,none⟩ (.slice ad2 (pre.length+1) c2)):=(k3.mono (fun y hy=>.inl (by simp [hy]))).trans k4 (fun y hy=>.inl (by simp at hy;simp [hy]))
  have hcells:∀y∈w.heap.size::(Value.slice ad pre.length c).ownBlock.toList,∃cs ty fr,W.heap[y]?=some (.cells cs ty fr):=fun y hy=>by
   rcases List.mem_cons.1 hy with rfl|hy
   ·exact ⟨_,_,_,b2⟩
   ·rw [Option.mem_toList] at hy
    rcases hO.2 with ⟨h,_⟩|⟨g',cap',cur,h,_,hg',_⟩
    ·injection h with h;subst h;simp [Value.ownBlock] at hy
    ·injection h with h
     subst h
     simp [Value.ownBlock] at hy
     subst hy
     exact ⟨_,_,_,hg'⟩
  have hfin:Hid (KeepsFrom (w.alloc (.cells #[.slice none 0 0] 41)).heap.size W (w3.setCell ⟨w.heap.size,0,none⟩ (.slice ad2 (pre.length+1) c2))∧Below w.heap.size W (w3.setCell ⟨w.heap.size,0,none⟩ (.slice ad2 (pre.length+1) c2))∧Col w w.heap.size (pre++[x]) (w3.setCell ⟨w.heap.size,0,none⟩ (.slice ad2 (pre.length+1) c2))):=by
   refine ⟨⟨kW.size,fun y o _ hy ho=>kW.keeps hy (fun hm=>?_)⟩,⟨kW.os,kW.tape,kW.output,kW.size,fun y hy=>?_⟩,ad2,c2,?_⟩
   ·obtain ⟨cs,ty,fr,hc⟩:=hcells y hm
    rw [hc] at hy
    cases hy
    cases ho
   ·refine kW.block y (Nat.lt_of_lt_of_le hy kk.size) (fun hm=>?_)
    rcases List.mem_cons.1 hm with rfl|hm
    ·omega
    ·rw [Option.mem_toList] at hm;have:=hF y hm;omega
   ·rw [hlen]
    exact ⟨b4,hO4,hF3,hne3,kk4⟩
  have c2':=b2.cell
  have c3':=b3.cell
  have f3':=b3.free
  clear b4 k4 kk4 hO4 kW hcells hO3 k3 hN3 b3 kk3 hF3 hne3 hO hF hne kk hlen
  generalize pre.length=L at hrun hfin c2' c3' b2 hlt
  gi_wp2_with (gi_at_builtin;refine wpListIn_append_run 41 (.tmp 8) (.tmp 10) rfl rfl _ _ rfl rfl _ _ hrun ?_)
  exact hfin.out
 case done =>
  rintro D ys W hDz rfl ⟨ad,c,b2,hO,hF,hne,kk⟩ hK
  have hgp:=grownBy_putObj' W D (.deferred none)
  have kp:Kept [D] W (W.putObj D (.deferred none)):=(Kept.refl _ _).grown hgp (fun x hx=>.inl (by simp at hx;simp [hx]))
  have hDv:∀g,(Value.slice ad ys.length c).ownBlock=some g→g∉[D]:=fun g hg hm=>by
   simp at hm
   subst hm
   rcases hO.2 with ⟨h,_⟩|⟨g',cap',cur,h,_,hg',_⟩
   ·injection h with h;subst h;simp [Value.ownBlock] at hg
   ·injection h with h
    subst h
    simp [Value.ownBlock] at hg
    subst hg
    rw [hK] at hg'
    cases hg'
  have Hf:=Hid.mk (And.intro (hO.kept kp hDv) (And.intro (kk.trans kp (fun x hx=>.inr (by simp at hx hDz;omega))) hF))
  have c2':=b2.cell
  gi_wp2
  refine ⟨by simp,.inl ⟨_,_,rfl,run_takeDeferred hK,?_⟩⟩
  exact ⟨_,results_tmp rfl _ _ _,.slice ad ys.length c,rfl,Hf.out⟩
 case stop=>exact fun D c pre W _ _ h _=>h.elim
section
variable (Bs:Nat) (a:Option Addr) (cap:Nat) (zs:List Nat) (hbig:zs.length≤100000) (w:World) (hBl:Bs<w.heap.size) (hBs:w.cell? ⟨Bs,0,none⟩=some (.slice a zs.length cap)) (hr:ReadsI w (.slice a zs.length cap) zs) (hb:∀g,(Value.slice a zs.length cap).ownBlock=some g→g<w.heap.size)
include hbig hBl hBs hr hb
set_option maxRecDepth 100000 in
set_option maxHeartbeats 1000000 in
theorem collect_in:Calls Tryz.prog 85 #[.func (.func 87) #[] #[.pointer (some ⟨Bs,0,none⟩)]] w fun e w'=>∃v,e=.returned v∧OwnsI w' v zs∧Kept [] w w'∧Fresh w v:=by
 have h:=(callsIn_wide (n:=3)).1 (appendSeq_in Bs a cap zs hbig w hBl hBs hr hb)
 go_enter Tryz.func85,Tryz.ntmps85
 go_wp2_with fail
 refine h.mono ?_
 rintro e w1 ⟨v,rfl,h1⟩
 go_wp2
 go_ret
 exact ⟨_,rfl,h1⟩
end
def srt (l:List Nat):List Nat:=((l.map fun (n:Nat)=>(n:Int)).mergeSort leI).map Int.toNat
theorem ints_back (l:List Nat):(l.map fun (n:Nat)=>(n:Int)).map encZ=C64 l:=by
 simp [C64,List.map_map,Function.comp_def]
theorem srt_cells (l:List Nat):C64 (srt l)=((l.map fun (n:Nat)=>(n:Int)).mergeSort leI).map encZ:=by
 unfold srt C64
 rw [List.map_map]
 apply List.map_congr_left
 intro z hz
 rw [List.mem_mergeSort] at hz
 obtain ⟨n,_,rfl⟩:=List.mem_map.1 hz
 simp [encZ]
theorem srt_perm (l:List Nat):(srt l).Perm l:=by
 have h:=(List.mergeSort_perm (l.map fun (n:Nat)=>(n:Int)) leI).map Int.toNat
 rw [List.map_map] at h
 unfold srt
 refine h.trans (List.Perm.of_eq ?_)
 simp [Function.comp_def]
theorem srt_length (l:List Nat):(srt l).length=l.length:=(srt_perm l).length_eq
theorem srt_nil:srt []=[]:=List.eq_nil_of_length_eq_zero (by rw [srt_length];rfl)
theorem sort_int {w:World}{v:Value}{l:List Nat} (h:OwnsI w v l) (hl:l.length≤100000):Calls Tryz.prog 86 #[v] w fun e w'=>e=.returned (.tuple #[])∧OwnsI w' v (srt l)∧Kept v.ownBlock.toList w w':=by
 rcases h.2 with ⟨rfl,h0⟩|⟨g,cap,cur,rfl,hg0,hg,h1,h2,h3,h4⟩
 ·obtain rfl:l=[]:=List.eq_nil_of_length_eq_zero h0
  refine (AnyM.slices_Sort_int_none sortA none 0 w).mono ?_
  rintro e w' ⟨rfl,rfl⟩
  rw [srt_nil]
  exact ⟨rfl,OwnsI.nil _,Kept.refl _ _⟩
 ·have hlen:(l.map fun (n:Nat)=>(n:Int)).length=l.length:=by simp
  have hH:Holds encZ w g 0 (l.map fun (n:Nat)=>(n:Int)).toArray:=holds_of_block_i hg (by rw [ints_back,hlen];simpa using h4)
  have hc:=AnyM.slices_Sort_int sortA g 0 cap _ w hH (lt_of_block hg) (by rw [hlen];omega)
  rw [hlen] at hc
  refine hc.mono ?_
  rintro e w' ⟨rfl,n,os,rfl⟩
  refine ⟨rfl,?_,(Kept.refl _ _).grown (grownBy_sorted_i _) (fun x hx=>.inl (by simp at hx;simp [Value.ownBlock,hx]))⟩
  have hr:=ownsRow_sorted_i (w:=w) (base:=0) (cap:=cap) (n:=n) (os:=os) (ts:=(l.map fun (n:Nat)=>(n:Int)).mergeSort leI) (ss:=l.map fun (n:Nat)=>(n:Int)) (by simp) (Nat.zero_le _) hg (by rw [hlen];exact h1) h2 h3
  rw [hlen] at hr
  unfold OwnsI
  rw [srt_cells,srt_length]
  exact hr
set_option maxRecDepth 100000 in
set_option maxHeartbeats 1000000 in
theorem sorted_vals (Bs:Nat) (a:Option Addr) (cap:Nat) (zs:List Nat) (hbig:zs.length≤100000) (w:World) (hBl:Bs<w.heap.size) (hBs:w.cell? ⟨Bs,0,none⟩=some (.slice a zs.length cap)) (hr:ReadsI w (.slice a zs.length cap) zs) (hb:∀g,(Value.slice a zs.length cap).ownBlock=some g→g<w.heap.size) :
  Calls Tryz.prog 51 #[.func (.func 87) #[] #[.pointer (some ⟨Bs,0,none⟩)]] w fun e w'=>∃v,e=.returned v∧OwnsI w' v (srt zs)∧Kept [] w w'∧Fresh w v:=by
 have h:=collect_in Bs a cap zs hbig w hBl hBs hr hb
 go_enter Tryz.func51,Tryz.ntmps51
 go_wp2_with fail
 refine h.mono ?_
 rintro e w1 ⟨v,rfl,h1,k1,f1⟩
 have hs:=sort_int h1 hbig
 go_wp2_with fail
 refine hs.mono ?_
 rintro e w2 ⟨rfl,h2,k2⟩
 have hf:=Hid.mk (And.intro h2 (And.intro (k1.trans k2 (fun x hx=>.inr (f1 x (by rw [Option.mem_toList] at hx;exact hx)))) f1))
 go_wp2
 go_ret
 exact ⟨_,rfl,hf.out⟩
set_option maxRecDepth 100000 in
set_option maxHeartbeats 1000000 in
theorem free_int {w:World}{G:List Nat}{p q fr ct:Nat}{T:List (Nat × List Nat)}{fl:List Nat} (hP:IsP w G p q fr ct T fl) (hT:fl.length≤100000) :
  Calls Tryz.prog 16 #[.pointer (some ⟨p,0,none⟩)] w fun e w'=>∃v,e=.returned v∧OwnsI w' v (srt fl)∧Kept [] w w'∧Fresh w v:=by
 obtain ⟨v,c4,hF⟩:=hP.frs
 obtain ⟨a,c,rfl,-,-⟩:=hF.reads.form
 have cV:=(callsIn_wide (n:=1)).1 (values_in 1 a fl.length c w)
 have kB:=kept_alloc w (.cells #[.slice a fl.length c] 41)
 have cS:=sorted_vals w.heap.size a c fl hT (w.alloc (.cells #[.slice a fl.length c] 41)) (by simp) (by simp) (hF.reads.kept kB (by simp)) (fun g hg=>by have:=hF.lt hg;simp;omega)
 have hfin:Hid (∀w' v,(OwnsI w' v (srt fl)∧Kept [] (w.alloc (.cells #[.slice a fl.length c] 41)) w'∧Fresh (w.alloc (.cells #[.slice a fl.length c] 41)) v)→OwnsI w' v (srt fl)∧Kept [] w w'∧Fresh w v) :=
  Hid.mk (fun w' v ⟨h1,h2,h3⟩=>⟨h1,kB.trans h2 (by simp),fun g hg=>by have:=h3 g hg;simp at this;omega⟩)
 clear hP hF kB
 generalize fl.length=L at *
 generalize srt fl=X at *
 go_enter Tryz.func16,Tryz.ntmps16
 go_wp2_with fail
 refine cV.mono ?_
 rintro e w1 ⟨rfl,rfl⟩
 go_wp2_with fail
 refine cS.mono ?_
 rintro e w2 ⟨v,rfl,h2⟩
 have h3:=Hid.mk (hfin.out w2 v h2)
 go_wp2
 go_ret
 exact ⟨_,rfl,h3.out⟩
end Go.Proofs.YtgpbhlfdlkemjaaGreat
