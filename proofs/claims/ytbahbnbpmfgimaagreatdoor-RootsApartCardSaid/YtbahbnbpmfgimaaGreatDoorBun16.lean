/- Merged. -/
import Derived.Test.YtbahbnbpmfgimaaGreatDoorBun11
import Derived.Test.YtbahbnbpmfgimaaGreatDoorBun12
set_option maxHeartbeats 4000000
namespace Go.Proofs.Y
open Go.RowKit Go.Hm Go.WideShapes Go.ChangeShapes
theorem gConst:Tryz.prog.globalNamed "hypostyle/sha.constants" =some 1:=by kernel_rfl
theorem tConst:(Tryz.prog.globals[1]?).map (·.type)=some 148:=by kernel_rfl
theorem qh0:(Go.Proofs.YtbahbnbpmfgimaaGreatDoor.Rows.laid_hypostyle_sha_constants:DataW Unit)= .agg (kI.map fun k=> .lit (.int .u32 k)):=by rfl
abbrev zxc:List (String × DataW Unit):=[("hypostyle/sha.constants",Go.Proofs.YtbahbnbpmfgimaaGreatDoor.Rows.laid_hypostyle_sha_constants),("hypostyle/roots.kinds",Go.Proofs.YtbahbnbpmfgimaaGreatDoor.Rows.laid_hypostyle_roots_kinds)]
theorem zsi{W:World}(h:laidMetH Tryz.prog zxc W):ConstIn W:=by
 rw[MakeChecks.laidMetH_plain _ _ _ (by kernel_rfl)] at h;obtain⟨ps,⟨g0,t0,cs0,f0,p0,q0,hg0,ht0,hv0,hd0,_,hps⟩,_,hblk⟩:=h;obtain rfl:=Option.some.inj (gConst.symm.trans hg0);obtain rfl:=Option.some.inj (tConst.symm.trans ht0);obtain⟨xs,m1,rfl,hx1,hlen,hn3,hel⟩:=DataW.trod_array (show Tryz.prog.underlying 148=some (.array 64 97) by kernel_rfl) hd0;have c64:Tryz.prog.cellsOf 148=64:=by kernel_rfl
 have c1:Tryz.prog.cellsOf 97=1:=by kernel_rfl
 rw[c64] at hlen;rw[qh0] at hx1;simp only[Prod.mk.injEq,DataW.agg.injEq] at hx1;have hcell:∀i,i<64->W.cell? ⟨1,i,none⟩=some (.int .u32 (kI.getD i 0)):=by
  intro i hi;have h1:=hel i hi;rw[c1,Nat.mul_one] at h1;have hi2:i<cs0.toList.length:=by omega
  have hone:(cs0.toList.drop i).take 1=[cs0.toList[i]]:=by rw[List.drop_eq_getElem_cons hi2];rfl
  rw[hone,List.getElem?_eq_getElem (by omega)] at h1;obtain⟨x,e1,e2,_⟩:=DataW.trod_int (show Tryz.prog.underlying 97=some (.int .u32) by kernel_rfl) h1;have hk:(xs.map (·.1))[i]? =(kI.map fun k=>(DataW.lit (.int .u32 k):DataW Unit))[i]? :=by rw[hx1.1]
  rw[List.getElem?_map,List.getElem?_eq_getElem (show i<xs.length by omega),List.getElem?_map,List.getElem?_eq_getElem (show i<kI.length from hi)] at hk;simp only[Option.map_some,Option.some.injEq] at hk;rw[e2] at hk;simp only[DataW.lit.injEq,Lit.int.injEq,true_and] at hk;have hc:=World.var?_cell hg0 hv0 i;rw[hc];simp only[List.cons.injEq,and_true] at e1;rw[Array.getElem?_eq_getElem (by simpa using hi2)];have e3:cs0[i]'(by simpa using hi2)=cs0.toList[i]:=by simp
  rw[e3,e1,hk,List.getD_eq_getElem?_getD,List.getElem?_eq_getElem (show i<kI.length from hi)];rfl
 refine⟨?_,hcell⟩;have h0:=hcell 0 (by omega);unfold World.cell? at h0;rcases Nat.lt_or_ge 1 W.heap.size with hz|hz
 ·exact hz
 ·rw[Array.getElem?_eq_none (by omega)] at h0
  cases h0
theorem qa9(os:Os)(args:Array Value):laidMetH Tryz.prog zxc ((World.doorLaid Tryz.prog 19 os).forCall (fun _ _=>0) ⟨#[],args,[]⟩).memory:=
 laidMetH_of_parts3 (fuel:=8) (laidMet_of_run' 8 (by kernel_rfl) (by kernel_rfl)) (by kernel_rfl) (by kernel_rfl)
end Go.Proofs.Y
namespace Go.Hm
open Go Go.RowKit
def u64N(n:Int):Nat:=(n%18446744073709551616).toNat
def plE(t:Int)(c:zab):List Nat:=
 if t=0 then low (u64N c.2.1) 8 else if t=2 then vp c.2.2.1.length++c.2.2.1 else if t=3 then vp (zig c.2.2.2.1)++vp (zig c.2.2.2.2) else []
def zd4(l:List zab):List Nat:=l.map fun c=>u64N c.2.1
def zkx(t:Int)(l:List zab):Bool:=decide (0<=t/\t<=3/\l.length<=65536)&&l.all fun c=>zae c t false
def plB(t:Int)(l:List zab):List Nat:=if t=1 then low (pk 1 (zd4 l)) ((1*l.length+7)/8) else l.flatMap (plE t)
def plO(t:Int)(l:List zab):Option (List Nat):=if zkx t l then some (plB t l) else none
theorem zxq(n:Int):u64N n<18446744073709551616:=by unfold u64N;omega
theorem plOk_iff{t:Int}{l:List zab}:zkx t l=true↔(0<=t/\t<=3/\l.length<=65536)/\ ∀c∈l,zae c t false=true:=by unfold zkx;rw[Bool.and_eq_true,decide_eq_true_iff,List.all_eq_true]
theorem zky{c:zab}{t:Int}(h:zae c t false=true):c.1=false:=by
 unfold zae at h;cases e:c.1 with
 |false=>rfl
 |true=>rw[e] at h;simp at h
theorem qeg{c:zab}(h:zae c 1 false=true):c.2.1=0\/c.2.1=1:=by have h0:=zky h;unfold zae at h;rw[h0] at h;simp at h;exact h.2
theorem z6l{c:zab}(h:zae c 2 false=true):c.2.2.1.length<=65536:=by have h0:=zky h;unfold zae at h;rw[h0] at h;simp at h;exact h.2
theorem zoy{c:zab}(h:zae c 3 false=true):(-1048576<=c.2.2.2.1/\c.2.2.2.1<=1048576)/\ -1048576<=c.2.2.2.2/\c.2.2.2.2<=1048576:=by have h0:=zky h;unfold zae inBox at h;rw[h0] at h;simp at h;omega
theorem zoz{l:List zab}(h:∀c∈l,zae c 1 false=true):wid (zd4 l)<=1:=by
 have hb:∀x∈zd4 l,x<2:=by intro x hx;obtain⟨c,hc,rfl⟩:=List.mem_map.1 hx;rcases qeg (h c hc) with e|e<;> rw[e]<;> decide
 exact(zhu _ 1 (by omega) fun x hx=>by have:=hb x hx;omega).2 fun x hx=>by simpa using hb x hx
theorem zxr{t:Int}{c:zab}(h:zae c t false=true):(plE t c).length<=20+c.2.2.1.length:=by
 unfold plE;split
 ·rw[za6];omega
 ·split
  ·rename_i h2
   subst h2;have:=z6l h;have:=zap (n:=c.2.2.1.length) (by omega);rw[List.length_append];omega
  ·split
   ·rename_i h2
    subst h2;have:=zoy h;have a:=zap (n:=zig c.2.2.2.1) (by unfold zig;split<;> omega);have b:=zap (n:=zig c.2.2.2.2) (by unfold zig;split<;> omega);rw[List.length_append];omega
   ·simp
end Go.Hm
namespace Go.Proofs.Y
open Go.RowKit Go.Hm
theorem qby{L:List zab}(hR:∀c∈L,zae c 1 false=true)(hn:L.length<=65536):zql (zd4 L) 1=some (plB 1 L):=by refine(zfv (zd4 L) 1 (by omega) (by unfold zd4;rw[List.length_map];omega) (zoz hR)).trans ?_;unfold plB;rw[if_pos rfl];unfold zd4;rw[List.length_map]
theorem zkz{w:World}{t n:Int}:Calls Tryz.prog 145 #[.int .i64 t,.int .i64 n] w (zdl (.bool (decide (0<=t/\t<=3/\0<=n/\n<=65536))) w):=by
 by_cases h1:0<=t;all_goals try by_cases h2:t<=3
 all_goals try by_cases h3:0<=n
 all_goals try by_cases h4:n<=65536
 all_goals
  go_enter Tryz.func145,Tryz.ntmps145
  go_wp2
  go_ret
  exact⟨by simp;try omega,rfl⟩
set_option maxRecDepth 100000 in
theorem zmy{w:World}{t:Int}{A:Option Addr}{n c:Nat}{L:List zab}(h:Reads w w.heap.size 5 A n (recs zay L))(hL:∀y∈L,y.2.2.1.length<=140737488351232)(hn:n<=4611686018427387903):
 Calls Tryz.prog 146 #[.int .i64 t,.slice A n c] w (zal (.bool (L.all fun c=>zae c t false)) w):=by
 obtain rfl:=h.lenCell;have HR:=Hz h;have HL:=Hz hL;clear h hL;obtain⟨M,hM⟩:∃M,M=L.all fun c=>zae c t false:=⟨_,rfl⟩
 rw[<-hM];have HM:=Hz hM;clear hM;go_enter Tryz.func146,Tryz.ntmps146
 go_wp2_with fail
 go_loopw [9] (fun i wr=>∃k:Nat,k<=L.length/\i= .int .i64 (k:Int)/\New w wr/\Hid (∀c∈L.take k,zae c t false=true)) (fun i _=>L.length-(intOf i).toNat)
 case atStart=>exact⟨0,Nat.zero_le _,rfl,New.refl _,Hz (by simp)⟩
 case round=>
  obtain⟨k,hk,rfl,hW,hr⟩:=hrel;by_cases hlt:k<L.length
  ·obtain⟨ad,rfl,hb,d0,d1,d2,d3,d4⟩:=(Reads.later HR.out hW).cell5 hlt
   have htk:=zac L k (false,0,[],0,0) hlt;have hmem:L.getD k (false,0,[],0,0)∈L:=by rw[List.getD_eq_getElem?_getD,List.getElem?_eq_getElem hlt];exact List.getElem_mem hlt
   have hy:=HL.out _ hmem;have R1:=fun(W:World)=>zfw (w:=W) (b:=(L.getD k (false,0,[],0,0)).1) (n:=(L.getD k (false,0,[],0,0)).2.1) (s:=(L.getD k (false,0,[],0,0)).2.2.1) (x:=(L.getD k (false,0,[],0,0)).2.2.2.1) (y:=(L.getD k (false,0,[],0,0)).2.2.2.2) (cn:=[]) (t:=t) (nu:=false) hy
   have hno:zae (L.getD k (false,0,[],0,0)) t false=false->M=false:=fun e=>by
    rw[HM.out];refine Bool.eq_false_iff.2 fun e2=>?_
    have:=(List.all_eq_true.1 e2) _ hmem;rw[e] at this;cases this
   have hyes:zae (L.getD k (false,0,[],0,0)) t false=true-> ∀c∈L.take (k+1),zae c t false=true:=fun e c hc=>by
    rw[htk] at hc;rcases List.mem_append.1 hc with hc|hc
    ·exact hr.out c hc
    ·rw[List.mem_singleton.1 hc];exact e
   clear htk hmem hy hr;generalize L.getD k (false,0,[],0,0)=y at*;obtain⟨y0,y1,y2,y3,y4⟩:=y;dsimp only at R1 d0 d1 d2 d3 d4;generalize zae (y0,y1,y2,y3,y4) t false=m at*;have R1:Hid (∀W,Calls Tryz.prog 83 #[.agg #[.bool y0,.int .i64 y1,.string (zad y2),.int .i64 y3,.int .i64 y4],.agg #[.string ⟨#[]⟩,.int .i64 t,.bool false]] W (zal (.bool m) W)):=Hz R1;have hno:=Hz hno;have hyes:=Hz hyes;have ha:New wr (wr.alloc (.cells #[.bool y0,.int .i64 y1,.string (zad y2),.int .i64 y3,.int .i64 y4] 75)):=(Below.refl _ _).alloc (Nat.le_refl _) _;go_wp2_with fail
   refine(R1.out _).mono ?_;rintro e w1 ⟨rfl,b1⟩;have hl:=New.trans (New.trans hW ha) b1;cases m with
   |false=>
    have hm:=hno.out (by trivial);have HM2:=Hz hm;clear hno hyes hm;go_wp2_with fail
    go_ret
    exact⟨by rw[HM2.out];rfl,hl⟩
   |true=>
    have hy2:=hyes.out (by trivial);have HY2:=Hz hy2;clear hno hyes hy2;go_wp2_with fail
    go_roundw
    case rel=>exact⟨k+1,by omega,by go_num,hl,HY2⟩
    case measure=>simp[intOf];omega
  ·obtain rfl:k=L.length:=by omega
   have hr2:=hr.out;rw[List.take_length] at hr2;have HM2:Hid (M=true):=Hz (by rw[HM.out];exact List.all_eq_true.2 hr2);clear hr hr2;go_wp2_with fail
   go_ret
   exact⟨by rw[HM2.out];rfl,hW⟩
theorem qbz(L:List zab)(k:Nat)(h:k<L.length):(zd4 (L.take k)++List.replicate (L.length-k) 0).set k (u64N (L.getD k (false,0,[],0,0)).2.1)=zd4 (L.take (k+1))++List.replicate (L.length-(k+1)) 0:=by
 have hl:(zd4 (L.take k)).length=k:=by unfold zd4;rw[List.length_map,List.length_take];omega
 rw[List.set_append_right _ _ (by omega),hl,Nat.sub_self,show L.length-k=(L.length-(k+1))+1 by omega,List.replicate_succ,List.set_cons_zero,zac L k (false,0,[],0,0) h];unfold zd4;rw[List.map_append,List.append_assoc];rfl
theorem zuv(n:Int):IntKind.u64.wrap n=(u64N n:Int):=by rw[IntKind.wrap_u64];unfold u64N;omega
set_option maxRecDepth 100000 in
theorem zsw{w:World}{A:Option Addr}{n c:Nat}{L:List zab}(h:Reads w w.heap.size 5 A n (recs zay L))(hn:n<=65536):
 Calls Tryz.prog 147 #[.slice A n c] w (OptB (zql (zd4 L) 1) w):=by
 obtain rfl:=h.lenCell;have HR:=Hz h;clear h;go_enter Tryz.func147,Tryz.ntmps147
 go_wp2_with (first
  |(refine zb6 elW rfl (.tmp 8) (.tmp 8) rfl (W:=w) (B:=w.heap.size) L.length L.length rfl rfl rfl rfl (by omega) (Below.refl _ _) (Nat.le_refl _) rfl (by omega) (by simp only[maxLen];omega) ?_
    intro w3 hown3 hg3 hb3 hs3))
 go_loopw [12] (fun i wr=>∃k:Nat,k<=L.length/\i= .int .i64 (k:Int)/\Own wr w.heap.size 138 (.slice (some ⟨w.heap.size,0,none⟩) L.length L.length) (zao .u64 (zd4 (L.take k)++List.replicate (L.length-k) 0))/\Below w.heap.size w wr) (fun i _=>L.length-(intOf i).toNat)
 case atStart=>exact⟨0,Nat.zero_le _,rfl,by simpa[zby,zd4] using hown3,hb3⟩
 case round=>
  obtain⟨k,hk,rfl,hown,hbl⟩:=hrel;clear hown3 hg3 hb3 hs3;by_cases hlt:k<L.length
  ·obtain⟨ad,rfl,hb,d0,d1,d2,d3,d4⟩:=(Reads.later HR.out hbl).cell5 hlt
   have hset:=qbz L k hlt;have hwr:=zuv (L.getD k (false,0,[],0,0)).2.1;have hsz:=hbl.size;generalize L.getD k (false,0,[],0,0)=y at*;obtain⟨y0,y1,y2,y3,y4⟩:=y;dsimp only at hset hwr d0 d1 d2 d3 d4;generalize u64N y1=z at*;have ha:New wr (wr.alloc (.cells #[.bool y0,.int .i64 y1,.string (zad y2),.int .i64 y3,.int .i64 y4] 75)):=(Below.refl _ _).alloc (Nat.le_refl _) _;obtain⟨hg0,hgl,hc,hf,hs⟩:=(hown.later ha).num0 (i:=k) hlt;have hs:=hs z;rw[hset] at hs;have HS:=Hz hs;have hbl2:=New.trans hbl ha;have HB:=Hz (hbl2.setCell (p:=⟨w.heap.size,k,none⟩) (Nat.le_refl _) (.int .u64 (z:Int)));clear hset hs hown;go_wp2_with fail
   go_roundw
   case rel=>exact⟨k+1,by omega,by go_num,HS.out,HB.out⟩
   case measure=>simp[intOf];omega
  ·obtain rfl:k=L.length:=by omega
   rw[Nat.sub_self,List.replicate_zero,List.append_nil,List.take_length] at hown;have P:=Hz (znj (c:=L.length) 1 hown.reads (fun x hx=>by unfold zd4 at hx;obtain⟨y,_,rfl⟩:=List.mem_map.1 hx;have:=zxq y.2.1;omega) (by omega) (by omega) (by omega));go_wp2_with fail
   refine P.out.mono ?_;intro e w5 h5;have hz:=hbl.size;generalize zql (zd4 L) 1=o at*;cases o with
   |none=>
    obtain⟨rfl,b5⟩:=h5;go_wp2_with fail
    go_ret2
    exact⟨rfl,hbl.trans (Below.mono b5 hz)⟩
   |some l=>
    obtain⟨A5,n5,c5,rfl,o5,b5⟩:=h5;go_wp2_with fail
    go_ret2
    exact⟨_,_,_,rfl,o5.base_le hz,hbl.trans (Below.mono b5 hz)⟩
theorem qh9:(vp 18446744073709551615).length=10:=by rw[zf0 (by omega),zf0 (by omega),zf0 (by omega),zf0 (by omega),zf0 (by omega),zf0 (by omega),zf0 (by omega),zf0 (by omega),zf0 (by omega),zfz (by omega)];rfl
def qb0(w:World)(e:Ending)(w':World):Prop:=∃r:Nat,e= .returned (.int .i64 (r:Int))/\r<=10000000000/\New w w'
set_option maxRecDepth 100000 in
theorem qb1{w:World}{A:Option Addr}{n c:Nat}{L:List zab}(h:Reads w w.heap.size 5 A n (recs zay L))(hn:n<=65536)(hL:∀y∈L,y.2.2.1.length<=65536):
 Calls Tryz.prog 148 #[.slice A n c] w (qb0 w):=by
 obtain rfl:=h.lenCell;have HR:=Hz h;have HL:=Hz hL;clear h hL;go_enter Tryz.func148,Tryz.ntmps148
 go_wp2_with fail
 go_loopw [3,8] (fun v i wr=>∃k r:Nat,k<=L.length/\i= .int .i64 (k:Int)/\v= .int .i64 (r:Int)/\r<=k*65546/\New w wr) (fun _ i _=>L.length-(intOf i).toNat)
 case atStart=>exact⟨0,0,Nat.zero_le _,rfl,rfl,by omega,New.refl _⟩
 case round=>
  obtain⟨k,r,hk,rfl,rfl,hr,hW⟩:=hrel;by_cases hlt:k<L.length
  ·obtain⟨ad,rfl,hb,d0,d1,d2,d3,d4⟩:=(Reads.later HR.out hW).cell5 hlt
   have hy:=HL.out (L.getD k (false,0,[],0,0)) (by rw[List.getD_eq_getElem?_getD,List.getElem?_eq_getElem hlt];exact List.getElem_mem hlt);generalize L.getD k (false,0,[],0,0)=y at*;obtain⟨y0,y1,y2,y3,y4⟩:=y;dsimp only at hy d0 d1 d2 d3 d4;have zs:=zbn y2;have HY:=Hz (Blk.new wr 75 #[.bool y0,.int .i64 y1,.string (zad y2),.int .i64 y3,.int .i64 y4]);have ha:New wr (wr.alloc (.cells #[.bool y0,.int .i64 y1,.string (zad y2),.int .i64 y3,.int .i64 y4] 75)):=(Below.refl _ _).alloc (Nat.le_refl _) _;have SZ:Hid (∀W,Calls Tryz.prog 132 #[.int .u64 18446744073709551615] W (zdl (.int .i64 10) W)):=Hz fun W=>(zzu 18446744073709551615 W (by omega)).mono (by rintro e w' ⟨rfl,rfl⟩;exact⟨by rw[qh9];rfl,rfl⟩)
   have w1:IntKind.i64.wrap (10+(y2.length:Int))=10+(y2.length:Int):=IntWalk.i64_in _ (by omega);have w2:IntKind.i64.wrap ((r:Int)+(10+(y2.length:Int)))=(r:Int)+(10+(y2.length:Int)):=IntWalk.i64_in _ (by omega);go_wp2_with fail
   refine zaw New [(true,0),(true,2),(true,3),(true,4),(false,1),(true,5),(true,6),(true,7)] New.refl New.trans (by kernel_rfl) (by kernel_rfl) (by kernel_rfl) (by kernel_rfl) ?_;have hU:=New.drew (wr.alloc (.cells #[.bool y0,.int .i64 y1,.string (zad y2),.int .i64 y3,.int .i64 y4] 75));repeat(first
    |(refine za7 rfl rfl (fun K hK=>?_);go_simp
      (with_reducible refine(SZ.out _).mono ?_);rintro e w6 ⟨rfl,rfl⟩
      refine hK _ _ (New.refl _) ?_;clear hK)
    |(refine qfb rfl rfl ?_;simp only[Act.put,List.setIfInBounds_toArray,List.set_cons_zero,List.set_cons_succ])
    |(refine zar rfl rfl (v:=?_) (fun W hQ=>?_) ?_;rotate_left;(obtain⟨z0,z1,z2,z3,z4⟩:=zcq (HY.out.below (New.trans hU hQ) HY.out.lt);go_simp<;> with_reducible rfl);simp only[Act.put,List.setIfInBounds_toArray,List.set_cons_zero,List.set_cons_succ]))
   refine zdh ?_;go_wp2_with fail
   go_roundw
   case rel=>exact⟨k+1,r+(10+y2.length),by omega,by go_num,by simp,by omega,New.trans (New.trans hW ha) hU⟩
   case measure=>simp[intOf];omega
  ·obtain rfl:k=L.length:=by omega
   go_wp2_with fail
   go_ret
   exact⟨r,rfl,by omega,hW⟩
end Go.Proofs.Y
namespace Go.Hm
open Go Go.RowKit
theorem zxt{c:zab}(h:zae c 3 false=true):c.2.2.1=[]:=by have h0:=zky h;unfold zae at h;rw[h0] at h;simp at h;exact h.1.2
theorem zsx{c:zab}{t:Int}(h:zae c t false=true):t=0\/t=1\/t=2\/t=3:=by
 have h0:=zky h;unfold zae at h;rw[h0] at h;by_cases h1:t=0
 ·exact .inl h1
 ·by_cases h2:t=1
  ·exact .inr (.inl h2)
  ·by_cases h3:t=2
   ·exact .inr (.inr (.inl h3))
   ·by_cases h4:t=3
    ·exact .inr (.inr (.inr h4))
    ·simp[h1,h2,h3,h4] at h
end Go.Hm
namespace Go.Proofs.Y
open Go.RowKit Go.Hm
def qj9(W0:World)(B base:Nat)(l:List Nat)(e:Ending)(w':World):Prop:=∃A n c,e= .returned (.slice A n c)/\Own w' base 5 (.slice A n c) (zao .u8 l)/\Below B W0 w'
set_option maxRecDepth 100000 in
theorem qgb{w W0:World}{B base:Nat}{A:Option Addr}{n cap:Nat}{l:List Nat}{t:Int}{c:zab}(o:Own w base 5 (.slice A n cap) (zao .u8 l))(hb:Below B W0 w)(hbB:B<=base)(hbase:base<=w.heap.size)(hn:n<=100000000000)
 (hr:zae c t false=true)(ht:t≠1)(h8:∀z∈c.2.2.1,z<256)(hi: -9223372036854775808<=c.2.1/\c.2.1<=9223372036854775807):
 Calls Tryz.prog 149 #[.slice A n cap,.int .i64 t,zc2 c] w (qj9 W0 B base (l++plE t c)):=by
 have h2:=fun(e:t=2)=>z6l (by rw[<-e];exact hr)
 have h3:=fun(e:t=3)=>zoy (by rw[<-e];exact hr)
 have h4:=fun(e:t=3)=>zxt (by rw[<-e];exact hr)
 have h1:=zsx hr;clear hr;obtain⟨y0,y1,y2,y3,y4⟩:=c;dsimp only at h2 h3 h4 h8 hi;unfold plE;dsimp only;show Calls Tryz.prog 149 #[.slice A n cap,.int .i64 t,.agg #[.bool y0,.int .i64 y1,.string (zad y2),.int .i64 y3,.int .i64 y4]] w _;have B0:=Blk.new w 75 #[.bool y0,.int .i64 y1,.string (zad y2),.int .i64 y3,.int .i64 y4];obtain⟨x0,x1,x2,x3,x4⟩:=zcq B0;have ha:New w (w.alloc (.cells #[.bool y0,.int .i64 y1,.string (zad y2),.int .i64 y3,.int .i64 y4] 75)):=(Below.refl _ _).alloc (Nat.le_refl _) _;have o1:=o.later ha;have b1:Below B W0 (w.alloc (.cells #[.bool y0,.int .i64 y1,.string (zad y2),.int .i64 y3,.int .i64 y4] 75)):=hb.trans (Below.mono ha (by omega));have zs:=zbn y2;have hz1:=ha.size;clear o hb;rcases h1 with rfl|rfl|rfl|rfl
 ·rw[if_pos rfl]
  have HL:=Hz (za6 (u64N y1) 8);have U:=Hz (fun(W:World)=>z5x (w:=W) (A:=none) (n:=0) (c:=0) (l:=[]) (u64N y1) Reads.none_ (by omega));have hw:=zuv y1;generalize u64N y1=z at*;go_enter Tryz.func149,Tryz.ntmps149
  go_wp2_with fail
  refine(U.out _).mono ?_;rintro e w2 ⟨A2,n2,c2,rfl,k2,b2⟩;rw[List.nil_append] at k2;have o2:=o1.later b2;have b02:Below B W0 w2:=b1.trans (Below.mono b2 (by omega));have q2:n2<=8:=by have:=k2.len;rw[zaa,HL.out] at this;omega
  have hz2:=b2.size;have r2:=k2.reads;clear k2 b2
  go_wp2_with (refine zam elB rfl (.tmp 19) (.tmp 23) rfl (W:=W0) (B:=B) o2 r2 rfl rfl b02 hbB (by omega) (by omega) (by simp only[maxLen];omega) ?_
               intro A3 c3 w3 _ _ o3 _ b3 _)
  go_ret
  exact⟨_,_,_,rfl,o3,b3⟩
 ·exact absurd rfl ht
 ·rw[if_neg (by decide),if_pos rfl]
  have hl2:=h2 rfl;have V:=Hz (zap (n:=y2.length) (by omega));have P:=Hz (fun(W:World)=>zc0 none 0 0 [] y2.length W Reads.none_ (by omega) (by omega));have hw:IntKind.u64.wrap (y2.length:Int)=(y2.length:Int):=by rw[IntKind.wrap_u64];omega
  clear h2 h3 h4;go_enter Tryz.func149,Tryz.ntmps149
  go_wp2_with fail
  refine(P.out _).mono ?_;rintro e w2 ⟨A2,n2,c2,rfl,k2,b2⟩;rw[List.nil_append] at k2;have o2:=o1.later b2;have b02:Below B W0 w2:=b1.trans (Below.mono b2 (by omega));have q2:n2<=10:=by have:=k2.len;rw[zaa] at this;have:=V.out;omega
  have hz2:=b2.size;have r2:=k2.reads;have B2:=B0.below b2 B0.lt;clear k2 b2 x0 x1 x2 x3 x4;go_wp2_with (first
   |(refine zam elB rfl (.tmp 36) (.tmp 38) rfl (W:=W0) (B:=B) o2 r2 rfl rfl b02 hbB (by omega) (by omega) (by simp only[maxLen];omega) ?_
     intro A3 c3 w3 _ _ o3 g3 b3 _;obtain⟨x0,x1,x2,x3,x4⟩:=zcq (B2.push o2 g3 (by decide));have hz3:=g3.size)
   |(refine zd7 elB qd9 rfl (.tmp 40) (.tmp 42) rfl (W:=W0) (B:=B) o3 h8 rfl rfl b3 hbB (by omega) (by omega) ?_
     intro A4 c4 w4 _ _ o4 _ b4))
  go_ret
  exact⟨_,_,_,rfl,by rw[<-List.append_assoc];exact o4,b4⟩
 ·rw[if_neg (by decide),if_neg (by decide),if_pos rfl]
  obtain⟨⟨p1,p2⟩,p3,p4⟩:=h3 rfl;have he:=h4 rfl;subst he;have V1:=Hz (zap (n:=zig y3) (by unfold zig;split<;> omega));have V2:=Hz (zap (n:=zig y4) (by unfold zig;split<;> omega));have Z1:=Hz (fun(W:World)=>zou y3 W (by omega) (by omega));have Z2:=Hz (fun(W:World)=>zou y4 W (by omega) (by omega));have P1:=Hz (fun(W:World)=>zc0 none 0 0 [] (zig y3) W Reads.none_ (by omega) (by unfold zig;split<;> omega));have P2:=Hz (fun(W:World)=>zc0 none 0 0 [] (zig y4) W Reads.none_ (by omega) (by unfold zig;split<;> omega));clear h2 h3 h4;generalize zig y3=z3 at*;generalize zig y4=z4 at*;go_enter Tryz.func149,Tryz.ntmps149
  go_wp2_with fail
  refine(Z1.out _).mono ?_;rintro e w2 ⟨rfl,rfl⟩;go_wp2_with fail
  refine(P1.out _).mono ?_;rintro e w2 ⟨A2,n2,c2,rfl,k2,b2⟩;rw[List.nil_append] at k2;have o2:=o1.later b2;have b02:Below B W0 w2:=b1.trans (Below.mono b2 (by omega));have q2:n2<=10:=by have:=k2.len;rw[zaa] at this;have:=V1.out;omega
  have hz2:=b2.size;have r2:=k2.reads;have B2:=B0.below b2 B0.lt;clear k2 b2 x0 x1 x2 x3 x4
  go_wp2_with (refine zam elB rfl (.tmp 25) (.tmp 30) rfl (W:=W0) (B:=B) o2 r2 rfl rfl b02 hbB (by omega) (by omega) (by simp only[maxLen];omega) ?_
               intro A3 c3 w3 _ _ o3 g3 b3 _;have B3:=B2.push o2 g3 (by decide);obtain⟨x0,x1,x2,x3,x4⟩:=zcq B3;have hz3:=g3.size)
  refine(Z2.out _).mono ?_;rintro e w4 ⟨rfl,rfl⟩;go_wp2_with fail
  refine(P2.out _).mono ?_;rintro e w4 ⟨A4,n4,c4,rfl,k4,b4⟩;rw[List.nil_append] at k4;have o4:=o3.later b4;have b04:Below B W0 w4:=b3.trans (Below.mono b4 (by omega));have q4:n4<=10:=by have:=k4.len;rw[zaa] at this;have:=V2.out;omega
  have hz4:=b4.size;have r4:=k4.reads;have B4:=B3.below b4 B3.lt;clear k4 b4 x0 x1 x2 x3 x4;go_wp2_with (first
   |(refine zam elB rfl (.tmp 36) (.tmp 38) rfl (W:=W0) (B:=B) o4 r4 rfl rfl b04 hbB (by omega) (by omega) (by simp only[maxLen];omega) ?_
     intro A5 c5 w5 _ _ o5 g5 b5 _;obtain⟨x0,x1,x2,x3,x4⟩:=zcq (B4.push o4 g5 (by decide));have hz5:=g5.size)
   |(refine zd7 elB qd9 rfl (.tmp 40) (.tmp 42) rfl (W:=W0) (B:=B) o5 (l2:=[]) (by simp) rfl rfl b5 hbB (by omega) (by simp;omega) ?_
     intro A6 c6 w6 _ _ o6 _ b6))
  go_ret
  exact⟨_,_,_,rfl,by rw[List.append_nil] at o6;rw[<-List.append_assoc];exact o6,b6⟩
theorem z6n{t:Int}{L:List zab}{k:Nat}(h:k<L.length):(L.take (k+1)).flatMap (plE t)=(L.take k).flatMap (plE t)++plE t (L.getD k (false,0,[],0,0)):=by rw[zac L k (false,0,[],0,0) h,List.flatMap_append];simp
theorem zsy{t:Int}:∀l:List zab,(∀c∈l,zae c t false=true)->(∀c∈l,c.2.2.1.length<=65536)->(l.flatMap (plE t)).length<=l.length*65556
 | [],_,_=>by simp
 |c::l,h,k=>by
  have a:=zsy l (fun d hd=>h d (by simp[hd])) (fun d hd=>k d (by simp[hd]));have b:=zxr (h c (by simp));have d:=k c (by simp);rw[List.flatMap_cons,List.length_append,List.length_cons];omega
theorem zjb{c:zab}{t:Int}(h:zae c t false=true):c.2.2.1.length<=65536:=by
 have h0:=zky h;rcases zsx h with rfl|rfl|rfl|rfl
 ·unfold zae at h
  rw[h0] at h;simp at h;rw[h.1];simp
 ·unfold zae at h
  rw[h0] at h;simp at h;rw[h.1.1];simp
 ·exact z6l h
 ·rw[zxt h]
  simp
def zaq(c:zab):Prop:=(c.2.2.1.length<=140737488351232/\ ∀z∈c.2.2.1,z<256)/\ -9223372036854775808<=c.2.1/\c.2.1<=9223372036854775807
set_option maxRecDepth 100000 in
theorem zk1{w:World}{t:Int}{A:Option Addr}{n c:Nat}{L:List zab}(h:Reads w w.heap.size 5 A n (recs zay L))(hL:∀y∈L,zaq y)(hn:n<=4611686018427387903):
 Calls Tryz.prog 134 #[.int .i64 t,.slice A n c] w (OptB (plO t L) w):=by
 obtain rfl:=h.lenCell;have HR:=Hz h;have AR:=Hz (zmy (t:=t) (c:=c) h (fun y hy=>(hL y hy).1.1) hn);have KN:=Hz (zkz (w:=w) (t:=t) (n:=(L.length:Int)));have ek:zkx t L=(decide (0<=t/\t<=3/\0<=(L.length:Int)/\(L.length:Int)<=65536)&&L.all fun c=>zae c t false):=by
  unfold zkx;congr 1
  rw[decide_eq_decide];omega
 obtain⟨M,hM⟩:∃M,M=plO t L:=⟨_,rfl⟩;rw[<-hM];unfold plO at hM;by_cases hk:(0<=t/\t<=3/\0<=(L.length:Int)/\(L.length:Int)<=65536)
 ·rw[decide_eq_true hk] at KN ek
  cases ha:L.all fun c=>zae c t false with
  |false=>
   rw[ha] at AR;rw[ek,ha] at hM;simp at hM;have HM:=Hz hM;clear hM ek ha hL h;go_enter Tryz.func134,Tryz.ntmps134
   go_wp2_with fail
   refine KN.out.mono ?_;rintro e w1 ⟨rfl,rfl⟩;go_wp2_with fail
   refine AR.out.mono ?_;rintro e w1 ⟨rfl,b1⟩;go_wp2_with fail
   go_ret2
   rw[HM.out];exact⟨rfl,b1⟩
  |true=>
   rw[ha] at AR;rw[ek,ha] at hM;simp at hM;have hR:=List.all_eq_true.1 ha;have hn2:L.length<=65536:=by omega
   by_cases h1:t=1
   ·subst h1
    have hP:=zfv (zd4 L) 1 (by omega) (by unfold zd4;rw[List.length_map];omega) (zoz hR);have hM2:M=zql (zd4 L) 1:=by rw[hM];unfold plB;rw[if_pos rfl];refine Eq.trans ?_ hP.symm;unfold zd4;rw[List.length_map]
    have HM:=Hz hM2;have PB:=Hz (fun(W:World) (hW:New w W)=>zsw (c:=c) (Reads.later HR.out hW) hn2);clear hM hM2 hP ek ha hR hL h;go_enter Tryz.func134,Tryz.ntmps134
    go_wp2_with fail
    refine KN.out.mono ?_;rintro e w1 ⟨rfl,rfl⟩;go_wp2_with fail
    refine AR.out.mono ?_;rintro e w1 ⟨rfl,b1⟩;go_wp2_with fail
    refine(PB.out _ b1).mono ?_;intro e w2 h2;rw[<-HM.out] at h2;cases M with
    |none=>
     obtain⟨rfl,b2⟩:=h2;go_wp2_with fail
     go_ret2
     exact⟨rfl,New.trans b1 b2⟩
    |some l=>
     obtain⟨A2,n2,c2,rfl,o2,b2⟩:=h2;go_wp2_with fail
     go_ret2
     exact⟨_,_,_,rfl,o2.base_le b1.size,New.trans b1 b2⟩
   ·have hM2:M=some (L.flatMap (plE t)):=by rw[hM];unfold plB;rw[if_neg h1]
    have HM:=Hz hM2;have HR2:=Hz hR;have hx:∀c∈L,c.2.2.1.length<=65536:=fun c hc=>zjb (hR c hc)
    have HX:=Hz hx;have HD:=Hz hL;have RM:=Hz (fun(W:World) (hW:New w W)=>qb1 (c:=c) (Reads.later HR.out hW) hn2 hx);clear hM hM2 ek ha hR hL h hx;go_enter Tryz.func134,Tryz.ntmps134
    go_wp2_with fail
    refine KN.out.mono ?_;rintro e w1 ⟨rfl,rfl⟩;go_wp2_with fail
    refine AR.out.mono ?_;rintro e w1 ⟨rfl,b1⟩;go_wp2_with fail
    refine(RM.out _ b1).mono ?_;rintro e w2 ⟨r,rfl,hr,b2⟩;have b02:=New.trans b1 b2;have hz2:=b02.size
    go_wp2_with (refine zb6 elB rfl (.const (.int .i64 0)) (.tmp 27) rfl (W:=w) (B:=w.heap.size) 0 r rfl rfl rfl rfl (by omega) b02 hz2 rfl (by omega) (by simp only[maxLen];omega) ?_
                 intro w3 o3 _ b3 hs3)
    go_loopw [6,31] (fun v i wr=>∃(k m cc:Nat) (AA:Option Addr),k<=L.length/\i= .int .i64 (k:Int)/\v= .slice AA m cc/\Own wr w.heap.size 5 (.slice AA m cc) (zao .u8 ((L.take k).flatMap (plE t)))/\Below w.heap.size w wr) (fun _ i _=>L.length-(intOf i).toNat)
    case atStart=>exact⟨0,0,r,_,Nat.zero_le _,rfl,rfl,by have:=o3.base_le hz2;simpa[zao] using this,b3⟩
    case round=>
     obtain⟨k,m,cc,AA,hk2,rfl,rfl,o,b⟩:=hrel;clear o3 b3 hs3 b1 b2 b02 hz2;by_cases hlt:k<L.length
     ·obtain⟨ad,rfl,hb,d0,d1,d2,d3,d4⟩:=(Reads.later HR.out b).cell5 hlt
      have hmem:L.getD k (false,0,[],0,0)∈L:=by rw[List.getD_eq_getElem?_getD,List.getElem?_eq_getElem hlt];exact List.getElem_mem hlt
      have hfs:=z6n (t:=t) hlt;have hfl:=zsy (L.take k) (fun c hc=>HR2.out c (List.mem_of_mem_take hc)) (fun c hc=>HX.out c (List.mem_of_mem_take hc));rw[List.length_take] at hfl;have hm:m<=100000000000:=by have:=o.len;rw[zaa] at this;have:=Nat.min_le_left k L.length;omega
      have h8:=HD.out _ hmem;have hry:=HR2.out _ hmem;clear hmem hfl;generalize L.getD k (false,0,[],0,0)=y at*;have hz:=b.size;have ha:New wr (wr.alloc (.cells (zay y).toArray 75)):=(Below.refl _ _).alloc (Nat.le_refl _) _;have LY:=qgb (W0:=w) (B:=w.heap.size) (o.later ha) (b.trans (Below.mono ha hz)) (Nat.le_refl _) (by have:=ha.size;omega) hm hry h1 h8.1.2 h8.2;rw[<-hfs] at LY;obtain⟨y0,y1,y2,y3,y4⟩:=y;have LY:Hid (Calls Tryz.prog 149 #[.slice AA m cc,.int .i64 t,.agg #[.bool y0,.int .i64 y1,.string (zad y2),.int .i64 y3,.int .i64 y4]] (wr.alloc (.cells #[.bool y0,.int .i64 y1,.string (zad y2),.int .i64 y3,.int .i64 y4] 75)) (qj9 w w.heap.size w.heap.size ((L.take (k+1)).flatMap (plE t)))):=Hz LY;dsimp only at d0 d1 d2 d3 d4;clear hfs o b h8 hry;go_wp2_with fail
      refine LY.out.mono ?_;rintro e w5 ⟨A5,n5,c5,rfl,o5,b5⟩;go_wp2_with fail
      go_roundw
      case rel=>exact⟨k+1,n5,c5,A5,by omega,by go_num,rfl,o5,b5⟩
      case measure=>simp[intOf];omega
     ·obtain rfl:k=L.length:=by omega
      rw[List.take_length] at o;go_wp2_with fail
      go_ret2
      rw[HM.out];exact⟨_,_,_,rfl,o,b⟩
 ·rw[decide_eq_false hk] at KN ek
  rw[ek] at hM;simp at hM;have HM:=Hz hM;clear hM ek AR hL h;go_enter Tryz.func134,Tryz.ntmps134
  go_wp2_with fail
  refine KN.out.mono ?_;rintro e w1 ⟨rfl,rfl⟩;go_wp2_with fail
  go_ret2
  rw[HM.out];exact⟨rfl,Below.refl _ _⟩
end Go.Proofs.Y
namespace Go.Hm
open Go Go.RowKit
def near(c:zab):Prop:=(-1048576<=c.2.2.2.1/\c.2.2.2.1<=1048576)/\ -1048576<=c.2.2.2.2/\c.2.2.2.2<=1048576
theorem qim:near za8:=by unfold near za8;decide
theorem qcp{a b:zab}(h:near a)(k:near b):qgs a.2.2.2.1 a.2.2.2.2 b.2.2.2.1 b.2.2.2.2:=by unfold near at h k;unfold qgs;omega
end Go.Hm
namespace Go.Proofs.Y
open Go.RowKit Go.Hm
theorem zfd{w:World}{t:Int}{a b:zab}(ha:near a)(hb:near b):Calls Tryz.prog 144 #[.int .i64 t,zc2 a,zc2 b] w (zal (.int .i64 (zjr t a b)) w):=zu9 (qcp ha hb)
set_option maxRecDepth 100000 in
theorem z7l{w:World}{t:Int}{a b:zdb}(ha1:near a.2.2.1)(ha2:near a.2.2.2)(hb1:near b.2.2.1)(hb2:near b.2.2.2)(hn:0<=a.1/\a.1<=1000000)(hm:0<=b.1/\b.1<=1000000):
 Calls Tryz.prog 129 #[.int .i64 t,zce a,zce b] w (zal (zce (zm0 t a b)) w):=by
 have C1:=Hz (fun(W:World)=>zfd (w:=W) (t:=t) hb1 ha1);have C2:=Hz (fun(W:World)=>zfd (w:=W) (t:=t) hb2 ha2);have D1:=Hz (fun(W:World)=>zfd (w:=W) (t:=t) hb1 hb1);have D2:=Hz (fun(W:World)=>zfd (w:=W) (t:=t) hb2 hb2);rw[zva] at D1 D2;obtain⟨n,ah,p,q⟩:=a;obtain⟨m,bh,r,s⟩:=b;dsimp only at*;obtain⟨M,hM⟩:∃M,M=zm0 t (n,ah,p,q) (m,bh,r,s):=⟨_,rfl⟩;rw[<-hM];unfold zm0 at hM;dsimp only at hM;generalize zjr t r p=o1 at*;generalize zjr t s q=o2 at*;obtain⟨p1,p2,p3,p4,p5⟩:=p;obtain⟨q1,q2,q3,q4,q5⟩:=q;obtain⟨r1,r2,r3,r4,r5⟩:=r;obtain⟨s1,s2,s3,s4,s5⟩:=s;unfold zc2 zay at C1 C2 D1 D2;dsimp only at C1 C2 D1 D2;show Calls Tryz.prog 129 #[.int .i64 t,.agg #[.int .i64 n,.bool ah,.bool p1,.int .i64 p2,.string (zad p3),.int .i64 p4,.int .i64 p5,.bool q1,.int .i64 q2,.string (zad q3),.int .i64 q4,.int .i64 q5],
  .agg #[.int .i64 m,.bool bh,.bool r1,.int .i64 r2,.string (zad r3),.int .i64 r4,.int .i64 r5,.bool s1,.int .i64 s2,.string (zad s3),.int .i64 s4,.int .i64 s5]] w (zal (zce M) w)
 have B0:=Blk.new w 133 #[.int .i64 n,.bool ah,.bool p1,.int .i64 p2,.string (zad p3),.int .i64 p4,.int .i64 p5,.bool q1,.int .i64 q2,.string (zad q3),.int .i64 q4,.int .i64 q5];have B1:=Blk.new (w.alloc (.cells #[.int .i64 n,.bool ah,.bool p1,.int .i64 p2,.string (zad p3),.int .i64 p4,.int .i64 p5,.bool q1,.int .i64 q2,.string (zad q3),.int .i64 q4,.int .i64 q5] 133)) 133 #[.int .i64 m,.bool bh,.bool r1,.int .i64 r2,.string (zad r3),.int .i64 r4,.int .i64 r5,.bool s1,.int .i64 s2,.string (zad s3),.int .i64 s4,.int .i64 s5];have hnm:IntKind.i64.wrap (n+m)=n+m:=IntWalk.i64_in _ (by omega);have HM:=Hz hM;clear hM ha1 ha2 hb1 hb2;have BO:=fun(cs:Array Value)=>Blk.new (((w.alloc (.cells #[.int .i64 n,.bool ah,.bool p1,.int .i64 p2,.string (zad p3),.int .i64 p4,.int .i64 p5,.bool q1,.int .i64 q2,.string (zad q3),.int .i64 q4,.int .i64 q5] 133)).alloc (.cells #[.int .i64 m,.bool bh,.bool r1,.int .i64 r2,.string (zad r3),.int .i64 r4,.int .i64 r5,.bool s1,.int .i64 s2,.string (zad s3),.int .i64 s4,.int .i64 s5] 133)).alloc (.cells #[.int .i64 0,.bool false,.bool false,.int .i64 0,.string ⟨#[]⟩,.int .i64 0,.int .i64 0,.bool false,.int .i64 0,.string ⟨#[]⟩,.int .i64 0,.int .i64 0] 133)) 133 cs
 obtain⟨Z,hZ⟩:∃Z:Obj,Z= .cells #[.int .i64 0,.bool false,.bool false,.int .i64 0,.string ⟨#[]⟩,.int .i64 0,.int .i64 0,.bool false,.int .i64 0,.string ⟨#[]⟩,.int .i64 0,.int .i64 0] 133:=⟨_,rfl⟩;obtain⟨x0,x1,x2,x3,x4,x5,x6,x7,x8,x9,x10,x11⟩:=zba ((B0.alloc (.cells #[.int .i64 m,.bool bh,.bool r1,.int .i64 r2,.string (zad r3),.int .i64 r4,.int .i64 r5,.bool s1,.int .i64 s2,.string (zad s3),.int .i64 s4,.int .i64 s5] 133)).alloc Z);obtain⟨y0,y1,y2,y3,y4,y5,y6,y7,y8,y9,y10,y11⟩:=zba (B1.alloc Z);have HB0:=Hz ((B0.alloc (.cells #[.int .i64 m,.bool bh,.bool r1,.int .i64 r2,.string (zad r3),.int .i64 r4,.int .i64 r5,.bool s1,.int .i64 s2,.string (zad s3),.int .i64 s4,.int .i64 s5] 133)).alloc Z);have HB1:=Hz (B1.alloc Z);subst hZ;simp only[World.size_alloc] at y0 y1 y2 y3 y4 y5 y6 y7 y8 y9 y10 y11;clear B0 B1;have hNN4:Hid (∀(o1 o2 o3 o4:Obj) (W:World),New ((((w.alloc o1).alloc o2).alloc o3).alloc o4) W->New w W):=Hz fun o1 o2 o3 o4 W h=>New.trans (New.trans (zxs w o1 o2) (zxs _ o3 o4)) h
 cases ah with
 |true=>
  cases bh with
  |true=>
   have hM:=HM.out;clear HM;rw[if_pos rfl] at hM;simp only[Bool.true_and,decide_eq_true_eq] at hM;have HM:=Hz hM;clear hM;go_enter Tryz.func129,Tryz.ntmps129
   go_wp2_with fail
   refine(C1.out _).mono ?_;rintro e w1 ⟨rfl,b1⟩;have B0:=(HB0.out.alloc (.cells #[.int .i64 (n+m),.bool true,.bool p1,.int .i64 p2,.string (zad p3),.int .i64 p4,.int .i64 p5,.bool q1,.int .i64 q2,.string (zad q3),.int .i64 q4,.int .i64 q5] 133)).below b1 (by simp;omega);have B1:=(HB1.out.alloc (.cells #[.int .i64 (n+m),.bool true,.bool p1,.int .i64 p2,.string (zad p3),.int .i64 p4,.int .i64 p5,.bool q1,.int .i64 q2,.string (zad q3),.int .i64 q4,.int .i64 q5] 133)).below b1 (by simp);have B2:=(BO #[.int .i64 (n+m),.bool true,.bool p1,.int .i64 p2,.string (zad p3),.int .i64 p4,.int .i64 p5,.bool q1,.int .i64 q2,.string (zad q3),.int .i64 q4,.int .i64 q5]).below b1 (by simp);have BZ:=((Blk.new _ _ _).alloc _).below b1 (by simp);have hl:=hNN4.out _ _ _ _ _ b1;clear x0 x1 x2 x3 x4 x5 x6 x7 x8 x9 x10 x11 y0 y1 y2 y3 y4 y5 y6 y7 y8 y9 y10 y11 BO HB0 HB1 b1;simp only[World.size_alloc] at B0 B1 B2 BZ;obtain⟨x0,x1,x2,x3,x4,x5,x6,x7,x8,x9,x10,x11⟩:=zba B0;obtain⟨y0,y1,y2,y3,y4,y5,y6,y7,y8,y9,y10,y11⟩:=zba B1;by_cases h1:o1<0;all_goals
    have H1:=Hz h1
    go_wp2_with (refine zk0 rfl 75 (.tmp 42) (.tmp 41) rfl (w.heap.size+1+1+1) 2 rfl rfl B2 (by simp) (by kernel_rfl) (by simp[Value.oneCell']) ?_
                 intro W2 B2 hlow hfar;replace B0:=hfar _ _ _ (by omega) B0;replace B1:=hfar _ _ _ (by omega) B1;replace BZ:=hfar _ _ _ (by omega) BZ;replace hl:=hlow _ _ hl (by omega);clear x0 x1 x2 x3 x4 x5 x6 x7 x8 x9 x10 x11 y0 y1 y2 y3 y4 y5 y6 y7 y8 y9 y10 y11;obtain⟨x0,x1,x2,x3,x4,x5,x6,x7,x8,x9,x10,x11⟩:=zba B0;obtain⟨y0,y1,y2,y3,y4,y5,y6,y7,y8,y9,y10,y11⟩:=zba B1;simp only[List.setIfInBounds_toArray,List.set_cons_zero,List.set_cons_succ] at B2)
   all_goals
    refine(C2.out _).mono ?_;rintro e w3 ⟨rfl,b3⟩;replace B0:=B0.below b3 B0.lt;replace B1:=B1.below b3 B1.lt;replace B2:=B2.below b3 B2.lt;replace BZ:=BZ.below b3 BZ.lt;replace hl:=New.trans hl b3;clear b3 x0 x1 x2 x3 x4 x5 x6 x7 x8 x9 x10 x11 y0 y1 y2 y3 y4 y5 y6 y7 y8 y9 y10 y11;obtain⟨x0,x1,x2,x3,x4,x5,x6,x7,x8,x9,x10,x11⟩:=zba B0;obtain⟨y0,y1,y2,y3,y4,y5,y6,y7,y8,y9,y10,y11⟩:=zba B1;obtain⟨z0,z1,z2,z3,z4,z5,z6,z7,z8,z9,z10,z11⟩:=zba B2;by_cases h2:0<o2
   all_goals
    have H2:=Hz h2;go_wp2_with (first
     |(refine zk0 rfl 75 (.tmp 56) (.tmp 55) rfl (w.heap.size+1+1+1) 7 rfl rfl B2 (by simp) (by kernel_rfl) (by simp[Value.oneCell']) ?_
       intro W4 B2 hlow hfar;replace BZ:=hfar _ _ _ (by omega) BZ;replace hl:=hlow _ _ hl (by omega);clear x0 x1 x2 x3 x4 x5 x6 x7 x8 x9 x10 x11 y0 y1 y2 y3 y4 y5 y6 y7 y8 y9 y10 y11 z0 z1 z2 z3 z4 z5 z6 z7 z8 z9 z10 z11 hfar hlow;simp only[List.setIfInBounds_toArray,List.set_cons_zero,List.set_cons_succ] at B2;obtain⟨z0,z1,z2,z3,z4,z5,z6,z7,z8,z9,z10,z11⟩:=zba B2)
     |(refine zhv rfl 133 (.tmp 6) (.tmp 57) rfl (w.heap.size+1+1) _ rfl rfl BZ (by kernel_rfl) (by simp) (by simp[Value.oneCell']) ?_
       intro W5 BR hlow hfar;replace hl:=hlow _ _ hl (by omega);clear hfar hlow;obtain⟨s0,s1,s2,s3,s4,s5,s6,s7,s8,s9,s10,s11⟩:=zba BR))
    have hM:=HM.out;first
     |rw[if_pos H1.out] at hM
     |rw[if_neg (show¬o1<0 by have:=H1.out;omega)] at hM
    first
     |rw[if_pos H2.out] at hM
     |rw[if_neg (show¬0<o2 by have:=H2.out;omega)] at hM
    subst hM;exact bodyPost_ret (v:=zce _) (by simp[results,Tryz.results129,go_sem,s0,s1,s2,s3,s4,s5,s6,s7,s8,s9,s10,s11,zce,zb8,zay]) rfl ⟨rfl,hl⟩
  |false=>
   have hM:=HM.out;simp only[if_pos,Bool.false_and,Bool.false_eq_true,if_false] at hM;go_enter Tryz.func129,Tryz.ntmps129
   go_wp2_with fail
   subst hM;exact bodyPost_ret (v:=zce (n+m,true,(p1,p2,p3,p4,p5),(q1,q2,q3,q4,q5))) (by simp[results,Tryz.results129,go_sem,zce,zb8,zay]) rfl ⟨rfl,New.trans (zxs w _ _) (zxs _ _ _)⟩
 |false=>
  cases bh with
  |true=>
   have hM:=HM.out;clear HM;rw[if_neg (by simp),if_pos rfl] at hM;have HM:=Hz hM;clear hM;go_enter Tryz.func129,Tryz.ntmps129
   go_wp2_with fail
   refine(D1.out _).mono ?_;rintro e w1 ⟨rfl,b1⟩;have B1:Blk w1 (w.heap.size+1) 133 #[.int .i64 m,.bool true,.bool r1,.int .i64 r2,.string (zad r3),.int .i64 r4,.int .i64 r5,.bool s1,.int .i64 s2,.string (zad s3),.int .i64 s4,.int .i64 s5]:=by have:=(((Blk.new _ _ _).alloc _).alloc _).below b1 (by simp);simpa using this
   have B0:Blk w1 w.heap.size 133 #[.int .i64 m,.bool true,.bool r1,.int .i64 r2,.string (zad r3),.int .i64 r4,.int .i64 r5,.bool s1,.int .i64 s2,.string (zad s3),.int .i64 s4,.int .i64 s5]:=by have:=((((Blk.new _ _ _).alloc _).alloc _).alloc _).below b1 (by simp;omega);simpa using this
   have B2:Blk w1 (w.heap.size+1+1+1) 133 #[.int .i64 (n+m),.bool true,.bool r1,.int .i64 r2,.string (zad r3),.int .i64 r4,.int .i64 r5,.bool s1,.int .i64 s2,.string (zad s3),.int .i64 s4,.int .i64 s5]:=by have:=(Blk.new _ _ _).below b1 (by simp);simpa using this
   have BZ:=((Blk.new _ _ _).alloc _).below b1 (by simp);have hl:=hNN4.out _ _ _ _ _ b1;clear x0 x1 x2 x3 x4 x5 x6 x7 x8 x9 x10 x11 y0 y1 y2 y3 y4 y5 y6 y7 y8 y9 y10 y11 BO HB0 HB1 b1;simp only[World.size_alloc] at BZ;obtain⟨x0,x1,x2,x3,x4,x5,x6,x7,x8,x9,x10,x11⟩:=zba B0;obtain⟨y0,y1,y2,y3,y4,y5,y6,y7,y8,y9,y10,y11⟩:=zba B1;go_wp2_with fail
   refine(D2.out _).mono ?_;rintro e w3 ⟨rfl,b3⟩;replace B2:=B2.below b3 B2.lt;replace BZ:=BZ.below b3 BZ.lt;replace hl:=New.trans hl b3;clear b3 x0 x1 x2 x3 x4 x5 x6 x7 x8 x9 x10 x11 y0 y1 y2 y3 y4 y5 y6 y7 y8 y9 y10 y11 B0 B1;obtain⟨z0,z1,z2,z3,z4,z5,z6,z7,z8,z9,z10,z11⟩:=zba B2
   go_wp2_with (refine zhv rfl 133 (.tmp 6) (.tmp 57) rfl (w.heap.size+1+1) _ rfl rfl BZ (by kernel_rfl) (by simp) (by simp[Value.oneCell']) ?_
                intro W5 BR hlow hfar;replace hl:=hlow _ _ hl (by omega);clear hfar hlow;obtain⟨s0,s1,s2,s3,s4,s5,s6,s7,s8,s9,s10,s11⟩:=zba BR)
   have hM:=HM.out;subst hM;exact bodyPost_ret (v:=zce _) (by simp[results,Tryz.results129,go_sem,s0,s1,s2,s3,s4,s5,s6,s7,s8,s9,s10,s11,zce,zb8,zay]) rfl ⟨rfl,hl⟩
  |false=>
   have hM:=HM.out;rw[if_neg (by simp),if_neg (by simp)] at hM;go_enter Tryz.func129,Tryz.ntmps129
   go_wp2_with fail
   rw[hM];exact bodyPost_ret (v:=zce (n+m,false,za8,za8)) (by simp[results,Tryz.results129,go_sem,zce,zb8,zay,za8,show zad []=⟨#[]⟩ from rfl]) rfl ⟨rfl,New.alloc _ (zxs _ _ _)⟩
end Go.Proofs.Y
