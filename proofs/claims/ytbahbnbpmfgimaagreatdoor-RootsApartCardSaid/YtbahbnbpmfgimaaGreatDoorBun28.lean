/- Merged. -/
import Derived.Lib.SmallJoins
import Derived.Test.YtbahbnbpmfgimaaGreatDoorBun26
import Derived.Test.YtbahbnbpmfgimaaGreatDoorBun27
set_option maxHeartbeats 2000000
namespace Go.Proofs.Y
open Go.RowKit Go.Hm
set_option maxRecDepth 100000 in
theorem zuj{w:World}{bx gx by_ gy:Nat}{Vx Vy:Value}{L M:List (List Nat)}(hx:LogAt w bx gx Vx L)(hy:LogAt w by_ gy Vy M)(hL:L.length<=10000000)(hM:M.length<=10000000)(h8:∀p∈L,(∀x∈p,x<256)/\p.length<=10000000)(k8:∀p∈M,(∀x∈p,x<256)/\p.length<=10000000)(hC:ConstIn w):
 Calls Tryz.prog 24 #[.pointer (some ⟨gx,0,none⟩),.pointer (some ⟨gy,0,none⟩)] w (TwoPost (zcu L M) w):=by
 obtain⟨A,c,D,_,HR,hb,hcell⟩:=hx.rows;obtain⟨B,d,E,_,KR,kb,kcell⟩:=hy.rows;have EX:∀W:World,New w W->Calls Tryz.prog 44 #[.slice A L.length c,.slice B M.length d,.func (.func 25) #[] #[]] W (TwoPost (zcu L M) W):=fun W hW=>by have:=zxa (HR.later hW) (KR.later hW) (by omega) (by omega) (by rw[hb];exact h8) (by rw[kb];exact k8) (hC.new hW);rwa[hb,kb] at this
 have EX:=Hz EX;have CX:=Hz (fun(W:World) (hW:New w W)=>(Below.cell hW (p:=⟨gx,0,none⟩) hx.lt).trans hcell);have CY:=Hz (fun(W:World) (hW:New w W)=>(Below.cell hW (p:=⟨gy,0,none⟩) hy.lt).trans kcell);generalize L.length=n at*;generalize M.length=m at*;generalize zcu L M=o at*;clear HR KR hb kb hcell kcell h8 k8 hC hx hy hL hM;go_enter Tryz.func24,Tryz.ntmps24
 go_wp2
 refine zaw New [(true,0),(true,1),(true,2),(true,3),(true,4),(true,5),(true,6),(true,7),(false,8),(true,9),(true,10),(true,11),(true,12),(true,13),(true,14)]
  New.refl New.trans (by kernel_rfl) (by kernel_rfl) (by kernel_rfl) (by kernel_rfl) ?_
 have hU:=New.drew w;iterate 8 (
  refine zar rfl rfl (v:=?_) (fun W hW=>?_) ?_;rotate_left
  ·have c0:=CX.out W (New.trans hU hW)
   have c2:=CY.out W (New.trans hU hW);go_simp<;> with_reducible rfl
  simp only[Act.put,List.setIfInBounds_toArray,List.set_cons_zero,List.set_cons_succ])
 refine za7 rfl rfl (fun K hK=>?_);go_simp
 (with_reducible refine(EX.out _ hU).mono ?_)
 rintro e u h;obtain⟨A1,n1,c1,A2,n2,c2,rfl,r1,r2,k1,k2,b1⟩:=h;refine hK _ _ b1 ?_;clear hK;replace hU:=New.trans hU b1;iterate 6 (
  refine zar rfl rfl (v:=?_) (fun W hW=>?_) ?_;rotate_left
  ·skip
   go_simp<;> with_reducible rfl
  simp only[Act.put,List.setIfInBounds_toArray,List.set_cons_zero,List.set_cons_succ])
 refine zdh ?_;have RES:Hid (TwoPost o w (.returned (.tuple #[.slice A1 n1 c1,.slice A2 n2 c2,.bool o.isSome])) u):=Hz ⟨A1,n1,c1,A2,n2,c2,rfl,r1,r2,k1,k2,hU⟩;clear r1 r2 k1 k2 b1 hU EX CX CY;go_wp2
 go_ret3
 exact RES.out
end Go.Proofs.Y
namespace Go.Hm
open Go Go.RowKit
theorem zbp{w w1 w2:World}{g:Nat}{V V1:Value}(t1:Turns (g::zbm V) w w1)(a1:V1.ownBlock=V.ownBlock\/ ∃h,V1.ownBlock=some h/\w.heap.size<=h)(t2:Turns (g::zbm V1) w1 w2):Turns (g::zbm V) w w2:=
 ⟨t2.os.trans t1.os,t2.tape.trans t1.tape,t2.output.trans t1.output,Nat.le_trans t1.size t2.size,fun k hk hT=>by
  refine(t2.block k (Nat.lt_of_lt_of_le hk t1.size) (fun hm=>?_)).trans (t1.block k hk hT);rcases List.mem_cons.1 hm with rfl|hm
  ·exact hT (by simp)
  ·rcases a1 with a1|⟨h,a1,a2⟩
   ·refine hT (List.mem_cons_of_mem _ ?_)
    unfold zbm at hm⊢;rwa[a1] at hm
   ·unfold zbm at hm
    rw[a1] at hm;simp at hm;omega⟩
theorem zf5{w w1:World}{V V1 V2:Value}(hw:w.heap.size<=w1.heap.size)(a1:V1.ownBlock=V.ownBlock\/ ∃h,V1.ownBlock=some h/\w.heap.size<=h)(a2:V2.ownBlock=V1.ownBlock\/ ∃h,V2.ownBlock=some h/\w1.heap.size<=h):V2.ownBlock=V.ownBlock\/ ∃h,V2.ownBlock=some h/\w.heap.size<=h:=by
 rcases a2 with a2|⟨h,a2,a3⟩
 ·rw[a2];exact a1
 ·exact .inr ⟨h,a2,Nat.le_trans hw a3⟩
theorem zsh{w:World}{g x:Nat}{V V1:Value}(hx:x∉g::zbm V)(hw:x<w.heap.size)(a1:V1.ownBlock=V.ownBlock\/ ∃h,V1.ownBlock=some h/\w.heap.size<=h):x∉g::zbm V1:=fun hm=>by
 rcases List.mem_cons.1 hm with rfl|hm
 ·exact hx (by simp)
 ·rcases a1 with a1|⟨h,a1,a2⟩
  ·refine hx (List.mem_cons_of_mem _ ?_)
   unfold zbm at hm⊢;rwa[a1] at hm
  ·unfold zbm at hm
   rw[a1] at hm;simp at hm;omega
def zh4(d:List Nat):List Value:=(List.range 32).map fun i=> .int .u8 ((d.getD i 0:Nat):Int)
theorem ze8(d:List Nat):(zh4 d).length=32:=by simp[zh4]
theorem zxb{d:List Nat}(h:d.length=32):zh4 d=zao .u8 d:=by
 unfold zh4 zao;refine List.ext_getElem (by simp[h]) fun i h1 h2=>?_
 have hi:i<d.length:=by simpa using h2
 simp[List.getD_eq_getElem?_getD,hi]
def dV(d:List Nat):Value:= .agg (zao .u8 d).toArray
theorem zj2(s:List Nat)(L:List (List Nat)):zj1 (zee s L)=dV (zb2 s L):=by unfold zj1 dV;rw[z5j]
structure LeafIn(w:World)(A:Option Addr)(L:List (List Nat))(T:List Nat):Prop where
 row:Reads w w.heap.size 32 A L.length (recs zh4 L)
 digs:Digs L
 far:0<L.length-> ∀ad,A=some ad->ad.block∉T
theorem LeafIn.turn{w w':World}{A:Option Addr}{L:List (List Nat)}{T T':List Nat}(h:LeafIn w A L T)(k:Turns T w w')(hT:∀x,x<w.heap.size->x∉T->x∉T'):LeafIn w' A L T':=by
 refine⟨⟨h.row.1,fun hn=>?_⟩,h.digs,fun hn ad ha=>?_⟩
 ·obtain⟨ad,e,hb,hc⟩:=h.row.2 hn
  refine⟨ad,e,Nat.lt_of_lt_of_le hb k.size,fun j u hu=>?_⟩;rw[World.cell?_of_block (a:=ad.add j) (k.block (ad.add j).block (by rw[zaj];exact hb) (by rw[zaj];exact h.far hn ad e))];exact hc j u hu
 ·obtain⟨ad',e,hb,_⟩:=h.row.2 hn
  rw[ha] at e;injection e with e;subst e;exact hT _ hb (h.far hn ad ha)
theorem LeafIn.take{w:World}{A:Option Addr}{L:List (List Nat)}{T:List Nat}(h:LeafIn w A L T){k:Nat}(hk:k<=L.length):LeafIn w A (L.take k) T:=by
 have hl:(L.take k).length=k:=by rw[List.length_take];omega
 refine⟨?_,h.digs.take k,fun hn=>h.far (by omega)⟩;have:=h.row.take hk;rw[zie (sz:=32) ze8 L k hk] at this;rwa[hl]
theorem LeafIn.drop{w:World}{A:Option Addr}{L:List (List Nat)}{T:List Nat}(h:LeafIn w A L T){k c:Nat}(hk:k<=L.length)(hc:L.length<=c):LeafIn w (if c=k then A else A.map (·.add (k*32))) (L.drop k) T:=by
 have hl:(L.drop k).length=L.length-k:=by rw[List.length_drop]
 refine⟨?_,h.digs.drop k,fun hn ad ha=>?_⟩
 ·have:=h.row.cut hk hc
  rw[zoa (sz:=32) ze8 L k hk] at this;rwa[hl]
 ·split at ha
  ·exact h.far (by omega) ad ha
  ·cases A with
   |none=>cases ha
   |some a=>
    simp only[Option.map_some,Option.some.injEq] at ha;rw[<-ha,zaj];exact h.far (by omega) a rfl
end Go.Hm
namespace Go.Proofs.Y
open Go.RowKit Go.Hm
theorem LogOf.own{t:TypeId}{w:World}{base g B:Nat}{V:Value}{L:List (List Nat)}(h:LogOf t w base g V L)(hb:B<=base)(hg:B<=g):∀x∈g::zbm V,B<=x:=by
 intro x hx;rcases List.mem_cons.1 hx with rfl|hx
 ·exact hg
 ·exact Nat.le_trans hb (h.ge x hx).1
theorem LogOf.noB{t:TypeId}(ht:t≠5){w:World}{base g:Nat}{V:Value}{L:List (List Nat)}(h:LogOf t w base g V L):∀x∈g::zbm V,x<w.heap.size-> ∀cs,¬Blk w x 5 cs:=by
 obtain⟨A,n,c,D,rfl,h1,h2,_⟩:=h;intro x hx _ cs hB;rcases List.mem_cons.1 hx with rfl|hx
 ·exact Blk.ne_ h1 hB ht rfl
 ·exact ze2 h2 hB (by decide) hx
theorem LogOf.notT{t u:TypeId}{w:World}{base g x:Nat}{V:Value}{L:List (List Nat)}{cs:Array Value}(h:LogOf t w base g V L)(hB:Blk w x u cs)(h1:t≠u)(h2:24≠u):x∉g::zbm V:=fun hx=>by
 obtain⟨A,n,c,D,rfl,hb,ho,_⟩:=h;rcases List.mem_cons.1 hx with rfl|hx
 ·exact Blk.ne_ hb hB h1 rfl
 ·exact ze2 ho hB h2 hx
abbrev tL:TypeId:=86
end Go.Proofs.Y
namespace Go.Hm
open Go Go.RowKit
theorem zah(w:World)(o:Obj):New w (w.alloc o):=(Below.refl _ _).alloc (Nat.le_refl _) o
theorem Reads.litM3(w:World)(e:TypeId)(fr:Nat × Nat)(cs:Array Value)(n:Nat)(xs:List Value)(h:cs.toList=xs)(hn:n=xs.length):Reads (w.alloc (.cells cs e fr)) (w.alloc (.cells cs e fr)).heap.size 1 (some ⟨w.heap.size,0,none⟩) n xs:=by subst hn;refine⟨by simp,fun _=>⟨_,rfl,by simp,?_⟩⟩;have:=World.news_of_block (heap_alloc_new w (.cells cs e fr));rwa[h] at this
def u64N_tren(k:Int):Nat:=(k%18446744073709551616).toNat
def leafP(k n:Int)(d:List Nat):List (List Nat):=[low (u64N_tren k) 8,low (u64N_tren n) 8,d]
theorem zg3{w w':World}{T:List Nat}{s n:Nat}{A:Option Addr}{xs:List Value}(h:Reads w w.heap.size s A n xs)(k:Turns T w w')(hT:0<n-> ∀ad,A=some ad->ad.block∉T):Reads w' w'.heap.size s A n xs:=
 ⟨h.1,fun hn=>by obtain⟨ad,e,hb,hc⟩:=h.2 hn;refine⟨ad,e,Nat.lt_of_lt_of_le hb k.size,fun j u hu=>?_⟩;rw[World.cell?_of_block (a:=ad.add j) (k.block (ad.add j).block (by rw[zaj];exact hb) (by rw[zaj];exact hT hn ad e))];exact hc j u hu⟩
end Go.Hm
namespace Go.Proofs.Y
open Go.RowKit Go.Hm
theorem zde{t:TypeId}{w w9:World}{base g:Nat}{V V':Value}{L:List (List Nat)}(hg:g<w.heap.size)(l9:LogOf t w9 base g V' L)(a9:V'.ownBlock=V.ownBlock\/ ∃h,V'.ownBlock=some h/\w.heap.size<=h)(t9:Turns (g::zbm V) w w9){old:Array Value}(G9:Blk w9 w.heap.size 35 old)(cs:Array Value):
 ∃V',LogOf t (w9.setRow w.heap.size cs) base g V' L/\(V'.ownBlock=V.ownBlock\/ ∃h,V'.ownBlock=some h/\w.heap.size<=h)/\Turns (g::zbm V) w (w9.setRow w.heap.size cs):=by
 refine⟨V',l9.turn (T:=[w.heap.size]) (Turns.of_far (zbo (g:=w.heap.size) w9 cs) (by simp)) (by simp;omega) ?_ ?_,a9,?_⟩
 ·intro x hx
  simp at hx;subst hx;obtain⟨A',n',c',D',e',_,o',_⟩:=l9;rw[e'];exact o'.blk_ne G9 (by decide)
 ·intro x hx _ cs hB
  simp at hx;subst hx;exact Blk.ne_ G9 hB (by decide) rfl
 ·exact Turns.new_ ((t9.more (T':=w.heap.size::g::zbm V) (by intro x hx;simp at hx⊢;simp[hx])).trans (Turns.of_far (zbo (g:=w.heap.size) w9 cs) (by simp))) (Nat.le_refl _)
set_option maxRecDepth 100000 in
theorem zzk{w:World}{base g:Nat}{V:Value}{L:List (List Nat)}(hL:LogOf tL w base g V L)(hbs:base<=w.heap.size)(hLn:L.length<=10000000){s d:List Nat}{k n:Int}{A:Option Addr}{c:Nat}(hs8:∀x∈s,x<256)(hs:s.length<=140737488351232)(hd:Reads w w.heap.size 1 A d.length (zao .u8 d))(hd8:∀x∈d,x<256)(hdl:d.length<=9000000)(hdc:d.length<=c)(hc:c<=9223372036854775807)(hC:∀w',Turns (g::zbm V) w w'->ConstIn w'):
 Calls Tryz.prog 34 #[.pointer (some ⟨g,0,none⟩),.string (zad s),.int .i64 k,.int .i64 n,.slice A d.length c] w (zfk tL (zj1 (zee s (leafP k n d))) base g V (L++(za4 s (leafP k n d)).toList) w):=by
 have c0:=zah w (.cells (za0 .u8 zat).toArray 35);have G0:=Hz (Blk.new w 35 (za0 .u8 zat).toArray);have HL:=Hz hL;have HD:=Hz hd;have H8:=Hz hd8;have S8:=Hz hs8;have HC:=Hz hC;have hgl:g<w.heap.size:=hL.lt;obtain⟨W0,hW0⟩:∃W,W=w.alloc (.cells (za0 .u8 zat).toArray 35):=⟨_,rfl⟩;have U:=Hz (fun(x:Nat) (hx:x<=18446744073709551615) (W:World)=>z5x (w:=W) (A:=none) (n:=0) (c:=0) (l:=[]) x Reads.none_ (by omega));have e1:IntKind.u64.wrap k=((u64N_tren k:Nat):Int):=by unfold u64N_tren;rw[IntKind.wrap_u64];omega
 have e2:IntKind.u64.wrap n=((u64N_tren n:Nat):Int):=by unfold u64N_tren;rw[IntKind.wrap_u64];omega
 have e3:k%18446744073709551616=((u64N_tren k:Nat):Int):=by unfold u64N_tren;omega
 have e4:n%18446744073709551616=((u64N_tren n:Nat):Int):=by unfold u64N_tren;omega
 have h3:u64N_tren k<=18446744073709551615:=by unfold u64N_tren;omega
 have h4:u64N_tren n<=18446744073709551615:=by unfold u64N_tren;omega
 have LP:=Hz (show leafP k n d=[low (u64N_tren k) 8,low (u64N_tren n) 8,d] from rfl);generalize leafP k n d=lp at*;generalize u64N_tren k=ku at*;generalize u64N_tren n=nu at*;rw[<-hW0] at c0 G0;have HW:=Hz hW0;have C0:=Hz c0;clear hd hd8 hs8 hL c0 hW0 hC;go_enter Tryz.func34,Tryz.ntmps34
 go_wp2_with fail
 refine(U.out ku h3 _).mono ?_;rintro e w1 ⟨A1,n1,c1,rfl,o1,b1⟩;have b1:New W0 w1:=by rw[HW.out];exact b1
 have o1:Own w1 W0.heap.size 5 (.slice A1 n1 c1) (zao .u8 (low ku 8)):=by rw[HW.out];exact o1
 obtain rfl:n1=8:=by have:=o1.len;rwa[zaa,za6] at this
 have O1:=Hz o1;have B1:=Hz (New.trans C0.out b1);have G1:=Hz (G0.out.below b1 G0.out.lt);clear o1 b1 HW C0 G0 e1 e3;go_wp2_with fail
 refine(U.out nu h4 _).mono ?_;rintro e w2 ⟨A2,n2,c2,rfl,o2,b2⟩;have o2:Own w2 w1.heap.size 5 (.slice A2 n2 c2) (zao .u8 (low nu 8)):=o2;obtain rfl:n2=8:=by have:=o2.len;rwa[zaa,za6] at this
 have B2:=Hz (New.trans B1.out b2);have G2:=Hz (G1.out.below b2 G1.out.lt);have O1:=Hz (O1.out.later b2);have rr:RowsAt (w2.alloc (.cells #[.slice A1 8 c1,.slice A2 8 c2,.slice A d.length c] 24)) (some ⟨w2.heap.size,0,none⟩) 3 3 [(A1,c1,low ku 8),(A2,c2,low nu 8),(A,c,d)]:=by
  have l1:=za6 ku 8;have l2:=za6 nu 8;refine⟨Reads.litM3 w2 _ (0,0) _ 3 _ (by simp[recs,zfo,l1,l2]) (by simp[recs,zfo]),fun x hx=>?_,Nat.le_refl _⟩;simp only[List.mem_cons,List.not_mem_nil,or_false] at hx;have q1:=O1.out.cap;have q2:=o2.cap;simp only[maxLen] at q1 q2;have cN:=zah w2 (.cells #[.slice A1 8 c1,.slice A2 8 c2,.slice A d.length c] 24);rcases hx with rfl|rfl|rfl
  ·exact⟨by show Reads _ _ 1 A1 (low ku 8).length _;rw[l1];exact Reads.later O1.out.reads cN,by show(low ku 8).length<=c1;omega,by show c1<=_;omega⟩
  ·exact⟨by show Reads _ _ 1 A2 (low nu 8).length _;rw[l2];exact Reads.later o2.reads cN,by show(low nu 8).length<=c2;omega,by show c2<=_;omega⟩
  ·exact⟨Reads.later HD.out (New.trans B2.out cN),hdc,hc⟩
 have hbo:bytesOf [(A1,c1,low ku 8),(A2,c2,low nu 8),(A,c,d)]=lp:=by rw[LP.out];rfl
 have c3:=New.trans B2.out (zah w2 (.cells #[.slice A1 8 c1,.slice A2 8 c2,.slice A d.length c] 24));have hp8:∀p∈bytesOf [(A1,c1,low ku 8),(A2,c2,low nu 8),(A,c,d)],∀x∈p,x<256:=by
  intro p hp;simp only[bytesOf,List.map_cons,List.map_nil,List.mem_cons,List.not_mem_nil,or_false] at hp;rcases hp with rfl|rfl|rfl
  ·exact zg0 ku 8
  ·exact zg0 nu 8
  ·exact H8.out
 have hts:zhq (bytesOf [(A1,c1,low ku 8),(A2,c2,low nu 8),(A,c,d)])<=9900000:=by simp[bytesOf,zhq,za6];omega
 have lh:=zkn (HL.out.new c3) (Nat.le_trans hbs c3.size) hLn rr (by omega) S8.out hs hts hp8 (fun w' k=>HC.out w' ((Turns.of_new c3).trans k));rw[hbo] at lh;have LH:=Hz lh;have C3:=Hz c3;have G3:=Hz (G2.out.alloc (.cells #[.slice A1 8 c1,.slice A2 8 c2,.slice A d.length c] 24));clear rr hbo c3 lh o2 b2 e2 e4;go_wp2_with fail
 refine LH.out.mono ?_;rintro e w4 ⟨rfl,V',l4,a4,t4⟩;obtain⟨cs,hcs⟩:∃cs,cs=(za0 .u8 (zee s lp)).toArray:=⟨_,rfl⟩;have hdv:zj1 (zee s lp)= .agg cs:=by rw[hcs];rfl
 have HV:=Hz hdv;have hl32:=zkl s lp;have I32:(Tryz.prog.info? 35).map (·.size)=some cs.size:=by rw[hcs];exact z99 hl32
 have ZS:(za0 .u8 zat).toArray.size=cs.size:=by rw[hcs];simp[za0,zat,hl32]
 have ONE:cs.all (·.oneCell')=true:=by rw[hcs];exact zeo _ _
 have g4:=G3.out.touch t4 ((HL.out.new C3.out).notT G3.out (by decide) (by decide));have PS:=Hz (zde hgl l4 (a4.imp id fun⟨h,h1,h2⟩=>⟨h,h1,Nat.le_trans C3.out.size h2⟩) ((Turns.of_new C3.out).trans t4) g4 cs);have H:=Hz (And.intro (zaz g4) (zbg g4 cs));have I32:=Hz I32;have ZS:=Hz ZS;have ONE:=Hz ONE;rw[hdv];clear hcs hdv l4 a4 t4 g4 hl32 LH;go_wp2_with (refine wpList_store_row rfl 35 (.tmp 10) (.tmp 21) rfl w.heap.size cs rfl rfl _ _ H.out.1 I32.out ZS.out ONE.out ?_)
 exact bodyPost_ret (results_cell_row rfl _ _ w.heap.size _ cs (0,0) _ rfl H.out.2 zcd rfl I32.out) rfl ⟨by rw[HV.out],PS.out⟩
end Go.Proofs.Y
namespace Go.Hm
open Go Go.RowKit
theorem zf6{w:World}{g:Nat}{t:TypeId}{cs:Array Value}{l:List Nat}(h:Blk w g t cs)(hl:cs.toList=zao .u8 l):Reads w w.heap.size 1 (some ⟨g,0,none⟩) l.length (zao .u8 l):=by
 refine⟨by simp[zao],fun _=>⟨_,rfl,h.lt,fun j u hu=>?_⟩⟩;have e:(⟨g,0,none⟩:Addr).add j=⟨g,j,none⟩:=by unfold Addr.add;split<;> simp_all
 rw[e,h.cell,<-hu,<-hl,Array.getElem?_toList]
end Go.Hm
namespace Go.Proofs.Y
open Go.RowKit Go.Hm
set_option maxRecDepth 100000 in
theorem qa6{w:World}{base g:Nat}{V:Value}{L:List (List Nat)}(hL:LogOf tL w base g V L)(hbs:base<=w.heap.size)(hLn:L.length<=10000000){a b:List Nat}(ha:zlr a)(hb:zlr b)(hC:∀w',Turns (g::zbm V) w w'->ConstIn w'):
 Calls Tryz.prog 61 #[.pointer (some ⟨g,0,none⟩),dV a,dV b] w (zfk tL (dV (zb2 zcl [a,b])) base g V (L++[zbv zcl [a,b]]) w):=by
 obtain⟨ca,hca⟩:∃cs,cs=(zao .u8 a).toArray:=⟨_,rfl⟩;obtain⟨cb,hcb⟩:∃cs,cs=(zao .u8 b).toArray:=⟨_,rfl⟩;have hva:dV a= .agg ca:=by rw[hca];rfl
 have hvb:dV b= .agg cb:=by rw[hcb];rfl
 obtain⟨W3,hW3⟩:∃W,W=((w.alloc (.cells ca 35)).alloc (.cells cb 35)).alloc (.cells (za0 .u8 zat).toArray 35):=⟨_,rfl⟩;have z1:(w.alloc (.cells ca 35)).heap.size=w.heap.size+1:=by simp
 have z2:((w.alloc (.cells ca 35)).alloc (.cells cb 35)).heap.size=w.heap.size+2:=by simp
 have zs:W3.heap.size=w.heap.size+3:=by rw[hW3];simp
 have b3:New w W3:=by rw[hW3];exact New.trans (New.trans (zah _ _) (zah _ _)) (zah _ _)
 have ga:Blk W3 w.heap.size 35 ca:=by rw[hW3];exact((Blk.new w _ ca).alloc _).alloc _
 have gb:Blk W3 (w.heap.size+1) 35 cb:=by rw[hW3];have:=Blk.new (w.alloc (.cells ca 35)) 35 cb;rw[z1] at this;exact this.alloc _
 have gr:Blk W3 (w.heap.size+2) 35 (za0 .u8 zat).toArray:=by rw[hW3];have:=Blk.new ((w.alloc (.cells ca 35)).alloc (.cells cb 35)) 35 (za0 .u8 zat).toArray;rwa[z2] at this
 have hgl:g<w.heap.size:=hL.lt;have lowT:∀x∈g::zbm V,x<w.heap.size:=fun x hx=>by
  rcases List.mem_cons.1 hx with rfl|hx
  ·exact hgl
  ·exact(hL.ge x hx).2
 obtain⟨W4,hW4⟩:∃W,W=(W3.alloc (.cells #[.slice (some ⟨w.heap.size,0,none⟩) 32 32,.slice (some ⟨w.heap.size+1,0,none⟩) 32 32] 24)).drew:=⟨_,rfl⟩;have b34:New W3 W4:=by rw[hW4];exact New.trans (zah W3 _) (New.drew _)
 have rr:RowsAt W4 (some ⟨w.heap.size+3,0,none⟩) 2 2 [(some ⟨w.heap.size,0,none⟩,32,a),(some ⟨w.heap.size+1,0,none⟩,32,b)]:=by
  refine⟨?_,fun x hx=>?_,Nat.le_refl _⟩
  ·rw[hW4,<-zs]
   exact Reads.litM3 W3 _ (0,0) _ 2 _ (by simp[recs,zfo,ha.1,hb.1]) (by simp[recs,zfo])
  ·simp only[List.mem_cons,List.not_mem_nil,or_false] at hx
   rcases hx with rfl|rfl
   ·exact⟨by show Reads _ _ 1 _ a.length _;exact Reads.later (zf6 ga (by rw[hca])) b34,by show a.length<=32;rw[ha.1];omega,by show(32:Nat)<=_;omega⟩
   ·exact⟨by show Reads _ _ 1 _ b.length _;exact Reads.later (zf6 gb (by rw[hcb])) b34,by show b.length<=32;rw[hb.1];omega,by show(32:Nat)<=_;omega⟩
 have hbo:bytesOf [((some ⟨w.heap.size,0,none⟩:Option Addr),32,a),(some ⟨w.heap.size+1,0,none⟩,32,b)]=[a,b]:=rfl;have hp8:∀p∈[a,b],∀x∈p,x<256:=by
  intro p hp;simp only[List.mem_cons,List.not_mem_nil,or_false] at hp;rcases hp with rfl|rfl
  ·exact ha.2
  ·exact hb.2
 have hts:zhq [a,b]<=9900000:=by simp[zhq,ha.1,hb.1]
 have b04:=New.trans b3 b34;have lh:=zkn (s:=zcl) (hL.new b04) (Nat.le_trans hbs b04.size) hLn rr (by omega) (by decide) (by decide) hts hp8 (fun w' k=>hC w' ((Turns.of_new b04).trans k));rw[hbo,zfu] at lh;obtain⟨cs,hcs⟩:∃cs,cs=(za0 .u8 (zee zcl [a,b])).toArray:=⟨_,rfl⟩;have hdv:zj1 (zee zcl [a,b])= .agg cs:=by rw[hcs];rfl
 have hdv2:dV (zb2 zcl [a,b])= .agg cs:=by rw[<-zj2,hdv]
 have hl32:=zkl zcl [a,b];have I32:(Tryz.prog.info? 35).map (·.size)=some cs.size:=by rw[hcs];exact z99 hl32
 have ZS:(za0 .u8 zat).toArray.size=cs.size:=by rw[hcs];simp[za0,zat,hl32]
 have ONE:cs.all (·.oneCell')=true:=by rw[hcs];exact zeo _ _
 rw[hdv] at lh;rw[hva,hvb,hdv2];have LH:=Hz lh;have I32:=Hz I32;have ZS:=Hz ZS;have ONE:=Hz ONE;have HL:=Hz hL;have GR:=Hz (gr.below b34 gr.lt);have B04:=Hz b04;have HW3:=Hz hW3;have HW4:=Hz hW4;have LOWT:=Hz lowT;have ZSZ:=Hz zs;clear hcs hdv hdv2 hl32 lh hts hp8 rr b34 ga gb gr z1 z2 zs hW3 hW4 b3 b04 hva hvb hca hcb hL lowT hC;go_enter Tryz.func61,Tryz.ntmps61
 go_wp2
 have hw3:=HW3.out;refine zaw (TurnsB w.heap.size (g::zbm V)) [(true,0),(true,1),(true,2),(false,3),(false,4),(false,5)]
  (TurnsB.refl _ _) TurnsB.trans (by kernel_rfl) (by kernel_rfl) (by kernel_rfl) (by kernel_rfl) ?_
 iterate 3 (
  refine zar rfl rfl (v:=?_) (fun W hW=>?_) ?_;rotate_left
  ·skip
   go_simp<;> with_reducible rfl
  simp only[Act.put,List.setIfInBounds_toArray,List.set_cons_zero,List.set_cons_succ])
 have e3:((w.alloc (.cells ca 35)).alloc (.cells cb 35)).alloc (.cells (za0 .u8 zat).toArray 35)=W3:=hw3.symm;rw[show(((w.alloc (.cells ca 35)).alloc (.cells cb 35)).alloc (.cells #[.int .u8 0,.int .u8 0,.int .u8 0,.int .u8 0,.int .u8 0,.int .u8 0,.int .u8 0,.int .u8 0,.int .u8 0,.int .u8 0,.int .u8 0,.int .u8 0,.int .u8 0,.int .u8 0,.int .u8 0,.int .u8 0,.int .u8 0,.int .u8 0,.int .u8 0,.int .u8 0,.int .u8 0,.int .u8 0,.int .u8 0,.int .u8 0,.int .u8 0,.int .u8 0,.int .u8 0,.int .u8 0,.int .u8 0,.int .u8 0,.int .u8 0,.int .u8 0] 35)).drew=W3.drew from by rw[hw3];rfl];clear e3 hw3;have zs:=ZSZ.out;refine za7 rfl rfl (fun K hK=>?_);go_simp
 have hw4:=HW4.out;refine hK _ _ (.alloc _ (by show w.heap.size<=W3.heap.size;omega)) ?_;clear hK;rw[<-hw4];clear hw4;refine za7 rfl rfl (fun K hK=>?_);go_simp
 refine LH.out.mono ?_;rintro e w5 ⟨rfl,V',l5,a5,t5⟩;refine hK _ _ (.of t5 B04.out.size) ?_;clear hK;have nT:w.heap.size+2∉g::zbm V:=fun hx=>by have:=LOWT.out _ hx;omega
 have g5:=GR.out.touch t5 nT;refine za7 rfl rfl (fun K hK=>?_);refine wp_store_row 35 (.tmp 6) (.tmp 11) rfl (w.heap.size+2) cs rfl rfl _ _ (zaz g5) I32.out ZS.out ONE.out ?_;refine hK _ _ (.far (zbo (g:=w.heap.size+2) _ cs) (by omega) (Nat.le_trans B04.out.size t5.size)) ?_;clear hK;refine zdh ?_;have G6:=Hz (zbg g5 cs);have P6:Hid (∃V',LogOf tL (w5.setRow (w.heap.size+2) cs) base g V' (L++[zbv zcl [a,b]])/\(V'.ownBlock=V.ownBlock\/ ∃h,V'.ownBlock=some h/\w.heap.size<=h)/\Turns (g::zbm V) w (w5.setRow (w.heap.size+2) cs)):=Hz (by
  have tt:Turns [w.heap.size+2] w5 (w5.setRow (w.heap.size+2) cs):=Turns.of_far (zbo (g:=w.heap.size+2) w5 cs) (by simp);refine⟨V',l5.turn tt (by simp;omega) ?_ ?_,a5.imp id (fun⟨h,h1,h2⟩=>⟨h,h1,Nat.le_trans B04.out.size h2⟩),?_⟩
  ·intro x hx
   simp at hx;subst hx;obtain⟨A',n',c',D',e',_,o',_⟩:=l5;rw[e'];exact o'.blk_ne g5 (by decide)
  ·intro x hx _ cs hB
   simp at hx;subst hx;exact Blk.ne_ g5 hB (by decide) rfl
  ·exact Turns.new_ ((((Turns.of_new B04.out).trans t5).more (T':=(w.heap.size+2)::g::zbm V) (by intro x hx;simp at hx⊢;simp[hx])).trans (tt.more (by intro x hx;simp at hx⊢;simp[hx]))) (by omega))
 clear l5 a5 t5 g5;go_wp2
 exact bodyPost_ret (results_cell_row rfl _ _ (w.heap.size+2) _ cs (0,0) _ rfl G6.out zcd rfl I32.out) rfl ⟨rfl,P6.out⟩
end Go.Proofs.Y
namespace Go.Hm
open Go Go.RowKit
theorem z5z(w:World):RowsAt w none 0 0 []:=⟨Reads.none_,(fun _ hd=>nomatch hd),Nat.le_refl _⟩
theorem ConstIn.turn{W w w':World}{T:List Nat}(hC:ConstIn W)(b:New W w)(k:Turns T w w')(hT:∀x∈T,W.heap.size<=x):ConstIn w':=hC.new (Turns.below b k hT (Nat.le_refl _))
section
variable{P:Program}{w:World}{a:Act}{dst:Option Tmp}{tt:TypeId}{pos:String}{af:Array Edge}{gd:Option (Nat × Bool)}
theorem zzm{t t2:TypeId}{x y:Operand}{v:Value}{xs ys:Array Value}(hx:a.eval x= .agg xs)(hy:a.eval y= .agg ys)(hm:P.eqGuardType P.depth t=false)(hv:(binOp .eql t (.agg xs) (.agg ys)).run P w= .ok v w):(execOp a.eval ⟨dst,.binOp .eql t x y t2,tt,pos,af,gd⟩).run P w= .ok (.value v) w:=by unfold execOp;simp only[hx,hy,Sem.run_bind,run_eqGuard_agg (hm:=hm),hv,Result.andThen_ok,Sem.run_pure]
end
end Go.Hm
namespace Go.Proofs.Y
open Go.RowKit Go.Hm
theorem LogAt.made(w:World)(base:Nat):LogAt (w.alloc (.cells #[.slice none 0 0] 86)) base w.heap.size (.slice none 0 0) []:=⟨none,0,0,[],rfl,Blk.new _ _ _,Own.nil_,(fun _ hd=>nomatch hd),rfl⟩
open Go.RowKit Go.Hm
theorem zhb{m:Int}{S:St}{N:Nat}{r:List Nat}(hS:S.ok)(h:lenS m S=(N,some r)):S=some (vp N++r)/\(N:Int)<=m:=by
 rcases zdf m S hS with k|⟨M,r',e,k1,_,k⟩
 ·rw[k] at h
  injection h with _ h;cases h
 ·rw[k] at h
  injection h with h1 h2;injection h2 with h2;subst h1 h2;exact⟨e,k1⟩
theorem zpk{t:Int}{S:St}{s:zdb}{r:List Nat}(hS:S.ok)(h:getA t S=(s,some r)):S=some (putS [] t s++r)/\zb9 t s=true:=by
 cases S with
 |none=>
  exfalso;rw[zta (N:=0) (y:=0) (S1:=none) (S2:=none) rfl rfl,zs9 (N:=0) (y:=0) (S1:=none) (S2:=none) rfl rfl] at h;simp at h
 |some b=>
  obtain⟨h1,h2⟩:=z7x (hS b rfl) h;exact⟨by rw[h2],h1⟩
theorem qgw{t:Int}{S:St}(hS:S.ok):(getA t S).2.ok:=by
 cases h:(getA t S).2 with
 |none=>exact St.ok_none
 |some r=>
  have:=(zpk hS (show getA t S=((getA t S).1,some r) by rw[<-h])).1;exact St.ok_some fun x hx=>hS _ this x (by simp[hx])
noncomputable def zgw(t m:Int)(S:St):za2 × St:=
 ((((lenS 268435456 S).1:Int),((lenS m (lenS 268435456 S).2).1:Int),(getA t (lenS m (lenS 268435456 S).2).2).1),(getA t (lenS m (lenS 268435456 S).2).2).2)
theorem z8i{t m k:Int}{nu:Bool}{p:za2}{r:List Nat}(h:zh6 t nu p k=true)(hk:p.2.1<=m)(hm:m<=9223372036854775807)(hd:statData p.2.2)(hr:r.length<=140737488351232):zgw t m (some (zfq t p++r))=(p,some r):=by
 obtain⟨⟨h1,h2,h3,h4⟩,h5⟩:=pageB_most.1 h;obtain⟨a,b,s⟩:=p;dsimp only at h1 h2 h3 h4 h5 hk hd;obtain⟨a,rfl⟩:=Int.eq_ofNat_of_zero_le (show 0<=a by omega);obtain⟨b,rfl⟩:=Int.eq_ofNat_of_zero_le (show 0<=b by omega);have hs:zb9 t s=true:=by rw[Bool.and_eq_true] at h5;exact h5.1
 have e1:lenS 268435456 (some (zfq t ((a:Int),(b:Int),s)++r))=(a,some (vp b++(putS [] t s++r))):=by
  have:zfq t ((a:Int),(b:Int),s)++r=vp a++(vp b++(putS [] t s++r)):=by simp[zfq]
  rw[this];exact zdv _ _ (by omega) (by omega)
 have e2:lenS m (some (vp b++(putS [] t s++r)))=(b,some (putS [] t s++r)):=zdv _ _ hk hm;unfold zgw;rw[e1];dsimp only;rw[e2];dsimp only;rw[qcw hs hd r hr]
theorem z3b{t m:Int}{S:St}{p:za2}{r:List Nat}(hS:S.ok)(h:zgw t m S=(p,some r)):S=some (zfq t p++r):=by
 unfold zgw at h;injection h with h1 h2;subst h1;obtain⟨N,S1,k1⟩:∃N S1,lenS 268435456 S=(N,S1):=⟨_,_,rfl⟩;have hS1:S1.ok:=by have:=zbz (m:=268435456) hS;rwa[k1] at this
 rw[k1] at h2⊢;dsimp only at h2⊢;obtain⟨M,S2,k2⟩:∃N S2,lenS m S1=(N,S2):=⟨_,_,rfl⟩;have hS2:S2.ok:=by have:=zbz (m:=m) hS1;rwa[k2] at this
 rw[k2] at h2⊢;dsimp only at h2⊢;have g:=(zpk hS2 (show getA t S2=((getA t S2).1,some r) by rw[<-h2])).1;generalize hgs:(getA t S2).1=s at*;subst g;clear hgs h2;have e2:=(zhb hS1 k2).1;subst e2;have e1:=(zhb hS k1).1;rw[e1];simp[zfq]
theorem znr{t m:Int}{S:St}(hS:S.ok):(zgw t m S).2.ok:=qgw (zbz (zbz hS))
theorem z3c{t m:Int}{S:St}:statData (zgw t m S).1.2.2:=z7w
noncomputable def zcn(t m:Int):Nat->St->List za2 × St
 |0,S=>([],S)
 |_+1,none=>([],none)
 |k+1,some l=>((zgw t m (some l)).1::(zcn t m k (zgw t m (some l)).2).1,(zcn t m k (zgw t m (some l)).2).2)
theorem zyi(t m:Int)(k:Nat):zcn t m k none=([],none):=by cases k<;> rfl
theorem zvv{t m:Int}:∀(k:Nat) {S:St},S.ok->(zcn t m k S).2.ok
 |0,_,h=>h
 |_+1,none,_=>St.ok_none
 |k+1,some _,h=>zvv k (znr h)
theorem zpl{t m:Int}:∀(k:Nat) (S:St),∀p∈(zcn t m k S).1,statData p.2.2
 |0,_,p,hp=>by simp[zcn] at hp
 |_+1,none,p,hp=>by simp[zcn] at hp
 |k+1,some l,p,hp=>by
  simp only[zcn,List.mem_cons] at hp;rcases hp with rfl|hp
  ·exact z3c
  ·exact zpl k _ p hp
theorem zro{t m k:Int}{nu:Bool}(hm:m<=9223372036854775807):∀(l:List za2) (r:List Nat),(∀p∈l,zh6 t nu p k=true/\p.2.1<=m/\statData p.2.2)->(l.flatMap (zfq t)).length+r.length<=140737488351232->zcn t m l.length (some (l.flatMap (zfq t)++r))=(l,some r)
 | [],r,_,_=>rfl
 |p::l,r,h,hr=>by
  obtain⟨a,b,c⟩:=h p (by simp);rw[List.flatMap_cons,List.length_append] at hr;rw[List.flatMap_cons,List.append_assoc,List.length_cons];simp only[zcn];rw[z8i a b hm c (by rw[List.length_append];omega)];dsimp only;rw[zro hm l r (fun q hq=>h q (by simp[hq])) (by omega)]
theorem zpm{t m:Int}:∀(k:Nat) {S:St} {l:List za2} {r:List Nat},S.ok->zcn t m k S=(l,some r)->S=some (l.flatMap (zfq t)++r)/\l.length=k
 |0,S,l,r,_,h=>by
  simp only[zcn,Prod.mk.injEq] at h;obtain⟨rfl,rfl⟩:=h;exact⟨rfl,rfl⟩
 |k+1,none,l,r,_,h=>by
  simp only[zcn,Prod.mk.injEq] at h;cases h.2
 |k+1,some b,l,r,hS,h=>by
  simp only[zcn,Prod.mk.injEq] at h;obtain⟨rfl,h2⟩:=h;have ih:=zpm k (S:=(zgw t m (some b)).2) (znr hS) (show zcn t m k (zgw t m (some b)).2=((zcn t m k (zgw t m (some b)).2).1,some r) by rw[<-h2]);obtain⟨e1,e2⟩:=ih;have e3:=z3b hS (show zgw t m (some b)=((zgw t m (some b)).1,some _) by rw[<-e1]);refine⟨?_,by rw[List.length_cons,e2]⟩;rw[List.flatMap_cons,List.append_assoc];exact e3
noncomputable def zc9(t m:Int)(S:St):List za2 × St:=zcn t m (lenS m S).1 (lenS m S).2
theorem zll{t m:Int}{S:St}(h:S.ok):(zc9 t m S).2.ok:=zvv _ (zbz h)
theorem z3d{t m:Int}{nu:Bool}{l:List za2}{r:List Nat}{rows:Int}(h:zef t nu l rows)(hrm:rows<=m)(hm:m<=9223372036854775807)(hd:∀p∈l,statData p.2.2)(hr:(zgq t l).length+r.length<=140737488351232):
 zc9 t m (some (zgq t l++r))=(l,some r):=by
 have hp:=zfe h.1;have h2:=h.2;have hle:∀p∈l,p.2.1<=zmc l:=by
  have key:∀l:List za2,(∀p∈l,zh6 t nu p 65536=true)-> ∀p∈l,p.2.1<=zmc l:=by
   intro l;induction l with
   |nil=>intro _ p hp;simp at hp
   |cons q l ih=>
    intro h p hp;have h1:=zfe (l:=l) fun z hz=>h z (by simp[hz])
    have h3:=(pageB_most.1 (h q (by simp))).1;rw[zg8];rcases List.mem_cons.1 hp with rfl|hp
    ·omega
    ·have:=ih (fun z hz=>h z (by simp[hz])) p hp
     omega
  exact key l h.1
 unfold zc9 zgq at*;rw[List.length_append] at hr;rw[List.append_assoc,zdv l.length _ (by omega) hm];dsimp only;exact zro (k:=65536) (nu:=nu) hm l r (fun p hpm=>⟨h.1 p hpm,by have:=hle p hpm;omega,hd p hpm⟩) (by omega)
theorem zyj{t m:Int}{S:St}{l:List za2}{r:List Nat}(hS:S.ok)(h:zc9 t m S=(l,some r)):S=some (zgq t l++r):=by
 unfold zc9 at h;obtain⟨N,S1,k⟩:∃N S1,lenS m S=(N,S1):=⟨_,_,rfl⟩;have hS1:S1.ok:=by have:=zbz (m:=m) hS;rwa[k] at this
 rw[k] at h;obtain⟨e1,e2⟩:=zpm N hS1 h;subst e1;rw[(zhb hS k).1];simp[zgq,e2]
noncomputable def zbi(m:Int):List zbc->St->List (List za2) × St
 | [],S=>([],S)
 |c::cs,S=>((zc9 c.2.1 m S).1::(zbi m cs (zc9 c.2.1 m S).2).1,(zbi m cs (zc9 c.2.1 m S).2).2)
theorem zrp{m:Int}:∀(cs:List zbc) {S:St},S.ok->(zbi m cs S).2.ok
 | [],_,h=>h
 |_::cs,_,h=>zrp cs (zll h)
theorem zyk{t m:Int}{S:St}:∀p∈(zc9 t m S).1,statData p.2.2:=zpl _ _
theorem zm5{m:Int}:∀(cs:List zbc) (S:St),∀l∈(zbi m cs S).1,∀p∈l,statData p.2.2
 | [],_,l,hl=>by simp[zbi] at hl
 |c::cs,S,l,hl=>by
  simp only[zbi,List.mem_cons] at hl;rcases hl with rfl|hl
  ·exact zyk
  ·exact zm5 cs _ l hl
theorem zpn{m:Int}:∀(cs:List zbc) (S:St),(zbi m cs S).1.length=cs.length
 | [],_=>rfl
 |c::cs,S=>by simp only[zbi,List.length_cons,zpn cs]
theorem zm6{m:Int}:∀(cs:List zbc) {S:St} {ls:List (List za2)} {r:List Nat},S.ok->zbi m cs S=(ls,some r)->S=some (zca cs ls++r)
 | [],S,ls,r,_,h=>by
   simp only[zbi,Prod.mk.injEq] at h;obtain⟨rfl,rfl⟩:=h;rfl
 |c::cs,S,ls,r,hS,h=>by
  simp only[zbi,Prod.mk.injEq] at h;obtain⟨rfl,h2⟩:=h;have ih:=zm6 cs (S:=(zc9 c.2.1 m S).2) (zll hS) (show zbi m cs (zc9 c.2.1 m S).2=((zbi m cs (zc9 c.2.1 m S).2).1,some r) by rw[<-h2]);have e3:=zyj hS (show zc9 c.2.1 m S=((zc9 c.2.1 m S).1,some _) by rw[<-ih]);simp only[zca,List.append_assoc];exact e3
end Go.Proofs.Y
namespace Go.Hm
open Go Go.RowKit
end Go.Hm
namespace Go.Proofs.Y
open Go.RowKit Go.Hm
structure TabOwn(w:World)(B:Nat)(Ac:Option Addr)(cc:Nat)(L:List zbc)(Ad:Option Addr)(cd:Nat)(D:List zex):Prop where
 cols:w.ownsRow B 71 3 (.slice Ac L.length cc) L.length (recs zls L)
 data:w.ownsRow B 76 1 (.slice Ad D.length cd) D.length (recs zk2 D)
 rows:RowsIn w B D
section
variable{w w':World}{B:Nat}{Ac:Option Addr}{cc:Nat}{L:List zbc}{Ad:Option Addr}{cd:Nat}{D:List zex}
theorem TabOwn.later(h:TabOwn w B Ac cc L Ad cd D)(hb:New w w'):TabOwn w' B Ac cc L Ad cd D:=⟨za5 h.cols hb,za5 h.data hb,h.rows.later hb⟩
theorem TabOwn.far{g:Nat}(h:TabOwn w B Ac cc L Ad cd D)(hg:w.grownBy w' (some g))(hB:g<B):TabOwn w' B Ac cc L Ad cd D:=
 ⟨World.ownsRow.kept h.cols hg (.inr (fun e=>by have:=(World.ownsRow.lt h.cols _ e).1;omega)),World.ownsRow.kept h.data hg (.inr (fun e=>by have:=(World.ownsRow.lt h.data _ e).1;omega)),
  fun d hd=>World.ownsRow.kept (h.rows d hd) hg (.inr (fun e=>by have:=(World.ownsRow.lt (h.rows d hd) _ e).1;omega))⟩
theorem TabPost.own{er:Int}{r:Int}{C:List (List zab)}{e:Ending}(h:TabPost er L r C w e w'):
 ∃(Ac Ad:Option Addr) (cc cd:Nat) (D:List zex),e= .returned (.tuple #[.agg #[.slice Ac L.length cc,.int .i64 r,.slice Ad D.length cd],.int .i64 er])/\TabOwn w' w.heap.size Ac cc L Ad cd D/\D.map (·.2.2)=C/\New w w':=by
 obtain⟨Ac,Ad,cc,cd,D,rfl,h1,h2,h3,h4,h5⟩:=h;exact⟨Ac,Ad,cc,cd,D,rfl,⟨h1,h2,h3⟩,h4,h5⟩
end
end Go.Proofs.Y
