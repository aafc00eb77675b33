/- Merged. -/
import Derived.Test.YtbahbnbpmfgimaaGreatDoorBun36
set_option maxHeartbeats 2000000
namespace Go.Proofs.Y
open Go.RowKit Go.Hm
set_option maxRecDepth 100000 in
theorem z90{w:World}{base g:Nat}{V:Value}{F:List (List Nat)}(hL:LogOf tL w base g V F)(hbs:base<=w.heap.size){A:Option Addr}{c:Nat}{L:List (List Nat)}(hl:LeafIn w A L (g::zbm V))(hF:F.length+2*L.length<=8000000)(hG:∀w',Turns (g::zbm V) w w'->GlobIn w'):
 Calls Tryz.prog 14 #[.pointer (some ⟨g,0,none⟩),.slice A L.length c] w (zfk tL (dV (ovD zew L)) base g V (F++ovF zew L) w):=by
 have c0:=zah w (.cells (za0 .u8 zat).toArray 35);have G0:=Blk.new w 35 (za0 .u8 zat).toArray;obtain⟨W0,hW0⟩:∃W,W=w.alloc (.cells (za0 .u8 zat).toArray 35):=⟨_,rfl⟩;rw[<-hW0] at c0 G0;have OV:=zwt (w:=W0) (c:=c) (i:=1) (hL.new c0) (Nat.le_trans hbs c0.size) (hl.turn (Turns.of_new c0) (fun _ _ h=>h)) (by omega) hF (fun w' k=>hG w' ((Turns.of_new c0).trans k));rw[show kindS.getD 1 []=zew from rfl] at OV;have L1:zlr (ovD zew L):=zl1 _ _;generalize ovD zew L=od at*;generalize ovF zew L=of_ at*;obtain⟨cs,hdv,I32,ZS,ONE,hcs⟩:=zgm L1;rw[hdv] at OV⊢;have HGL:=Hz (show g<w.heap.size from hL.lt);have HNT:=Hz ((hL.new c0).notT G0 (by decide) (by decide));replace G0:=Hz G0;replace OV:=Hz OV;have C0:=Hz c0;have HW:=Hz hW0;replace I32:=Hz I32;replace ZS:=Hz ZS;replace ONE:=Hz ONE;clear hdv L1 hcs hL hbs hl hG c0 hW0;go_enter Tryz.func14,Tryz.ntmps14
 go_wp2_with fail
 rw[show w.alloc (.cells #[.int .u8 0,.int .u8 0,.int .u8 0,.int .u8 0,.int .u8 0,.int .u8 0,.int .u8 0,.int .u8 0,.int .u8 0,.int .u8 0,.int .u8 0,.int .u8 0,.int .u8 0,.int .u8 0,.int .u8 0,.int .u8 0,.int .u8 0,.int .u8 0,.int .u8 0,.int .u8 0,.int .u8 0,.int .u8 0,.int .u8 0,.int .u8 0,.int .u8 0,.int .u8 0,.int .u8 0,.int .u8 0,.int .u8 0,.int .u8 0,.int .u8 0,.int .u8 0] 35)=W0 from HW.out.symm];refine OV.out.mono ?_;rintro e w4 ⟨rfl,V4,l4,a4,t4⟩;have g4:=G0.out.touch t4 HNT.out;have PS:=Hz (zde HGL.out l4 (a4.imp id fun⟨h,h1,h2⟩=>⟨h,h1,Nat.le_trans C0.out.size h2⟩) ((Turns.of_new C0.out).trans t4) g4 cs);have H:=Hz (And.intro (zaz g4) (zbg g4 cs));clear l4 a4 t4 g4 OV;go_wp2_with (refine wpList_store_row rfl 35 (.tmp 4) (.tmp 7) rfl w.heap.size cs rfl rfl _ _ H.out.1 I32.out ZS.out ONE.out ?_)
 exact bodyPost_ret (results_cell_row rfl _ _ w.heap.size _ cs (0,0) _ rfl H.out.2 zcd rfl I32.out) rfl ⟨rfl,PS.out⟩
set_option maxRecDepth 100000 in
theorem z4k{w:World}{base g:Nat}{V:Value}{F:List (List Nat)}(hL:LogOf tL w base g V F)(hbs:base<=w.heap.size){A:Option Addr}{c:Nat}{L:List (List Nat)}(hl:LeafIn w A L (g::zbm V))(hF:F.length+2*L.length<=8000000)(hG:∀w',Turns (g::zbm V) w w'->GlobIn w'):
 Calls Tryz.prog 16 #[.pointer (some ⟨g,0,none⟩),.slice A L.length c] w (zfk tL (dV (ovD zei L)) base g V (F++ovF zei L) w):=by
 have c0:=zah w (.cells (za0 .u8 zat).toArray 35);have G0:=Blk.new w 35 (za0 .u8 zat).toArray;obtain⟨W0,hW0⟩:∃W,W=w.alloc (.cells (za0 .u8 zat).toArray 35):=⟨_,rfl⟩;rw[<-hW0] at c0 G0;have OV:=zwt (w:=W0) (c:=c) (i:=2) (hL.new c0) (Nat.le_trans hbs c0.size) (hl.turn (Turns.of_new c0) (fun _ _ h=>h)) (by omega) hF (fun w' k=>hG w' ((Turns.of_new c0).trans k));rw[show kindS.getD 2 []=zei from rfl] at OV;have L1:zlr (ovD zei L):=zl1 _ _;generalize ovD zei L=od at*;generalize ovF zei L=of_ at*;obtain⟨cs,hdv,I32,ZS,ONE,hcs⟩:=zgm L1;rw[hdv] at OV⊢;have HGL:=Hz (show g<w.heap.size from hL.lt);have HNT:=Hz ((hL.new c0).notT G0 (by decide) (by decide));replace G0:=Hz G0;replace OV:=Hz OV;have C0:=Hz c0;have HW:=Hz hW0;replace I32:=Hz I32;replace ZS:=Hz ZS;replace ONE:=Hz ONE;clear hdv L1 hcs hL hbs hl hG c0 hW0;go_enter Tryz.func16,Tryz.ntmps16
 go_wp2_with fail
 rw[show w.alloc (.cells #[.int .u8 0,.int .u8 0,.int .u8 0,.int .u8 0,.int .u8 0,.int .u8 0,.int .u8 0,.int .u8 0,.int .u8 0,.int .u8 0,.int .u8 0,.int .u8 0,.int .u8 0,.int .u8 0,.int .u8 0,.int .u8 0,.int .u8 0,.int .u8 0,.int .u8 0,.int .u8 0,.int .u8 0,.int .u8 0,.int .u8 0,.int .u8 0,.int .u8 0,.int .u8 0,.int .u8 0,.int .u8 0,.int .u8 0,.int .u8 0,.int .u8 0,.int .u8 0] 35)=W0 from HW.out.symm];refine OV.out.mono ?_;rintro e w4 ⟨rfl,V4,l4,a4,t4⟩;have g4:=G0.out.touch t4 HNT.out;have PS:=Hz (zde HGL.out l4 (a4.imp id fun⟨h,h1,h2⟩=>⟨h,h1,Nat.le_trans C0.out.size h2⟩) ((Turns.of_new C0.out).trans t4) g4 cs);have H:=Hz (And.intro (zaz g4) (zbg g4 cs));clear l4 a4 t4 g4 OV;go_wp2_with (refine wpList_store_row rfl 35 (.tmp 4) (.tmp 7) rfl w.heap.size cs rfl rfl _ _ H.out.1 I32.out ZS.out ONE.out ?_)
 exact bodyPost_ret (results_cell_row rfl _ _ w.heap.size _ cs (0,0) _ rfl H.out.2 zcd rfl I32.out) rfl ⟨rfl,PS.out⟩
open Go.RowKit Go.Hm
theorem zhg{a b:List Nat}:za4 ze3 [a,b]=some (zbv ze3 [a,b]):=by unfold za4;exact if_pos ⟨by decide,by decide,by simp⟩
set_option maxRecDepth 100000 in
theorem z1g{w:World}{base g:Nat}{V:Value}{L:List (List Nat)}(hL:LogOf tL w base g V L)(hbs:base<=w.heap.size)(hLn:L.length<=10000000){A:Option Addr}{c:Nat}{a b:List Nat}(ha:Reads w w.heap.size 1 A a.length (zao .u8 a))(ha8:∀x∈a,x<256)(hac:a.length<=c)(hc:c<=9223372036854775807)(hal:a.length<=9000000)(hb:zlr b)(hG:∀w',Turns (g::zbm V) w w'->GlobIn w'):
 Calls Tryz.prog 18 #[.pointer (some ⟨g,0,none⟩),.slice A a.length c,dV b] w (zfk tL (dV (z16 a b)) base g V (L++zoo a b) w):=by
 obtain⟨cb,hcb⟩:∃cs,cs=(zao .u8 b).toArray:=⟨_,rfl⟩;have hC:∀w',Turns (g::zbm V) w w'->ConstIn w':=fun w' k=>(hG w' k).1
 show Calls Tryz.prog _ _ w (zfk tL (dV (zb2 ze3 [a,b])) base g V (L++[zbv ze3 [a,b]]) w);have hvb:dV b= .agg cb:=by rw[hcb];rfl
 obtain⟨W3,hW3⟩:∃W,W=(w.alloc (.cells cb 35)).alloc (.cells (za0 .u8 zat).toArray 35):=⟨_,rfl⟩;have z1:(w.alloc (.cells cb 35)).heap.size=w.heap.size+1:=by simp
 have zs:W3.heap.size=w.heap.size+2:=by rw[hW3];simp
 have b3:New w W3:=by rw[hW3];exact New.trans (zah _ _) (zah _ _)
 have gb:Blk W3 w.heap.size 35 cb:=by rw[hW3];exact(Blk.new w _ cb).alloc _
 have gr:Blk W3 (w.heap.size+1) 35 (za0 .u8 zat).toArray:=by rw[hW3];have:=Blk.new (w.alloc (.cells cb 35)) 35 (za0 .u8 zat).toArray;rwa[z1] at this
 have hgl:g<w.heap.size:=hL.lt;have lowT:∀x∈g::zbm V,x<w.heap.size:=fun x hx=>by
  rcases List.mem_cons.1 hx with rfl|hx
  ·exact hgl
  ·exact(hL.ge x hx).2
 obtain⟨W4,hW4⟩:∃W,W=(W3.alloc (.cells #[.slice A a.length c,.slice (some ⟨w.heap.size,0,none⟩) 32 32] 24)).drew:=⟨_,rfl⟩;have b34:New W3 W4:=by rw[hW4];exact New.trans (zah W3 _) (New.drew _)
 have rr:RowsAt W4 (some ⟨w.heap.size+2,0,none⟩) 2 2 [(A,c,a),(some ⟨w.heap.size,0,none⟩,32,b)]:=by
  refine⟨?_,fun x hx=>?_,Nat.le_refl _⟩
  ·rw[hW4,<-zs]
   exact Reads.litM3 W3 _ (0,0) _ 2 _ (by simp[recs,zfo,hb.1]) (by simp[recs,zfo])
  ·simp only[List.mem_cons,List.not_mem_nil,or_false] at hx
   rcases hx with rfl|rfl
   ·exact⟨by show Reads _ _ 1 _ a.length _;exact Reads.later ha (New.trans b3 b34),hac,hc⟩
   ·exact⟨by show Reads _ _ 1 _ b.length _;exact Reads.later (zf6 gb (by rw[hcb])) b34,by show b.length<=32;rw[hb.1];omega,by show(32:Nat)<=_;omega⟩
 have hbo:bytesOf [(A,c,a),((some ⟨w.heap.size,0,none⟩:Option Addr),32,b)]=[a,b]:=rfl;have hp8:∀p∈[a,b],∀x∈p,x<256:=by
  intro p hp;simp only[List.mem_cons,List.not_mem_nil,or_false] at hp;rcases hp with rfl|rfl
  ·exact ha8
  ·exact hb.2
 have hts:zhq [a,b]<=9900000:=by simp[zhq,hb.1];omega
 have b04:=New.trans b3 b34;have lh:=zkn (s:=ze3) (hL.new b04) (Nat.le_trans hbs b04.size) hLn rr (by omega) (by decide) (by decide) hts hp8 (fun w' k=>hC w' ((Turns.of_new b04).trans k));rw[hbo,zhg] at lh;obtain⟨cs,hcs⟩:∃cs,cs=(za0 .u8 (zee ze3 [a,b])).toArray:=⟨_,rfl⟩;have hdv:zj1 (zee ze3 [a,b])= .agg cs:=by rw[hcs];rfl
 have hdv2:dV (zb2 ze3 [a,b])= .agg cs:=by rw[<-zj2,hdv]
 have hl32:=zkl ze3 [a,b];have I32:(Tryz.prog.info? 35).map (·.size)=some cs.size:=by rw[hcs];exact z99 hl32
 have ZS:(za0 .u8 zat).toArray.size=cs.size:=by rw[hcs];simp[za0,zat,hl32]
 have ONE:cs.all (·.oneCell')=true:=by rw[hcs];exact zeo _ _
 rw[hdv] at lh;rw[hvb,hdv2];have LH:=Hz lh;have I32:=Hz I32;have ZS:=Hz ZS;have ONE:=Hz ONE;have HL:=Hz hL;have GR:=Hz (gr.below b34 gr.lt);have B04:=Hz b04;have HW3:=Hz hW3;have B03:=Hz b3;have HG:=Hz hG;clear hG;have HW4:=Hz hW4;have LOWT:=Hz lowT;have ZSZ:=Hz zs;clear hcs hdv hdv2 hl32 lh hts hp8 rr b34 ha ha8 gb gr z1 zs hW3 hW4 b3 b04 hvb hcb hL lowT hC;go_enter Tryz.func18,Tryz.ntmps18
 go_wp2
 have hw3:=HW3.out;refine zaw (TurnsB w.heap.size (g::zbm V)) [(true,0),(true,1),(true,2),(true,3),(true,4),(false,5),(false,6),(false,7)]
  (TurnsB.refl _ _) TurnsB.trans (by kernel_rfl) (by kernel_rfl) (by kernel_rfl) (by kernel_rfl) ?_
 iterate 2 (
  refine zar rfl rfl (v:=?_) (fun W hW=>?_) ?_;rotate_left
  ·skip
   go_simp<;> with_reducible rfl
  simp only[Act.put,List.setIfInBounds_toArray,List.set_cons_zero,List.set_cons_succ])
 have e30:(w.alloc (.cells cb 35)).alloc (.cells #[.int .u8 0,.int .u8 0,.int .u8 0,.int .u8 0,.int .u8 0,.int .u8 0,.int .u8 0,.int .u8 0,.int .u8 0,.int .u8 0,.int .u8 0,.int .u8 0,.int .u8 0,.int .u8 0,.int .u8 0,.int .u8 0,.int .u8 0,.int .u8 0,.int .u8 0,.int .u8 0,.int .u8 0,.int .u8 0,.int .u8 0,.int .u8 0,.int .u8 0,.int .u8 0,.int .u8 0,.int .u8 0,.int .u8 0,.int .u8 0,.int .u8 0,.int .u8 0] 35)=W3:=HW3.out.symm;refine zar rfl rfl (v:= .string (zad ze3)) (fun W hW=>?_) ?_
 ·rw[e30] at hW
  have kk:W.cell? ⟨0,3,none⟩=some (.string (zad ze3)):=(HG.out W (((TurnsB.of (Turns.of_new (New.trans B03.out (New.drew _))) (Nat.le_refl _)).trans hW).turns)).2.2 3 (by omega);go_simp
  all_goals(rw[kk];rfl)
 simp only[Act.put,List.setIfInBounds_toArray,List.set_cons_zero,List.set_cons_succ];clear e30;iterate 2 (
  refine zar rfl rfl (v:=?_) (fun W hW=>?_) ?_;rotate_left
  ·skip
   go_simp<;> with_reducible rfl
  simp only[Act.put,List.setIfInBounds_toArray,List.set_cons_zero,List.set_cons_succ])
 have e3:(w.alloc (.cells cb 35)).alloc (.cells (za0 .u8 zat).toArray 35)=W3:=hw3.symm;rw[show((w.alloc (.cells cb 35)).alloc (.cells #[.int .u8 0,.int .u8 0,.int .u8 0,.int .u8 0,.int .u8 0,.int .u8 0,.int .u8 0,.int .u8 0,.int .u8 0,.int .u8 0,.int .u8 0,.int .u8 0,.int .u8 0,.int .u8 0,.int .u8 0,.int .u8 0,.int .u8 0,.int .u8 0,.int .u8 0,.int .u8 0,.int .u8 0,.int .u8 0,.int .u8 0,.int .u8 0,.int .u8 0,.int .u8 0,.int .u8 0,.int .u8 0,.int .u8 0,.int .u8 0,.int .u8 0,.int .u8 0] 35)).drew=W3.drew from by rw[hw3];rfl];clear e3 hw3;have zs:=ZSZ.out;refine za7 rfl rfl (fun K hK=>?_);go_simp
 have hw4:=HW4.out;refine hK _ _ (.alloc _ (by show w.heap.size<=W3.heap.size;omega)) ?_;clear hK;rw[<-hw4];clear hw4;refine za7 rfl rfl (fun K hK=>?_);go_simp
 refine LH.out.mono ?_;rintro e w5 ⟨rfl,V',l5,a5,t5⟩;refine hK _ _ (.of t5 B04.out.size) ?_;clear hK;have nT:w.heap.size+1∉g::zbm V:=fun hx=>by have:=LOWT.out _ hx;omega
 have g5:=GR.out.touch t5 nT;refine za7 rfl rfl (fun K hK=>?_);refine wp_store_row 35 (.tmp 6) (.tmp 13) rfl (w.heap.size+1) cs rfl rfl _ _ (zaz g5) I32.out ZS.out ONE.out ?_;refine hK _ _ (.far (zbo (g:=w.heap.size+1) _ cs) (by omega) (Nat.le_trans B04.out.size t5.size)) ?_;clear hK;refine zdh ?_;have G6:=Hz (zbg g5 cs);have P6:Hid (∃V',LogOf tL (w5.setRow (w.heap.size+1) cs) base g V' (L++[zbv ze3 [a,b]])/\(V'.ownBlock=V.ownBlock\/ ∃h,V'.ownBlock=some h/\w.heap.size<=h)/\Turns (g::zbm V) w (w5.setRow (w.heap.size+1) cs)):=Hz (by
  have tt:Turns [w.heap.size+1] w5 (w5.setRow (w.heap.size+1) cs):=Turns.of_far (zbo (g:=w.heap.size+1) w5 cs) (by simp);refine⟨V',l5.turn tt (by simp;omega) ?_ ?_,a5.imp id (fun⟨h,h1,h2⟩=>⟨h,h1,Nat.le_trans B04.out.size h2⟩),?_⟩
  ·intro x hx
   simp at hx;subst hx;obtain⟨A',n',c',D',e',_,o',_⟩:=l5;rw[e'];exact o'.blk_ne g5 (by decide)
  ·intro x hx _ cs hB
   simp at hx;subst hx;exact Blk.ne_ g5 hB (by decide) rfl
  ·exact Turns.new_ ((((Turns.of_new B04.out).trans t5).more (T':=(w.heap.size+1)::g::zbm V) (by intro x hx;simp at hx⊢;simp[hx])).trans (tt.more (by intro x hx;simp at hx⊢;simp[hx]))) (by omega))
 clear l5 a5 t5 g5;go_wp2
 exact bodyPost_ret (results_cell_row rfl _ _ (w.heap.size+1) _ cs (0,0) _ rfl G6.out zcd rfl I32.out) rfl ⟨rfl,P6.out⟩
open Go.RowKit Go.Hm
def LogSk(w:World)(g:Nat)(W:World)(F:List (List Nat)):Prop:=∃V,LogOf tL W w.heap.size g V F/\New w W
theorem LogSk.new{w W W':World}{g:Nat}{F:List (List Nat)}(h:LogSk w g W F)(n:New W W'):LogSk w g W' F:=by obtain⟨V,l,b⟩:=h;exact⟨V,l.new n,New.trans b n⟩
theorem LogSk.news{w W:World}{g:Nat}{F:List (List Nat)}(h:LogSk w g W F):New w W:=h.elim fun _ h=>h.2
def DigsIn(w W:World)(A:Option Addr)(L:List (List Nat)):Prop:=
 Digs L/\(Reads w w.heap.size 32 A L.length (recs zh4 L)\/(Reads W W.heap.size 32 A L.length (recs zh4 L)/\(0<L.length-> ∀ad,A=some ad-> ∃cs,Blk W ad.block tD cs)))
theorem DigsIn.keep{w W W':World}{A:Option Addr}{L:List (List Nat)}(h:DigsIn w W A L)(k:KeepC W W'):DigsIn w W' A L:=by
 refine⟨h.1,h.2.imp id fun⟨r,b⟩=>⟨⟨r.1,fun hn=>?_⟩,fun hn ad ha=>?_⟩⟩
 ·obtain⟨ad,e,hb,hc⟩:=r.2 hn
  obtain⟨cs,B⟩:=b hn ad e;have B':=k.2 _ _ _ (by decide) (by decide) B;refine⟨ad,e,B'.lt,fun j u hu=>?_⟩;have e2:W'.heap[(ad.add j).block]? =W.heap[(ad.add j).block]? :=by rw[zaj];exact Eq.trans B' (Eq.symm B)
  rw[World.cell?_of_block e2];exact hc j u hu
 ·obtain⟨cs,B⟩:=b hn ad ha
  exact⟨cs,k.2 _ _ _ (by decide) (by decide) B⟩
theorem DigsIn.arg{w W:World}{A:Option Addr}{L:List (List Nat)}(hd:Digs L)(h:Reads w w.heap.size 32 A L.length (recs zh4 L)):DigsIn w W A L:=⟨hd,.inl h⟩
theorem DigsIn.nil(w W:World):DigsIn w W none []:=⟨(fun _ h=>nomatch h),.inl Reads.none_⟩
theorem DigsIn.row{w W:World}{B n c:Nat}{A:Option Addr}{L:List (List Nat)}(hd:Digs L)(h:W.ownsRow B tD 32 (.slice A n c) n (recs zh4 L))(hn:n=L.length):DigsIn w W A L:=by
 subst hn;refine⟨hd,.inr ⟨Reads.of_own h,fun h0 ad ha=>?_⟩⟩;subst ha;rcases h.2 with⟨e,h2⟩|⟨g,cap,cur,hv,_,hg,_⟩
 ·omega
 ·injection hv with e1 e2 e3
  injection e1 with e1;subst e1;exact⟨cur,hg⟩
theorem DigsIn.lit{w W:World}{b:Nat}{L:List (List Nat)}{cs:Array Value}(hd:Digs L)(h:Blk W b tD cs)(hc:cs=(recs zh4 L).toArray):DigsIn w W (some ⟨b,0,none⟩) L:=by
 subst hc;refine⟨hd,.inr ⟨⟨zau (sz:=32) ze8 L,fun _=>⟨_,rfl,h.lt,?_⟩⟩,fun _ ad ha=>?_⟩⟩
 ·have:=World.news_of_block h
  simpa using this
 ·injection ha with ha
  subst ha;exact⟨_,h⟩
theorem z1l{w:World}{B c lo hi:Nat}{A:Option Addr}{L:List (List Nat)}(h:Reads w B 32 A L.length (recs zh4 L))(h1:lo<=hi)(h2:hi<=L.length)(hc:L.length<=c):Reads w B 32 (if c=lo then A else A.map (·.add (lo*32))) (sl L lo hi).length (recs zh4 (sl L lo hi)):=by have a:=h.cut (k:=lo) (cap:=c) (by omega) hc;rw[zoa (sz:=32) ze8 L lo (by omega)] at a;have b:=a.take (k:=hi-lo) (by omega);rw[zie (sz:=32) ze8 _ _ (by rw[List.length_drop];omega)] at b;rw[qe3 h2];exact b
theorem DigsIn.sl{w W:World}{A:Option Addr}{L:List (List Nat)}(h:DigsIn w W A L){lo hi c:Nat}(h1:lo<=hi)(h2:hi<=L.length)(hc:L.length<=c):DigsIn w W (if c=lo then A else A.map (·.add (lo*32))) (sl L lo hi):=by
 refine⟨h.1.sl lo hi,h.2.imp (fun r=>z1l r h1 h2 hc) fun⟨r,b⟩=>⟨z1l r h1 h2 hc,fun hn ad ha=>?_⟩⟩;rw[qe3 h2] at hn;split at ha
 ·exact b (by omega) ad ha
 ·cases A with
  |none=>cases ha
  |some a=>
   simp only[Option.map_some,Option.some.injEq] at ha;rw[<-ha,zaj];exact b (by omega) a rfl
theorem DigsIn.take{w W:World}{A:Option Addr}{L:List (List Nat)}(h:DigsIn w W A L){k:Nat}(hk:k<=L.length):DigsIn w W A (L.take k):=by
 have hl:(L.take k).length=k:=by rw[List.length_take];omega
 have tk:∀{W:World} {B:Nat},Reads W B 32 A L.length (recs zh4 L)->Reads W B 32 A (L.take k).length (recs zh4 (L.take k)):=fun r=>by have:=r.take hk;rw[zie (sz:=32) ze8 L k hk] at this;rwa[hl]
 exact⟨h.1.take k,h.2.imp (fun r=>tk r) fun⟨r,b⟩=>⟨tk r,fun hn=>b (by omega)⟩⟩
section
variable{w W:World}{g:Nat}{F:List (List Nat)}
def PrPost(w:World)(g:Nat)(F P:List (List Nat))(W:World)(e:Ending)(W':World):Prop:=∃A c,e= .returned (.slice A P.length c)/\P.length<=c/\c<=9223372036854775807/\DigsIn w W' A P/\LogSk w g W' F/\KeepC W W'
end
theorem PrPost.u{w:World}{g:Nat}{F P:List (List Nat)}{W:World}{e:Ending}{W':World}(h:PrPost w g F P W e W'):∃A c,e= .returned (.slice A P.length c)/\P.length<=c/\c<=9223372036854775807/\DigsIn w W' A P/\LogSk w g W' F/\KeepC W W':=h
open Go.RowKit Go.Hm Go.WideShapes Go.ChangeShapes
theorem gKinds:Tryz.prog.globalNamed "hypostyle/roots.kinds" =some 0:=by kernel_rfl
theorem tKinds:(Tryz.prog.globals[0]?).map (·.type)=some 88:=by kernel_rfl
theorem z4m(s:List Nat)(a:ByteArray)(h:a.data.toList=s.map fun n=>UInt8.ofNat n):a=zad s:=by obtain⟨⟨l⟩⟩:=a;simp only at h;subst h;rfl
theorem qd8:∀i,i<4->([DataW.lit (.string [112,97,103,101]),.lit (.string [99,104,117,110,107]),.lit (.string [103,114,111,117,112]),.lit (.string [102,105,108,101])]:List (DataW Unit))[i]? =some (.lit (.string ((kindS.getD i []).map fun n=>UInt8.ofNat n))):=by
 intro i hi
 match i,hi with
 |0,_=>rfl
 |1,_=>rfl
 |2,_=>rfl
 |3,_=>rfl
theorem zww{W:World}(h:laidMetH Tryz.prog zxc W):GlobIn W:=by
 refine⟨zsi h,?_⟩;rw[MakeChecks.laidMetH_plain _ _ _ (by kernel_rfl)] at h;obtain⟨ps,⟨_,_,_,_,_,_,_,_,_,_,⟨g0,t0,cs0,f0,p0,q0,hg0,ht0,hv0,hd0,_,_⟩,_⟩,_,_⟩:=h;obtain rfl:=Option.some.inj (gKinds.symm.trans hg0);obtain rfl:=Option.some.inj (tKinds.symm.trans ht0);obtain⟨xs,m1,rfl,hx1,hlen,hn3,hel⟩:=DataW.trod_array (show Tryz.prog.underlying 88=some (.array 4 9) by kernel_rfl) hd0;have c4:Tryz.prog.cellsOf 88=4:=by kernel_rfl
 have c1:Tryz.prog.cellsOf 9=1:=by kernel_rfl
 rw[c4] at hlen;rw[show(Go.Proofs.YtbahbnbpmfgimaaGreatDoor.Rows.laid_hypostyle_roots_kinds:DataW Unit)= .agg [.lit (.string [112,97,103,101]),.lit (.string [99,104,117,110,107]),.lit (.string [103,114,111,117,112]),.lit (.string [102,105,108,101])] from rfl] at hx1;simp only[Prod.mk.injEq,DataW.agg.injEq] at hx1;have hcell:∀i,i<4->W.cell? ⟨0,i,none⟩=some (.string (zad (kindS.getD i []))):=by
  intro i hi;have h1:=hel i hi;rw[c1,Nat.mul_one] at h1;have hi2:i<cs0.toList.length:=by omega
  have hone:(cs0.toList.drop i).take 1=[cs0.toList[i]]:=by rw[List.drop_eq_getElem_cons hi2];rfl
  rw[hone,List.getElem?_eq_getElem (by omega)] at h1;obtain⟨x,e1,e2,_⟩:=DataW.trod_string (show Tryz.prog.underlying 9=some .string by kernel_rfl) h1;have hk:=qd8 i hi;rw[hx1.1,List.getElem?_map,List.getElem?_eq_getElem (show i<xs.length by omega)] at hk;simp only[Option.map_some,Option.some.injEq] at hk;rw[e2] at hk;simp only[DataW.lit.injEq,Lit.string.injEq] at hk;have hc:=World.var?_cell hg0 hv0 i;rw[hc];simp only[List.cons.injEq,and_true] at e1;rw[Array.getElem?_eq_getElem (by simpa using hi2)];have e3:cs0[i]'(by simpa using hi2)=cs0.toList[i]:=by simp
  rw[e3,e1,z4m _ _ hk]
 refine⟨?_,hcell⟩;have h0:=hcell 0 (by omega);unfold World.cell? at h0;rcases Nat.lt_or_ge 0 W.heap.size with hz|hz
 ·exact hz
 ·rw[Array.getElem?_eq_none (by omega)] at h0
  cases h0
end Go.Proofs.Y
