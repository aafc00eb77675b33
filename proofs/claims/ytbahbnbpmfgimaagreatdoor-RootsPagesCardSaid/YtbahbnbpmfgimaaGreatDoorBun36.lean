/- Merged. -/
import Derived.Test.YtbahbnbpmfgimaaGreatDoorBun33
import Derived.Test.YtbahbnbpmfgimaaGreatDoorBun35
set_option maxHeartbeats 2000000
namespace Go.Proofs.Y
open Go Go.RowKit Go.Hm
theorem zn1:zeu fz=[0,0,0]:=by
 unfold zeu fz;have e:putC [] []=[0]:=by rw[putC,if_pos (by decide)];simp[zkk,zf2]
 rw[e];simp[zf2]
theorem z98{t:Int}{s:zdc}(hd:statData s):∀x∈putS [] t s,x<256:=by
 intro x hx;unfold putS at hx;split at hx
 ·split at hx
  ·simp only[qnk,qny,qnz] at hx
   rcases hx with((hx|hx)|hx)|hx
   ·exact zec _ _ (qmt _) x hx
   ·omega
   ·exact zec _ _ (qmt _) x hx
   ·exact z8m (fun c hc=>by simp at hc;rcases hc with rfl|rfl;exact hd.1.1.2;exact hd.2.1.2) x hx
  ·simp only[qnk,qny,qnz] at hx
   rcases hx with hx|hx
   ·exact zec _ _ (qmt _) x hx
   ·omega
 ·simp at hx
theorem z4v{F:FootS}(h:zbu F)(hd:zfb F):∀x∈zeu F,x<256:=by
 obtain⟨a1,a2,a3,a4,a5⟩:=h;obtain⟨d1,d2⟩:=hd;intro x hx;unfold zeu at hx;simp only[qny] at hx;rcases hx with((hx|hx)|hx)|hx
 ·have hck:=(zeh F.cols).2 a1
  rw[putC,if_pos hck,qnk] at hx;exact z88 F.cols (fun c hc=>⟨d1 c hc,(a1.2.1 c hc).2.2.1,(a1.2.1 c hc).2.2.2⟩) x hx
 ·exact zec _ _ (qmt _) x hx
 ·exact zec _ _ (qmt _) x hx
 ·obtain⟨g,hg,hx⟩:=qpe.1 hx
  unfold zc4 at hx;rcases qny.1 hx with hx|hx
  ·exact zec _ _ (qmt _) x hx
  ·have key:∀(cs:List zbb) (ls:List (List za6)),(∀l∈ls,∀p∈l,statData p.2.2)->x∈zcd cs ls->x<256:=by
    intro cs;induction cs with
    |nil=>intro ls _ hx;simp[zcd] at hx
    |cons c cs ih=>
     intro ls hd hx;cases ls with
     |nil=>simp[zcd] at hx
     |cons l ls=>
      simp only[zcd,qny] at hx;rcases hx with hx|hx
      ·unfold zgt at hx
       rcases qny.1 hx with hx|hx
       ·exact zec _ _ (qmt _) x hx
       ·obtain⟨p,hp,hx⟩:=qpe.1 hx
        simp only[zfu,qny] at hx;rcases hx with(hx|hx)|hx
        ·exact zec _ _ (qmt _) x hx
        ·exact zec _ _ (qmt _) x hx
        ·exact z98 (hd l (by simp) p hp) x hx
      ·exact ih ls (fun l hl=>hd l (by simp[hl])) hx
   exact key _ _ (d2 g hg) hx
open Go.RowKit Go.Hm
set_option maxRecDepth 100000 in
theorem qau{w:World}{base g:Nat}{V:Value}{F:List (List Nat)}(hL:LogOf tL w base g V F)(hbs:base<=w.heap.size){A:Option Addr}{c:Nat}{L:List (List Nat)}(hl:LeafIn w A L (g::zbi V))(hF:F.length+2*L.length<=8000000)(hG:∀w',Turns (g::zbi V) w w'->GlobIn w'):
 Calls Tryz.prog 14 #[.pointer (some ⟨g,0,none⟩),.slice A L.length c] w (zev tL (dV (ovD zew L)) base g V (F++ovF zew L) w):=by
 have c0:=zac w (.cells (za7 .u8 zat).toArray 35);have G0:=Blk.new w 35 (za7 .u8 zat).toArray;obtain⟨W0,hW0⟩:∃W,W=w.alloc (.cells (za7 .u8 zat).toArray 35):=⟨_,rfl⟩;rw[<-hW0] at c0 G0;have OV:=zxe (w:=W0) (c:=c) (i:=1) (hL.new c0) (qml hbs c0.size) (hl.turn (Turns.of_new c0) (fun _ _ h=>h)) (by omega) hF (fun w' k=>hG w' ((Turns.of_new c0).trans k));rw[show kindS.getD 1 []=zew from rfl] at OV;have L1:zh4 (ovD zew L):=zhs _ _;generalize ovD zew L=od at*;generalize ovF zew L=of_ at*;obtain⟨cs,hdv,I32,ZS,ONE,hcs⟩:=zg7 L1;rw[hdv] at OV⊢;have HGL:=Hz (show g<w.heap.size from hL.lt);have HNT:=Hz ((hL.new c0).notT G0 (by decide) (by decide));replace G0:=Hz G0;replace OV:=Hz OV;have C0:=Hz c0;have HW:=Hz hW0;replace I32:=Hz I32;replace ZS:=Hz ZS;replace ONE:=Hz ONE;clear hdv L1 hcs hL hbs hl hG c0 hW0;go_enter Tryz.func14,Tryz.ntmps14
 go_wp2_with fail
 rw[show w.alloc (.cells #[.int .u8 0,.int .u8 0,.int .u8 0,.int .u8 0,.int .u8 0,.int .u8 0,.int .u8 0,.int .u8 0,.int .u8 0,.int .u8 0,.int .u8 0,.int .u8 0,.int .u8 0,.int .u8 0,.int .u8 0,.int .u8 0,.int .u8 0,.int .u8 0,.int .u8 0,.int .u8 0,.int .u8 0,.int .u8 0,.int .u8 0,.int .u8 0,.int .u8 0,.int .u8 0,.int .u8 0,.int .u8 0,.int .u8 0,.int .u8 0,.int .u8 0,.int .u8 0] 35)=W0 from HW.out.symm];refine OV.out.mono ?_;rintro e w4 ⟨rfl,V4,l4,a4,t4⟩;have g4:=G0.out.touch t4 HNT.out;have PS:=Hz (zde HGL.out l4 (a4.imp id fun⟨h,h1,h2⟩=>⟨h,h1,qml C0.out.size h2⟩) ((Turns.of_new C0.out).trans t4) g4 cs);have H:=Hz (qo8 (zay g4) (za5 g4 cs));clear l4 a4 t4 g4 OV;go_wp2_with (refine wpList_store_row rfl 35 (.tmp 4) (.tmp 7) rfl w.heap.size cs rfl rfl _ _ H.out.1 I32.out ZS.out ONE.out ?_)
 exact bodyPost_ret (results_cell_row rfl _ _ w.heap.size _ cs (0,0) _ rfl H.out.2 zcn rfl I32.out) rfl ⟨rfl,PS.out⟩
set_option maxRecDepth 100000 in
theorem z5d{w:World}{base g:Nat}{V:Value}{F:List (List Nat)}(hL:LogOf tL w base g V F)(hbs:base<=w.heap.size){A:Option Addr}{c:Nat}{L:List (List Nat)}(hl:LeafIn w A L (g::zbi V))(hF:F.length+2*L.length<=8000000)(hG:∀w',Turns (g::zbi V) w w'->GlobIn w'):
 Calls Tryz.prog 16 #[.pointer (some ⟨g,0,none⟩),.slice A L.length c] w (zev tL (dV (ovD zep L)) base g V (F++ovF zep L) w):=by
 have c0:=zac w (.cells (za7 .u8 zat).toArray 35);have G0:=Blk.new w 35 (za7 .u8 zat).toArray;obtain⟨W0,hW0⟩:∃W,W=w.alloc (.cells (za7 .u8 zat).toArray 35):=⟨_,rfl⟩;rw[<-hW0] at c0 G0;have OV:=zxe (w:=W0) (c:=c) (i:=2) (hL.new c0) (qml hbs c0.size) (hl.turn (Turns.of_new c0) (fun _ _ h=>h)) (by omega) hF (fun w' k=>hG w' ((Turns.of_new c0).trans k));rw[show kindS.getD 2 []=zep from rfl] at OV;have L1:zh4 (ovD zep L):=zhs _ _;generalize ovD zep L=od at*;generalize ovF zep L=of_ at*;obtain⟨cs,hdv,I32,ZS,ONE,hcs⟩:=zg7 L1;rw[hdv] at OV⊢;have HGL:=Hz (show g<w.heap.size from hL.lt);have HNT:=Hz ((hL.new c0).notT G0 (by decide) (by decide));replace G0:=Hz G0;replace OV:=Hz OV;have C0:=Hz c0;have HW:=Hz hW0;replace I32:=Hz I32;replace ZS:=Hz ZS;replace ONE:=Hz ONE;clear hdv L1 hcs hL hbs hl hG c0 hW0;go_enter Tryz.func16,Tryz.ntmps16
 go_wp2_with fail
 rw[show w.alloc (.cells #[.int .u8 0,.int .u8 0,.int .u8 0,.int .u8 0,.int .u8 0,.int .u8 0,.int .u8 0,.int .u8 0,.int .u8 0,.int .u8 0,.int .u8 0,.int .u8 0,.int .u8 0,.int .u8 0,.int .u8 0,.int .u8 0,.int .u8 0,.int .u8 0,.int .u8 0,.int .u8 0,.int .u8 0,.int .u8 0,.int .u8 0,.int .u8 0,.int .u8 0,.int .u8 0,.int .u8 0,.int .u8 0,.int .u8 0,.int .u8 0,.int .u8 0,.int .u8 0] 35)=W0 from HW.out.symm];refine OV.out.mono ?_;rintro e w4 ⟨rfl,V4,l4,a4,t4⟩;have g4:=G0.out.touch t4 HNT.out;have PS:=Hz (zde HGL.out l4 (a4.imp id fun⟨h,h1,h2⟩=>⟨h,h1,qml C0.out.size h2⟩) ((Turns.of_new C0.out).trans t4) g4 cs);have H:=Hz (qo8 (zay g4) (za5 g4 cs));clear l4 a4 t4 g4 OV;go_wp2_with (refine wpList_store_row rfl 35 (.tmp 4) (.tmp 7) rfl w.heap.size cs rfl rfl _ _ H.out.1 I32.out ZS.out ONE.out ?_)
 exact bodyPost_ret (results_cell_row rfl _ _ w.heap.size _ cs (0,0) _ rfl H.out.2 zcn rfl I32.out) rfl ⟨rfl,PS.out⟩
open Go.RowKit Go.Hm
theorem zhl{a b:List Nat}:zbe ze3 [a,b]=some (zcu ze3 [a,b]):=by unfold zbe;exact if_pos ⟨by decide,by decide,by simp⟩
set_option maxRecDepth 100000 in
theorem z2c{w:World}{base g:Nat}{V:Value}{L:List (List Nat)}(hL:LogOf tL w base g V L)(hbs:base<=w.heap.size)(hLn:L.length<=10000000){A:Option Addr}{c:Nat}{a b:List Nat}(ha:Reads w w.heap.size 1 A a.length (zan .u8 a))(ha8:∀x∈a,x<256)(hac:a.length<=c)(hc:c<=9223372036854775807)(hal:a.length<=9000000)(hb:zh4 b)(hG:∀w',Turns (g::zbi V) w w'->GlobIn w'):
 Calls Tryz.prog 18 #[.pointer (some ⟨g,0,none⟩),.slice A a.length c,dV b] w (zev tL (dV (z6u a b)) base g V (L++zqr a b) w):=by
 obtain⟨cb,hcb⟩:∃cs,cs=(zan .u8 b).toArray:=⟨_,rfl⟩;have hC:∀w',Turns (g::zbi V) w w'->ConstIn w':=fun w' k=>(hG w' k).1
 show Calls Tryz.prog _ _ w (zev tL (dV (zb6 ze3 [a,b])) base g V (L++[zcu ze3 [a,b]]) w);have hvb:dV b= .agg cb:=by rw[hcb];rfl
 obtain⟨W3,hW3⟩:∃W,W=(w.alloc (.cells cb 35)).alloc (.cells (za7 .u8 zat).toArray 35):=⟨_,rfl⟩;have z1:(w.alloc (.cells cb 35)).heap.size=w.heap.size+1:=by simp
 have zs:W3.heap.size=w.heap.size+2:=by rw[hW3];simp
 have b3:New w W3:=by rw[hW3];exact New.trans (zac _ _) (zac _ _)
 have gb:Blk W3 w.heap.size 35 cb:=by rw[hW3];exact(Blk.new w _ cb).alloc _
 have gr:Blk W3 (w.heap.size+1) 35 (za7 .u8 zat).toArray:=by rw[hW3];have:=Blk.new (w.alloc (.cells cb 35)) 35 (za7 .u8 zat).toArray;rwa[z1] at this
 have hgl:g<w.heap.size:=hL.lt;have lowT:∀x∈g::zbi V,x<w.heap.size:=fun x hx=>by
  rcases qof.1 hx with rfl|hx
  ·exact hgl
  ·exact(hL.ge x hx).2
 obtain⟨W4,hW4⟩:∃W,W=(W3.alloc (.cells #[.slice A a.length c,.slice (some ⟨w.heap.size,0,none⟩) 32 32] 24)).drew:=⟨_,rfl⟩;have b34:New W3 W4:=by rw[hW4];exact New.trans (zac W3 _) (New.drew _)
 have rr:RowsAt W4 (some ⟨w.heap.size+2,0,none⟩) 2 2 [(A,c,a),(some ⟨w.heap.size,0,none⟩,32,b)]:=by
  refine⟨?_,fun x hx=>?_,qmt _⟩
  ·rw[hW4,<-zs]
   exact Reads.litM3 W3 _ (0,0) _ 2 _ (by simp[recs,ze1,hb.1]) (by simp[recs,ze1])
  ·simp only[qof,qqg,or_false] at hx
   rcases hx with rfl|rfl
   ·exact⟨by show Reads _ _ 1 _ a.length _;exact Reads.later ha (New.trans b3 b34),hac,hc⟩
   ·exact⟨by show Reads _ _ 1 _ b.length _;exact Reads.later (zf8 gb (by rw[hcb])) b34,by show b.length<=32;rw[hb.1];omega,by show(32:Nat)<=_;omega⟩
 have hbo:bytesOf [(A,c,a),((some ⟨w.heap.size,0,none⟩:Option Addr),32,b)]=[a,b]:=rfl;have hp8:∀p∈[a,b],∀x∈p,x<256:=by
  intro p hp;simp only[qof,qqg,or_false] at hp;rcases hp with rfl|rfl
  ·exact ha8
  ·exact hb.2
 have hts:zfl [a,b]<=9900000:=by simp[zfl,hb.1];omega
 have b04:=New.trans b3 b34;have lh:=zku (s:=ze3) (hL.new b04) (qml hbs b04.size) hLn rr (by omega) (by decide) (by decide) hts hp8 (fun w' k=>hC w' ((Turns.of_new b04).trans k));rw[hbo,zhl] at lh;obtain⟨cs,hcs⟩:∃cs,cs=(za7 .u8 (zfk ze3 [a,b])).toArray:=⟨_,rfl⟩;have hdv:zue (zfk ze3 [a,b])= .agg cs:=by rw[hcs];rfl
 have hdv2:dV (zb6 ze3 [a,b])= .agg cs:=by rw[<-zj6,hdv]
 have hl32:=zks ze3 [a,b];have I32:(Tryz.prog.info? 35).map (·.size)=some cs.size:=by rw[hcs];exact qbx hl32
 have ZS:(za7 .u8 zat).toArray.size=cs.size:=by rw[hcs];simp[za7,zat,hl32]
 have ONE:cs.all (·.oneCell')=true:=by rw[hcs];exact ze8 _ _
 rw[hdv] at lh;rw[hvb,hdv2];have LH:=Hz lh;have I32:=Hz I32;have ZS:=Hz ZS;have ONE:=Hz ONE;have HL:=Hz hL;have GR:=Hz (gr.below b34 gr.lt);have B04:=Hz b04;have HW3:=Hz hW3;have B03:=Hz b3;have HG:=Hz hG;clear hG;have HW4:=Hz hW4;have LOWT:=Hz lowT;have ZSZ:=Hz zs;clear hcs hdv hdv2 hl32 lh hts hp8 rr b34 ha ha8 gb gr z1 zs hW3 hW4 b3 b04 hvb hcb hL lowT hC;go_enter Tryz.func18,Tryz.ntmps18
 go_wp2
 have hw3:=HW3.out;refine zax (TurnsB w.heap.size (g::zbi V)) [(true,0),(true,1),(true,2),(true,3),(true,4),(false,5),(false,6),(false,7)]
  (TurnsB.refl _ _) TurnsB.trans (by kernel_rfl) (by kernel_rfl) (by kernel_rfl) (by kernel_rfl) ?_
 iterate 2 (
  refine zar rfl rfl (v:=?_) (fun W hW=>?_) ?_;rotate_left
  ·skip
   go_simp<;> with_reducible rfl
  simp only[Act.put,qo6,qou,qo7])
 have e30:(w.alloc (.cells cb 35)).alloc (.cells #[.int .u8 0,.int .u8 0,.int .u8 0,.int .u8 0,.int .u8 0,.int .u8 0,.int .u8 0,.int .u8 0,.int .u8 0,.int .u8 0,.int .u8 0,.int .u8 0,.int .u8 0,.int .u8 0,.int .u8 0,.int .u8 0,.int .u8 0,.int .u8 0,.int .u8 0,.int .u8 0,.int .u8 0,.int .u8 0,.int .u8 0,.int .u8 0,.int .u8 0,.int .u8 0,.int .u8 0,.int .u8 0,.int .u8 0,.int .u8 0,.int .u8 0,.int .u8 0] 35)=W3:=HW3.out.symm;refine zar rfl rfl (v:= .string (zae ze3)) (fun W hW=>?_) ?_
 ·rw[e30] at hW
  have kk:W.cell? ⟨0,3,none⟩=some (.string (zae ze3)):=(HG.out W (((TurnsB.of (Turns.of_new (New.trans B03.out (New.drew _))) (qmt _)).trans hW).turns)).2.2 3 (by omega);go_simp
  all_goals(rw[kk];rfl)
 simp only[Act.put,qo6,qou,qo7];clear e30;iterate 2 (
  refine zar rfl rfl (v:=?_) (fun W hW=>?_) ?_;rotate_left
  ·skip
   go_simp<;> with_reducible rfl
  simp only[Act.put,qo6,qou,qo7])
 have e3:(w.alloc (.cells cb 35)).alloc (.cells (za7 .u8 zat).toArray 35)=W3:=hw3.symm;rw[show((w.alloc (.cells cb 35)).alloc (.cells #[.int .u8 0,.int .u8 0,.int .u8 0,.int .u8 0,.int .u8 0,.int .u8 0,.int .u8 0,.int .u8 0,.int .u8 0,.int .u8 0,.int .u8 0,.int .u8 0,.int .u8 0,.int .u8 0,.int .u8 0,.int .u8 0,.int .u8 0,.int .u8 0,.int .u8 0,.int .u8 0,.int .u8 0,.int .u8 0,.int .u8 0,.int .u8 0,.int .u8 0,.int .u8 0,.int .u8 0,.int .u8 0,.int .u8 0,.int .u8 0,.int .u8 0,.int .u8 0] 35)).drew=W3.drew from by rw[hw3];rfl];clear e3 hw3;have zs:=ZSZ.out;refine zba rfl rfl (fun K hK=>?_);go_simp
 have hw4:=HW4.out;refine hK _ _ (.alloc _ (by show w.heap.size<=W3.heap.size;omega)) ?_;clear hK;rw[<-hw4];clear hw4;refine zba rfl rfl (fun K hK=>?_);go_simp
 refine LH.out.mono ?_;rintro e w5 ⟨rfl,V',l5,a5,t5⟩;refine hK _ _ (.of t5 B04.out.size) ?_;clear hK;have nT:w.heap.size+1∉g::zbi V:=fun hx=>by have:=LOWT.out _ hx;omega
 have g5:=GR.out.touch t5 nT;refine zba rfl rfl (fun K hK=>?_);refine wp_store_row 35 (.tmp 6) (.tmp 13) rfl (w.heap.size+1) cs rfl rfl _ _ (zay g5) I32.out ZS.out ONE.out ?_;refine hK _ _ (.far (zbl (g:=w.heap.size+1) _ cs) (by omega) (qml B04.out.size t5.size)) ?_;clear hK;refine zdh ?_;have G6:=Hz (za5 g5 cs);have P6:Hid (∃V',LogOf tL (w5.setRow (w.heap.size+1) cs) base g V' (L++[zcu ze3 [a,b]])/\(V'.ownBlock=V.ownBlock\/ ∃h,V'.ownBlock=some h/\w.heap.size<=h)/\Turns (g::zbi V) w (w5.setRow (w.heap.size+1) cs)):=Hz (by
  have tt:Turns [w.heap.size+1] w5 (w5.setRow (w.heap.size+1) cs):=Turns.of_far (zbl (g:=w.heap.size+1) w5 cs) (by simp);refine⟨V',l5.turn tt (by simp;omega) ?_ ?_,a5.imp id (fun⟨h,h1,h2⟩=>⟨h,h1,qml B04.out.size h2⟩),?_⟩
  ·intro x hx
   simp at hx;subst hx;obtain⟨A',n',c',D',e',_,o',_⟩:=l5;rw[e'];exact o'.blk_ne g5 (by decide)
  ·intro x hx _ cs hB
   simp at hx;subst hx;exact Blk.ne_ g5 hB (by decide) rfl
  ·exact Turns.new_ ((((Turns.of_new B04.out).trans t5).more (T':=(w.heap.size+1)::g::zbi V) (by intro x hx;simp at hx⊢;simp[hx])).trans (tt.more (by intro x hx;simp at hx⊢;simp[hx]))) (by omega))
 clear l5 a5 t5 g5;go_wp2
 exact bodyPost_ret (results_cell_row rfl _ _ (w.heap.size+1) _ cs (0,0) _ rfl G6.out zcn rfl I32.out) rfl ⟨rfl,P6.out⟩
end Go.Proofs.Y
namespace Go.Hm
open Go Go.RowKit
abbrev qi0:List Nat:=[112,97,103,101]
def dA:List Nat:=zb6 qi0 (leafP 0 2 [120])
end Go.Hm
namespace Go.Proofs.Y
open Go.RowKit Go.Hm
set_option maxRecDepth 100000 in
theorem zxi(W:World)(hC:ConstIn W):Calls Tryz.prog 31 #[.string ⟨#[110,111,110,101]⟩,.slice none 0 0] W (zal (dV (zb6 zbw [])) W):=by have h:=zz8 (s:=zbw) (z6q W) (by omega) (by decide) (by decide) (by simp[bytesOf,zfl]) (by simp[bytesOf]) hC;rw[show bytesOf []=[] from rfl,zj6] at h;exact h
theorem LogOf.made(w:World)(base:Nat):LogOf tL (w.alloc (.cells #[.slice none 0 0] 86)) base w.heap.size (.slice none 0 0) []:=⟨none,0,0,[],rfl,Blk.new _ _ _,Own.nil_,(fun _ hd=>nomatch hd),rfl⟩
open Go.RowKit Go.Hm
def LogSk(w:World)(g:Nat)(W:World)(F:List (List Nat)):Prop:=∃V,LogOf tL W w.heap.size g V F/\New w W
def qgd(v:Value)(w:World)(g:Nat)(F:List (List Nat))(W:World)(e:Ending)(W':World):Prop:=e= .returned v/\LogSk w g W' F/\KeepC W W'
theorem LogSk.new{w W W':World}{g:Nat}{F:List (List Nat)}(h:LogSk w g W F)(n:New W W'):LogSk w g W' F:=by obtain⟨V,l,b⟩:=h;exact⟨V,l.new n,New.trans b n⟩
theorem LogSk.news{w W:World}{g:Nat}{F:List (List Nat)}(h:LogSk w g W F):New w W:=h.elim fun _ h=>h.2
def DigsIn(w W:World)(A:Option Addr)(L:List (List Nat)):Prop:=
 Digs L/\(Reads w w.heap.size 32 A L.length (recs zet L)\/(Reads W W.heap.size 32 A L.length (recs zet L)/\(0<L.length-> ∀ad,A=some ad-> ∃cs,Blk W ad.block tD cs)))
theorem DigsIn.keep{w W W':World}{A:Option Addr}{L:List (List Nat)}(h:DigsIn w W A L)(k:KeepC W W'):DigsIn w W' A L:=by
 refine⟨h.1,h.2.imp id fun⟨r,b⟩=>⟨⟨r.1,fun hn=>?_⟩,fun hn ad ha=>?_⟩⟩
 ·obtain⟨ad,e,hb,hc⟩:=r.2 hn
  obtain⟨cs,B⟩:=b hn ad e;have B':=k.2 _ _ _ (by decide) (by decide) B;refine⟨ad,e,B'.lt,fun j u hu=>?_⟩;have e2:W'.heap[(ad.add j).block]? =W.heap[(ad.add j).block]? :=by rw[zai];exact Eq.trans B' (Eq.symm B)
  rw[World.cell?_of_block e2];exact hc j u hu
 ·obtain⟨cs,B⟩:=b hn ad ha
  exact⟨cs,k.2 _ _ _ (by decide) (by decide) B⟩
theorem DigsIn.arg{w W:World}{A:Option Addr}{L:List (List Nat)}(hd:Digs L)(h:Reads w w.heap.size 32 A L.length (recs zet L)):DigsIn w W A L:=⟨hd,.inl h⟩
theorem DigsIn.nil(w W:World):DigsIn w W none []:=⟨(fun _ h=>nomatch h),.inl Reads.none_⟩
theorem DigsIn.row{w W:World}{B n c:Nat}{A:Option Addr}{L:List (List Nat)}(hd:Digs L)(h:W.ownsRow B tD 32 (.slice A n c) n (recs zet L))(hn:n=L.length):DigsIn w W A L:=by
 subst hn;refine⟨hd,.inr ⟨Reads.of_own h,fun h0 ad ha=>?_⟩⟩;subst ha;rcases h.2 with⟨e,h2⟩|⟨g,cap,cur,hv,_,hg,_⟩
 ·omega
 ·injection hv with e1 e2 e3
  injection e1 with e1;subst e1;exact⟨cur,hg⟩
theorem DigsIn.lit{w W:World}{b:Nat}{L:List (List Nat)}{cs:Array Value}(hd:Digs L)(h:Blk W b tD cs)(hc:cs=(recs zet L).toArray):DigsIn w W (some ⟨b,0,none⟩) L:=by
 subst hc;refine⟨hd,.inr ⟨⟨zau (sz:=32) zdi L,fun _=>⟨_,rfl,h.lt,?_⟩⟩,fun _ ad ha=>?_⟩⟩
 ·have:=World.news_of_block h
  simpa using this
 ·injection ha with ha
  subst ha;exact⟨_,h⟩
theorem z2f{w:World}{B c lo hi:Nat}{A:Option Addr}{L:List (List Nat)}(h:Reads w B 32 A L.length (recs zet L))(h1:lo<=hi)(h2:hi<=L.length)(hc:L.length<=c):Reads w B 32 (if c=lo then A else A.map (·.add (lo*32))) (sl L lo hi).length (recs zet (sl L lo hi)):=by have a:=h.cut (k:=lo) (cap:=c) (by omega) hc;rw[zoh (sz:=32) zdi L lo (by omega)] at a;have b:=a.take (k:=hi-lo) (by omega);rw[zg5 (sz:=32) zdi _ _ (by rw[qmp];omega)] at b;rw[zlv h2];exact b
theorem DigsIn.sl{w W:World}{A:Option Addr}{L:List (List Nat)}(h:DigsIn w W A L){lo hi c:Nat}(h1:lo<=hi)(h2:hi<=L.length)(hc:L.length<=c):DigsIn w W (if c=lo then A else A.map (·.add (lo*32))) (sl L lo hi):=by
 refine⟨h.1.sl lo hi,h.2.imp (fun r=>z2f r h1 h2 hc) fun⟨r,b⟩=>⟨z2f r h1 h2 hc,fun hn ad ha=>?_⟩⟩;rw[zlv h2] at hn;split at ha
 ·exact b (by omega) ad ha
 ·cases A with
  |none=>cases ha
  |some a=>
   simp only[qpr,qmj] at ha;rw[<-ha,zai];exact b (by omega) a rfl
theorem DigsIn.take{w W:World}{A:Option Addr}{L:List (List Nat)}(h:DigsIn w W A L){k:Nat}(hk:k<=L.length):DigsIn w W A (L.take k):=by
 have hl:(L.take k).length=k:=by rw[qmq];omega
 have tk:∀{W:World} {B:Nat},Reads W B 32 A L.length (recs zet L)->Reads W B 32 A (L.take k).length (recs zet (L.take k)):=fun r=>by have:=r.take hk;rw[zg5 (sz:=32) zdi L k hk] at this;rwa[hl]
 exact⟨h.1.take k,h.2.imp (fun r=>tk r) fun⟨r,b⟩=>⟨tk r,fun hn=>b (by omega)⟩⟩
theorem DigsIn.leaf{w W:World}{g:Nat}{V:Value}{F:List (List Nat)}{A:Option Addr}{L:List (List Nat)}(h:DigsIn w W A L)(hg:w.heap.size<=g)(l:LogOf tL W w.heap.size g V F)(n:New w W):LeafIn W A L (g::zbi V):=by
 rcases h.2 with r|⟨r,b⟩
 ·exact z6r r h.1 n (l.own (qmt _) hg)
 ·exact⟨r,h.1,fun hn ad ha=>by obtain⟨cs,B⟩:=b hn ad ha;exact l.notT B (by decide) (by decide)⟩
section
variable{w W:World}{g:Nat}{F:List (List Nat)}
theorem qlr{V v:Value}{F':List (List Nat)}(hg:w.heap.size<=g)(l:LogOf tL W w.heap.size g V F)(b:New w W){e:Ending}{W':World}(h:zev tL v w.heap.size g V F' W e W'):qgd v w g F' W e W':=by obtain⟨rfl,V',l',_,t⟩:=h;exact⟨rfl,⟨V',l',Turns.below b t (l.own (qmt _) hg) (qmt _)⟩,KeepC.log l t⟩
theorem qi1(hg:w.heap.size<=g)(hC:ConstIn w)(h:LogSk w g W F){A A2:Option Addr}{c c2:Nat}{P R:List (List Nat)}(n f:Int)(hd:DigsIn w W A P)(hc:P.length<=c)(hcm:c<=9223372036854775807)(hr:DigsIn w W A2 R)(hc2:R.length<=c2)(hcm2:c2<=9223372036854775807)(hF:F.length+P.length<=7000000)(hn0: -9223372036854775808<=n)(hn1:n<=9223372036854775807)(hf1:f<=9223372036854775807):
 Calls Tryz.prog 29 #[.pointer (some ⟨g,0,none⟩),.int .i64 n,.int .i64 f,.slice A P.length c,.slice A2 R.length c2] W (qgd (.tuple #[dV (zq3 n f P R),.bool (joinOk n f P R)]) w g (F++zxh n f P R) W):=by
 obtain⟨V,l,b⟩:=h;exact(zuc n f l b.size hF (hd.leaf hg l b) hc hcm (hr.leaf hg l b) hc2 hcm2 hn0 hn1 hf1 (fun w' t=>hC.new (Turns.below b t (l.own (qmt _) hg) (qmt _)))).mono fun _ _ p=>qlr hg l b p
def PrPost(w:World)(g:Nat)(F P:List (List Nat))(W:World)(e:Ending)(W':World):Prop:=∃A c,e= .returned (.slice A P.length c)/\P.length<=c/\c<=9223372036854775807/\DigsIn w W' A P/\LogSk w g W' F/\KeepC W W'
theorem qfg(hg:w.heap.size<=g)(hC:ConstIn w)(h:LogSk w g W F){A:Option Addr}{c:Nat}{L:List (List Nat)}(f t:Int)(hd:DigsIn w W A L)(hc:L.length<=c)(hcm:c<=9223372036854775807)(hF:F.length+2*L.length<=9000000):
 Calls Tryz.prog 30 #[.pointer (some ⟨g,0,none⟩),.slice A L.length c,.int .i64 f,.int .i64 t] W (PrPost w g (F++provF L f t) (provP L f t) W):=by
 obtain⟨V,l,b⟩:=h;refine(qas f t l b.size hF (hd.leaf hg l b) hc hcm (fun w' t=>hC.new (Turns.below b t (l.own (qmt _) hg) (qmt _)))).mono ?_;rintro e W' ⟨v,rfl,o,V',l',_,t⟩;obtain⟨A',c',rfl,h1,h2⟩:=zcw o;refine⟨A',c',rfl,h1,by simp only[maxLen] at h2;omega,DigsIn.row ?_ o rfl,⟨V',l',Turns.below b t (l.own (qmt _) hg) (qmt _)⟩,KeepC.log l t⟩;unfold provP;split
 ·exact fun _ h=>nomatch h
 ·exact qe6 hd.1 _
end
theorem PrPost.u{w:World}{g:Nat}{F P:List (List Nat)}{W:World}{e:Ending}{W':World}(h:PrPost w g F P W e W'):∃A c,e= .returned (.slice A P.length c)/\P.length<=c/\c<=9223372036854775807/\DigsIn w W' A P/\LogSk w g W' F/\KeepC W W':=h
theorem zxj{n f t:Nat}(h1:f<=t)(h2:t<=n)(h3:n<=65536):needI (n:Int) (f:Int) (t:Int)=(cnt (evs f t 0 n):Nat):=by unfold needI;rw[if_neg (by omega),qng,qng,qng]
theorem zxk{L:List (List Nat)}{f t:Nat}(h1:f<=t)(h2:t<=L.length)(h3:L.length<=65536):provP L (f:Int) (t:Int)=prD L (evs f t 0 L.length)/\provF L (f:Int) (t:Int)=prF L (evs f t 0 L.length):=by unfold provP provF;rw[zxj h1 h2 h3,if_neg (by omega),if_neg (by omega),qng,qng];exact⟨rfl,rfl⟩
theorem qa8{f:Nat}{P:List (List Nat)}(h:f+P.length<=65536):znh (f:Int) P=((f+P.length:Nat):Int):=by unfold znh;rw[zn5 _ ⟨by omega,by omega⟩];omega
theorem z5f{n f:Nat}{P R:List (List Nat)}(h2:f+P.length<=n)(h3:n<=65536):joinOk (n:Int) (f:Int) P R=decide (cnt (evs f (f+P.length) 0 n)=R.length):=by unfold joinOk;rw[qa8 (by omega),zxj (by omega) h2 h3];exact decide_eq_decide.2 (by omega)
theorem qa9{L:List (List Nat)}{f t:Nat}(h1:f<=t)(h2:t<=L.length)(h3:L.length<=65536):joinOk (L.length:Nat) (f:Int) (sl L f t) (provP L (f:Int) (t:Int))=true/\zq3 (L.length:Nat) (f:Int) (sl L f t) (provP L (f:Int) (t:Int))=(zb8 L).1:=by
 have hl:f+(sl L f t).length=t:=by rw[zlv h2];omega
 have ok:joinOk (L.length:Nat) (f:Int) (sl L f t) (provP L (f:Int) (t:Int))=true:=by rw[z5f (by omega) h3,hl,(zxk h1 h2 h3).1,zt6];exact decide_eq_true rfl
 refine⟨ok,?_⟩;unfold zq3;rw[ok,if_pos rfl];unfold z5e;rw[qng,qng,hl,(zxk h1 h2 h3).1];obtain⟨F,e⟩:=zzr (L:=L) (f:=f) (t:=t) ⟨[],prD L (evs f t 0 L.length),[]⟩ [] (by simp);rw[e];rfl
theorem qba{L:List (List Nat)}(f t:Int)(hD:Digs L):(provF L f t).length<=L.length:=by
 unfold provF;split
 ·simp
 ·have:=qan hD 0 L.length (qmu _) (qmt _) (f:=f.toNat) (t:=t.toNat)
  omega
end Go.Proofs.Y
namespace Go.Hm
open Go Go.RowKit
end Go.Hm
namespace Go.Proofs.Y
open Go.RowKit Go.Hm
theorem z5h{P:List (List Nat)}(n m:Nat)(f:Int)(R:List (List Nat))(hP:Digs P)(h:n<=m):(zxh (n:Int) f P R).length<=2*m+1:=by
 unfold zxh;split
 ·have:=z19 (P:=P) (f:=f.toNat) (t:=f.toNat+P.length) (n:=n) hP ⟨[],R,[]⟩ (qrw _)
  unfold z5e;rw[qng];have:(zj0 P f.toNat ⟨[],R,[]⟩ (evs f.toNat (f.toNat+P.length) 0 n)).frames.length<=0+2*n+1:=this;omega
 ·simp
def LogN(w:World)(g k:Nat)(W:World):Prop:=∃F,LogSk w g W F/\F.length<=k
theorem LogN.new{w W W':World}{g k:Nat}(h:LogN w g k W)(n:New W W'):LogN w g k W':=by obtain⟨F,l,hk⟩:=h;exact⟨F,l.new n,hk⟩
theorem LogN.news{w W:World}{g k:Nat}(h:LogN w g k W):New w W:=by obtain⟨F,l,hk⟩:=h;exact l.news
def qi2(v:Value)(w:World)(g k:Nat)(W:World)(e:Ending)(W':World):Prop:=e= .returned v/\LogN w g k W'/\KeepC W W'
section
variable{w W:World}{g k:Nat}
theorem qk1(hg:w.heap.size<=g)(hC:ConstIn w)(h:LogN w g k W){A A2:Option Addr}{c c2:Nat}{P R:List (List Nat)}(n:Nat)(f:Int)(hd:DigsIn w W A P)(hc:P.length<=c)(hcm:c<=9223372036854775807)(hr:DigsIn w W A2 R)(hc2:R.length<=c2)(hcm2:c2<=9223372036854775807)(hF:k+P.length<=7000000)(hn1:n<=100000)(hf1:f<=9223372036854775807){v:Value}{b:Bool}(hv:dV (zq3 (n:Int) f P R)=v)(hb:joinOk (n:Int) f P R=b):
 Calls Tryz.prog 29 #[.pointer (some ⟨g,0,none⟩),.int .i64 (n:Int),.int .i64 f,.slice A P.length c,.slice A2 R.length c2] W (qi2 (.tuple #[v,.bool b]) w g (k+(2*n+1)) W):=by
 obtain⟨F,l,hk⟩:=h;refine(qi1 hg hC l (n:Int) f hd hc hcm hr hc2 hcm2 (by omega) (by omega) (by omega) hf1).mono ?_;rintro e W' ⟨rfl,l',kc⟩;exact⟨by rw[hv,hb],⟨_,l',by have:=z5h n n f R hd.1 (qmt _);rw[qni];omega⟩,kc⟩
def PrN(w:World)(g k:Nat)(P:List (List Nat))(W:World)(e:Ending)(W':World):Prop:=∃A c,e= .returned (.slice A P.length c)/\P.length<=c/\c<=9223372036854775807/\DigsIn w W' A P/\LogN w g k W'/\KeepC W W'
theorem qi3(hg:w.heap.size<=g)(hC:ConstIn w)(h:LogN w g k W){A:Option Addr}{c:Nat}{L:List (List Nat)}(f t:Int)(hd:DigsIn w W A L)(hc:L.length<=c)(hcm:c<=9223372036854775807)(hF:k+2*L.length<=9000000):
 Calls Tryz.prog 30 #[.pointer (some ⟨g,0,none⟩),.slice A L.length c,.int .i64 f,.int .i64 t] W (PrN w g (k+L.length) (provP L f t) W):=by
 obtain⟨F,l,hk⟩:=h;refine(qfg hg hC l f t hd hc hcm (by omega)).mono ?_;rintro e W' ⟨A,c,rfl,h1,h2,d,l',kc⟩;exact⟨A,c,rfl,h1,h2,d,⟨_,l',by have:=qba f t hd.1;rw[qni];omega⟩,kc⟩
end
theorem DigsIn.at_{w W:World}{A:Option Addr}{L:List (List Nat)}{i:Nat}(h:DigsIn w W A L)(n:New w W)(hi:i<L.length):
 ∃ad,A=some ad/\ ∀W',KeepB w W W'-> ∀j u,(zan .u8 (L.getD i []))[j]? =some u->W'.cell? ((ad.add (i*32)).add j)=some u:=by
 have hd:zh4 (L.getD i []):=h.1 _ (zgo hi);have rd:∀W',New w W'->DigsIn w W' A L-> ∃ad,A=some ad/\ ∀j u,(zan .u8 (L.getD i []))[j]? =some u->W'.cell? ((ad.add (i*32)).add j)=some u:=fun W' n' h'=>by
  have r:Reads W' W'.heap.size 32 A L.length (recs zet L):=by
   rcases h'.2 with r|⟨r,_⟩
   ·exact Reads.later r n'
   ·exact r
  obtain⟨ad,e,hb,hl,hc⟩:=Reads.rec_ (f:=zet) (sz:=32) zdi [] r hi (by omega);refine⟨ad,e,fun j u hu=>?_⟩;rw[za3];rw[<-zol hd.1] at hu;exact hc j u hu
 obtain⟨ad,e,_⟩:=rd W n h;refine⟨ad,e,fun W' k j u hu=>?_⟩;obtain⟨ad',e',hc⟩:=rd W' (Below.trans n k.2) (h.keep k.1);rw[e] at e';injection e' with e';subst e';exact hc j u hu
theorem LogN.set_{w W:World}{g k b:Nat}(h:LogN w g k W){old:Array Value}(G:Blk W b tD old)(hb:w.heap.size<=b)(cs:Array Value):LogN w g k (W.setRow b cs):=by obtain⟨F,⟨V,l,n⟩,hk⟩:=h;have T2:Turns [b] W (W.setRow b cs):=Turns.of_far (zbl (g:=b) W cs) (by simp);obtain⟨A,m,c,D,rfl,hg,ho,hp,hD⟩:=l;have l:LogOf tL W w.heap.size g (.slice A m c) F:=⟨A,m,c,D,rfl,hg,ho,hp,hD⟩;exact⟨F,⟨_,l.turn T2 (by simp;exact Blk.ne_ hg G (by decide)) (by simp;exact zaj ho G (by decide)) (fun x hx _ cs hB=>by simp at hx;subst hx;exact Blk.ne_ G hB (by decide) rfl),Turns.below n T2 (by simpa using hb) (qmt _)⟩,hk⟩
theorem KeepC.set_{a W:World}{b:Nat}(k:KeepC a W)(hb:a.heap.size<=b)(cs:Array Value):KeepC a (W.setRow b cs):=by have T2:Turns [b] W (W.setRow b cs):=Turns.of_far (zbl (g:=b) W cs) (by simp);exact⟨qml k.1 T2.size,fun t x c h1 h2 hB=>(k.2 t x c h1 h2 hB).touch T2 (by simp;rintro rfl;have:=hB.lt;omega)⟩
open Go.RowKit Go.Hm Go.WideShapes Go.ChangeShapes
theorem gKinds:Tryz.prog.globalNamed "hypostyle/roots.kinds" =some 0:=by kernel_rfl
theorem tKinds:(Tryz.prog.globals[0]?).map (·.type)=some 88:=by kernel_rfl
theorem z5i(s:List Nat)(a:ByteArray)(h:a.data.toList=s.map fun n=>UInt8.ofNat n):a=zae s:=by obtain⟨⟨l⟩⟩:=a;simp only at h;subst h;rfl
theorem qfh:∀i,i<4->([DataW.lit (.string [112,97,103,101]),.lit (.string [99,104,117,110,107]),.lit (.string [103,114,111,117,112]),.lit (.string [102,105,108,101])]:List (DataW Unit))[i]? =some (.lit (.string ((kindS.getD i []).map fun n=>UInt8.ofNat n))):=by
 intro i hi
 match i,hi with
 |0,_=>rfl
 |1,_=>rfl
 |2,_=>rfl
 |3,_=>rfl
theorem zxl{W:World}(h:laidMetH Tryz.prog zx1 W):GlobIn W:=by
 refine⟨zsr h,?_⟩;rw[MakeChecks.laidMetH_plain _ _ _ (by kernel_rfl)] at h;obtain⟨ps,⟨_,_,_,_,_,_,_,_,_,_,⟨g0,t0,cs0,f0,p0,q0,hg0,ht0,hv0,hd0,_,_⟩,_⟩,_,_⟩:=h;obtain rfl:=qmh (gKinds.symm.trans hg0);obtain rfl:=qmh (tKinds.symm.trans ht0);obtain⟨xs,m1,rfl,hx1,hlen,hn3,hel⟩:=DataW.trod_array (show Tryz.prog.underlying 88=some (.array 4 9) by kernel_rfl) hd0;have c4:Tryz.prog.cellsOf 88=4:=by kernel_rfl
 have c1:Tryz.prog.cellsOf 9=1:=by kernel_rfl
 rw[c4] at hlen;rw[show(Go.Proofs.YtbahbnbpmfgimaaGreatDoor.Rows.laid_hypostyle_roots_kinds:DataW Unit)= .agg [.lit (.string [112,97,103,101]),.lit (.string [99,104,117,110,107]),.lit (.string [103,114,111,117,112]),.lit (.string [102,105,108,101])] from rfl] at hx1;simp only[qmi,DataW.agg.injEq] at hx1;have hcell:∀i,i<4->W.cell? ⟨0,i,none⟩=some (.string (zae (kindS.getD i []))):=by
  intro i hi;have h1:=hel i hi;rw[c1,qm0] at h1;have hi2:i<cs0.toList.length:=by omega
  have hone:(cs0.toList.drop i).take 1=[cs0.toList[i]]:=by rw[qm4 hi2];rfl
  rw[hone,qmm (by omega)] at h1;obtain⟨x,e1,e2,_⟩:=DataW.trod_string (show Tryz.prog.underlying 9=some .string by kernel_rfl) h1;have hk:=qfh i hi;rw[hx1.1,qpf,qmm (show i<xs.length by omega)] at hk;simp only[qpr,qmj] at hk;rw[e2] at hk;simp only[DataW.lit.injEq,Lit.string.injEq] at hk;have hc:=World.var?_cell hg0 hv0 i;rw[hc];simp only[qmg,and_true] at e1;rw[qqh (by simpa using hi2)];have e3:cs0[i]'(by simpa using hi2)=cs0.toList[i]:=by simp
  rw[e3,e1,z5i _ _ hk]
 refine⟨?_,hcell⟩;have h0:=hcell 0 (by omega);unfold World.cell? at h0;rcases qmx 0 W.heap.size with hz|hz
 ·exact hz
 ·rw[qmy (by omega)] at h0
  cases h0
end Go.Proofs.Y
