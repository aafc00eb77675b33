import Derived.Test.YtbahbnbpmfgimaaGreatDoorBun44
set_option maxHeartbeats 4000000
set_option maxRecDepth 100000
namespace Go.Proofs.Y
open Go.RowKit Go.Hm
theorem zqe{w:World}{base base' g n c:Nat}{A:Option Addr}{V:Value}{F L:List (List Nat)}(h:w.ownsRow base' tD 32 (.slice A n c) n (recs zfh L))(hn:n=L.length)(hd:Digs L)(l:LogOf tR w base g V F):LeafIn w A L (g::zbg V):=by
 subst hn;refine⟨qrt h,hd,fun h0 ad ha=>?_⟩;subst ha;rcases h.2 with⟨e,h2⟩|⟨g',cap,cur,hv,_,hg,_⟩
 ·omega
 ·injection hv with e1 e2 e3
  injection e1 with e1;subst e1;exact l.notT (show Blk w g' tD cur from hg) (by decide) (by decide)
theorem z33{w:World}{base g:Nat}{V:Value}{F:List (List Nat)}(hL:LogOf tR w base g V F)(hbs:base<=w.heap.size){A:Option Addr}{c:Nat}{D:List zgp}(hD:DataF w A D (g::zbg V))(hD6:D.length<=65536)(hF:F.length+2*D.length<=8000000):
 Calls Tryz.prog 13 #[.pointer (some ⟨g,0,none⟩),.slice A D.length c] w (zc3 tR (dV (ovD zbx (D.map (·.2.2)))) base g V (F++ovF zbx (D.map (·.2.2))) w):=by
 rw[zuz,zu0];have DG:=zfm zbx (D.map (·.2.2));have LL:=zg5 zbx (D.map (·.2.2));have FL:=zj8 zbx (D.map (·.2.2));rw[qos] at LL FL;have c0:=zac w (.cells (zap .u8 zad).toArray 35);have G0:=qrv w 35 (zap .u8 zad).toArray;have hgl:g<w.heap.size:=hL.lt;obtain⟨W0,hW0⟩:∃W,W=w.alloc (.cells (zap .u8 zad).toArray 35):=⟨_,rfl⟩;rw[<-hW0] at c0 G0;have LV:=qrf (show Calls Tryz.prog 11 #[.pointer (some ⟨g,0,none⟩),.string ⟨#[112,97,103,101]⟩,.slice A D.length c] W0 (zlx (lvD zbx (D.map (·.2.2))) base g V (F++lvF zbx (D.map (·.2.2))) W0) from zib (w:=W0) (c:=c) (s:=zbx) (hL.new c0) (qlw hbs c0.size) (by decide) (by decide) (hD.turn (qr9 c0) (fun _ _ h=>h)) hD6 (by omega));have HW:=qrf hW0;have HL:=qrf hL;have C0:=qrf c0;have HBS:=qrf hbs;have L1:=zdn _ DG;rw[<-qmi];generalize lvD zbx (D.map (·.2.2))=Lv at*;generalize lvF zbx (D.map (·.2.2))=Fv at*;obtain⟨cs,hdv,I32,ZS,ONE,hcs⟩:=zex L1;have HV:=qrf hdv;replace I32:=qrf I32;replace ZS:=qrf ZS;replace ONE:=qrf ONE;replace DG:=qrf DG;replace G0:=qrf G0;have HLL:=qrf (qok LL FL);have HGL:=qrf hgl;have HFF:=qrf hF;rw[hdv];clear L1 hcs hdv hgl hW0 hL c0 hbs LL FL hD hF hD6;go_enter Tryz.func13,Tryz.ntmps13
 go_wp2_with fail
 rw[show w.alloc (.cells qsy 35)=W0 from HW.out.symm];refine LV.out.mono ?_;rintro e w2 ⟨v,rfl,o2,V2,l2,a2,t2⟩;obtain⟨A2,c2,rfl,q1,q2⟩:=zcy o2;have t2':Turns (g::zbg V) w w2:=(qr9 C0.out).trans t2;have a2':V2.ownBlock=V.ownBlock\/ ∃h,V2.ownBlock=some h/\w.heap.size<=h:=a2.imp id fun⟨h,h1,h2⟩=>⟨h,h1,qlw C0.out.size h2⟩
 have g2:=G0.out.touch t2 ((HL.out.new C0.out).notT G0.out (by decide) (by decide));have nr2:w.heap.size∉g::zbg V2:=l2.notT g2 (by decide) (by decide);have RT:=qrf (zoz (Lv.length+1) (qpz _) l2 (qlw HBS.out t2'.size) (by have:=HLL.out;have:=HFF.out;rw[qmv];omega) (zqe o2 rfl DG.out l2) q1 (by simp only[maxLen] at q2;omega));have T2:=qrf t2';have A2':=qrf a2';have G2:=qrf g2;have NR:=qrf nr2;clear q1 q2 o2 l2 a2 t2 t2' a2' g2 nr2 LV G0;go_wp2_with fail
 refine RT.out.mono ?_;rintro e w4 ⟨rfl,V4,l4,a4,t4⟩;have g4:=G2.out.touch t4 NR.out;have PS:=qrf (zbz HGL.out l4 (zdz T2.out.size A2'.out a4) (zbm T2.out A2'.out t4) g4 cs);have H:=qrf (qok (zaf g4) (zau g4 cs));rw[HV.out];clear l4 a4 t4 g4 RT;go_wp2_with (refine wpList_store_row rfl 35 (.tmp 4) (.tmp 9) rfl w.heap.size cs rfl rfl _ _ H.out.1 I32.out ZS.out ONE.out ?_)
 exact bodyPost_ret (results_cell_row rfl _ _ w.heap.size _ cs (0,0) _ rfl H.out.2 zbp rfl I32.out) rfl ⟨rfl,by simpa only[qmi] using PS.out⟩
theorem z34{w:World}{base g:Nat}{V:Value}{F:List (List Nat)}(hL:LogOf tR w base g V F)(hbs:base<=w.heap.size){A:Option Addr}{c:Nat}{L:List (List Nat)}(hR:Reads w w.heap.size 32 A L.length (recs zfh L))(hd:Digs L)(hL6:L.length<=65536)(hF:F.length+2*L.length<=8000000):
 Calls Tryz.prog 15 #[.pointer (some ⟨g,0,none⟩),.slice A L.length c] w (zc3 tR (dV (ovD zcc L)) base g V (F++ovF zcc L) w):=by
 rw[zuz,zu0];have DG:=zfm zcc L;have LL:=zg5 zcc L;have FL:=zj8 zcc L;have c0:=zac w (.cells (zap .u8 zad).toArray 35);have G0:=qrv w 35 (zap .u8 zad).toArray;have hgl:g<w.heap.size:=hL.lt;obtain⟨W0,hW0⟩:∃W,W=w.alloc (.cells (zap .u8 zad).toArray 35):=⟨_,rfl⟩;rw[<-hW0] at c0 G0;have PA:=qrf (zse (c:=c) (qsg hR c0) hd hL6);have hlT:∀x∈g::zbg V,x<w.heap.size:=fun x hx=>by
  rcases qnu.1 hx with rfl|hx
  ·exact hL.lt
  ·exact(hL.ge x hx).2
 have LV:=qrf (fun(w1:World) (A1:Option Addr) (c1:Nat) (D:List zgp) (hm:D.map (·.2.2)=L) (n1:New W0 w1) (r1:Reads w1 w1.heap.size 1 A1 D.length (recs zgq D)) (r2:∀ad,A1=some ad->W0.heap.size<=ad.block) (r3:∀d∈D,BytIn w1 d/\(∀ad,d.1=some ad->W0.heap.size<=ad.block)/\d.2.2.length<=d.2.1/\d.2.1<=maxLen)=>show Calls Tryz.prog 11 #[.pointer (some ⟨g,0,none⟩),.string ⟨#[99,104,117,110,107]⟩,.slice A1 D.length c1] w1 (zlx (lvD zcc L) base g V (F++lvF zcc L) w1) from by
  have hl:D.length=L.length:=by rw[<-hm,qos]
  have b1:=qr0 c0 n1;have hwz:=c0.size;have hDF:DataF w1 A1 D (g::zbg V):=by
   refine⟨r1,fun _ ad ha hx=>?_,fun d hdd=>?_⟩
   ·have:=r2 ad ha
    have:=hlT _ hx;omega
   ·obtain⟨p1,p2,p3,p4⟩:=r3 d hdd
    have hdg:=hd d.2.2 (by rw[<-hm];exact qly.2 ⟨d,hdd,rfl⟩);refine⟨p1,fun _ ad ha hx=>?_,p3,by simp only[maxLen] at p4;omega,hdg.2,by rw[hdg.1];omega⟩;have:=p2 ad ha;have:=hlT _ hx;omega
  have:=zib (c:=c1) (s:=zcc) (hL.new b1) (qlw hbs b1.size) (by decide) (by decide) hDF (by omega) (by omega);rw[hm] at this;exact this)
 have HW:=qrf hW0;have HL:=qrf hL;have C0:=qrf c0;have HBS:=qrf hbs;have L1:=zdn _ DG;rw[<-qmi];generalize lvD zcc L=Lv at*;generalize lvF zcc L=Fv at*;obtain⟨cs,hdv,I32,ZS,ONE,hcs⟩:=zex L1;have HV:=qrf hdv;replace I32:=qrf I32;replace ZS:=qrf ZS;replace ONE:=qrf ONE;replace DG:=qrf DG;replace G0:=qrf G0;have HLL:=qrf (qok LL FL);have HGL:=qrf hgl;have HFF:=qrf hF;rw[hdv];clear L1 hcs hdv hgl hW0 hL c0 hbs LL FL hR hd hF hL6 hlT;go_enter Tryz.func15,Tryz.ntmps15
 go_wp2_with fail
 rw[show w.alloc (.cells qsy 35)=W0 from HW.out.symm];refine PA.out.mono ?_;rintro e w1 ⟨A1,c1,D,rfl,h1,h2,hm,n1,r1,r2,r3⟩;have LV:=qrf (LV.out w1 A1 c1 D hm n1 r1 r2 r3);have G0:=qrf (G0.out.below n1 G0.out.lt);have C0:=qrf (qr0 C0.out n1);clear PA h1 h2 hm n1 r1 r2 r3;go_wp2_with fail
 refine LV.out.mono ?_;rintro e w2 ⟨v,rfl,o2,V2,l2,a2,t2⟩;obtain⟨A2,c2,rfl,q1,q2⟩:=zcy o2;have t2':Turns (g::zbg V) w w2:=(qr9 C0.out).trans t2;have a2':V2.ownBlock=V.ownBlock\/ ∃h,V2.ownBlock=some h/\w.heap.size<=h:=a2.imp id fun⟨h,h1,h2⟩=>⟨h,h1,qlw C0.out.size h2⟩
 have g2:=G0.out.touch t2 ((HL.out.new C0.out).notT G0.out (by decide) (by decide));have nr2:w.heap.size∉g::zbg V2:=l2.notT g2 (by decide) (by decide);have RT:=qrf (zoz (Lv.length+1) (qpz _) l2 (qlw HBS.out t2'.size) (by have:=HLL.out;have:=HFF.out;rw[qmv];omega) (zqe o2 rfl DG.out l2) q1 (by simp only[maxLen] at q2;omega));have T2:=qrf t2';have A2':=qrf a2';have G2:=qrf g2;have NR:=qrf nr2;clear q1 q2 o2 l2 a2 t2 t2' a2' g2 nr2 LV G0;go_wp2_with fail
 refine RT.out.mono ?_;rintro e w4 ⟨rfl,V4,l4,a4,t4⟩;have g4:=G2.out.touch t4 NR.out;have PS:=qrf (zbz HGL.out l4 (zdz T2.out.size A2'.out a4) (zbm T2.out A2'.out t4) g4 cs);have H:=qrf (qok (zaf g4) (zau g4 cs));rw[HV.out];clear l4 a4 t4 g4 RT;go_wp2_with (refine wpList_store_row rfl 35 (.tmp 4) (.tmp 10) rfl w.heap.size cs rfl rfl _ _ H.out.1 I32.out ZS.out ONE.out ?_)
 exact bodyPost_ret (results_cell_row rfl _ _ w.heap.size _ cs (0,0) _ rfl H.out.2 zbp rfl I32.out) rfl ⟨rfl,by simpa only[qmi] using PS.out⟩
theorem zy5{w:World}{base g:Nat}{V:Value}{F:List (List Nat)}(hL:LogOf tR w base g V F)(hbs:base<=w.heap.size){A:Option Addr}{c:Nat}{L:List (List Nat)}(hR:Reads w w.heap.size 32 A L.length (recs zfh L))(hd:Digs L)(hL6:L.length<=65536)(hF:F.length+2*L.length<=8000000):
 Calls Tryz.prog 17 #[.pointer (some ⟨g,0,none⟩),.slice A L.length c] w (zc3 tR (dV (ovD zbv L)) base g V (F++ovF zbv L) w):=by
 rw[zuz,zu0];have DG:=zfm zbv L;have LL:=zg5 zbv L;have FL:=zj8 zbv L;have c0:=zac w (.cells (zap .u8 zad).toArray 35);have G0:=qrv w 35 (zap .u8 zad).toArray;have hgl:g<w.heap.size:=hL.lt;obtain⟨W0,hW0⟩:∃W,W=w.alloc (.cells (zap .u8 zad).toArray 35):=⟨_,rfl⟩;rw[<-hW0] at c0 G0;have PA:=qrf (zse (c:=c) (qsg hR c0) hd hL6);have hlT:∀x∈g::zbg V,x<w.heap.size:=fun x hx=>by
  rcases qnu.1 hx with rfl|hx
  ·exact hL.lt
  ·exact(hL.ge x hx).2
 have LV:=qrf (fun(w1:World) (A1:Option Addr) (c1:Nat) (D:List zgp) (hm:D.map (·.2.2)=L) (n1:New W0 w1) (r1:Reads w1 w1.heap.size 1 A1 D.length (recs zgq D)) (r2:∀ad,A1=some ad->W0.heap.size<=ad.block) (r3:∀d∈D,BytIn w1 d/\(∀ad,d.1=some ad->W0.heap.size<=ad.block)/\d.2.2.length<=d.2.1/\d.2.1<=maxLen)=>show Calls Tryz.prog 11 #[.pointer (some ⟨g,0,none⟩),.string ⟨#[103,114,111,117,112]⟩,.slice A1 D.length c1] w1 (zlx (lvD zbv L) base g V (F++lvF zbv L) w1) from by
  have hl:D.length=L.length:=by rw[<-hm,qos]
  have b1:=qr0 c0 n1;have hwz:=c0.size;have hDF:DataF w1 A1 D (g::zbg V):=by
   refine⟨r1,fun _ ad ha hx=>?_,fun d hdd=>?_⟩
   ·have:=r2 ad ha
    have:=hlT _ hx;omega
   ·obtain⟨p1,p2,p3,p4⟩:=r3 d hdd
    have hdg:=hd d.2.2 (by rw[<-hm];exact qly.2 ⟨d,hdd,rfl⟩);refine⟨p1,fun _ ad ha hx=>?_,p3,by simp only[maxLen] at p4;omega,hdg.2,by rw[hdg.1];omega⟩;have:=p2 ad ha;have:=hlT _ hx;omega
  have:=zib (c:=c1) (s:=zbv) (hL.new b1) (qlw hbs b1.size) (by decide) (by decide) hDF (by omega) (by omega);rw[hm] at this;exact this)
 have HW:=qrf hW0;have HL:=qrf hL;have C0:=qrf c0;have HBS:=qrf hbs;have L1:=zdn _ DG;rw[<-qmi];generalize lvD zbv L=Lv at*;generalize lvF zbv L=Fv at*;obtain⟨cs,hdv,I32,ZS,ONE,hcs⟩:=zex L1;have HV:=qrf hdv;replace I32:=qrf I32;replace ZS:=qrf ZS;replace ONE:=qrf ONE;replace DG:=qrf DG;replace G0:=qrf G0;have HLL:=qrf (qok LL FL);have HGL:=qrf hgl;have HFF:=qrf hF;rw[hdv];clear L1 hcs hdv hgl hW0 hL c0 hbs LL FL hR hd hF hL6 hlT;go_enter Tryz.func17,Tryz.ntmps17
 go_wp2_with fail
 rw[show w.alloc (.cells qsy 35)=W0 from HW.out.symm];refine PA.out.mono ?_;rintro e w1 ⟨A1,c1,D,rfl,h1,h2,hm,n1,r1,r2,r3⟩;have LV:=qrf (LV.out w1 A1 c1 D hm n1 r1 r2 r3);have G0:=qrf (G0.out.below n1 G0.out.lt);have C0:=qrf (qr0 C0.out n1);clear PA h1 h2 hm n1 r1 r2 r3;go_wp2_with fail
 refine LV.out.mono ?_;rintro e w2 ⟨v,rfl,o2,V2,l2,a2,t2⟩;obtain⟨A2,c2,rfl,q1,q2⟩:=zcy o2;have t2':Turns (g::zbg V) w w2:=(qr9 C0.out).trans t2;have a2':V2.ownBlock=V.ownBlock\/ ∃h,V2.ownBlock=some h/\w.heap.size<=h:=a2.imp id fun⟨h,h1,h2⟩=>⟨h,h1,qlw C0.out.size h2⟩
 have g2:=G0.out.touch t2 ((HL.out.new C0.out).notT G0.out (by decide) (by decide));have nr2:w.heap.size∉g::zbg V2:=l2.notT g2 (by decide) (by decide);have RT:=qrf (zoz (Lv.length+1) (qpz _) l2 (qlw HBS.out t2'.size) (by have:=HLL.out;have:=HFF.out;rw[qmv];omega) (zqe o2 rfl DG.out l2) q1 (by simp only[maxLen] at q2;omega));have T2:=qrf t2';have A2':=qrf a2';have G2:=qrf g2;have NR:=qrf nr2;clear q1 q2 o2 l2 a2 t2 t2' a2' g2 nr2 LV G0;go_wp2_with fail
 refine RT.out.mono ?_;rintro e w4 ⟨rfl,V4,l4,a4,t4⟩;have g4:=G2.out.touch t4 NR.out;have PS:=qrf (zbz HGL.out l4 (zdz T2.out.size A2'.out a4) (zbm T2.out A2'.out t4) g4 cs);have H:=qrf (qok (zaf g4) (zau g4 cs));rw[HV.out];clear l4 a4 t4 g4 RT;go_wp2_with (refine wpList_store_row rfl 35 (.tmp 4) (.tmp 10) rfl w.heap.size cs rfl rfl _ _ H.out.1 I32.out ZS.out ONE.out ?_)
 exact bodyPost_ret (results_cell_row rfl _ _ w.heap.size _ cs (0,0) _ rfl H.out.2 zbp rfl I32.out) rfl ⟨rfl,by simpa only[qmi] using PS.out⟩
theorem z9j{w:World}{base g:Nat}{V:Value}{L:List (List Nat)}(hL:LogOf tR w base g V L)(hbs:base<=w.heap.size)(hLn:L.length<=10000000){A:Option Addr}{c:Nat}{a b:List Nat}(ha:Reads w w.heap.size 1 A a.length (zah .u8 a))(hfar:0<a.length-> ∀ad,A=some ad->ad.block∉g::zbg V)(ha8:∀x∈a,x<256)(hac:a.length<=c)(hc:c<=9223372036854775807)(hal:a.length<=9000000)(hb:zim b):
 Calls Tryz.prog 19 #[.pointer (some ⟨g,0,none⟩),.slice A a.length c,dV b] w (zc3 tR (dV (zqz a b)) base g V (L++zjx a b) w):=by
 obtain⟨cb,hcb⟩:∃cs,cs=(zah .u8 b).toArray:=⟨_,rfl⟩;show Calls Tryz.prog _ _ w (zc3 tR (dV (zb4 zdv [a,b])) base g V (L++[zc2 zdv [a,b]]) w);have hvb:dV b= .agg cb:=by rw[hcb];rfl
 obtain⟨W3,hW3⟩:∃W,W=(w.alloc (.cells cb 35)).alloc (.cells (zap .u8 zad).toArray 35):=⟨_,rfl⟩;have z1:(w.alloc (.cells cb 35)).heap.size=w.heap.size+1:=by simp
 have zs:W3.heap.size=w.heap.size+2:=by rw[hW3];simp
 have b3:New w W3:=by rw[hW3];exact qr0 (zac _ _) (zac _ _)
 have gb:Blk W3 w.heap.size 35 cb:=by rw[hW3];exact(qrv w _ cb).alloc _
 have gr:Blk W3 (w.heap.size+1) 35 (zap .u8 zad).toArray:=by rw[hW3];have:=qrv (w.alloc (.cells cb 35)) 35 (zap .u8 zad).toArray;rwa[z1] at this
 have hgl:g<w.heap.size:=hL.lt;have lowT:∀x∈g::zbg V,x<w.heap.size:=fun x hx=>by
  rcases qnu.1 hx with rfl|hx
  ·exact hgl
  ·exact(hL.ge x hx).2
 obtain⟨W4,hW4⟩:∃W,W=W3.alloc (.cells #[.slice A a.length c,.slice (some ⟨w.heap.size,0,none⟩) 32 32] 24):=⟨_,rfl⟩;have b34:New W3 W4:=by rw[hW4];exact zac W3 _
 have b04:=qr0 b3 b34;have rr:∀w',Turns (g::zbg V) W4 w'->RowsAt w' (some ⟨w.heap.size+2,0,none⟩) 2 2 [(A,c,a),(some ⟨w.heap.size,0,none⟩,32,b)]:=fun w' k=>by
  have r0:Reads W4 W4.heap.size 1 (some ⟨w.heap.size+2,0,none⟩) 2 (recs zdr [(A,c,a),((some ⟨w.heap.size,0,none⟩:Option Addr),32,b)]):=by rw[hW4,<-zs];have:=qsl W3 24 (0,0) #[.slice A a.length c,.slice (some ⟨w.heap.size,0,none⟩) 32 32] 2 (recs zdr [(A,c,a),((some ⟨w.heap.size,0,none⟩:Option Addr),32,b)]) (by simp[recs,zdr,hb.1]) (by simp[recs,zdr]);exact qsg this (qq8 _ _)
  refine⟨zdp r0 k (fun _ ad ha hm=>?_),fun x hx=>?_,ql6 _⟩
  ·injection ha with ha
   subst ha;have:=lowT _ hm;dsimp only at this;omega
  ·simp only[qnu,qpt,or_false] at hx
   rcases hx with rfl|rfl
   ·exact⟨by show Reads _ _ 1 _ a.length _;exact zdp (qsg ha b04) k hfar,hac,hc⟩
   ·refine⟨?_,by show b.length<=32;rw[hb.1];omega,by show(32:Nat)<=_;omega⟩
    show Reads _ _ 1 _ b.length _;refine zdp (qsg (zd0 gb (by rw[hcb])) b34) k (fun _ ad ha hm=>?_);injection ha with ha;subst ha;have:=lowT _ hm;dsimp only at this;omega
 have hbo:bytesOf [(A,c,a),((some ⟨w.heap.size,0,none⟩:Option Addr),32,b)]=[a,b]:=rfl;have hp8:∀p∈[a,b],∀x∈p,x<256:=by
  intro p hp;simp only[qnu,qpt,or_false] at hp;rcases hp with rfl|rfl
  ·exact ha8
  ·exact hb.2
 have hts:zem [a,b]<=9900000:=by simp[zem,hb.1];omega
 have lh:=zjc (s:=zdv) (hL.new b04) (qlw hbs b04.size) hLn rr (by omega) (by decide) (by decide) hts hp8;rw[hbo,zf8] at lh;obtain⟨cs,hcs⟩:∃cs,cs=(zap .u8 (zdj zdv [a,b])).toArray:=⟨_,rfl⟩;have hdv:zm9 (zdj zdv [a,b])= .agg cs:=by rw[hcs];rfl
 have hdv2:dV (zb4 zdv [a,b])= .agg cs:=by rw[<-zgg,hdv]
 have hl32:=zfs zdv [a,b];have I32:(Tryz.prog.info? 35).map (·.size)=some cs.size:=by rw[hcs];exact zxd hl32
 have ZS:(zap .u8 zad).toArray.size=cs.size:=by rw[hcs];simp[zap,zad,hl32]
 have ONE:cs.all (·.oneCell')=true:=by rw[hcs];exact zcs _ _
 rw[hdv] at lh;rw[hvb,hdv2];have LH:=qrf (show Calls Tryz.prog 41 #[.pointer (some ⟨g,0,none⟩),.string ⟨#[102,105,108,101]⟩,.slice (some ⟨w.heap.size+2,0,none⟩) 2 2] W4 (zc3 tR (.agg cs) base g V (L++[zc2 zdv [a,b]]) W4) from lh);have I32:=qrf I32;have ZS:=qrf ZS;have ONE:=qrf ONE;have HLR:=qrf hL;have GR:=qrf (gr.below b34 gr.lt);have B04:=qrf b04;have HW3:=qrf hW3;have HW4:=qrf hW4;have LOWT:=qrf lowT;have ZSZ:=qrf zs;clear hcs hdv hdv2 hl32 lh hts hp8 rr b34 ha ha8 gb gr z1 zs hW3 hW4 b3 b04 hvb hcb hL lowT hfar;go_enter Tryz.func19,Tryz.ntmps19
 go_wp2_with fail
 have e3:(w.alloc (.cells cb 35)).alloc (.cells qsy 35)=W3:=HW3.out.symm;rw[e3,<-HW4.out];clear e3;refine LH.out.mono ?_;rintro e w5 ⟨rfl,V',l5,a5,t5⟩;have nT:w.heap.size+1∉g::zbg V:=fun hx=>by have:=LOWT.out _ hx;omega
 have g5:=GR.out.touch t5 nT;have P6:Hid (∃V',LogOf tR (w5.setRow (w.heap.size+1) cs) base g V' (L++[zc2 zdv [a,b]])/\(V'.ownBlock=V.ownBlock\/ ∃h,V'.ownBlock=some h/\w.heap.size<=h)/\Turns (g::zbg V) w (w5.setRow (w.heap.size+1) cs)):=qrf (by
  have tt:Turns [w.heap.size+1] w5 (w5.setRow (w.heap.size+1) cs):=qsa (za3 (g:=w.heap.size+1) w5 cs) (by simp);refine⟨V',l5.turn tt (by simp;omega) ?_ ?_,a5.imp id (fun⟨h,h1,h2⟩=>⟨h,h1,qlw B04.out.size h2⟩),?_⟩
  ·intro x hx
   simp at hx;subst hx;obtain⟨A',n',c',D',e',_,o',_⟩:=l5;rw[e'];exact o'.blk_ne g5 (by decide)
  ·intro x hx _ cs hB
   simp at hx;subst hx;exact qrx g5 hB (by decide) rfl
  ·exact qsd ((((qr9 B04.out).trans t5).more (T':=(w.heap.size+1)::g::zbg V) (by intro x hx;simp at hx⊢;simp[hx])).trans (tt.more (by intro x hx;simp at hx⊢;simp[hx]))) (by omega))
 have H:=qrf (qok (zaf g5) (zau g5 cs));clear l5 a5 t5 g5;go_wp2_with (refine wpList_store_row rfl 35 (.tmp 6) (.tmp 11) rfl (w.heap.size+1) cs rfl rfl _ _ H.out.1 I32.out ZS.out ONE.out ?_)
 exact bodyPost_ret (results_cell_row rfl _ _ (w.heap.size+1) _ cs (0,0) _ rfl H.out.2 zbp rfl I32.out) rfl ⟨rfl,P6.out⟩
theorem qah{w:World}{base g:Nat}{V:Value}{F:List (List Nat)}(hL:LogOf tL w base g V F)(hbs:base<=w.heap.size){A:Option Addr}{cb:Nat}{b:List Nat}
 (hb:Reads w w.heap.size 1 A b.length (zah .u8 b))(h8:∀x∈b,x<256)(hbl:zy0 b)(hc:b.length<=cb)(hcb:cb<=9223372036854775807)(hfar:0<b.length-> ∀ad,A=some ad->ad.block∉g::zbg V)(hF:F.length<=1000000)(hG:∀w',Turns (g::zbg V) w w'->GlobIn w'):
 Calls Tryz.prog 23 #[.pointer (some ⟨g,0,none⟩),.slice A b.length cb] w (qfj b base g V F w):=by
 obtain⟨W0,hW0⟩:∃W,W=w.alloc (.cells (zap .u8 zad).toArray 35):=⟨_,rfl⟩;have n0:New w W0:=by rw[hW0];exact zac _ _
 have G0:Blk W0 w.heap.size tD (zap .u8 zad).toArray:=by rw[hW0];exact qrv _ _ _
 have O:=qrf (z1g (w:=W0) (c:=cb) (qsg hb n0) h8 hbl.1 hc hcb);have HW:=qrf hW0;have HL:=qrf hL;have HGL:=qrf (show g<w.heap.size from hL.lt);have HB:=qrf (qok hb (qok h8 (qok hbl (qok hc (qok hcb hfar)))));have HIS:=qrf (fun F' s (h:openO b=some (F',s))=>zoc h8 hbl.1 h);have HG:=qrf hG;have HBS:=qrf hbs;have HFl:=qrf hF;have N0:=qrf n0;have HG0:=qrf G0;unfold qfj;obtain⟨cs,hdv,I32,ZS,ONE,hcs⟩:=zex (zoe b);rw[hdv];have HER:=qrf (fun(h:openO b=none)=>z1h h);have HES:=qrf (fun F' s (h:openO b=some (F',s))=>z9h h);have HDV:=qrf hdv;have HCS:=qrf hcs;generalize z4z b=rd at*;generalize qau b=er at*;generalize zxe b=fr at*;have I32:=qrf I32;have ZS:=qrf ZS;have ONE:=qrf ONE;obtain⟨X,hX⟩:∃X,X=openO b:=⟨_,rfl⟩;have hX:=qrf hX.symm;clear hdv hcs;clear hW0 hL hb h8 hc hcb hfar hG hbs hF n0 G0;go_enter Tryz.func23,Tryz.ntmps23
 go_wp2_with fail
 rw[show w.alloc (.cells qsy 35)=W0 from HW.out.symm];refine O.out.mono ?_;rintro e W1 ⟨b1,hpost⟩;rw[hX.out] at hpost;have b01:=qr0 N0.out b1;have G1:=qrf (HG0.out.below b1 HG0.out.lt);have L1:=qrf (HL.out.new b01);clear O HG0;cases X with
 |none=>
  obtain rfl:=hpost;obtain⟨e1,e2,e3⟩:=HER.out hX.out;subst e2;subst e3;have PS:=qrf (fun(W:World) (n2:New W1 W)=>qok (zaf (G1.out.below n2 G1.out.lt)) (qok (zau (G1.out.below n2 G1.out.lt) cs) (zbz HGL.out (L1.out.new n2) (.inl rfl) (qr9 (qr0 b01 n2)) (G1.out.below n2 G1.out.lt) cs)));have hz:(.agg qsy:Value)= .agg cs:=by rw[HCS.out,e1];rfl
  have HZ:=qrf hz;clear hX hz e1 HCS HER HES HDV;go_wp2_with (first
   |(refine zan rfl 79 (.tmp 6) (.tmp 18) rfl W1.heap.size _ rfl rfl (qrv W1 79 #[.slice none 0 0,.int .i64 0,.slice none 0 0]) (by kernel_rfl) rfl (by simp[Value.oneCell']) ?_
     intro W2 BF G2;have b2:New W1 W2:=zbo ((qq8 _ _).alloc (ql6 _) _) G2 (ql6 _) (ql6 _);have HB2:=qrf b2;clear BF G2 b2)
   |(refine wpList_store_row rfl 35 (.tmp 4) (.tmp 23) rfl w.heap.size cs rfl HZ.out _ _ (PS.out W2 HB2.out).1 I32.out ZS.out ONE.out ?_))
  exact bodyPost_ret (zhv rfl _ _ w.heap.size _ cs (0,0) _ rfl (PS.out W2 HB2.out).2.1 zbp rfl I32.out) rfl ⟨rfl,by rw[qmg];exact(PS.out W2 HB2.out).2.2⟩
 |some x=>
  obtain⟨F',s⟩:=x;obtain⟨Ac,cc,L,r,Ag,cg,G,A1,m1,c1,rfl,hFP,FI,hcg,o1⟩:=hpost;dsimp only at hFP o1;obtain⟨f1,f2,f3,f4,f5,f6,f7⟩:=HIS.out F' s hX.out;obtain⟨hb,h8,hok,hc,hcb,hfar⟩:=HB.out;obtain⟨k1,k2,k3⟩:=hok.2 F' s hX.out;obtain⟨q1,q2,q3,q4⟩:=z1d b f1;have hbl:=hok.1;obtain⟨e1,e2,e3⟩:=HES.out F' s hX.out;subst e1;unfold zyz at e2;unfold zwi at e3;rw[<-hFP] at f1 f5 k2 k3 q1 q3 q4 e2 e3;have hFG:(zb5 L r G).groups=G.map grP:=rfl;rw[hFG] at f5 k2 k3 q1 q3 q4 e2 e3;have hs:4+szG (G.map grP)<=b.length:=by omega
  have CU:=fun(W:World) (hW:New W1 W)=>zy1 (r:=r) (cc:=cc) (cg:=cg) (qsg hb (qr0 b01 hW)) hbl hc hcb (FI.later hW) f1 hs
  unfold SheCutPostA at CU;have CU:=qrf CU;have HP:Hid (∀X∈zfx (G.map grP) (b.drop 4),∀x∈X,∀p∈x,(∀y∈p,y<256)/\p.length<=b.length/\p.length<=9000000):=qrf (by intro X hX x hx p hp;have hm:=qqh.2 ⟨x,qqh.2 ⟨X,hX,hx⟩,hp⟩;exact⟨fun y hy=>h8 y (qoo ((zn9 hm).1 y hy)),((q4 X hX).2 x hx).2 p hp,k3 p hm⟩)
  have HQ4:=qrf (fun X hX=>(q4 X hX).1);have HQ5:=qrf (fun X hX x hx=>((q4 X hX).2 x hx).1);have hwA:wA (zfx (G.map grP) (b.drop 4))<=5065536:=by omega
  generalize zfx (G.map grP) (b.drop 4)=CG at*;have HWA:=qrf hwA;rw[e2] at HDV;have HFR:=qrf e3;have HQ3:=qrf q3;have O1:=qrf o1;have HS7:=qrf (qok f7 k1);unfold zln at CU⊢;clear e2 e3 HCS HER HES;clear f1 f2 f3 f4 f5 f6 f7 hX HIS hb h8 hok hc hcb k1 k2 k3 q1 q2 q3 q4 hbl hFP hFG hs FI hcg hfar hwA o1
  go_upto_region 2 with(refine zan rfl 79 (.tmp 6) (.tmp 18) rfl W1.heap.size _ rfl rfl (qrv W1 79 #[.slice none 0 0,.int .i64 0,.slice none 0 0]) (by kernel_rfl) rfl (by simp[Value.oneCell']) ?_
                        intro W2 BF G2;have b2:New W1 W2:=zbo ((qq8 _ _).alloc (ql6 _) _) G2 (ql6 _) (ql6 _);obtain⟨x0,x1,x2⟩:=zar BF;clear G2)
  go_wp2_with fail
  refine(CU.out W2 b2).mono ?_;rintro e w4 ⟨AX,XR,rfl,b4,⟨RX,RXb⟩,HXR,hXP⟩;have BF4:=BF.below b4 BF.lt;have b14:=qr0 b2 b4;have b04:=qr0 b01 b14;have L4:=L1.out.new b14;have G4:=G1.out.below b14 G1.out.lt;have O4:=qrf (O1.out.later b14);have hlT:∀x∈g::zbg V,x<w.heap.size:=fun x hx=>by
   rcases qnu.1 hx with rfl|hx
   ·exact HGL.out
   ·exact(HL.out.ge x hx).2
  have hw2:w.heap.size<=W2.heap.size:=qlw b01.size b2.size;have RXT:=qrf (fun(W:World) (k:Turns (g::zbg V) w4 W)=>zdp RX k (fun _ ad ha hm=>by have:=RXb ad ha;have:=hlT _ hm;omega));have hXl:=congrArg List.length hXP;rw[qos] at hXl;have hXR:XR.length<=65536:=by have:=HQ3.out;omega
  have HROW:Hid (∀q∈XR,q.2.1=q.2.2.length/\(∀W,Turns (g::zbg V) w4 W->Reads W W.heap.size 1 q.1 q.2.2.length (recs zp7 q.2.2))/\ ∀r∈q.2.2,r.2.1=r.2.2.length/\DataF w4 r.1 r.2.2 (g::zbg V)):=qrf (by
   intro q hq;obtain⟨h1,h2,h3⟩:=HXR q hq;refine⟨h1,fun W k=>zdp h2.1 k (fun _ ad ha hm=>by have:=h2.2 ad ha;have:=hlT _ hm;omega),fun r hr=>?_⟩;obtain⟨h4,h5,h6⟩:=h3 r hr;have hqC:gpP q∈CG:=by rw[<-hXP];exact qly.2 ⟨q,hq,rfl⟩
   have hrC:rwP r∈gpP q:=qly.2 ⟨r,hr,rfl⟩;refine⟨h4,z9g (w:=w) hlT HB.out.2.2.2.2.2 ⟨h5.1,fun ad ha=>qlw hw2 (h5.2 ad ha)⟩ h6 (fun d hd=>?_)⟩;exact HP.out _ hqC _ hrC d.2.2 (qly.2 ⟨d,hd,rfl⟩))
  have HXP:=qrf hXP;have HXL:=qrf hXl;have S4:Hid (ChSt w4 base g V (.slice none 0 0) (F++((CG.take 0).flatMap zrj)) ((CG.take 0).map zqy) w4):=qrf (by simpa using ChSt.first L4);have HL4:=qrf L4;have HG4:=qrf G4;have HB04:=qrf b04;have HGT:=qrf (fun w' (t:Turns (g::zbg V) w4 w')=>HG.out w' ((qr9 b04).trans t));have HBS4:=qrf (qlw HBS.out b04.size);clear CU x0 x1 x2 BF b2 b4 BF4 b14 b04 L4 G4 L1 G1 O1 hlT hw2 RX RXb HXR hXP hXl HP HB HW HL b1 b01;go_wp2_with fail
  go_loopw [9,29] (fun v i wr=>∃k:Nat,k<=XR.length/\i= .int .i64 (k:Int)/\Hid (ChSt w4 base g V v (F++((CG.take k).flatMap zrj)) ((CG.take k).map zqy) wr)) (fun _ i _=>XR.length-(intOf i).toNat)
  case atStart=>exact⟨0,ql7 _,rfl,S4⟩
  case round=>
   obtain⟨k,hk,rfl,S5⟩:=hrel;clear S4;by_cases hlt:k<XR.length
   ·obtain⟨V5,l5,a5,t5,o5⟩:=S5.out
    obtain⟨ax,rfl,_,_,hcx⟩:=(RXT.out _ t5).rec_ (f:=zwj) (sz:=1) (fun _=>rfl) (none,0,[]) hlt (by omega);have hcx:=hcx 0 _ rfl;rw[qmd,qph] at hcx;obtain⟨h1,h2,h3⟩:=HROW.out _ (zax _ hlt);have hgP:gpP (XR.getD k (none,0,[]))=CG.getD k []:=by rw[<-HXP.out,zbw gpP XR (none,0,[]) [] hlt]
    have hkC:k<CG.length:=by rw[<-HXL.out];exact hlt
    have hXm:=zax [] hkC;have n64:=HQ4.out _ hXm;have n65:=HQ5.out _ hXm;have e1:(CG.take (k+1)).flatMap zrj=(CG.take k).flatMap zrj++zrj (CG.getD k []):=by rw[zae CG k [] hkC,qpl];simp
    have e2:(CG.take (k+1)).map zqy=(CG.take k).map zqy++[zqy (CG.getD k [])]:=by rw[zae CG k [] hkC,qpj];rfl
    have w1:=qhj hkC;have w2:=qkl CG (k+1);have w3:=zke (CG.take k);have hFk:(F++(CG.take k).flatMap zrj).length+wG (CG.getD k [])<=7000000:=by have:=HWA.out;have:=HFl.out;rw[qmv];omega
    have hE1:F++(CG.take (k+1)).flatMap zrj=(F++(CG.take k).flatMap zrj)++zrj (CG.getD k []):=by rw[e1,qmi]
    have hPk:((CG.take k).map zqy).length<=65536:=by rw[qos,ql2];omega
    have HE1:=qrf hE1;have HE2:=qrf e2;obtain⟨Fk,hFkk⟩:∃Fk,Fk=F++(CG.take k).flatMap zrj:=⟨_,rfl⟩;obtain⟨Pk,hPkk⟩:∃Pk,Pk=(CG.take k).map zqy:=⟨_,rfl⟩;obtain⟨X,hXX⟩:∃X,X=CG.getD k []:=⟨_,rfl⟩;rw[<-hFkk] at hFk l5 S5 HE1;rw[<-hPkk] at S5 HE2 hPk o5;rw[<-hXX] at hFk HE1 HE2 hgP n64 n65;generalize XR.getD k (none,0,[])=q at*;obtain⟨ga,gc,gl⟩:=q;dsimp only at hcx h1 h2 h3;have hgl:gl.length=X.length:=by rw[<-hgP];unfold gpP;rw[qos]
    have HGP:=qrf hgP;have H2:=qrf h2;have H3:=qrf h3;have HFk:=qrf hFk;have HPk:=qrf hPk;have HN:=qrf n65;have L5:=qrf l5;have A5:=qrf a5;have T5:=qrf t5;have HGL5:=qrf hgl;have hgl64:gl.length<=64:=by omega
    have hki:(k:Int)<(XR.length:Int):=by omega
    clear hgP hXm hkC e1 e2 hE1 w1 w2 w3 hFkk hPkk hXX h1 h2 h3 hFk hPk n64 n65 l5 a5 t5 o5 hgl;go_wp2_with fail
    clear hcx;generalize wr=w5 at*;have S6:Hid (ChSt w5 base g V5 (.slice none 0 0) (Fk++(X.take 0).flatMap (ovF zbx)) ((X.take 0).map (ovD zbx)) w5):=qrf (by simpa using ChSt.first L5.out);go_loopw [12,35] (fun v i wr=>∃j:Nat,j<=gl.length/\i= .int .i64 (j:Int)/\Hid (ChSt w5 base g V5 v (Fk++(X.take j).flatMap (ovF zbx)) ((X.take j).map (ovD zbx)) wr)) (fun _ i _=>gl.length-(intOf i).toNat)
    case atStart=>exact⟨0,ql7 _,rfl,S6⟩
    case round=>
     obtain⟨j,hj,rfl,S7⟩:=hrel;clear S6;by_cases hlj:j<gl.length
     ·obtain⟨V7,l7,a7,t7,o7⟩:=S7.out
      have t47:=zbm T5.out A5.out t7;have a47:=zdz T5.out.size A5.out a7;obtain⟨ac,rfl,_,_,hcy⟩:=(H2.out _ t47).rec_ (f:=zp7) (sz:=1) (fun _=>rfl) (none,0,[]) hlj (by omega);have hcy:=hcy 0 _ rfl;rw[qmd,qph] at hcy;obtain⟨i1,i2⟩:=H3.out _ (zax _ hlj);have hjX:j<X.length:=by rw[<-HGL5.out];exact hlj
      have hrP:rwP (gl.getD j (none,0,[]))=X.getD j []:=by rw[<-HGP.out];exact(zbw rwP gl (none,0,[]) [] hlj).symm
      have hxm:=HN.out _ (zax [] hjX);have e1:Fk++(X.take (j+1)).flatMap (ovF zbx)=(Fk++(X.take j).flatMap (ovF zbx))++ovF zbx (X.getD j []):=by rw[zae X j [] hjX,qpl,qmi];simp
      have e2:(X.take (j+1)).map (ovD zbx)=(X.take j).map (ovD zbx)++[ovD zbx (X.getD j [])]:=by rw[zae X j [] hjX,qpj];rfl
      have hF7:(Fk++(X.take j).flatMap (ovF zbx)).length+2*(X.getD j []).length<=8000000:=by have q1:=zmv (X.take j);have q2:=qhk hjX;have q3:=qkm X (j+1);have q4:=HFk.out;unfold wG at q4;rw[ql2] at q1;rw[qmv];omega
      have hP7:((X.take j).map (ovD zbx)).length<=65536:=by rw[qos,ql2];omega
      have HE3:=qrf e1;have HE4:=qrf e2;obtain⟨F7,hF77⟩:∃F7,F7=Fk++(X.take j).flatMap (ovF zbx):=⟨_,rfl⟩;obtain⟨P7,hP77⟩:∃P7,P7=(X.take j).map (ovD zbx):=⟨_,rfl⟩;rw[<-hF77] at S7 HE3 hF7 l7;rw[<-hP77] at S7 HE4 hP7 o7;obtain⟨x,hx⟩:∃x,x=X.getD j []:=⟨_,rfl⟩;rw[<-hx] at hrP hxm HE3 HE4 hF7;generalize gl.getD j (none,0,[])=r9 at*;obtain⟨ra,rc,rl⟩:=r9;dsimp only at hcy i1 i2 hrP;have hrl:rl.length=x.length:=by rw[<-hrP];unfold rwP;rw[qos]
      have CH:=zu1 (c:=rc) l7 (qlw HBS4.out (qlw T5.out.size t7.size)) (i2.turn t47 (fun y hy hm=>zmb hm hy a47)) (by omega) (fun w' t=>HGT.out w' (zbm t47 a47 t));rw[show rl.map (·.2.2)=x from hrP] at CH;have hdd:=zfy zbx x;generalize ovD zbx x=d at*;generalize ovF zbx x=fd at*;have HDS:Hid (Digs [d]):=qrf (fun y hy=>by obtain rfl:=qne.1 hy;exact hdd);have CH:=qrf CH;have HP7:=qrf hP7;have HL7:=qrf l7;have hji:(j:Int)<(gl.length:Int):=by omega
      clear hdd hrP hrl i1 i2 hF7 hP7 hxm hx hF77 hP77 e1 e2 hjX l7 a7 t7 o7 t47 a47;go_wp2_with fail
      refine CH.out.mono ?_;rintro e w8 ⟨rfl,V8,l8,a8,t8⟩;have S8:=S7.out.turn HL7.out l8 a8 t8;have n8:=zac w8 (.cells (recs zfh [d]).toArray 35);have S9:=qrf (S8.new n8);obtain⟨_,_,_,t9,o9⟩:=S9.out;have O9:=qrf o9;have LV:=qrf (zmc (w:=w8) HDS.out (T:=[]) (by simp)).row;have B9:=qrf t9.size;clear S8 n8 o9 t9 l8 a8 t8 CH hcy;go_wp2_with (first
       |(refine zj7 rfl 1 _ rfl [d] HDS.out rfl (by omega) (by omega) (by rw[qmp,qmq,qpn];rfl) ?_)
       |(refine zkg rfl (.tmp 39) (.tmp 43) rfl O9.out LV.out rfl rfl B9.out (by have:=HP7.out;rw[qp7];omega) ?_
         intro A9 c9 w10 _ _ o10 g10;rw[<-za7] at o10;have S10:=qrf (S9.out.push o10 (by rw[qmv]) g10);rw[<-HE3.out,<-HE4.out] at S10;clear o10 g10))
      go_roundw
      case rel=>exact⟨j+1,by omega,by go_num,S10⟩
      case measure=>simp[intOf];omega
     ·obtain rfl:j=gl.length:=by omega
      rw[HGL5.out,qp1] at S7;obtain⟨V7,l7,a7,t7,o7⟩:=S7.out;have t47:=zbm T5.out A5.out t7;have a47:=zdz T5.out.size A5.out a7;obtain⟨Ac7,cc7,rfl,r1,r2⟩:=zcy o7;have S8:=qrf (S5.out.join L5.out S7.out);have LI:=znz o7 rfl (z1b zbx X) l7;have hF7:(Fk++X.flatMap (ovF zbx)).length+2*(X.map (ovD zbx)).length<=8000000:=by have q1:=zmv X;have q4:=HFk.out;unfold wG at q4;rw[qmv,qos];omega
      have GR:=qrf (zu3 (c:=cc7) l7 (qlw HBS4.out (qlw T5.out.size t7.size)) LI hF7 (fun w' t=>HGT.out w' (zbm t47 a47 t)));have hE:(Fk++X.flatMap (ovF zbx))++ovF zcc (X.map (ovD zbx))=Fk++zrj X:=by rw[qmi];rfl
      have hD:ovD zcc (X.map (ovD zbx))=zqy X:=rfl;have hdd:=zz6 X;rw[hE,hD] at GR;have HL7:=qrf l7;have HDS:Hid (Digs [zqy X]):=qrf (fun y hy=>by obtain rfl:=qne.1 hy;exact hdd);generalize zqy X=d at*;generalize Fk++zrj X=fd at*;generalize Fk++X.flatMap (ovF zbx)=fe at*;generalize X.map (ovD zbx)=P7 at*;clear hdd hE hD hF7 LI l7 a7 t7 o7 t47 a47 r1 r2 S7 S5;go_wp2_with fail
      refine GR.out.mono ?_;rintro e w8 ⟨rfl,V8,l8,a8,t8⟩;have S9:=S8.out.turn HL7.out l8 a8 t8;have n8:=zac w8 (.cells (recs zfh [d]).toArray 35);have S9:=qrf (S9.new n8);obtain⟨_,_,_,t9,o9⟩:=S9.out;have O9:=qrf o9;have LV:=qrf (zmc (w:=w8) HDS.out (T:=[]) (by simp)).row;have B9:=qrf t9.size;clear n8 o9 t9 l8 a8 t8 GR S8;go_wp2_with (first
       |(refine zj7 rfl 1 _ rfl [d] HDS.out rfl (by omega) (by omega) (by rw[qmp,qmq,qpn];rfl) ?_)
       |(refine zkg rfl (.tmp 46) (.tmp 50) rfl O9.out LV.out rfl rfl B9.out (by have:=HPk.out;rw[qp7];omega) ?_
         intro A9 c9 w10 _ _ o10 g10;rw[<-za7] at o10;have S10:=qrf (S9.out.push o10 (by rw[qmv]) g10);rw[<-HE1.out,<-HE2.out] at S10;clear o10 g10))
      go_roundw
      case rel=>exact⟨k+1,by omega,by go_num,S10⟩
      case measure=>simp[intOf];omega
   ·obtain rfl:k=XR.length:=by omega
    rw[HXL.out,qp1] at S5;obtain⟨V5,l5,a5,t5,o5⟩:=S5.out;obtain⟨Ac5,cc5,rfl,r1,r2⟩:=zcy o5;have LI:=znz o5 rfl (zwg CG) l5;have hF5:(F++CG.flatMap zrj).length+2*(CG.map zqy).length<=8000000:=by have q1:=zke CG;have q2:=HWA.out;have q3:=HQ3.out;have q4:=HFl.out;rw[qmv,qos];omega
    have hF6:(F++qap CG).length<=10000000:=by have q1:=zke CG;have q2:=HWA.out;have q3:=HQ3.out;have q4:=HFl.out;have q5:=zme zbv (CG.map zqy);rw[qos] at q5;unfold qap;rw[qmv,qmv];omega
    have GS:=zrl (c:=cc5) l5 (qlw HBS4.out t5.size) LI hF5 (fun w' t=>HGT.out w' (zbm t5 a5 t));rw[qmi,show CG.flatMap zrj++ovF zbv (CG.map zqy)=qap CG from rfl,show ovD zbv (CG.map zqy)=z4x CG from rfl] at GS;have GS:=qrf GS;obtain rfl:m1=s.length:=by have:=O4.out.len;rwa[zaa] at this
    have hcap:=O4.out.cap;have hcm:=hcap.2;simp only[maxLen] at hcm;have FL:Hid (∀(W:World) (V8:Value),LogOf tL W base g V8 (F++qap CG)->(V8.ownBlock=V.ownBlock\/ ∃h,V8.ownBlock=some h/\w4.heap.size<=h)->Turns (g::zbg V) w4 W->Calls Tryz.prog 18 #[.pointer (some ⟨g,0,none⟩),.slice A1 s.length c1,dV (z4x CG)] W (zc3 tL (.agg cs) base g V8 (F++fr) W)):=qrf (by intro W V8 l8 a8 t8;have:=zs0 (c:=c1) (b:=z4x CG) l8 (qlw HBS4.out t8.size) hF6 (a:=s) (A:=A1) (zdp O4.out.reads t8 (fun h0=>qd1 O4.out HL4.out (by rw[zaa];exact h0))) HS7.out.1 hcap.1 (by omega) HS7.out.2 (zny CG) (fun w' t=>HGT.out w' (zbm t8 a8 t));rw[HDV.out,qmi,<-HFR.out] at this;exact this)
    have HL5:=qrf l5;have HA5:=qrf a5;have HT5:=qrf t5;have hcd:=zny CG;generalize z4x CG=ad at*;generalize F++qap CG=F6 at*;generalize CG.map zqy=P5 at*;clear LI hF5 hF6 l5 a5 t5 o5 r1 r2 S5 hcap hcm hcd;go_wp2_with fail
    refine GS.out.mono ?_;rintro e w8 ⟨rfl,V8,l8,a8,t8⟩;have t48:=zbm HT5.out HA5.out t8;have a48:=zdz HT5.out.size HA5.out a8;have FL:=qrf (FL.out w8 V8 l8 a48 t48);have HT8:=qrf t48;have HA8:=qrf a48;clear l8 a8 t8 t48 a48 GS HL5 HA5 HT5;go_wp2_with fail
    refine FL.out.mono ?_;rintro e w9 ⟨rfl,V9,l9,a9,t9⟩;have t49:=zbm HT8.out HA8.out t9;have a49:=zdz HT8.out.size HA8.out a9;have g9:=HG4.out.touch t49 (HL4.out.notT HG4.out (by decide) (by decide));have PS:=qrf (zbz HGL.out l9 (a49.imp id fun⟨h,h1,h2⟩=>⟨h,h1,qlw HB04.out.size h2⟩) ((qr9 HB04.out).trans t49) g9 cs);have H:=qrf (qok (zaf g9) (zau g9 cs));clear l9 a9 t9 t49 a49 g9 FL;go_wp2_with (refine wpList_store_row rfl 35 (.tmp 4) (.tmp 58) rfl w.heap.size cs rfl rfl _ _ H.out.1 I32.out ZS.out ONE.out ?_)
    exact bodyPost_ret (zhv rfl _ _ w.heap.size _ cs (0,0) _ rfl H.out.2 zbp rfl I32.out) rfl ⟨rfl,PS.out⟩
theorem zsl{s:List Nat}{L:List (List Nat)}(hs:∀x∈s,x<256)(hL:∀p∈L,∀x∈p,x<256)(ht:zem L<=9900000):∀f∈(za5 s L).toList,(∀x∈f,x<256)/\f.length<=10000000:=by
 intro f hf;cases ho:za5 s L with
 |none=>rw[ho] at hf;cases hf
 |some y=>
  rw[ho] at hf;obtain rfl:=qne.1 hf;exact⟨zfr hs hL ho,zew ho ht⟩
theorem zid{s:List Nat}{D:List (List Nat)}(hs:∀x∈s,x<256)(hD:∀d∈D,(∀x∈d,x<256)/\d.length<=9000000):GoodF (ovF s D):=by unfold ovF;refine qsm (fun f hf=>?_) (z2j (zfm s D));unfold lvF at hf;obtain⟨k,hk,hf⟩:=qov.1 hf;obtain⟨h1,h2⟩:=hD _ (zgu (qot.1 hk));generalize D.getD k []=d at*;exact zsl hs (zz3 h1) (by unfold zem;rw[zia];simp[zbe];omega) f hf
theorem zoi{d:List Nat}(h:zim d):(∀x∈d,x<256)/\d.length<=9000000:=⟨h.2,by rw[h.1];omega⟩
theorem flat_good{α:Type}{f:α->List (List Nat)}{X:List α}(h:∀x∈X,GoodF (f x)):GoodF (X.flatMap f):=fun y hy=>by obtain⟨x,hx,hy⟩:=qov.1 hy;exact h x hx y hy
theorem qai{b:List Nat}(h8:∀x∈b,x<256)(hl:zy0 b):GoodF (zxe b):=by
 unfold zxe;cases ho:openO b with
 |none=>exact fun f hf=>nomatch hf
 |some x=>
  obtain⟨F,s⟩:=x;obtain⟨l1,l2,l3⟩:=hl.2 F s ho;have hl1:=hl.1;obtain⟨a1,a2,a3,a4,a5,a6,a7⟩:=zoc h8 hl.1 ho;have hm:∀X∈zfx F.groups (b.drop 4),∀x∈X,∀p∈x,(∀y∈p,y<256)/\p.length<=9000000:=by intro X hX x hx p hp;have hm:=qqh.2 ⟨x,qqh.2 ⟨X,hX,hx⟩,hp⟩;exact⟨fun y hy=>h8 y (qoo ((zn9 hm).1 y hy)),l3 p hm⟩
  dsimp only;unfold zwi qap zjx;refine qsm (qsm (flat_good fun X hX=>?_) (zid (by decide) fun d hd=>zoi (zwg _ d hd))) (fun f hf=>?_)
  ·unfold zrj
   exact qsm (flat_good fun x hx=>zid (by decide) (hm X hX x hx)) (zid (by decide) fun d hd=>zoi (z1b _ _ d hd))
  ·obtain rfl:=qne.1 hf
   refine⟨zfr (s:=zdv) (L:=[s,z4x (zfx F.groups (b.drop 4))]) (by decide) (fun p hp=>?_) zf8,?_⟩
   ·simp only[qnu,qpt,or_false] at hp
    rcases hp with rfl|rfl
    ·exact a7
    ·exact(zny _).2
   ·exact zew (s:=zdv) (L:=[s,z4x (zfx F.groups (b.drop 4))]) zf8 (by simp[zem,(zny _).1];omega)
def qka(b:List Nat)(w:World)(g h:Nat)(F F':List (List Nat))(W:World):Ending->World->Prop:=TwPost (.tuple #[dV (z4z b),.int .i64 (qau b)]) w g h (F++zxe b) F' W
section
variable{w W:World}{g h:Nat}{F F':List (List Nat)}
theorem zqo(hG:GlobIn w)(hg:w.heap.size<=g){V:Value}(l:LogOf tL W w.heap.size g V F)(n:New w W):∀w',Turns (g::zbg V) W w'->GlobIn w':=fun _ t=>hG.new (qse n t (l.own (ql6 _) hg) (ql6 _))
theorem qaj(hg:w.heap.size<=g)(hne:g≠h)(hG:GlobIn w)(l:Tw w g h W F F'){A:Option Addr}{c:Nat}{b:List Nat}(hb:BIn w W A b)(h8:∀x∈b,x<256)(hbl:zy0 b)(hc:b.length<=c)(hcm:c<=9223372036854775807)(hF:F.length<=1000000):
 Calls Tryz.prog 23 #[.pointer (some ⟨g,0,none⟩),.slice A b.length c] W (qka b w g h F F' W):=by
 obtain⟨V,lV⟩:=l.log;refine(qah lV l.news.size (hb.reads l.news) h8 hbl hc hcm (hb.far hg lV) hF (zqo hG hg lV l.news)).mono fun e W' p=>?_
 exact l.call hg hne lV p
theorem zzh(hg:w.heap.size<=g)(hne:g≠h)(hG:GlobIn w)(l:Tw w g h W F F'){s d:List Nat}{k n:Int}{A:Option Addr}{c:Nat}(hs8:∀x∈s,x<256)(hs:s.length<=140737488351232)(hd:Reads W W.heap.size 1 A d.length (zah .u8 d))(h8:∀x∈d,x<256)(hdl:d.length<=9000000)(hc:d.length<=c)(hcm:c<=9223372036854775807)(hF:F.length<=1000000):
 Calls Tryz.prog 34 #[.pointer (some ⟨g,0,none⟩),.string (zai s),.int .i64 k,.int .i64 n,.slice A d.length c] W (TwPost (dV (zb4 s (leafP k n d))) w g h (F++(za5 s (leafP k n d)).toList) F' W):=by
 obtain⟨V,lV⟩:=l.log;have:=zzy (k:=k) (n:=n) lV l.news.size (by omega) hs8 hs hd h8 hdl hc hcm (fun w' t=>(zqo hG hg lV l.news w' t).1);rw[zgg] at this;exact this.mono fun _ _ p=>l.call hg hne lV p
theorem qh0(hg:w.heap.size<=g)(hne:g≠h)(hG:GlobIn w)(l:Tw w g h W F F'){A:Option Addr}{c:Nat}{a b:List Nat}(hd:Reads W W.heap.size 1 A a.length (zah .u8 a))(h8:∀x∈a,x<256)(hal:a.length<=9000000)(hc:a.length<=c)(hcm:c<=9223372036854775807)(hb:zim b)(hF:F.length<=1000000):
 Calls Tryz.prog 18 #[.pointer (some ⟨g,0,none⟩),.slice A a.length c,dV b] W (TwPost (dV (zqz a b)) w g h (F++zjx a b) F' W):=by
 obtain⟨V,lV⟩:=l.log;exact(zs0 lV l.news.size (by omega) hd h8 hc hcm hal hb (zqo hG hg lV l.news)).mono fun _ _ p=>l.call hg hne lV p
end
end Go.Proofs.Y
