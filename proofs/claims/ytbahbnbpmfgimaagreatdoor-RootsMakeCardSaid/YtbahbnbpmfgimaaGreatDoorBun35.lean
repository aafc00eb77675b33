import Derived.Test.YtbahbnbpmfgimaaGreatDoorBun32
import Derived.Test.YtbahbnbpmfgimaaGreatDoorBun34
set_option maxHeartbeats 2000000
set_option maxRecDepth 100000
namespace Go.Proofs.Y
open Go.RowKit Go.Hm
def kindS:List (List Nat):=[zbx,zcc,zbv,zdv]
def KindsIn(w:World):Prop:=0<w.heap.size/\ ∀i,i<4->w.cell? ⟨0,i,none⟩=some (.string (zai (kindS.getD i [])))
theorem KindsIn.new{w w':World}(h:KindsIn w)(hb:New w w'):KindsIn w':=⟨qlz h.1 hb.size,fun i hi=>(hb.cell h.1).trans (h.2 i hi)⟩
def GlobIn(w:World):Prop:=ConstIn w/\KindsIn w
theorem GlobIn.new{w w':World}(h:GlobIn w)(hb:New w w'):GlobIn w':=⟨h.1.new hb,h.2.new hb⟩
theorem zuz(s:List Nat)(D:List (List Nat)):ovD s D=(zel (lvD s D)).1:=by unfold ovD;rfl
theorem zu0(s:List Nat)(D:List (List Nat)):ovF s D=lvF s D++(zel (lvD s D)).2:=by unfold ovF;rfl
theorem znz{w:World}{base base' g n c:Nat}{A:Option Addr}{V:Value}{F L:List (List Nat)}(h:w.ownsRow base' tD 32 (.slice A n c) n (recs zfh L))(hn:n=L.length)(hd:Digs L)(l:LogOf tL w base g V F):LeafIn w A L (g::zbg V):=by
 subst hn;refine⟨qrt h,hd,fun h0 ad ha=>?_⟩;subst ha;rcases h.2 with⟨e,h2⟩|⟨g',cap,cur,hv,_,hg,_⟩
 ·omega
 ·injection hv with e1 e2 e3
  injection e1 with e1;subst e1;exact l.notT (show Blk w g' tD cur from hg) (by decide) (by decide)
theorem zu1{w:World}{base g:Nat}{V:Value}{F:List (List Nat)}(hL:LogOf tL w base g V F)(hbs:base<=w.heap.size){A:Option Addr}{c:Nat}{D:List zgp}(hD:DataF w A D (g::zbg V))(hF:F.length+2*D.length<=8000000)(hG:∀w',Turns (g::zbg V) w w'->GlobIn w'):
 Calls Tryz.prog 12 #[.pointer (some ⟨g,0,none⟩),.slice A D.length c] w (zc3 tL (dV (ovD zbx (D.map (·.2.2)))) base g V (F++ovF zbx (D.map (·.2.2))) w):=by
 rw[zuz,zu0];have DG:=zfm zbx (D.map (·.2.2));have LL:=zg5 zbx (D.map (·.2.2));have FL:=zj8 zbx (D.map (·.2.2));rw[qos] at LL FL;have c0:=zac w (.cells (zap .u8 zad).toArray 35);have G0:=qrv w 35 (zap .u8 zad).toArray;have hgl:g<w.heap.size:=hL.lt;obtain⟨W0,hW0⟩:∃W,W=w.alloc (.cells (zap .u8 zad).toArray 35):=⟨_,rfl⟩;rw[<-hW0] at c0 G0;have LV:=qrf (zmf (w:=W0) (c:=c) (s:=zbx) (hL.new c0) (qlw hbs c0.size) (by decide) (by decide) (hD.turn (qr9 c0) (fun _ _ h=>h)) (by omega) (fun w' k=>(hG w' ((qr9 c0).trans k)).1));have K0:=(hG W0 (qr9 c0)).2.2 0 (by omega);have K0:W0.cell? ⟨0,0,none⟩=some (.string (zai zbx)):=K0;have HW:=qrf hW0;have HL:=qrf hL;have HG:=qrf hG;have C0:=qrf c0;have HBS:=qrf hbs;have L1:=zdn _ DG;rw[<-qmi];generalize lvD zbx (D.map (·.2.2))=Lv at*;generalize lvF zbx (D.map (·.2.2))=Fv at*;obtain⟨cs,hdv,I32,ZS,ONE,hcs⟩:=zex L1;have HV:=qrf hdv;replace I32:=qrf I32;replace ZS:=qrf ZS;replace ONE:=qrf ONE;replace DG:=qrf DG;replace G0:=qrf G0;replace LL:=qrf LL;replace FL:=qrf FL;have HGL:=qrf hgl;rw[hdv];clear L1 hcs hdv hgl;have K1:=K0;rw[show W0=w.alloc (.cells qsy 35) from hW0] at K1;clear hW0 hL hG c0 hbs hD K0;go_enter Tryz.func12,Tryz.ntmps12
 go_wp2_with fail
 rw[show w.alloc (.cells qsy 35)=W0 from HW.out.symm];refine LV.out.mono ?_;rintro e w2 ⟨v,rfl,o2,V2,l2,a2,t2⟩;obtain⟨A2,c2,rfl,q1,q2⟩:=zcy o2;have t2':Turns (g::zbg V) w w2:=(qr9 C0.out).trans t2;have a2':V2.ownBlock=V.ownBlock\/ ∃h,V2.ownBlock=some h/\w.heap.size<=h:=a2.imp id fun⟨h,h1,h2⟩=>⟨h,h1,qlw C0.out.size h2⟩
 have g2:=G0.out.touch t2 ((HL.out.new C0.out).notT G0.out (by decide) (by decide));have nr2:w.heap.size∉g::zbg V2:=l2.notT g2 (by decide) (by decide);have RT:=qrf (zz1 (Lv.length+1) (qpz _) l2 (qlw HBS.out t2'.size) (by have:=LL.out;have:=FL.out;rw[qmv];omega) (znz o2 rfl DG.out l2) q1 (by simp only[maxLen] at q2;omega) (fun w' k=>(HG.out w' (zbm t2' a2' k)).1));have T2:=qrf t2';have A2':=qrf a2';have G2:=qrf g2;have NR:=qrf nr2;clear q1 q2 K1 o2 l2 a2 t2 t2' a2' g2 nr2 LV G0;go_wp2_with fail
 refine RT.out.mono ?_;rintro e w4 ⟨rfl,V4,l4,a4,t4⟩;have g4:=G2.out.touch t4 NR.out;have PS:=qrf (zbz HGL.out l4 (zdz T2.out.size A2'.out a4) (zbm T2.out A2'.out t4) g4 cs);have H:=qrf (qok (zaf g4) (zau g4 cs));rw[HV.out];clear l4 a4 t4 g4 RT;go_wp2_with (refine wpList_store_row rfl 35 (.tmp 4) (.tmp 11) rfl w.heap.size cs rfl rfl _ _ H.out.1 I32.out ZS.out ONE.out ?_)
 exact bodyPost_ret (results_cell_row rfl _ _ w.heap.size _ cs (0,0) _ rfl H.out.2 zbp rfl I32.out) rfl ⟨rfl,by simpa only[qmi] using PS.out⟩
def zih(A:Option Addr)(L:List (List Nat)):List zgp:=(List.range L.length).map fun k=>(A.map (·.add (k*32)),32,L.getD k [])
theorem zhj(A:Option Addr)(L:List (List Nat)):(zih A L).length=L.length:=by simp[zih]
theorem zxr(A:Option Addr)(L:List (List Nat)):(zih A L).map (·.2.2)=L:=by
 refine qmk (by simp[zih]) fun i h1 h2=>?_
 simp[zih,List.getD_eq_getElem?_getD,List.getElem?_eq_getElem h2]
theorem qbw(A:Option Addr)(L:List (List Nat)){k:Nat}(hk:k<L.length):(zih A L).getD k (none,0,[])=(A.map (·.add (k*32)),32,L.getD k []):=by rw[qnp];simp[zih,hk]
theorem z6p{A:Option Addr}{L:List (List Nat)}{d:zgp}(h:d∈zih A L):∃k,k<L.length/\d=(A.map (·.add (k*32)),32,L.getD k []):=by unfold zih at h;obtain⟨k,hk,rfl⟩:=qly.1 h;exact⟨k,qot.1 hk,rfl⟩
theorem z2o(A:Option Addr)(L:List (List Nat)){k:Nat}(hk:k<L.length):(zih A L).take (k+1)=(zih A L).take k++[(A.map (·.add (k*32)),32,L.getD k [])]:=by
 have e:=qbw A L hk;have hk':k<(zih A L).length:=by rw[zhj];exact hk
 rw[qnp,qlx hk'] at e;rw[<-e,List.take_add_one,qlx hk'];rfl
theorem LeafIn.subs{w:World}{A:Option Addr}{L:List (List Nat)}{T:List Nat}(h:LeafIn w A L T):∀d∈zih A L,BytIn w d/\(0<d.2.2.length-> ∀ad,d.1=some ad->ad.block∉T)/\d.2.2.length<=d.2.1/\d.2.1<=9223372036854775807/\(∀x∈d.2.2,x<256)/\d.2.2.length<=9000000:=by
 intro d hd;obtain⟨k,hk,rfl⟩:=z6p hd;obtain⟨ad,e,hc⟩:=h.at_ hk;obtain⟨ad',e',hb,_⟩:=h.row.2 (by omega);rw[e] at e';injection e' with e';subst e';subst e;have hm:L.getD k []∈L:=zd4 [] hk;obtain⟨d1,d2⟩:=h.digs _ hm;refine⟨⟨by simp[zah],fun _=>⟨_,rfl,by rw[zao];exact hb,fun j u hu=>hc w (qq8 _ _) j u hu⟩⟩,fun _ a ha=>?_,?_,?_,d2,?_⟩
 ·simp only[qo5,qll] at ha
  subst ha;rw[zao];exact h.far (by omega) _ rfl
 all_goals simp only;omega
theorem z0a{i:Nat}(h:i<4):(∀x∈kindS.getD i [],x<256)/\(kindS.getD i []).length<=140737488351232:=by
 match i,h with
 |0,_=>exact by decide
 |1,_=>exact by decide
 |2,_=>exact by decide
 |3,_=>exact by decide
theorem qbx{α:Type}(X Y:List α)(o u:α){k:Nat}(h:X.length=k):(X++o::Y).toArray.setIfInBounds k u=(X++u::Y).toArray:=by subst h;rw[qoi,qn5 _ _ (ql6 _),qn6];rfl
def qkh(w:World)(A:Option Addr)(L:List (List Nat))(k:Nat)(W:World):Prop:=
 New w W/\Blk W w.heap.size tD (zap .u8 zad).toArray/\Blk W (w.heap.size+1) 24 (recs zgq ((zih A L).take k)++List.replicate (L.length-k) (Value.slice none 0 0)).toArray
theorem zu2{w:World}{base g:Nat}{V:Value}{F:List (List Nat)}(hL:LogOf tL w base g V F)(hbs:base<=w.heap.size){A:Option Addr}{c:Nat}{L:List (List Nat)}(hl:LeafIn w A L (g::zbg V)){i:Nat}(hi:i<4)(hF:F.length+2*L.length<=8000000)(hG:∀w',Turns (g::zbg V) w w'->GlobIn w'):
 Calls Tryz.prog 38 #[.pointer (some ⟨g,0,none⟩),.int .i64 (i:Int),.slice A L.length c] w (zc3 tL (dV (ovD (kindS.getD i []) L)) base g V (F++ovF (kindS.getD i []) L) w):=by
 rw[zuz,zu0,<-qmi];have DG:=zfm (kindS.getD i []) L;have LL:=zg5 (kindS.getD i []) L;have FL:=zj8 (kindS.getD i []) L;have L1:=zdn _ DG;obtain⟨Lv,hLv⟩:∃x,x=lvD (kindS.getD i []) L:=⟨_,rfl⟩;obtain⟨Fv,hFv⟩:∃x,x=lvF (kindS.getD i []) L:=⟨_,rfl⟩;obtain⟨ks,hks⟩:∃x,x=kindS.getD i []:=⟨_,rfl⟩;rw[<-hLv] at DG LL L1⊢;rw[<-hFv] at FL⊢;rw[<-hks] at hLv hFv;obtain⟨cs,hdv,I32,ZS,ONE,hcs⟩:=zex L1;rw[hdv];have HV:=qrf hdv;have HK:=qrf hks;have HLV:=qrf hLv;have HFV:=qrf hFv;replace I32:=qrf I32;replace ZS:=qrf ZS;replace ONE:=qrf ONE;replace DG:=qrf DG;replace LL:=qrf LL;replace FL:=qrf FL;clear hcs hdv L1 hks hLv hFv;have c0:=zac w (.cells (zap .u8 zad).toArray 35);have G0:=qrv w 35 (zap .u8 zad).toArray;have hgl:g<w.heap.size:=hL.lt;have HGL:=qrf hgl;have HL:=qrf hL;have HG:=qrf hG;have HBS:=qrf hbs;have HLf:=qrf hl;have C0:=qrf c0;replace G0:=qrf G0;clear hL hG hbs hl hgl c0;go_enter Tryz.func38,Tryz.ntmps38
 go_wp2_with (refine zmg elR rfl (.tmp 10) (.tmp 10) rfl L.length rfl rfl rfl rfl rfl (by omega) (by simp only[maxLen];omega) ?_
              intro w1 B1 n1 z1)
 rw[qrq] at B1;have S0:qkh w A L 0 w1:=⟨qr0 C0.out n1,G0.out.below n1 G0.out.lt,by simpa[recs] using B1⟩;replace S0:=qrf S0;clear B1 n1 z1;have HF:=hF;go_loopw [14] (fun j wr=>∃k:Nat,k<=L.length/\j= .int .i64 (k:Int)/\Hid (qkh w A L k wr)) (fun j _=>L.length-(intOf j).toNat)
 case atStart=>exact⟨0,ql7 _,rfl,S0⟩
 case round=>
  obtain⟨k,hk,rfl,HS⟩:=hrel;clear S0;by_cases hlt:k<L.length
  ·obtain⟨N1,G1,B1⟩:=HS.out
   obtain⟨ad,rfl,hb,hc⟩:=HLf.out.row.2 (by omega);have hd32:(L.getD k []).length=32:=(HLf.out.digs _ (zd4 [] hlt)).1;have e4:L.length-k=(L.length-(k+1))+1:=by omega
   have hX:(recs zgq ((zih (some ad) L).take k)).length=k:=by rw[zaz (sz:=1) zz8,ql2,zhj];omega
   rw[e4,qn7] at B1;have hki:(k:Int)<(L.length:Int):=by omega
   replace N1:=qrf N1;replace G1:=qrf G1;replace B1:=qrf B1;replace hX:=qrf hX;replace hd32:=qrf hd32;clear hb hc e4
   go_wp2_with (refine ze5 rfl 24 (.tmp 23) (.tmp 22) rfl (w.heap.size+1) k (.slice (some (ad.add (k*32))) 32 32) rfl rfl B1.out (by have:=hX.out;simp;omega) (by kernel_rfl) rfl ?_
                intro W3 B3 g3 z3)
   have HSn:qkh w (some ad) L (k+1) W3:=by
    refine⟨zbo N1.out g3 (qp0 _) (ql6 _),G1.out.touch (qsa (T:=[w.heap.size+1]) g3 (by simp)) (by simp),?_⟩;rw[qbx _ _ _ _ hX.out] at B3;have e5:recs zgq ((zih (some ad) L).take (k+1))++List.replicate (L.length-(k+1)) (Value.slice none 0 0)=recs zgq ((zih (some ad) L).take k)++Value.slice (some (ad.add (k*32))) 32 32::List.replicate (L.length-(k+1)) (Value.slice none 0 0):=by
     rw[z2o _ _ hlt,za7,qmi];congr 1
     show zgq _++[]++_=_;unfold zgq;rw[hd32.out];rfl
    rw[e5];exact B3
   have HSn:=qrf HSn;clear HS B3 g3 z3 N1 G1 B1 hX;go_wp2_with fail
   case' roundEnd=>skip
   exact⟨⟨k+1,by omega,by go_num,HSn⟩,by simp[intOf];omega⟩
  ·obtain rfl:k=L.length:=by omega
   obtain⟨N1,G1,B1⟩:=HS.out;rw[qn6,qpq,qmg,<-zhj A L,qp1] at B1;have nT:w.heap.size+1∉g::zbg V:=by
    intro hm;rcases qnu.1 hm with e|hm
    ·have:=HGL.out;omega
    ·obtain⟨A',n',c',D',e',_,o',_⟩:=HL.out
     rw[e'] at hm;rcases o'.2 with⟨e2,_⟩|⟨g',cap,cur,hv,_,hg,_⟩
     ·rw[e2] at hm
      simp[zbg,Value.ownBlock] at hm
     ·rw[hv] at hm
      simp[zbg,Value.ownBlock] at hm;have:=Blk.lt (show Blk w g' _ cur from hg);omega
   have hlN:=HLf.out.turn (qr9 N1) (fun _ _ h=>h);have hD:DataF wr (some ⟨w.heap.size+1,0,none⟩) (zih A L) (g::zbg V):=by refine⟨qrt (zuy (sz:=1) B1 (by rw[zaz (sz:=1) zz8]) (by rw[zhj];simp only[maxLen];omega)),fun _ ad ha=>?_,LeafIn.subs hlN⟩;injection ha with ha;subst ha;exact nT
   have LV:=zmf (w:=wr) (c:=L.length) (s:=kindS.getD i []) (HL.out.new N1) (qlw HBS.out N1.size) (z0a hi).1 (z0a hi).2 hD (by rw[zhj];omega) (fun w' k=>(HG.out w' ((qr9 N1).trans k)).1);rw[zhj,zxr] at LV;have K1:wr.cell? ⟨0,i,none⟩=some (.string (zai (kindS.getD i []))):=(HG.out wr (qr9 N1)).2.2 i hi;rw[<-HK.out,<-HLV.out,<-HFV.out] at LV;rw[<-HK.out] at K1;replace LV:=qrf LV;replace N1:=qrf N1;replace G1:=qrf G1;have hil:(i:Int)<4:=by omega
   clear HS B1 nT hlN hD C0 G0 hk hlt;go_wp2_with fail
   refine LV.out.mono ?_;rintro e w2 ⟨v,rfl,o2,V2,l2,a2,t2⟩;obtain⟨A2,c2,rfl,q1,q2⟩:=zcy o2;have t2':Turns (g::zbg V) w w2:=(qr9 N1.out).trans t2;have a2':V2.ownBlock=V.ownBlock\/ ∃h,V2.ownBlock=some h/\w.heap.size<=h:=a2.imp id fun⟨h,h1,h2⟩=>⟨h,h1,qlw N1.out.size h2⟩
   have g2:=G1.out.touch t2 ((HL.out.new N1.out).notT G1.out (by decide) (by decide));have nr2:w.heap.size∉g::zbg V2:=l2.notT g2 (by decide) (by decide);have RT:=qrf (zz1 (Lv.length+1) (qpz _) l2 (qlw HBS.out t2'.size) (by have:=LL.out;have:=FL.out;rw[qmv];omega) (znz o2 rfl DG.out l2) q1 (by simp only[maxLen] at q2;omega) (fun w' k=>(HG.out w' (zbm t2' a2' k)).1));have T2:=qrf t2';have A2':=qrf a2';have G2:=qrf g2;have NR:=qrf nr2;clear q1 q2 K1 o2 l2 a2 t2 t2' a2' g2 nr2 LV G1 N1;go_wp2_with fail
   refine RT.out.mono ?_;rintro e w4 ⟨rfl,V4,l4,a4,t4⟩;have g4:=G2.out.touch t4 NR.out;have PS:=qrf (zbz HGL.out l4 (zdz T2.out.size A2'.out a4) (zbm T2.out A2'.out t4) g4 cs);have H:=qrf (qok (zaf g4) (zau g4 cs));rw[HV.out];clear l4 a4 t4 g4 RT;go_wp2_with (refine wpList_store_row rfl 35 (.tmp 6) (.tmp 32) rfl w.heap.size cs rfl rfl _ _ H.out.1 I32.out ZS.out ONE.out ?_)
   exact bodyPost_ret (results_cell_row rfl _ _ w.heap.size _ cs (0,0) _ rfl H.out.2 zbp rfl I32.out) rfl ⟨rfl,by simpa only[qmi] using PS.out⟩
theorem zu3{w:World}{base g:Nat}{V:Value}{F:List (List Nat)}(hL:LogOf tL w base g V F)(hbs:base<=w.heap.size){A:Option Addr}{c:Nat}{L:List (List Nat)}(hl:LeafIn w A L (g::zbg V))(hF:F.length+2*L.length<=8000000)(hG:∀w',Turns (g::zbg V) w w'->GlobIn w'):
 Calls Tryz.prog 14 #[.pointer (some ⟨g,0,none⟩),.slice A L.length c] w (zc3 tL (dV (ovD zcc L)) base g V (F++ovF zcc L) w):=by
 have c0:=zac w (.cells (zap .u8 zad).toArray 35);have G0:=qrv w 35 (zap .u8 zad).toArray;obtain⟨W0,hW0⟩:∃W,W=w.alloc (.cells (zap .u8 zad).toArray 35):=⟨_,rfl⟩;rw[<-hW0] at c0 G0;have OV:=zu2 (w:=W0) (c:=c) (i:=1) (hL.new c0) (qlw hbs c0.size) (hl.turn (qr9 c0) (fun _ _ h=>h)) (by omega) hF (fun w' k=>hG w' ((qr9 c0).trans k));rw[show kindS.getD 1 []=zcc from rfl] at OV;have L1:zim (ovD zcc L):=zfy _ _;generalize ovD zcc L=od at*;generalize ovF zcc L=of_ at*;obtain⟨cs,hdv,I32,ZS,ONE,hcs⟩:=zex L1;rw[hdv] at OV⊢;have HGL:=qrf (show g<w.heap.size from hL.lt);have HNT:=qrf ((hL.new c0).notT G0 (by decide) (by decide));replace G0:=qrf G0;replace OV:=qrf OV;have C0:=qrf c0;have HW:=qrf hW0;replace I32:=qrf I32;replace ZS:=qrf ZS;replace ONE:=qrf ONE;clear hdv L1 hcs hL hbs hl hG c0 hW0;go_enter Tryz.func14,Tryz.ntmps14
 go_wp2_with fail
 rw[show w.alloc (.cells qsy 35)=W0 from HW.out.symm];refine OV.out.mono ?_;rintro e w4 ⟨rfl,V4,l4,a4,t4⟩;have g4:=G0.out.touch t4 HNT.out;have PS:=qrf (zbz HGL.out l4 (a4.imp id fun⟨h,h1,h2⟩=>⟨h,h1,qlw C0.out.size h2⟩) ((qr9 C0.out).trans t4) g4 cs);have H:=qrf (qok (zaf g4) (zau g4 cs));clear l4 a4 t4 g4 OV;go_wp2_with (refine wpList_store_row rfl 35 (.tmp 4) (.tmp 7) rfl w.heap.size cs rfl rfl _ _ H.out.1 I32.out ZS.out ONE.out ?_)
 exact bodyPost_ret (results_cell_row rfl _ _ w.heap.size _ cs (0,0) _ rfl H.out.2 zbp rfl I32.out) rfl ⟨rfl,PS.out⟩
theorem zrl{w:World}{base g:Nat}{V:Value}{F:List (List Nat)}(hL:LogOf tL w base g V F)(hbs:base<=w.heap.size){A:Option Addr}{c:Nat}{L:List (List Nat)}(hl:LeafIn w A L (g::zbg V))(hF:F.length+2*L.length<=8000000)(hG:∀w',Turns (g::zbg V) w w'->GlobIn w'):
 Calls Tryz.prog 16 #[.pointer (some ⟨g,0,none⟩),.slice A L.length c] w (zc3 tL (dV (ovD zbv L)) base g V (F++ovF zbv L) w):=by
 have c0:=zac w (.cells (zap .u8 zad).toArray 35);have G0:=qrv w 35 (zap .u8 zad).toArray;obtain⟨W0,hW0⟩:∃W,W=w.alloc (.cells (zap .u8 zad).toArray 35):=⟨_,rfl⟩;rw[<-hW0] at c0 G0;have OV:=zu2 (w:=W0) (c:=c) (i:=2) (hL.new c0) (qlw hbs c0.size) (hl.turn (qr9 c0) (fun _ _ h=>h)) (by omega) hF (fun w' k=>hG w' ((qr9 c0).trans k));rw[show kindS.getD 2 []=zbv from rfl] at OV;have L1:zim (ovD zbv L):=zfy _ _;generalize ovD zbv L=od at*;generalize ovF zbv L=of_ at*;obtain⟨cs,hdv,I32,ZS,ONE,hcs⟩:=zex L1;rw[hdv] at OV⊢;have HGL:=qrf (show g<w.heap.size from hL.lt);have HNT:=qrf ((hL.new c0).notT G0 (by decide) (by decide));replace G0:=qrf G0;replace OV:=qrf OV;have C0:=qrf c0;have HW:=qrf hW0;replace I32:=qrf I32;replace ZS:=qrf ZS;replace ONE:=qrf ONE;clear hdv L1 hcs hL hbs hl hG c0 hW0;go_enter Tryz.func16,Tryz.ntmps16
 go_wp2_with fail
 rw[show w.alloc (.cells qsy 35)=W0 from HW.out.symm];refine OV.out.mono ?_;rintro e w4 ⟨rfl,V4,l4,a4,t4⟩;have g4:=G0.out.touch t4 HNT.out;have PS:=qrf (zbz HGL.out l4 (a4.imp id fun⟨h,h1,h2⟩=>⟨h,h1,qlw C0.out.size h2⟩) ((qr9 C0.out).trans t4) g4 cs);have H:=qrf (qok (zaf g4) (zau g4 cs));clear l4 a4 t4 g4 OV;go_wp2_with (refine wpList_store_row rfl 35 (.tmp 4) (.tmp 7) rfl w.heap.size cs rfl rfl _ _ H.out.1 I32.out ZS.out ONE.out ?_)
 exact bodyPost_ret (results_cell_row rfl _ _ w.heap.size _ cs (0,0) _ rfl H.out.2 zbp rfl I32.out) rfl ⟨rfl,PS.out⟩
theorem zf8{a b:List Nat}:za5 zdv [a,b]=some (zc2 zdv [a,b]):=by unfold za5;exact if_pos ⟨by decide,by decide,by simp⟩
theorem zs0{w:World}{base g:Nat}{V:Value}{L:List (List Nat)}(hL:LogOf tL w base g V L)(hbs:base<=w.heap.size)(hLn:L.length<=10000000){A:Option Addr}{c:Nat}{a b:List Nat}(ha:Reads w w.heap.size 1 A a.length (zah .u8 a))(ha8:∀x∈a,x<256)(hac:a.length<=c)(hc:c<=9223372036854775807)(hal:a.length<=9000000)(hb:zim b)(hG:∀w',Turns (g::zbg V) w w'->GlobIn w'):
 Calls Tryz.prog 18 #[.pointer (some ⟨g,0,none⟩),.slice A a.length c,dV b] w (zc3 tL (dV (zqz a b)) base g V (L++zjx a b) w):=by
 obtain⟨cb,hcb⟩:∃cs,cs=(zah .u8 b).toArray:=⟨_,rfl⟩;have hC:∀w',Turns (g::zbg V) w w'->ConstIn w':=fun w' k=>(hG w' k).1
 show Calls Tryz.prog _ _ w (zc3 tL (dV (zb4 zdv [a,b])) base g V (L++[zc2 zdv [a,b]]) w);have hvb:dV b= .agg cb:=by rw[hcb];rfl
 obtain⟨W3,hW3⟩:∃W,W=(w.alloc (.cells cb 35)).alloc (.cells (zap .u8 zad).toArray 35):=⟨_,rfl⟩;have z1:(w.alloc (.cells cb 35)).heap.size=w.heap.size+1:=by simp
 have zs:W3.heap.size=w.heap.size+2:=by rw[hW3];simp
 have b3:New w W3:=by rw[hW3];exact qr0 (zac _ _) (zac _ _)
 have gb:Blk W3 w.heap.size 35 cb:=by rw[hW3];exact(qrv w _ cb).alloc _
 have gr:Blk W3 (w.heap.size+1) 35 (zap .u8 zad).toArray:=by rw[hW3];have:=qrv (w.alloc (.cells cb 35)) 35 (zap .u8 zad).toArray;rwa[z1] at this
 have hgl:g<w.heap.size:=hL.lt;have lowT:∀x∈g::zbg V,x<w.heap.size:=fun x hx=>by
  rcases qnu.1 hx with rfl|hx
  ·exact hgl
  ·exact(hL.ge x hx).2
 obtain⟨W4,hW4⟩:∃W,W=(W3.alloc (.cells #[.slice A a.length c,.slice (some ⟨w.heap.size,0,none⟩) 32 32] 24)).drew:=⟨_,rfl⟩;have b34:New W3 W4:=by rw[hW4];exact qr0 (zac W3 _) (qr1 _)
 have rr:RowsAt W4 (some ⟨w.heap.size+2,0,none⟩) 2 2 [(A,c,a),(some ⟨w.heap.size,0,none⟩,32,b)]:=by
  refine⟨?_,fun x hx=>?_,ql6 _⟩
  ·rw[hW4,<-zs]
   exact qsl W3 _ (0,0) _ 2 _ (by simp[recs,zdr,hb.1]) (by simp[recs,zdr])
  ·simp only[qnu,qpt,or_false] at hx
   rcases hx with rfl|rfl
   ·exact⟨by show Reads _ _ 1 _ a.length _;exact qsg ha (qr0 b3 b34),hac,hc⟩
   ·exact⟨by show Reads _ _ 1 _ b.length _;exact qsg (zd0 gb (by rw[hcb])) b34,by show b.length<=32;rw[hb.1];omega,by show(32:Nat)<=_;omega⟩
 have hbo:bytesOf [(A,c,a),((some ⟨w.heap.size,0,none⟩:Option Addr),32,b)]=[a,b]:=rfl;have hp8:∀p∈[a,b],∀x∈p,x<256:=by
  intro p hp;simp only[qnu,qpt,or_false] at hp;rcases hp with rfl|rfl
  ·exact ha8
  ·exact hb.2
 have hts:zem [a,b]<=9900000:=by simp[zem,hb.1];omega
 have b04:=qr0 b3 b34;have lh:=zkx (s:=zdv) (hL.new b04) (qlw hbs b04.size) hLn rr (by omega) (by decide) (by decide) hts hp8 (fun w' k=>hC w' ((qr9 b04).trans k));rw[hbo,zf8] at lh;obtain⟨cs,hcs⟩:∃cs,cs=(zap .u8 (zdj zdv [a,b])).toArray:=⟨_,rfl⟩;have hdv:zm9 (zdj zdv [a,b])= .agg cs:=by rw[hcs];rfl
 have hdv2:dV (zb4 zdv [a,b])= .agg cs:=by rw[<-zgg,hdv]
 have hl32:=zfs zdv [a,b];have I32:(Tryz.prog.info? 35).map (·.size)=some cs.size:=by rw[hcs];exact zxd hl32
 have ZS:(zap .u8 zad).toArray.size=cs.size:=by rw[hcs];simp[zap,zad,hl32]
 have ONE:cs.all (·.oneCell')=true:=by rw[hcs];exact zcs _ _
 rw[hdv] at lh;rw[hvb,hdv2];have LH:=qrf lh;have I32:=qrf I32;have ZS:=qrf ZS;have ONE:=qrf ONE;have HL:=qrf hL;have GR:=qrf (gr.below b34 gr.lt);have B04:=qrf b04;have HW3:=qrf hW3;have B03:=qrf b3;have HG:=qrf hG;clear hG;have HW4:=qrf hW4;have LOWT:=qrf lowT;have ZSZ:=qrf zs;clear hcs hdv hdv2 hl32 lh hts hp8 rr b34 ha ha8 gb gr z1 zs hW3 hW4 b3 b04 hvb hcb hL lowT hC;go_enter Tryz.func18,Tryz.ntmps18
 go_wp2
 have hw3:=HW3.out;refine zaw (TurnsB w.heap.size (g::zbg V)) [(true,0),(true,1),(true,2),(true,3),(true,4),(false,5),(false,6),(false,7)]
  (qsj _ _) qsk (by kernel_rfl) (by kernel_rfl) (by kernel_rfl) (by kernel_rfl) ?_
 iterate 2 (
  refine zaj rfl rfl (v:=?_) (fun W hW=>?_) ?_;rotate_left
  ·skip
   go_simp<;> with_reducible rfl
  simp only[Act.put,qoi,qn8,qoj])
 have e30:(w.alloc (.cells cb 35)).alloc (.cells qsy 35)=W3:=HW3.out.symm;refine zaj rfl rfl (v:= .string (zai zdv)) (fun W hW=>?_) ?_
 ·rw[e30] at hW
  have kk:W.cell? ⟨0,3,none⟩=some (.string (zai zdv)):=(HG.out W (((TurnsB.of (qr9 (qr0 B03.out (qr1 _))) (ql6 _)).trans hW).turns)).2.2 3 (by omega);go_simp
  all_goals(rw[kk];rfl)
 simp only[Act.put,qoi,qn8,qoj];clear e30;iterate 2 (
  refine zaj rfl rfl (v:=?_) (fun W hW=>?_) ?_;rotate_left
  ·skip
   go_simp<;> with_reducible rfl
  simp only[Act.put,qoi,qn8,qoj])
 have e3:(w.alloc (.cells cb 35)).alloc (.cells (zap .u8 zad).toArray 35)=W3:=hw3.symm;rw[show((w.alloc (.cells cb 35)).alloc (.cells qsy 35)).drew=W3.drew from by rw[hw3];rfl];clear e3 hw3;have zs:=ZSZ.out;refine za6 rfl rfl (fun K hK=>?_);go_simp
 have hw4:=HW4.out;refine hK _ _ (.alloc _ (by show w.heap.size<=W3.heap.size;omega)) ?_;clear hK;rw[<-hw4];clear hw4;refine za6 rfl rfl (fun K hK=>?_);go_simp
 refine LH.out.mono ?_;rintro e w5 ⟨rfl,V',l5,a5,t5⟩;refine hK _ _ (.of t5 B04.out.size) ?_;clear hK;have nT:w.heap.size+1∉g::zbg V:=fun hx=>by have:=LOWT.out _ hx;omega
 have g5:=GR.out.touch t5 nT;refine za6 rfl rfl (fun K hK=>?_);refine wp_store_row 35 (.tmp 6) (.tmp 13) rfl (w.heap.size+1) cs rfl rfl _ _ (zaf g5) I32.out ZS.out ONE.out ?_;refine hK _ _ (.far (za3 (g:=w.heap.size+1) _ cs) (by omega) (qlw B04.out.size t5.size)) ?_;clear hK;refine zda ?_;have G6:=qrf (zau g5 cs);have P6:Hid (∃V',LogOf tL (w5.setRow (w.heap.size+1) cs) base g V' (L++[zc2 zdv [a,b]])/\(V'.ownBlock=V.ownBlock\/ ∃h,V'.ownBlock=some h/\w.heap.size<=h)/\Turns (g::zbg V) w (w5.setRow (w.heap.size+1) cs)):=qrf (by
  have tt:Turns [w.heap.size+1] w5 (w5.setRow (w.heap.size+1) cs):=qsa (za3 (g:=w.heap.size+1) w5 cs) (by simp);refine⟨V',l5.turn tt (by simp;omega) ?_ ?_,a5.imp id (fun⟨h,h1,h2⟩=>⟨h,h1,qlw B04.out.size h2⟩),?_⟩
  ·intro x hx
   simp at hx;subst hx;obtain⟨A',n',c',D',e',_,o',_⟩:=l5;rw[e'];exact o'.blk_ne g5 (by decide)
  ·intro x hx _ cs hB
   simp at hx;subst hx;exact qrx g5 hB (by decide) rfl
  ·exact qsd ((((qr9 B04.out).trans t5).more (T':=(w.heap.size+1)::g::zbg V) (by intro x hx;simp at hx⊢;simp[hx])).trans (tt.more (by intro x hx;simp at hx⊢;simp[hx]))) (by omega))
 clear l5 a5 t5 g5;go_wp2
 exact bodyPost_ret (results_cell_row rfl _ _ (w.heap.size+1) _ cs (0,0) _ rfl G6.out zbp rfl I32.out) rfl ⟨rfl,P6.out⟩
open Go Go.RowKit Go.Hm
def fz:FootS:=⟨[],0,[]⟩
theorem qjs:zb0 fz:=⟨(zez []).1 (by decide),by simp[fz],by simp[fz],by simp[fz],by simp[fz]⟩
open Go Go.RowKit Go.Hm
theorem zog:ze8 fz=[0,0,0]:=by
 unfold ze8 fz;have e:putC [] []=[0]:=by rw[putC,if_pos (by decide)];simp[zkl,zgd]
 rw[e];simp[zgd]
theorem z93{t:Int}{s:zdl}(hd:statData s):∀x∈putS [] t s,x<256:=by
 intro x hx;unfold putS at hx;split at hx
 ·split at hx
  ·simp only[qmx,qnd,qne] at hx
   rcases hx with((hx|hx)|hx)|hx
   ·exact zeq _ _ (ql6 _) x hx
   ·omega
   ·exact zeq _ _ (ql6 _) x hx
   ·exact z8h (fun c hc=>by simp at hc;rcases hc with rfl|rfl;exact hd.1.1.2;exact hd.2.1.2) x hx
  ·simp only[qmx,qnd,qne] at hx
   rcases hx with hx|hx
   ·exact zeq _ _ (ql6 _) x hx
   ·omega
 ·simp at hx
theorem z4l{F:FootS}(h:zb0 F)(hd:zfo F):∀x∈ze8 F,x<256:=by
 obtain⟨a1,a2,a3,a4,a5⟩:=h;obtain⟨d1,d2⟩:=hd;intro x hx;unfold ze8 at hx;simp only[qnd] at hx;rcases hx with((hx|hx)|hx)|hx
 ·have hck:=(zez F.cols).2 a1
  rw[putC,if_pos hck,qmx] at hx;exact z83 F.cols (fun c hc=>⟨d1 c hc,(a1.2.1 c hc).2.2.1,(a1.2.1 c hc).2.2.2⟩) x hx
 ·exact zeq _ _ (ql6 _) x hx
 ·exact zeq _ _ (ql6 _) x hx
 ·obtain⟨g,hg,hx⟩:=qov.1 hx
  unfold zde at hx;rcases qnd.1 hx with hx|hx
  ·exact zeq _ _ (ql6 _) x hx
  ·have key:∀(cs:List zbi) (ls:List (List zbc)),(∀l∈ls,∀p∈l,statData p.2.2)->x∈zcl cs ls->x<256:=by
    intro cs;induction cs with
    |nil=>intro ls _ hx;simp[zcl] at hx
    |cons c cs ih=>
     intro ls hd hx;cases ls with
     |nil=>simp[zcl] at hx
     |cons l ls=>
      simp only[zcl,qnd] at hx;rcases hx with hx|hx
      ·unfold zgz at hx
       rcases qnd.1 hx with hx|hx
       ·exact zeq _ _ (ql6 _) x hx
       ·obtain⟨p,hp,hx⟩:=qov.1 hx
        simp only[zf4,qnd] at hx;rcases hx with(hx|hx)|hx
        ·exact zeq _ _ (ql6 _) x hx
        ·exact zeq _ _ (ql6 _) x hx
        ·exact z93 (hd l (by simp) p hp) x hx
      ·exact ih ls (fun l hl=>hd l (by simp[hl])) hx
   exact key _ _ (d2 g hg) hx
def BIn(w W:World)(A:Option Addr)(b:List Nat):Prop:=
 Reads w w.heap.size 1 A b.length (zah .u8 b)\/(Reads W W.heap.size 1 A b.length (zah .u8 b)/\(0<b.length-> ∀ad,A=some ad-> ∃cs,Blk W ad.block 5 cs))
theorem BIn.keep{w W W':World}{A:Option Addr}{b:List Nat}(h:BIn w W A b)(k:KeepC W W'):BIn w W' A b:=by
 refine h.imp id fun⟨r,c⟩=>⟨⟨r.1,fun hn=>?_⟩,fun hn ad ha=>?_⟩
 ·obtain⟨ad,e,hb,hc⟩:=r.2 hn
  obtain⟨cs,B⟩:=c hn ad e;have B':=k.2 _ _ _ (by decide) (by decide) B;refine⟨ad,e,B'.lt,fun j u hu=>?_⟩;have e2:W'.heap[(ad.add j).block]? =W.heap[(ad.add j).block]? :=by rw[zao];exact Eq.trans B' (Eq.symm B)
  rw[World.cell?_of_block e2];exact hc j u hu
 ·obtain⟨cs,B⟩:=c hn ad ha
  exact⟨cs,k.2 _ _ _ (by decide) (by decide) B⟩
theorem BIn.arg{w W:World}{A:Option Addr}{b:List Nat}(h:Reads w w.heap.size 1 A b.length (zah .u8 b)):BIn w W A b:= .inl h
theorem BIn.own{w W:World}{base n c:Nat}{A:Option Addr}{b:List Nat}(h:Go.Hm.Own W base 5 (.slice A n c) (zah .u8 b))(hn:n=b.length):BIn w W A b:=by
 subst hn;refine .inr ⟨h.reads,fun h0 ad ha=>?_⟩;subst ha;unfold Go.Hm.Own at h;rw[zaa] at h;rcases h.2 with⟨e,h2⟩|⟨g,cap,cur,hv,_,hg,_⟩
 ·omega
 ·injection hv with e1 e2 e3
  injection e1 with e1;subst e1;exact⟨cur,hg⟩
theorem BIn.reads{w W:World}{A:Option Addr}{b:List Nat}(h:BIn w W A b)(n:New w W):Reads W W.heap.size 1 A b.length (zah .u8 b):=h.elim (fun r=>qsg r n) fun r=>r.1
theorem BIn.far{w W:World}{g:Nat}{V:Value}{F:List (List Nat)}{A:Option Addr}{b:List Nat}(h:BIn w W A b)(hg:w.heap.size<=g)(l:LogOf tL W w.heap.size g V F):0<b.length-> ∀ad,A=some ad->ad.block∉g::zbg V:=by
 intro hn ad ha;rcases h with r|⟨_,c⟩
 ·obtain⟨ad',e,hb,_⟩:=r.2 hn
  rw[ha] at e;injection e with e;subst e;intro hm;have:=l.own (B:=w.heap.size) (ql6 _) hg _ hm;omega
 ·obtain⟨cs,B⟩:=c hn ad ha
  exact l.notT B (by decide) (by decide)
def Tw(w:World)(g h:Nat)(W:World)(F F':List (List Nat)):Prop:=
 ∃V V',LogOf tL W w.heap.size g V F/\LogOf tL W w.heap.size h V' F'/\(∀x∈zbg V',V.ownBlock≠some x)/\New w W
def TwPost(v:Value)(w:World)(g h:Nat)(F F':List (List Nat))(W:World)(e:Ending)(W':World):Prop:=e= .returned v/\Tw w g h W' F F'/\KeepC W W'
section
variable{w W W':World}{g h:Nat}{F F' F2:List (List Nat)}
theorem Tw.new(l:Tw w g h W F F')(n:New W W'):Tw w g h W' F F':=by obtain⟨V,V',l1,l2,a,b⟩:=l;exact⟨V,V',l1.new n,l2.new n,a,qr0 b n⟩
theorem Tw.news(l:Tw w g h W F F'):New w W:=by obtain⟨V,V',l1,l2,a,b⟩:=l;exact b
theorem Tw.swap(l:Tw w g h W F F'):Tw w h g W F' F:=by obtain⟨V,V',l1,l2,a,b⟩:=l;exact⟨V',V,l2,l1,zhi a,b⟩
theorem Tw.log(l:Tw w g h W F F'):∃V,LogOf tL W w.heap.size g V F:=by obtain⟨V,V',l1,l2,a,b⟩:=l;exact⟨V,l1⟩
theorem Tw.call{v V:Value}(l:Tw w g h W F F')(hg:w.heap.size<=g)(hne:g≠h)(lV:LogOf tL W w.heap.size g V F){e:Ending}(p:zc3 tL v w.heap.size g V F2 W e W'):TwPost v w g h F2 F' W e W':=by obtain⟨V1,V',l1,l2,ap,b⟩:=l;obtain rfl:=zxq l1 lV;obtain⟨rfl,V2,l',a,t⟩:=p;exact⟨rfl,⟨V2,V',l',l2.beside (by decide) (by decide) (by decide) l1 (qoe hne) (zhi ap) t,zmd ap (fun x hx=>(l2.ge x hx).2) a,qse b t (l1.own (ql6 _) hg) (ql6 _)⟩,KeepC.log l1 t⟩
end
theorem TwPost.swap{v:Value}{w:World}{g h:Nat}{F F':List (List Nat)}{W:World}{e:Ending}{W':World}(p:TwPost v w g h F F' W e W'):TwPost v w h g F' F W e W':=⟨p.1,p.2.1.swap,p.2.2⟩
def KeepB(w a b:World):Prop:=KeepC a b/\Below w.heap.size a b
theorem KeepB.refl(w a:World):KeepB w a a:=⟨KeepC.refl a,qq8 _ _⟩
theorem KeepB.trans{w a b c:World}(h:KeepB w a b)(k:KeepB w b c):KeepB w a c:=⟨h.1.trans k.1,h.2.trans k.2⟩
theorem KeepB.new{w a b:World}(h:New w a)(k:New a b):KeepB w a b:=⟨qsn k,k.mono h.size⟩
abbrev qsv:=@KeepB.new
theorem KeepB.log{w a b:World}(h:New w a)(h2:New w b)(k:KeepC a b):KeepB w a b:=
 ⟨k,⟨h2.os.trans h.os.symm,h2.tape.trans h.tape.symm,h2.output.trans h.output.symm,k.1,fun i hi=>(h2.block i hi).trans (h.block i hi).symm⟩⟩
theorem KeepC.own{W W':World}{base:Nat}{v:Value}{xs:List Value}(h:Go.Hm.Own W base 5 v xs)(k:KeepC W W'):Go.Hm.Own W' base 5 v xs:=by
 unfold Go.Hm.Own at h⊢;refine⟨h.1,?_⟩;rcases h.2 with hn|⟨g,cap,cur,hv,hbg,hgg,rest⟩
 ·exact .inl hn
 ·exact .inr ⟨g,cap,cur,hv,hbg,k.2 _ g cur (by decide) (by decide) hgg,rest⟩
abbrev qsw:=@KeepC.own
theorem zm1(w:World)(base:Nat):LogOf tL (w.alloc (.cells #[.slice none 0 0] 86)) base w.heap.size (.slice none 0 0) []:=⟨none,0,0,[],rfl,qrv _ _ _,qru,(fun _ hd=>nomatch hd),rfl⟩
theorem Tw.made{w W:World}(n:New w W):Tw w W.heap.size (W.heap.size+1) ((W.alloc (.cells #[.slice none 0 0] 86)).alloc (.cells #[.slice none 0 0] 86)) [] []:=by
 have l1:=(zm1 W w.heap.size).new (zac _ (.cells #[.slice none 0 0] 86));have l2:=zm1 (W.alloc (.cells #[.slice none 0 0] 86)) w.heap.size;have hz:(W.alloc (.cells #[.slice none 0 0] 86)).heap.size=W.heap.size+1:=by simp
 rw[hz] at l2;exact⟨_,_,l1,l2,by simp[zbg,Value.ownBlock],qr0 n (qr0 (zac _ _) (zac _ _))⟩
end Go.Proofs.Y
namespace Go.Hm
open Go.RowKit
section
variable{P:Program}{ops:Array Oper}{Q:Exit->Act->World->Prop}{md:Region.Mode}{S:World->Prop}{t0:Nat}
def Closed(md:Region.Mode)(ops:Array Oper)(listed:Array Bool):Prop:=∀p op,ops[p]? =some op->listed.getD p false=true-> ∀e∈op.after,Region.binds md e=true->listed.getD e.on false=true
theorem Closed.set_{listed:Array Bool}{j:Nat}(h:Closed md ops listed)(hj:j∈Region.ready md ops listed):Closed md ops (listed.setIfInBounds j true):=by
 intro p op hp hl e he hb;obtain⟨_,oj,hoj,hall⟩:=mem_ready.1 hj;by_cases hpj:p=j
 ·subst hpj
  rw[hoj] at hp;injection hp with hp;subst hp;exact zce (hall e he hb)
 ·rw[zg3 (qoe hpj)] at hl
  exact zce (h p op hp hl e he hb)
variable{R:World->World->Prop}
end
end Go.Hm
namespace Go.Proofs.Y
open Go.RowKit Go.Hm
def RestIn(w:World)(g:Nat)(V0:Value)(bq:Nat)(R:List (List Nat))(W:World):Prop:=∃A c,Blk W bq tS #[.slice A R.length c]/\R.length<=c/\c<=9223372036854775807/\LeafIn w A R (g::zbg V0)
theorem RestIn.keep{w W W':World}{g bq:Nat}{V:Value}{R:List (List Nat)}(h:RestIn w g V bq R W)(k:∀cs,Blk W bq tS cs->Blk W' bq tS cs):RestIn w g V bq R W':=by obtain⟨A,c,b,r⟩:=h;exact⟨A,c,k _ b,r⟩
end Go.Proofs.Y
namespace Go.Hm
open Go Go.RowKit
abbrev qh7:List Nat:=[112,97,103,101]
def dA:List Nat:=zb4 qh7 (leafP 0 2 [120])
end Go.Hm
namespace Go.Proofs.Y
open Go.RowKit Go.Hm
theorem zxa(W:World)(hC:ConstIn W):Calls Tryz.prog 31 #[.string ⟨#[110,111,110,101]⟩,.slice none 0 0] W (zak (dV (zb4 zbn [])) W):=by have h:=zzx (s:=zbn) (z6i W) (by omega) (by decide) (by decide) (by simp[bytesOf,zem]) (by simp[bytesOf]) hC;rw[show bytesOf []=[] from rfl,zgg] at h;exact h
theorem LogOf.made(w:World)(base:Nat):LogOf tL (w.alloc (.cells #[.slice none 0 0] 86)) base w.heap.size (.slice none 0 0) []:=⟨none,0,0,[],rfl,qrv _ _ _,qru,(fun _ hd=>nomatch hd),rfl⟩
def LogSk(w:World)(g:Nat)(W:World)(F:List (List Nat)):Prop:=∃V,LogOf tL W w.heap.size g V F/\New w W
theorem LogSk.new{w W W':World}{g:Nat}{F:List (List Nat)}(h:LogSk w g W F)(n:New W W'):LogSk w g W' F:=by obtain⟨V,l,b⟩:=h;exact⟨V,l.new n,qr0 b n⟩
theorem LogSk.news{w W:World}{g:Nat}{F:List (List Nat)}(h:LogSk w g W F):New w W:=h.elim fun _ h=>h.2
def DigsIn(w W:World)(A:Option Addr)(L:List (List Nat)):Prop:=
 Digs L/\(Reads w w.heap.size 32 A L.length (recs zfh L)\/(Reads W W.heap.size 32 A L.length (recs zfh L)/\(0<L.length-> ∀ad,A=some ad-> ∃cs,Blk W ad.block tD cs)))
theorem DigsIn.keep{w W W':World}{A:Option Addr}{L:List (List Nat)}(h:DigsIn w W A L)(k:KeepC W W'):DigsIn w W' A L:=by
 refine⟨h.1,h.2.imp id fun⟨r,b⟩=>⟨⟨r.1,fun hn=>?_⟩,fun hn ad ha=>?_⟩⟩
 ·obtain⟨ad,e,hb,hc⟩:=r.2 hn
  obtain⟨cs,B⟩:=b hn ad e;have B':=k.2 _ _ _ (by decide) (by decide) B;refine⟨ad,e,B'.lt,fun j u hu=>?_⟩;have e2:W'.heap[(ad.add j).block]? =W.heap[(ad.add j).block]? :=by rw[zao];exact Eq.trans B' (Eq.symm B)
  rw[World.cell?_of_block e2];exact hc j u hu
 ·obtain⟨cs,B⟩:=b hn ad ha
  exact⟨cs,k.2 _ _ _ (by decide) (by decide) B⟩
theorem DigsIn.arg{w W:World}{A:Option Addr}{L:List (List Nat)}(hd:Digs L)(h:Reads w w.heap.size 32 A L.length (recs zfh L)):DigsIn w W A L:=⟨hd,.inl h⟩
theorem DigsIn.nil(w W:World):DigsIn w W none []:=⟨(fun _ h=>nomatch h),.inl qrs⟩
theorem DigsIn.row{w W:World}{B n c:Nat}{A:Option Addr}{L:List (List Nat)}(hd:Digs L)(h:W.ownsRow B tD 32 (.slice A n c) n (recs zfh L))(hn:n=L.length):DigsIn w W A L:=by
 subst hn;refine⟨hd,.inr ⟨qrt h,fun h0 ad ha=>?_⟩⟩;subst ha;rcases h.2 with⟨e,h2⟩|⟨g,cap,cur,hv,_,hg,_⟩
 ·omega
 ·injection hv with e1 e2 e3
  injection e1 with e1;subst e1;exact⟨cur,hg⟩
theorem DigsIn.lit{w W:World}{b:Nat}{L:List (List Nat)}{cs:Array Value}(hd:Digs L)(h:Blk W b tD cs)(hc:cs=(recs zfh L).toArray):DigsIn w W (some ⟨b,0,none⟩) L:=by
 subst hc;refine⟨hd,.inr ⟨⟨zaz (sz:=32) zd9 L,fun _=>⟨_,rfl,h.lt,?_⟩⟩,fun _ ad ha=>?_⟩⟩
 ·have:=qq9 h
  simpa using this
 ·injection ha with ha
  subst ha;exact⟨_,h⟩
theorem z12{w:World}{B c lo hi:Nat}{A:Option Addr}{L:List (List Nat)}(h:Reads w B 32 A L.length (recs zfh L))(h1:lo<=hi)(h2:hi<=L.length)(hc:L.length<=c):Reads w B 32 (if c=lo then A else A.map (·.add (lo*32))) (sl L lo hi).length (recs zfh (sl L lo hi)):=by have a:=h.cut (k:=lo) (cap:=c) (by omega) hc;rw[zou (sz:=32) zd9 L lo (by omega)] at a;have b:=a.take (k:=hi-lo) (by omega);rw[ziq (sz:=32) zd9 _ _ (by rw[ql0];omega)] at b;rw[qe2 h2];exact b
theorem DigsIn.sl{w W:World}{A:Option Addr}{L:List (List Nat)}(h:DigsIn w W A L){lo hi c:Nat}(h1:lo<=hi)(h2:hi<=L.length)(hc:L.length<=c):DigsIn w W (if c=lo then A else A.map (·.add (lo*32))) (sl L lo hi):=by
 refine⟨h.1.sl lo hi,h.2.imp (fun r=>z12 r h1 h2 hc) fun⟨r,b⟩=>⟨z12 r h1 h2 hc,fun hn ad ha=>?_⟩⟩;rw[qe2 h2] at hn;split at ha
 ·exact b (by omega) ad ha
 ·cases A with
  |none=>cases ha
  |some a=>
   simp only[qo5,qll] at ha;rw[<-ha,zao];exact b (by omega) a rfl
theorem DigsIn.take{w W:World}{A:Option Addr}{L:List (List Nat)}(h:DigsIn w W A L){k:Nat}(hk:k<=L.length):DigsIn w W A (L.take k):=by
 have hl:(L.take k).length=k:=by rw[ql2];omega
 have tk:∀{W:World} {B:Nat},Reads W B 32 A L.length (recs zfh L)->Reads W B 32 A (L.take k).length (recs zfh (L.take k)):=fun r=>by have:=r.take hk;rw[ziq (sz:=32) zd9 L k hk] at this;rwa[hl]
 exact⟨h.1.take k,h.2.imp (fun r=>tk r) fun⟨r,b⟩=>⟨tk r,fun hn=>b (by omega)⟩⟩
section
variable{w W:World}{g:Nat}{F:List (List Nat)}
def PrPost(w:World)(g:Nat)(F P:List (List Nat))(W:World)(e:Ending)(W':World):Prop:=∃A c,e= .returned (.slice A P.length c)/\P.length<=c/\c<=9223372036854775807/\DigsIn w W' A P/\LogSk w g W' F/\KeepC W W'
end
theorem PrPost.u{w:World}{g:Nat}{F P:List (List Nat)}{W:World}{e:Ending}{W':World}(h:PrPost w g F P W e W'):∃A c,e= .returned (.slice A P.length c)/\P.length<=c/\c<=9223372036854775807/\DigsIn w W' A P/\LogSk w g W' F/\KeepC W W':=h
end Go.Proofs.Y
namespace Go.Hm
open Go Go.RowKit
end Go.Hm
namespace Go.Proofs.Y
open Go.RowKit Go.Hm
def LogN(w:World)(g k:Nat)(W:World):Prop:=∃F,LogSk w g W F/\F.length<=k
theorem LogN.new{w W W':World}{g k:Nat}(h:LogN w g k W)(n:New W W'):LogN w g k W':=by obtain⟨F,l,hk⟩:=h;exact⟨F,l.new n,hk⟩
theorem LogN.news{w W:World}{g k:Nat}(h:LogN w g k W):New w W:=by obtain⟨F,l,hk⟩:=h;exact l.news
theorem DigsIn.at_{w W:World}{A:Option Addr}{L:List (List Nat)}{i:Nat}(h:DigsIn w W A L)(n:New w W)(hi:i<L.length):
 ∃ad,A=some ad/\ ∀W',KeepB w W W'-> ∀j u,(zah .u8 (L.getD i []))[j]? =some u->W'.cell? ((ad.add (i*32)).add j)=some u:=by
 have hd:zim (L.getD i []):=h.1 _ (zgu hi);have rd:∀W',New w W'->DigsIn w W' A L-> ∃ad,A=some ad/\ ∀j u,(zah .u8 (L.getD i []))[j]? =some u->W'.cell? ((ad.add (i*32)).add j)=some u:=fun W' n' h'=>by
  have r:Reads W' W'.heap.size 32 A L.length (recs zfh L):=by
   rcases h'.2 with r|⟨r,_⟩
   ·exact qsg r n'
   ·exact r
  obtain⟨ad,e,hb,hl,hc⟩:=Reads.rec_ (f:=zfh) (sz:=32) zd9 [] r hi (by omega);refine⟨ad,e,fun j u hu=>?_⟩;rw[zba];rw[<-zsw hd.1] at hu;exact hc j u hu
 obtain⟨ad,e,_⟩:=rd W n h;refine⟨ad,e,fun W' k j u hu=>?_⟩;obtain⟨ad',e',hc⟩:=rd W' (qrh n k.2) (h.keep k.1);rw[e] at e';injection e' with e';subst e';exact hc j u hu
theorem LogN.set_{w W:World}{g k b:Nat}(h:LogN w g k W){old:Array Value}(G:Blk W b tD old)(hb:w.heap.size<=b)(cs:Array Value):LogN w g k (W.setRow b cs):=by obtain⟨F,⟨V,l,n⟩,hk⟩:=h;have T2:Turns [b] W (W.setRow b cs):=qsa (za3 (g:=b) W cs) (by simp);obtain⟨A,m,c,D,rfl,hg,ho,hp,hD⟩:=l;have l:LogOf tL W w.heap.size g (.slice A m c) F:=⟨A,m,c,D,rfl,hg,ho,hp,hD⟩;exact⟨F,⟨_,l.turn T2 (by simp;exact qrx hg G (by decide)) (by simp;exact zav ho G (by decide)) (fun x hx _ cs hB=>by simp at hx;subst hx;exact qrx G hB (by decide) rfl),qse n T2 (by simpa using hb) (ql6 _)⟩,hk⟩
theorem KeepC.set_{a W:World}{b:Nat}(k:KeepC a W)(hb:a.heap.size<=b)(cs:Array Value):KeepC a (W.setRow b cs):=by have T2:Turns [b] W (W.setRow b cs):=qsa (za3 (g:=b) W cs) (by simp);exact⟨qlw k.1 T2.size,fun t x c h1 h2 hB=>(k.2 t x c h1 h2 hB).touch T2 (by simp;rintro rfl;have:=hB.lt;omega)⟩
end Go.Proofs.Y
namespace Go.Hm
open Go Go.RowKit
inductive Plan where
 |done
 |quiet (i:Nat) (p:Plan)
 |alone (i:Nat) (p:Plan)
 |two (i:Nat) (p:Plan) (j:Nat) (q:Plan)
section
variable{P:Program}{ops:Array Oper}{Q:Exit->Act->World->Prop}
def Plan.ok(ops:Array Oper):Array Bool->Plan->Bool
 |listed,.done=>(Region.ready .any ops listed).isEmpty
 |listed,.quiet i p=>(Region.ready .any ops listed).contains i&&(Region.free .any ops listed i&&p.ok ops (listed.setIfInBounds i true))
 |listed,.alone i p=>decide (Region.ready .any ops listed=[i])&&p.ok ops (listed.setIfInBounds i true)
 |listed,.two i p j q=>decide (Region.ready .any ops listed=[i,j])&&(p.ok ops (listed.setIfInBounds i true)&&q.ok ops (listed.setIfInBounds j true))
def Plan.size:Plan->Nat
 | .done=>0
 | .quiet _ p=>p.size+1
 | .alone _ p=>p.size+1
 | .two _ p _ q=>Nat.max p.size q.size+1
variable{R:World->World->Prop}
variable{i j:Nat}{p q:Plan}{a:Act}{w:World}{v:Value}
end
end Go.Hm
namespace Go.Proofs.Y
open Go.RowKit Go.Hm Go.WideShapes Go.ChangeShapes
theorem gKinds:Tryz.prog.globalNamed "hypostyle/roots.kinds" =some 0:=by kernel_rfl
theorem tKinds:(Tryz.prog.globals[0]?).map (·.type)=some 88:=by kernel_rfl
theorem z4w(s:List Nat)(a:ByteArray)(h:a.data.toList=s.map fun n=>UInt8.ofNat n):a=zai s:=by obtain⟨⟨l⟩⟩:=a;simp only at h;subst h;rfl
theorem qes:∀i,i<4->([DataW.lit (.string [112,97,103,101]),.lit (.string [99,104,117,110,107]),.lit (.string [103,114,111,117,112]),.lit (.string [102,105,108,101])]:List (DataW Unit))[i]? =some (.lit (.string ((kindS.getD i []).map fun n=>UInt8.ofNat n))):=by
 intro i hi
 match i,hi with
 |0,_=>rfl
 |1,_=>rfl
 |2,_=>rfl
 |3,_=>rfl
theorem zxc{W:World}(h:laidMetH Tryz.prog zxo W):GlobIn W:=by
 refine⟨zsx h,?_⟩;rw[MakeChecks.laidMetH_plain _ _ _ (by kernel_rfl)] at h;obtain⟨ps,⟨_,_,_,_,_,_,_,_,_,_,⟨g0,t0,cs0,f0,p0,q0,hg0,ht0,hv0,hd0,_,_⟩,_⟩,_,_⟩:=h;obtain rfl:=qlj (gKinds.symm.trans hg0);obtain rfl:=qlj (tKinds.symm.trans ht0);obtain⟨xs,m1,rfl,hx1,hlen,hn3,hel⟩:=DataW.trod_array (show Tryz.prog.underlying 88=some (.array 4 9) by kernel_rfl) hd0;have c4:Tryz.prog.cellsOf 88=4:=by kernel_rfl
 have c1:Tryz.prog.cellsOf 9=1:=by kernel_rfl
 rw[c4] at hlen;rw[show(Go.Proofs.YtbahbnbpmfgimaaGreatDoor.Rows.laid_hypostyle_roots_kinds:DataW Unit)= .agg [.lit (.string [112,97,103,101]),.lit (.string [99,104,117,110,107]),.lit (.string [103,114,111,117,112]),.lit (.string [102,105,108,101])] from rfl] at hx1;simp only[qlk,qlr] at hx1;have hcell:∀i,i<4->W.cell? ⟨0,i,none⟩=some (.string (zai (kindS.getD i []))):=by
  intro i hi;have h1:=hel i hi;rw[c1,qmd] at h1;have hi2:i<cs0.toList.length:=by omega
  have hone:(cs0.toList.drop i).take 1=[cs0.toList[i]]:=by rw[qmh hi2];rfl
  rw[hone,qlx (by omega)] at h1;obtain⟨x,e1,e2,_⟩:=DataW.trod_string (show Tryz.prog.underlying 9=some .string by kernel_rfl) h1;have hk:=qes i hi;rw[hx1.1,qou,qlx (show i<xs.length by omega)] at hk;simp only[qo5,qll] at hk;rw[e2] at hk;simp only[qls,Lit.string.injEq] at hk;have hc:=World.var?_cell hg0 hv0 i;rw[hc];simp only[qli,and_true] at e1;rw[qpu (by simpa using hi2)];have e3:cs0[i]'(by simpa using hi2)=cs0.toList[i]:=by simp
  rw[e3,e1,z4w _ _ hk]
 refine⟨?_,hcell⟩;have h0:=hcell 0 (by omega);unfold World.cell? at h0;rcases qma 0 W.heap.size with hz|hz
 ·exact hz
 ·rw[qmb (by omega)] at h0
  cases h0
end Go.Proofs.Y
