/- Merged. -/
import Derived.Test.YtbahbnbpmfgimaaGreatDoorBun31
set_option maxHeartbeats 4000000
namespace Go.Proofs.Y
open Go.RowKit Go.Hm
def kindS:List (List Nat):=[zbn,zew,zep,ze3]
def KindsIn(w:World):Prop:=0<w.heap.size/\ ∀i,i<4->w.cell? ⟨0,i,none⟩=some (.string (zae (kindS.getD i [])))
theorem KindsIn.new{w w':World}(h:KindsIn w)(hb:New w w'):KindsIn w':=⟨qmo h.1 hb.size,fun i hi=>(hb.cell h.1).trans (h.2 i hi)⟩
def GlobIn(w:World):Prop:=ConstIn w/\KindsIn w
theorem GlobIn.new{w w':World}(h:GlobIn w)(hb:New w w'):GlobIn w':=⟨h.1.new hb,h.2.new hb⟩
theorem qga(s:List Nat)(D:List (List Nat)):ovD s D=(zb8 (lvD s D)).1:=by unfold ovD;rfl
theorem qgb(s:List Nat)(D:List (List Nat)):ovF s D=lvF s D++(zb8 (lvD s D)).2:=by unfold ovF;rfl
theorem zn7{w:World}{base base' g n c:Nat}{A:Option Addr}{V:Value}{F L:List (List Nat)}(h:w.ownsRow base' tD 32 (.slice A n c) n (recs zet L))(hn:n=L.length)(hd:Digs L)(l:LogOf tL w base g V F):LeafIn w A L (g::zbi V):=by
 subst hn;refine⟨Reads.of_own h,hd,fun h0 ad ha=>?_⟩;subst ha;rcases h.2 with⟨e,h2⟩|⟨g',cap,cur,hv,_,hg,_⟩
 ·omega
 ·injection hv with e1 e2 e3
  injection e1 with e1;subst e1;exact l.notT (show Blk w g' tD cur from hg) (by decide) (by decide)
set_option maxRecDepth 100000 in
theorem zxd{w:World}{base g:Nat}{V:Value}{F:List (List Nat)}(hL:LogOf tL w base g V F)(hbs:base<=w.heap.size){A:Option Addr}{c:Nat}{D:List ziy}(hD:DataF w A D (g::zbi V))(hF:F.length+2*D.length<=8000000)(hG:∀w',Turns (g::zbi V) w w'->GlobIn w'):
 Calls Tryz.prog 12 #[.pointer (some ⟨g,0,none⟩),.slice A D.length c] w (zev tL (dV (ovD zbn (D.map (·.2.2)))) base g V (F++ovF zbn (D.map (·.2.2))) w):=by
 rw[qga,qgb];have DG:=zhr zbn (D.map (·.2.2));have LL:=zl1 zbn (D.map (·.2.2));have FL:=zss zbn (D.map (·.2.2));rw[qpg] at LL FL;have c0:=zac w (.cells (za7 .u8 zat).toArray 35);have G0:=Blk.new w 35 (za7 .u8 zat).toArray;have hgl:g<w.heap.size:=hL.lt;obtain⟨W0,hW0⟩:∃W,W=w.alloc (.cells (za7 .u8 zat).toArray 35):=⟨_,rfl⟩;rw[<-hW0] at c0 G0;have LV:=Hz (zmp (w:=W0) (c:=c) (s:=zbn) (hL.new c0) (qml hbs c0.size) (by decide) (by decide) (hD.turn (Turns.of_new c0) (fun _ _ h=>h)) (by omega) (fun w' k=>(hG w' ((Turns.of_new c0).trans k)).1));have K0:=(hG W0 (Turns.of_new c0)).2.2 0 (by omega);have K0:W0.cell? ⟨0,0,none⟩=some (.string (zae zbn)):=K0;have HW:=Hz hW0;have HL:=Hz hL;have HG:=Hz hG;have C0:=Hz c0;have HBS:=Hz hbs;have L1:=zdn _ DG;rw[<-qm5];generalize lvD zbn (D.map (·.2.2))=Lv at*;generalize lvF zbn (D.map (·.2.2))=Fv at*;obtain⟨cs,hdv,I32,ZS,ONE,hcs⟩:=zg7 L1;have HV:=Hz hdv;replace I32:=Hz I32;replace ZS:=Hz ZS;replace ONE:=Hz ONE;replace DG:=Hz DG;replace G0:=Hz G0;replace LL:=Hz LL;replace FL:=Hz FL;have HGL:=Hz hgl;rw[hdv];clear L1 hcs hdv hgl;have K1:=K0;rw[show W0=w.alloc (.cells #[.int .u8 0,.int .u8 0,.int .u8 0,.int .u8 0,.int .u8 0,.int .u8 0,.int .u8 0,.int .u8 0,.int .u8 0,.int .u8 0,.int .u8 0,.int .u8 0,.int .u8 0,.int .u8 0,.int .u8 0,.int .u8 0,.int .u8 0,.int .u8 0,.int .u8 0,.int .u8 0,.int .u8 0,.int .u8 0,.int .u8 0,.int .u8 0,.int .u8 0,.int .u8 0,.int .u8 0,.int .u8 0,.int .u8 0,.int .u8 0,.int .u8 0,.int .u8 0] 35) from hW0] at K1;clear hW0 hL hG c0 hbs hD K0;go_enter Tryz.func12,Tryz.ntmps12
 go_wp2_with fail
 rw[show w.alloc (.cells #[.int .u8 0,.int .u8 0,.int .u8 0,.int .u8 0,.int .u8 0,.int .u8 0,.int .u8 0,.int .u8 0,.int .u8 0,.int .u8 0,.int .u8 0,.int .u8 0,.int .u8 0,.int .u8 0,.int .u8 0,.int .u8 0,.int .u8 0,.int .u8 0,.int .u8 0,.int .u8 0,.int .u8 0,.int .u8 0,.int .u8 0,.int .u8 0,.int .u8 0,.int .u8 0,.int .u8 0,.int .u8 0,.int .u8 0,.int .u8 0,.int .u8 0,.int .u8 0] 35)=W0 from HW.out.symm];refine LV.out.mono ?_;rintro e w2 ⟨v,rfl,o2,V2,l2,a2,t2⟩;obtain⟨A2,c2,rfl,q1,q2⟩:=zcw o2;have t2':Turns (g::zbi V) w w2:=(Turns.of_new C0.out).trans t2;have a2':V2.ownBlock=V.ownBlock\/ ∃h,V2.ownBlock=some h/\w.heap.size<=h:=a2.imp id fun⟨h,h1,h2⟩=>⟨h,h1,qml C0.out.size h2⟩
 have g2:=G0.out.touch t2 ((HL.out.new C0.out).notT G0.out (by decide) (by decide));have nr2:w.heap.size∉g::zbi V2:=l2.notT g2 (by decide) (by decide);have RT:=Hz (zso (Lv.length+1) (qrq _) l2 (qml HBS.out t2'.size) (by have:=LL.out;have:=FL.out;rw[qni];omega) (zn7 o2 rfl DG.out l2) q1 (by simp only[maxLen] at q2;omega) (fun w' k=>(HG.out w' (zbp t2' a2' k)).1));have T2:=Hz t2';have A2':=Hz a2';have G2:=Hz g2;have NR:=Hz nr2;clear q1 q2 K1 o2 l2 a2 t2 t2' a2' g2 nr2 LV G0;go_wp2_with fail
 refine RT.out.mono ?_;rintro e w4 ⟨rfl,V4,l4,a4,t4⟩;have g4:=G2.out.touch t4 NR.out;have PS:=Hz (zde HGL.out l4 (zf7 T2.out.size A2'.out a4) (zbp T2.out A2'.out t4) g4 cs);have H:=Hz (qo8 (zay g4) (za5 g4 cs));rw[HV.out];clear l4 a4 t4 g4 RT;go_wp2_with (refine wpList_store_row rfl 35 (.tmp 4) (.tmp 11) rfl w.heap.size cs rfl rfl _ _ H.out.1 I32.out ZS.out ONE.out ?_)
 exact bodyPost_ret (results_cell_row rfl _ _ w.heap.size _ cs (0,0) _ rfl H.out.2 zcn rfl I32.out) rfl ⟨rfl,by simpa only[qm5] using PS.out⟩
open Go.RowKit Go.Hm
def zib(A:Option Addr)(L:List (List Nat)):List ziy:=(List.range L.length).map fun k=>(A.map (·.add (k*32)),32,L.getD k [])
theorem zhk(A:Option Addr)(L:List (List Nat)):(zib A L).length=L.length:=by simp[zib]
theorem zzt(A:Option Addr)(L:List (List Nat)):(zib A L).map (·.2.2)=L:=by
 refine qm7 (by simp[zib]) fun i h1 h2=>?_
 simp[zib,List.getD_eq_getElem?_getD,List.getElem?_eq_getElem h2]
theorem qe9(A:Option Addr)(L:List (List Nat)){k:Nat}(hk:k<L.length):(zib A L).getD k (none,0,[])=(A.map (·.add (k*32)),32,L.getD k []):=by rw[qoa];simp[zib,hk]
theorem qat{A:Option Addr}{L:List (List Nat)}{d:ziy}(h:d∈zib A L):∃k,k<L.length/\d=(A.map (·.add (k*32)),32,L.getD k []):=by unfold zib at h;obtain⟨k,hk,rfl⟩:=qmn.1 h;exact⟨k,qpi.1 hk,rfl⟩
theorem z5c(A:Option Addr)(L:List (List Nat)){k:Nat}(hk:k<L.length):(zib A L).take (k+1)=(zib A L).take k++[(A.map (·.add (k*32)),32,L.getD k [])]:=by
 have e:=qe9 A L hk;have hk':k<(zib A L).length:=by rw[zhk];exact hk
 rw[qoa,qmm hk'] at e;rw[<-e,List.take_add_one,qmm hk'];rfl
theorem LeafIn.subs{w:World}{A:Option Addr}{L:List (List Nat)}{T:List Nat}(h:LeafIn w A L T):∀d∈zib A L,BytIn w d/\(0<d.2.2.length-> ∀ad,d.1=some ad->ad.block∉T)/\d.2.2.length<=d.2.1/\d.2.1<=9223372036854775807/\(∀x∈d.2.2,x<256)/\d.2.2.length<=9000000:=by
 intro d hd;obtain⟨k,hk,rfl⟩:=qat hd;obtain⟨ad,e,hc⟩:=h.at_ hk;obtain⟨ad',e',hb,_⟩:=h.row.2 (by omega);rw[e] at e';injection e' with e';subst e';subst e;have hm:L.getD k []∈L:=zd9 [] hk;obtain⟨d1,d2⟩:=h.digs _ hm;refine⟨⟨by simp[zan],fun _=>⟨_,rfl,by rw[zai];exact hb,fun j u hu=>hc w (Below.refl _ _) j u hu⟩⟩,fun _ a ha=>?_,?_,?_,d2,?_⟩
 ·simp only[qpr,qmj] at ha
  subst ha;rw[zai];exact h.far (by omega) _ rfl
 all_goals simp only;omega
theorem z2b{i:Nat}(h:i<4):(∀x∈kindS.getD i [],x<256)/\(kindS.getD i []).length<=140737488351232:=by
 match i,h with
 |0,_=>exact by decide
 |1,_=>exact by decide
 |2,_=>exact by decide
 |3,_=>exact by decide
theorem qfa{α:Type}(X Y:List α)(o u:α){k:Nat}(h:X.length=k):(X++o::Y).toArray.setIfInBounds k u=(X++u::Y).toArray:=by subst h;rw[qo6,qor _ _ (qmt _),qos];rfl
def qlo(w:World)(A:Option Addr)(L:List (List Nat))(k:Nat)(W:World):Prop:=
 New w W/\Blk W w.heap.size tD (za7 .u8 zat).toArray/\Blk W (w.heap.size+1) 24 (recs zie ((zib A L).take k)++List.replicate (L.length-k) (Value.slice none 0 0)).toArray
set_option maxRecDepth 100000 in
theorem zxe{w:World}{base g:Nat}{V:Value}{F:List (List Nat)}(hL:LogOf tL w base g V F)(hbs:base<=w.heap.size){A:Option Addr}{c:Nat}{L:List (List Nat)}(hl:LeafIn w A L (g::zbi V)){i:Nat}(hi:i<4)(hF:F.length+2*L.length<=8000000)(hG:∀w',Turns (g::zbi V) w w'->GlobIn w'):
 Calls Tryz.prog 38 #[.pointer (some ⟨g,0,none⟩),.int .i64 (i:Int),.slice A L.length c] w (zev tL (dV (ovD (kindS.getD i []) L)) base g V (F++ovF (kindS.getD i []) L) w):=by
 rw[qga,qgb,<-qm5];have DG:=zhr (kindS.getD i []) L;have LL:=zl1 (kindS.getD i []) L;have FL:=zss (kindS.getD i []) L;have L1:=zdn _ DG;obtain⟨Lv,hLv⟩:∃x,x=lvD (kindS.getD i []) L:=⟨_,rfl⟩;obtain⟨Fv,hFv⟩:∃x,x=lvF (kindS.getD i []) L:=⟨_,rfl⟩;obtain⟨ks,hks⟩:∃x,x=kindS.getD i []:=⟨_,rfl⟩;rw[<-hLv] at DG LL L1⊢;rw[<-hFv] at FL⊢;rw[<-hks] at hLv hFv;obtain⟨cs,hdv,I32,ZS,ONE,hcs⟩:=zg7 L1;rw[hdv];have HV:=Hz hdv;have HK:=Hz hks;have HLV:=Hz hLv;have HFV:=Hz hFv;replace I32:=Hz I32;replace ZS:=Hz ZS;replace ONE:=Hz ONE;replace DG:=Hz DG;replace LL:=Hz LL;replace FL:=Hz FL;clear hcs hdv L1 hks hLv hFv;have c0:=zac w (.cells (za7 .u8 zat).toArray 35);have G0:=Blk.new w 35 (za7 .u8 zat).toArray;have hgl:g<w.heap.size:=hL.lt;have HGL:=Hz hgl;have HL:=Hz hL;have HG:=Hz hG;have HBS:=Hz hbs;have HLf:=Hz hl;have C0:=Hz c0;replace G0:=Hz G0;clear hL hG hbs hl hgl c0;go_enter Tryz.func38,Tryz.ntmps38
 go_wp2_with (refine zmf elR rfl (.tmp 10) (.tmp 10) rfl L.length rfl rfl rfl rfl rfl (by omega) (by simp only[maxLen];omega) ?_
              intro w1 B1 n1 z1)
 rw[World.size_alloc] at B1;have S0:qlo w A L 0 w1:=⟨New.trans C0.out n1,G0.out.below n1 G0.out.lt,by simpa[recs] using B1⟩;replace S0:=Hz S0;clear B1 n1 z1;have HF:=hF;go_loopw [14] (fun j wr=>∃k:Nat,k<=L.length/\j= .int .i64 (k:Int)/\Hid (qlo w A L k wr)) (fun j _=>L.length-(intOf j).toNat)
 case atStart=>exact⟨0,qmu _,rfl,S0⟩
 case round=>
  obtain⟨k,hk,rfl,HS⟩:=hrel;clear S0;by_cases hlt:k<L.length
  ·obtain⟨N1,G1,B1⟩:=HS.out
   obtain⟨ad,rfl,hb,hc⟩:=HLf.out.row.2 (by omega);have hd32:(L.getD k []).length=32:=(HLf.out.digs _ (zd9 [] hlt)).1;have e4:L.length-k=(L.length-(k+1))+1:=by omega
   have hX:(recs zie ((zib (some ad) L).take k)).length=k:=by rw[zau (sz:=1) z1i,qmq,zhk];omega
   rw[e4,qot] at B1;have hki:(k:Int)<(L.length:Int):=by omega
   replace N1:=Hz N1;replace G1:=Hz G1;replace B1:=Hz B1;replace hX:=Hz hX;replace hd32:=Hz hd32;clear hb hc e4
   go_wp2_with (refine zes rfl 24 (.tmp 23) (.tmp 22) rfl (w.heap.size+1) k (.slice (some (ad.add (k*32))) 32 32) rfl rfl B1.out (by have:=hX.out;simp;omega) (by kernel_rfl) rfl ?_
                intro W3 B3 g3 z3)
   have HSn:qlo w (some ad) L (k+1) W3:=by
    refine⟨zbj N1.out g3 (Nat.le_succ _) (qmt _),G1.out.touch (Turns.of_far (T:=[w.heap.size+1]) g3 (by simp)) (by simp),?_⟩;rw[qfa _ _ _ _ hX.out] at B3;have e5:recs zie ((zib (some ad) L).take (k+1))++List.replicate (L.length-(k+1)) (Value.slice none 0 0)=recs zie ((zib (some ad) L).take k)++Value.slice (some (ad.add (k*32))) 32 32::List.replicate (L.length-(k+1)) (Value.slice none 0 0):=by
     rw[z5c _ _ hlt,za2,qm5];congr 1
     show zie _++[]++_=_;unfold zie;rw[hd32.out];rfl
    rw[e5];exact B3
   have HSn:=Hz HSn;clear HS B3 g3 z3 N1 G1 B1 hX;go_wp2_with fail
   case' roundEnd=>skip
   exact⟨⟨k+1,by omega,by go_num,HSn⟩,by simp[intOf];omega⟩
  ·obtain rfl:k=L.length:=by omega
   obtain⟨N1,G1,B1⟩:=HS.out;rw[qos,qqd,qm3,<-zhk A L,qql] at B1;have nT:w.heap.size+1∉g::zbi V:=by
    intro hm;rcases qof.1 hm with e|hm
    ·have:=HGL.out;omega
    ·obtain⟨A',n',c',D',e',_,o',_⟩:=HL.out
     rw[e'] at hm;rcases o'.2 with⟨e2,_⟩|⟨g',cap,cur,hv,_,hg,_⟩
     ·rw[e2] at hm
      simp[zbi,Value.ownBlock] at hm
     ·rw[hv] at hm
      simp[zbi,Value.ownBlock] at hm;have:=Blk.lt (show Blk w g' _ cur from hg);omega
   have hlN:=HLf.out.turn (Turns.of_new N1) (fun _ _ h=>h);have hD:DataF wr (some ⟨w.heap.size+1,0,none⟩) (zib A L) (g::zbi V):=by refine⟨Reads.of_own (zxc (sz:=1) B1 (by rw[zau (sz:=1) z1i]) (by rw[zhk];simp only[maxLen];omega)),fun _ ad ha=>?_,LeafIn.subs hlN⟩;injection ha with ha;subst ha;exact nT
   have LV:=zmp (w:=wr) (c:=L.length) (s:=kindS.getD i []) (HL.out.new N1) (qml HBS.out N1.size) (z2b hi).1 (z2b hi).2 hD (by rw[zhk];omega) (fun w' k=>(HG.out w' ((Turns.of_new N1).trans k)).1);rw[zhk,zzt] at LV;have K1:wr.cell? ⟨0,i,none⟩=some (.string (zae (kindS.getD i []))):=(HG.out wr (Turns.of_new N1)).2.2 i hi;rw[<-HK.out,<-HLV.out,<-HFV.out] at LV;rw[<-HK.out] at K1;replace LV:=Hz LV;replace N1:=Hz N1;replace G1:=Hz G1;have hil:(i:Int)<4:=by omega
   clear HS B1 nT hlN hD C0 G0 hk hlt;go_wp2_with fail
   refine LV.out.mono ?_;rintro e w2 ⟨v,rfl,o2,V2,l2,a2,t2⟩;obtain⟨A2,c2,rfl,q1,q2⟩:=zcw o2;have t2':Turns (g::zbi V) w w2:=(Turns.of_new N1.out).trans t2;have a2':V2.ownBlock=V.ownBlock\/ ∃h,V2.ownBlock=some h/\w.heap.size<=h:=a2.imp id fun⟨h,h1,h2⟩=>⟨h,h1,qml N1.out.size h2⟩
   have g2:=G1.out.touch t2 ((HL.out.new N1.out).notT G1.out (by decide) (by decide));have nr2:w.heap.size∉g::zbi V2:=l2.notT g2 (by decide) (by decide);have RT:=Hz (zso (Lv.length+1) (qrq _) l2 (qml HBS.out t2'.size) (by have:=LL.out;have:=FL.out;rw[qni];omega) (zn7 o2 rfl DG.out l2) q1 (by simp only[maxLen] at q2;omega) (fun w' k=>(HG.out w' (zbp t2' a2' k)).1));have T2:=Hz t2';have A2':=Hz a2';have G2:=Hz g2;have NR:=Hz nr2;clear q1 q2 K1 o2 l2 a2 t2 t2' a2' g2 nr2 LV G1 N1;go_wp2_with fail
   refine RT.out.mono ?_;rintro e w4 ⟨rfl,V4,l4,a4,t4⟩;have g4:=G2.out.touch t4 NR.out;have PS:=Hz (zde HGL.out l4 (zf7 T2.out.size A2'.out a4) (zbp T2.out A2'.out t4) g4 cs);have H:=Hz (qo8 (zay g4) (za5 g4 cs));rw[HV.out];clear l4 a4 t4 g4 RT;go_wp2_with (refine wpList_store_row rfl 35 (.tmp 6) (.tmp 32) rfl w.heap.size cs rfl rfl _ _ H.out.1 I32.out ZS.out ONE.out ?_)
   exact bodyPost_ret (results_cell_row rfl _ _ w.heap.size _ cs (0,0) _ rfl H.out.2 zcn rfl I32.out) rfl ⟨rfl,by simpa only[qm5] using PS.out⟩
open Go.RowKit Go.Hm
def BIn(w W:World)(A:Option Addr)(b:List Nat):Prop:=
 Reads w w.heap.size 1 A b.length (zan .u8 b)\/(Reads W W.heap.size 1 A b.length (zan .u8 b)/\(0<b.length-> ∀ad,A=some ad-> ∃cs,Blk W ad.block 5 cs))
theorem BIn.keep{w W W':World}{A:Option Addr}{b:List Nat}(h:BIn w W A b)(k:KeepC W W'):BIn w W' A b:=by
 refine h.imp id fun⟨r,c⟩=>⟨⟨r.1,fun hn=>?_⟩,fun hn ad ha=>?_⟩
 ·obtain⟨ad,e,hb,hc⟩:=r.2 hn
  obtain⟨cs,B⟩:=c hn ad e;have B':=k.2 _ _ _ (by decide) (by decide) B;refine⟨ad,e,B'.lt,fun j u hu=>?_⟩;have e2:W'.heap[(ad.add j).block]? =W.heap[(ad.add j).block]? :=by rw[zai];exact Eq.trans B' (Eq.symm B)
  rw[World.cell?_of_block e2];exact hc j u hu
 ·obtain⟨cs,B⟩:=c hn ad ha
  exact⟨cs,k.2 _ _ _ (by decide) (by decide) B⟩
theorem BIn.arg{w W:World}{A:Option Addr}{b:List Nat}(h:Reads w w.heap.size 1 A b.length (zan .u8 b)):BIn w W A b:= .inl h
theorem BIn.own{w W:World}{base n c:Nat}{A:Option Addr}{b:List Nat}(h:Go.Hm.Own W base 5 (.slice A n c) (zan .u8 b))(hn:n=b.length):BIn w W A b:=by
 subst hn;refine .inr ⟨h.reads,fun h0 ad ha=>?_⟩;subst ha;unfold Go.Hm.Own at h;rw[zaa] at h;rcases h.2 with⟨e,h2⟩|⟨g,cap,cur,hv,_,hg,_⟩
 ·omega
 ·injection hv with e1 e2 e3
  injection e1 with e1;subst e1;exact⟨cur,hg⟩
theorem BIn.reads{w W:World}{A:Option Addr}{b:List Nat}(h:BIn w W A b)(n:New w W):Reads W W.heap.size 1 A b.length (zan .u8 b):=h.elim (fun r=>Reads.later r n) fun r=>r.1
theorem BIn.far{w W:World}{g:Nat}{V:Value}{F:List (List Nat)}{A:Option Addr}{b:List Nat}(h:BIn w W A b)(hg:w.heap.size<=g)(l:LogOf tL W w.heap.size g V F):0<b.length-> ∀ad,A=some ad->ad.block∉g::zbi V:=by
 intro hn ad ha;rcases h with r|⟨_,c⟩
 ·obtain⟨ad',e,hb,_⟩:=r.2 hn
  rw[ha] at e;injection e with e;subst e;intro hm;have:=l.own (B:=w.heap.size) (qmt _) hg _ hm;omega
 ·obtain⟨cs,B⟩:=c hn ad ha
  exact l.notT B (by decide) (by decide)
def Tw(w:World)(g h:Nat)(W:World)(F F':List (List Nat)):Prop:=
 ∃V V',LogOf tL W w.heap.size g V F/\LogOf tL W w.heap.size h V' F'/\(∀x∈zbi V',V.ownBlock≠some x)/\New w W
def TwPost(v:Value)(w:World)(g h:Nat)(F F':List (List Nat))(W:World)(e:Ending)(W':World):Prop:=e= .returned v/\Tw w g h W' F F'/\KeepC W W'
section
variable{w W W':World}{g h:Nat}{F F' F2:List (List Nat)}
theorem Tw.new(l:Tw w g h W F F')(n:New W W'):Tw w g h W' F F':=by obtain⟨V,V',l1,l2,a,b⟩:=l;exact⟨V,V',l1.new n,l2.new n,a,New.trans b n⟩
theorem Tw.news(l:Tw w g h W F F'):New w W:=by obtain⟨V,V',l1,l2,a,b⟩:=l;exact b
theorem Tw.swap(l:Tw w g h W F F'):Tw w h g W F' F:=by obtain⟨V,V',l1,l2,a,b⟩:=l;exact⟨V',V,l2,l1,zre a,b⟩
theorem Tw.log(l:Tw w g h W F F'):∃V,LogOf tL W w.heap.size g V F:=by obtain⟨V,V',l1,l2,a,b⟩:=l;exact⟨V,l1⟩
theorem Tw.call{v V:Value}(l:Tw w g h W F F')(hg:w.heap.size<=g)(hne:g≠h)(lV:LogOf tL W w.heap.size g V F){e:Ending}(p:zev tL v w.heap.size g V F2 W e W'):TwPost v w g h F2 F' W e W':=by obtain⟨V1,V',l1,l2,ap,b⟩:=l;obtain rfl:=zt7 l1 lV;obtain⟨rfl,V2,l',a,t⟩:=p;exact⟨rfl,⟨V2,V',l',l2.beside (by decide) (by decide) (by decide) l1 (qo0 hne) (zre ap) t,z2x ap (fun x hx=>(l2.ge x hx).2) a,Turns.below b t (l1.own (qmt _) hg) (qmt _)⟩,KeepC.log l1 t⟩
end
theorem TwPost.swap{v:Value}{w:World}{g h:Nat}{F F':List (List Nat)}{W:World}{e:Ending}{W':World}(p:TwPost v w g h F F' W e W'):TwPost v w h g F' F W e W':=⟨p.1,p.2.1.swap,p.2.2⟩
def KeepB(w a b:World):Prop:=KeepC a b/\Below w.heap.size a b
theorem KeepB.refl(w a:World):KeepB w a a:=⟨KeepC.refl a,Below.refl _ _⟩
theorem KeepB.trans{w a b c:World}(h:KeepB w a b)(k:KeepB w b c):KeepB w a c:=⟨h.1.trans k.1,h.2.trans k.2⟩
theorem KeepB.new{w a b:World}(h:New w a)(k:New a b):KeepB w a b:=⟨KeepC.new k,k.mono h.size⟩
theorem KeepB.log{w a b:World}(h:New w a)(h2:New w b)(k:KeepC a b):KeepB w a b:=
 ⟨k,⟨h2.os.trans h.os.symm,h2.tape.trans h.tape.symm,h2.output.trans h.output.symm,k.1,fun i hi=>(h2.block i hi).trans (h.block i hi).symm⟩⟩
theorem KeepC.own{W W':World}{base:Nat}{v:Value}{xs:List Value}(h:Go.Hm.Own W base 5 v xs)(k:KeepC W W'):Go.Hm.Own W' base 5 v xs:=by
 unfold Go.Hm.Own at h⊢;refine⟨h.1,?_⟩;rcases h.2 with hn|⟨g,cap,cur,hv,hbg,hgg,rest⟩
 ·exact .inl hn
 ·exact .inr ⟨g,cap,cur,hv,hbg,k.2 _ g cur (by decide) (by decide) hgg,rest⟩
theorem zmq(w:World)(base:Nat):LogOf tL (w.alloc (.cells #[.slice none 0 0] 86)) base w.heap.size (.slice none 0 0) []:=⟨none,0,0,[],rfl,Blk.new _ _ _,Own.nil_,(fun _ hd=>nomatch hd),rfl⟩
theorem Tw.made{w W:World}(n:New w W):Tw w W.heap.size (W.heap.size+1) ((W.alloc (.cells #[.slice none 0 0] 86)).alloc (.cells #[.slice none 0 0] 86)) [] []:=by
 have l1:=(zmq W w.heap.size).new (zac _ (.cells #[.slice none 0 0] 86));have l2:=zmq (W.alloc (.cells #[.slice none 0 0] 86)) w.heap.size;have hz:(W.alloc (.cells #[.slice none 0 0] 86)).heap.size=W.heap.size+1:=by simp
 rw[hz] at l2;exact⟨_,_,l1,l2,by simp[zbi,Value.ownBlock],New.trans n (New.trans (zac _ _) (zac _ _))⟩
open Go.RowKit Go.Hm
def znh(f:Int)(P:List (List Nat)):Int:=IntKind.i64.wrap (f+(P.length:Nat))
def joinOk(n f:Int)(P R:List (List Nat)):Bool:=decide (needI n f (znh f P)=(R.length:Nat))
def z5e(n f:Int)(P R:List (List Nat)):JS:=zj0 P f.toNat ⟨[],R,[]⟩ (evs f.toNat (f.toNat+P.length) 0 n.toNat)
def zq3(n f:Int)(P R:List (List Nat)):List Nat:=if joinOk n f P R then(z5e n f P R).made.getD 0 [] else List.replicate 32 0
def zxh(n f:Int)(P R:List (List Nat)):List (List Nat):=if joinOk n f P R then(z5e n f P R).frames else []
def JnR(w:World)(B base g:Nat)(V:Value)(bo bl bf bp bq br:Nat)(F P R:List (List Nat))(A:Option Addr)(c f:Nat)(es:List Ev)(W:World):Prop:=
 DrSt w B base g V bo (F++(zj0 P f ⟨[],R,[]⟩ es).frames) (zj0 P f ⟨[],R,[]⟩ es).made W/\RestIn w g V bq (zj0 P f ⟨[],R,[]⟩ es).rest W/\
  Blk W bl 27 #[.pointer (some ⟨g,0,none⟩)]/\Blk W bp tS #[.slice A P.length c]/\Blk W bf 3 #[.int .i64 (f:Int)]/\Blk W br tD #[.int .u8 0,.int .u8 0,.int .u8 0,.int .u8 0,.int .u8 0,.int .u8 0,.int .u8 0,.int .u8 0,.int .u8 0,.int .u8 0,.int .u8 0,.int .u8 0,.int .u8 0,.int .u8 0,.int .u8 0,.int .u8 0,.int .u8 0,.int .u8 0,.int .u8 0,.int .u8 0,.int .u8 0,.int .u8 0,.int .u8 0,.int .u8 0,.int .u8 0,.int .u8 0,.int .u8 0,.int .u8 0,.int .u8 0,.int .u8 0,.int .u8 0,.int .u8 0]
theorem RestIn.keep{w W W':World}{g bq:Nat}{V:Value}{R:List (List Nat)}(h:RestIn w g V bq R W)(k:∀cs,Blk W bq tS cs->Blk W' bq tS cs):RestIn w g V bq R W':=by obtain⟨A,c,b,r⟩:=h;exact⟨A,c,k _ b,r⟩
theorem zqh(P:List (List Nat))(f:Nat)(s:JS)(es:List Ev)(e:Ev):zj0 P f s (es++[e])=zfx P f (zj0 P f s es) e:=by rw[zlw,zn3]
set_option maxRecDepth 100000 in
theorem qa6{w:World}{B base g bo bl bf bp bq br f n:Nat}{V:Value}{F P R:List (List Nat)}{A:Option Addr}{c:Nat}(hB:w.heap.size<=B/\B<=bo)(h1:w.heap.size<=bq)(hl:bl<B/\bf<B/\bp<B/\bq<B/\br<B)(hne:bl≠bq/\bp≠bq/\bf≠bq/\br≠bq)
 (hbs:base<=w.heap.size)(hF:F.length+P.length<=7000000)(hn:n<=65536)(hft:f+P.length<=n)(hcnt:cnt (evs f (f+P.length) 0 n)=R.length)(hlv:LeafIn w A P (g::zbi V))(hc:P.length<=c)(hcm:c<=9223372036854775807)(hlr:Digs R)(hC:∀w',Turns (g::zbi V) w w'->ConstIn w')
 (W:World)(hr:JnR w B base g V bo bl bf bp bq br F P R A c f [] W):
 Calls Tryz.prog 62 #[.agg #[.int .i64 (f:Int),.int .i64 ((f+P.length:Nat):Int),.func (.func 58) #[] #[.pointer (some ⟨bo,0,none⟩),.pointer (some ⟨bl,0,none⟩),.pointer (some ⟨bp,0,none⟩),.pointer (some ⟨bf,0,none⟩)],.func (.func 59) #[] #[.pointer (some ⟨bo,0,none⟩),.pointer (some ⟨bq,0,none⟩)],.func (.func 60) #[] #[.pointer (some ⟨bo,0,none⟩),.pointer (some ⟨bl,0,none⟩)]],.int .i64 ((0:Nat):Int),.int .i64 (n:Int)] W
  (OvPost (JnR w B base g V bo bl bf bp bq br F P R A c f) ([]++evs f (f+P.length) 0 n) W):=by
 have key:∀es e,es++[e] <+: evs f (f+P.length) 0 n->(zj0 P f ⟨[],R,[]⟩ es).frames.length<=2*n+1/\(zj0 P f ⟨[],R,[]⟩ es).made.length<=200000/\Digs (zj0 P f ⟨[],R,[]⟩ es).made/\(zj0 P f ⟨[],R,[]⟩ es).rest=R.drop (cnt es)/\cnt es+cnt [e]<=R.length:=fun es e hp=>by have hp':es <+: evs f (f+P.length) 0 n:=(qru _ _).trans hp;have q1:=z19 (P:=P) (f:=f) (t:=f+P.length) hlv.digs ⟨[],R,[]⟩ hp';have q2:=zw8 P f es ⟨[],R,[]⟩;have q3:=hp'.length_le;have q4:=qiq (f:=f) (t:=f+P.length) 0 n (qmu n);have q5:=zzq hp;rw[zgi,hcnt] at q5;have q6:=zp9 (P:=P) (f:=f) hlv.digs es ⟨[],R,[]⟩ (fun _ h=>nomatch h) hlr (by show cnt es<=R.length;omega);refine⟨by simpa using q1,?_,q6.1,q6.2,q5⟩;have q2:(zj0 P f ⟨[],R,[]⟩ es).made.length<=0+es.length:=q2;split at q4<;> omega
 refine zqa (total:=evs f (f+P.length) 0 n) (R:=JnR w B base g V bo bl bf bp bq br F P R A c f)
  (by rintro k (rfl|rfl|rfl) args w<;> go_simp)
  (fun es w1 w2 h k=>⟨h.1.new k,h.2.1.keep (fun cs b=>b.below k b.lt),h.2.2.1.below k h.2.2.1.lt,h.2.2.2.1.below k h.2.2.2.1.lt,h.2.2.2.2.1.below k h.2.2.2.2.1.lt,h.2.2.2.2.2.below k h.2.2.2.2.2.lt⟩)
  (fun es lo hi w1 hp h=>?_) (fun es lo hi w1 hp h=>?_) (fun es w1 hp h=>?_) (n+1) 0 n [] W (by omega) (by omega) (by omega) (qrw _) hr
 ·obtain⟨d,r,x1,x2,x3,x4⟩:=h
  obtain⟨q1,q2,q3,q4,q5⟩:=key es _ hp;obtain⟨i1,i2,i3,i4,i5⟩:=z18 hp;obtain⟨v,Bb,_⟩:=d.box;refine(qa2 d x1 x2 x3 hbs (by rw[qni];omega) (by omega) hlv hc hcm (by omega) i2 (by omega) (by omega) hC).mono ?_;rintro e w' ⟨rfl,d',k⟩;refine⟨rfl,?_,k.t Bb⟩;unfold JnR;rw[zqh];refine⟨by simpa[zfx] using d',r.keep (fun cs b=>k.2 _ _ _ (by decide) (by decide) (.inl (by decide)) (by omega) b),k.2 _ _ _ (by decide) (by decide) (.inl (by decide)) (by omega) x1,k.2 _ _ _ (by decide) (by decide) (.inl (by decide)) (by omega) x2,k.2 _ _ _ (by decide) (by decide) (.inl (by decide)) (by omega) x3,k.2 _ _ _ (by decide) (by decide) (.inr hl.2.2.2.2) (by omega) x4⟩
 ·obtain⟨d,r,x1,x2,x3,x4⟩:=h
  obtain⟨q1,q2,q3,q4,q5⟩:=key es _ hp;obtain⟨v,Bb,_⟩:=d.box;obtain⟨A',c',Bq,rr⟩:=r;have hr1:1<=(zj0 P f ⟨[],R,[]⟩ es).rest.length:=by rw[q4,qmp];have:cnt [Ev.beside lo hi]=1:=rfl;omega
  refine(qa4 (lo:Int) (hi:Int) d ⟨A',c',Bq,rr⟩ (by omega) hr1 h1 (by omega)).mono ?_;rintro e w' ⟨rfl,d',r',z,k⟩;refine⟨rfl,?_,z,fun b cs hb=>k _ _ _ (by decide) (by decide) (.inl (by decide)) (Blk.ne_ hb Bb (by decide)) (Blk.ne_ hb Bq (by decide)) hb⟩;unfold JnR;rw[zqh];exact⟨d',r',k _ _ _ (by decide) (by decide) (.inl (by decide)) (by omega) hne.1 x1,k _ _ _ (by decide) (by decide) (.inl (by decide)) (by omega) hne.2.1 x2,k _ _ _ (by decide) (by decide) (.inl (by decide)) (by omega) hne.2.2.1 x3,k _ _ _ (by decide) (by decide) (.inr hl.2.2.2.2) (by omega) hne.2.2.2 x4⟩
 ·obtain⟨d,r,x1,x2,x3,x4⟩:=h
  obtain⟨q1,q2,q3,q4,q5⟩:=key es _ hp;obtain⟨v,Bb,_⟩:=d.box;have m2:=qe7 (P:=P) (f:=f) (t:=f+P.length) 0 n (qmu n) ⟨[],R,[]⟩ es hp;have m2:0+2<=(zj0 P f ⟨[],R,[]⟩ es).made.length:=m2;refine(qa5 (k:=(zj0 P f ⟨[],R,[]⟩ es).made.length-2) d x1 hbs (by rw[qni];omega) q3 (by omega) (by omega) hC).mono ?_;rintro e w' ⟨rfl,d',k⟩;refine⟨rfl,?_,k.t Bb⟩;unfold JnR;rw[zqh];refine⟨by simpa[zfx] using d',r.keep (fun cs b=>k.2 _ _ _ (by decide) (by decide) (.inl (by decide)) (by omega) b),k.2 _ _ _ (by decide) (by decide) (.inl (by decide)) (by omega) x1,k.2 _ _ _ (by decide) (by decide) (.inl (by decide)) (by omega) x2,k.2 _ _ _ (by decide) (by decide) (.inl (by decide)) (by omega) x3,k.2 _ _ _ (by decide) (by decide) (.inr hl.2.2.2.2) (by omega) x4⟩
theorem zh7{P:Program}{fn:Func}{p q:Tmp}{ty:TypeId}(h:fn.results= #[.cell p ty,.tmp q])(tmps:Array Value)(w:World)(g:Nat)(t:TypeId)(cs:Array Value)(fr:Nat × Nat)(d:TypeDesc)
 (hp:tmps.getD p undef= .pointer (some ⟨g,0,none⟩))(hg:w.heap[g]? =some (.cells cs t fr))
 (hu:P.underlying ty=some d)(hd:(match d with| .struct _| .array _ _=>true|_=>false)=true)(hi:(P.info? ty).map (·.size)=some cs.size):
 (results fn tmps).run P w= .ok (.tuple #[.agg cs,tmps.getD q undef]) w:=by
 have hp':tmps[p]?.getD undef= .pointer (some ⟨g,0,none⟩):=by simpa using hp
 simp[results,h,hp',asAddr,run_loadVar_row w g t ty cs fr d hg hu hd hi]
theorem qa7{w W:World}{base g b:Nat}{V V':Value}{F:List (List Nat)}(l:LogOf tL W base g V' F)(a:V'.ownBlock=V.ownBlock\/ ∃h,V'.ownBlock=some h/\w.heap.size<=h)(t:Turns (g::zbi V) w W){old:Array Value}(G:Blk W b tD old)(hb:w.heap.size<=b)(cs:Array Value):
 ∃V',LogOf tL (W.setRow b cs) base g V' F/\(V'.ownBlock=V.ownBlock\/ ∃h,V'.ownBlock=some h/\w.heap.size<=h)/\Turns (g::zbi V) w (W.setRow b cs):=by
 have T2:Turns [b] W (W.setRow b cs):=Turns.of_far (zbl (g:=b) W cs) (by simp);obtain⟨A,n,c,D,rfl,hg,ho,hp,hD⟩:=l;have l:LogOf tL W base g (.slice A n c) F:=⟨A,n,c,D,rfl,hg,ho,hp,hD⟩;exact⟨_,l.turn T2 (by simp;exact Blk.ne_ hg G (by decide)) (by simp;exact zaj ho G (by decide)) (fun x hx _ cs hB=>by simp at hx;subst hx;exact Blk.ne_ G hB (by decide) rfl),a,zhj t T2 (by simpa using hb)⟩
theorem zero_dig:zh4 (List.replicate 32 0):=⟨rfl,by intro x hx;have:=(qow.1 hx).2;omega⟩
set_option maxRecDepth 100000 in
theorem zuc{w:World}{base g:Nat}{V:Value}{F P R:List (List Nat)}{A A2:Option Addr}{c c2:Nat}(n f:Int)(hL:LogOf tL w base g V F)(hbs:base<=w.heap.size)(hF:F.length+P.length<=7000000)(hlv:LeafIn w A P (g::zbi V))(hc:P.length<=c)(hcm:c<=9223372036854775807)(hlr:LeafIn w A2 R (g::zbi V))(hc2:R.length<=c2)(hcm2:c2<=9223372036854775807)(hn0: -9223372036854775808<=n)(hn1:n<=9223372036854775807)(hf1:f<=9223372036854775807)(hC:∀w',Turns (g::zbi V) w w'->ConstIn w'):
 Calls Tryz.prog 29 #[.pointer (some ⟨g,0,none⟩),.int .i64 n,.int .i64 f,.slice A P.length c,.slice A2 R.length c2] w (zev tL (.tuple #[dV (zq3 n f P R),.bool (joinOk n f P R)]) base g V (F++zxh n f P R) w):=by
 obtain⟨W1,hW1⟩:∃W,W=((((w.alloc (.cells #[.pointer (some ⟨g,0,none⟩)] 27)).alloc (.cells #[.int .i64 f] 3)).alloc (.cells #[.slice A P.length c] tS)).alloc (.cells #[.slice A2 R.length c2] tS)).alloc (.cells #[.int .u8 0,.int .u8 0,.int .u8 0,.int .u8 0,.int .u8 0,.int .u8 0,.int .u8 0,.int .u8 0,.int .u8 0,.int .u8 0,.int .u8 0,.int .u8 0,.int .u8 0,.int .u8 0,.int .u8 0,.int .u8 0,.int .u8 0,.int .u8 0,.int .u8 0,.int .u8 0,.int .u8 0,.int .u8 0,.int .u8 0,.int .u8 0,.int .u8 0,.int .u8 0,.int .u8 0,.int .u8 0,.int .u8 0,.int .u8 0,.int .u8 0,.int .u8 0] tD):=⟨_,rfl⟩;have n1:New w W1:=by rw[hW1];exact New.trans (New.trans (New.trans (New.trans (zac _ _) (zac _ _)) (zac _ _)) (zac _ _)) (zac _ _)
 have z1:W1.heap.size=w.heap.size+5:=by rw[hW1];simp
 have bl:Blk W1 w.heap.size 27 #[.pointer (some ⟨g,0,none⟩)]:=by rw[hW1];exact((((Blk.new w _ _).alloc _).alloc _).alloc _).alloc _
 have bf:Blk W1 (w.heap.size+1) 3 #[.int .i64 f]:=by rw[hW1];have:=Blk.new (w.alloc (.cells #[.pointer (some ⟨g,0,none⟩)] 27)) 3 #[.int .i64 f];rw[World.size_alloc] at this;exact((this.alloc _).alloc _).alloc _
 have bp:Blk W1 (w.heap.size+1+1) tS #[.slice A P.length c]:=by rw[hW1];have:=Blk.new ((w.alloc (.cells #[.pointer (some ⟨g,0,none⟩)] 27)).alloc (.cells #[.int .i64 f] 3)) tS #[.slice A P.length c];rw[World.size_alloc,World.size_alloc] at this;exact(this.alloc _).alloc _
 have bq:Blk W1 (w.heap.size+1+1+1) tS #[.slice A2 R.length c2]:=by rw[hW1];have:=Blk.new (((w.alloc (.cells #[.pointer (some ⟨g,0,none⟩)] 27)).alloc (.cells #[.int .i64 f] 3)).alloc (.cells #[.slice A P.length c] tS)) tS #[.slice A2 R.length c2];rw[World.size_alloc,World.size_alloc,World.size_alloc] at this;exact this.alloc _
 have br:Blk W1 (w.heap.size+1+1+1+1) tD #[.int .u8 0,.int .u8 0,.int .u8 0,.int .u8 0,.int .u8 0,.int .u8 0,.int .u8 0,.int .u8 0,.int .u8 0,.int .u8 0,.int .u8 0,.int .u8 0,.int .u8 0,.int .u8 0,.int .u8 0,.int .u8 0,.int .u8 0,.int .u8 0,.int .u8 0,.int .u8 0,.int .u8 0,.int .u8 0,.int .u8 0,.int .u8 0,.int .u8 0,.int .u8 0,.int .u8 0,.int .u8 0,.int .u8 0,.int .u8 0,.int .u8 0,.int .u8 0]:=by rw[hW1];have:=Blk.new ((((w.alloc (.cells #[.pointer (some ⟨g,0,none⟩)] 27)).alloc (.cells #[.int .i64 f] 3)).alloc (.cells #[.slice A P.length c] tS)).alloc (.cells #[.slice A2 R.length c2] tS)) tD #[.int .u8 0,.int .u8 0,.int .u8 0,.int .u8 0,.int .u8 0,.int .u8 0,.int .u8 0,.int .u8 0,.int .u8 0,.int .u8 0,.int .u8 0,.int .u8 0,.int .u8 0,.int .u8 0,.int .u8 0,.int .u8 0,.int .u8 0,.int .u8 0,.int .u8 0,.int .u8 0,.int .u8 0,.int .u8 0,.int .u8 0,.int .u8 0,.int .u8 0,.int .u8 0,.int .u8 0,.int .u8 0,.int .u8 0,.int .u8 0,.int .u8 0,.int .u8 0];rwa[World.size_alloc,World.size_alloc,World.size_alloc,World.size_alloc] at this
 have BL:=Hz bl;have BF:=Hz bf;have BP:=Hz bp;have BQ:=Hz bq;have BR:=Hz br;have N1:=Hz n1;have HW1:=Hz hW1;have HL:=Hz hL;have ND:=Hz (fun W=>zxa n f (znh f P) W hn0 hn1);have hT:wrap64 (f+(P.length:Int))=znh f P:=by unfold znh;rw[IntKind.wrap_i64];unfold wrap64;rfl
 have T0:∀W',New W1.drew W'->Hid (W'.cell? ⟨w.heap.size+1,0,none⟩=some (.int .i64 f)/\W'.cell? ⟨w.heap.size+1+1+1,0,none⟩=some (.slice A2 R.length c2)):=fun W' k=>by have k':=New.trans (New.drew W1) k;exact Hz ⟨(bf.below k' bf.lt).cell 0,(bq.below k' bq.lt).cell 0⟩
 have OKh:∀b,joinOk n f P R=b->Hid (joinOk n f P R=b):=fun _ h=>Hz h
 have hneg:needI n f (znh f P)=(R.length:Nat)->0<=n/\n<=65536/\0<=f/\znh f P=f+(P.length:Nat)/\f+(P.length:Nat)<=n/\cnt (evs f.toNat (f.toNat+P.length) 0 n.toNat)=R.length:=fun h=>by
  unfold needI at h;split at h
  ·omega
  ·rename_i hh
   have e:znh f P=f+(P.length:Nat):=by unfold znh at hh⊢;rw[IntKind.wrap_i64] at hh⊢;omega
   rw[e] at h hh;rw[show(f+(P.length:Nat)).toNat=f.toNat+P.length by omega] at h;exact⟨by omega,by omega,by omega,e,by omega,by exact_mod_cast h⟩
 obtain⟨y,hy⟩:∃y,y=needI n f (znh f P):=⟨_,rfl⟩;obtain⟨tt,htt⟩:∃t,t=znh f P:=⟨_,rfl⟩;rw[<-hy] at ND hneg;have HY:=Hz hy;rw[<-htt] at ND hneg hT;clear hy htt;clear n1 hW1 hL bl bf bp bq br;go_enter Tryz.func29,Tryz.ntmps29
 go_wp2_with fail
 rw[<-HW1.out,hT];by_cases hyr:y=(R.length:Nat)
 ·subst hyr
  have OK:=OKh true (by unfold joinOk;rw[<-HY.out];exact decide_eq_true rfl);obtain⟨c1,c2',c3,c4,c5,c6⟩:=hneg rfl;rw[c4] at ND⊢;clear OKh hneg c4 hT HY;obtain⟨n,rfl⟩:∃m:Nat,n=(m:Int):=⟨n.toNat,by omega⟩;obtain⟨f,rfl⟩:∃m:Nat,f=(m:Int):=⟨f.toNat,by omega⟩;rw[qng,qng] at c6;refine zax New [(true,0),(true,1),(true,2),(true,4),(true,5),(false,3),(true,6)]
   New.refl New.trans (by kernel_rfl) (by kernel_rfl) (by kernel_rfl) (by kernel_rfl) ?_
  iterate 5 (
   refine zar rfl rfl (v:=?_) (fun W' hW=>?_) ?_;rotate_left
   ·obtain⟨u1,u2⟩:=(T0 W' hW).out
    go_simp<;> with_reducible rfl
   simp only[Act.put,qo6,qou,qo7])
  refine zba rfl rfl (fun K hK=>?_);go_simp
  (with_reducible refine(ND.out W1.drew).mono ?_)
  rintro e w2 ⟨rfl,b2⟩;refine hK _ _ b2 ?_;clear hK ND T0;iterate 1 (
   refine zar rfl rfl (v:=?_) (fun W' hW=>?_) ?_;rotate_left
   ·go_simp<;> with_reducible rfl
   simp only[Act.put,qo6,qou,qo7])
  refine zdh ?_;have b12:=New.trans (New.drew W1) b2;have B12:=Hz b12;have z2:w.heap.size+5<=w2.heap.size:=by have:=b12.size;omega
  have hmf:∀(fn:Fn) (first cap:Array Value) (w:World),(Instr.makeFunc fn first cap).run Tryz.prog w= .ok (.func fn first cap) w:=fun _ _ _ _=>rfl
  have kf:(w2.alloc (.cells #[.slice none 0 0] tS)).cell? ⟨w.heap.size+1,0,none⟩=some (.int .i64 (f:Int)):=by rw[World.cell?_alloc_lt _ _ _ (by show w.heap.size+1<w2.heap.size;omega)];exact(BF.out.below b12 BF.out.lt).cell 0
  have n3:∀o1 o2,New w2 ((w2.alloc o1).alloc o2):=fun _ _=>New.trans (zac _ _) (zac _ _)
  have R3:JnR w (w.heap.size+5) base g V w2.heap.size w.heap.size (w.heap.size+1) (w.heap.size+1+1) (w.heap.size+1+1+1) (w.heap.size+1+1+1+1) F P R A c f [] ((w2.alloc (.cells #[.slice none 0 0] tS)).alloc (.cells #[.int .i64 (f:Int),.int .i64 ((f:Int)+(P.length:Int)),.func (.func 58) #[] #[.pointer (some ⟨w2.heap.size,0,none⟩),.pointer (some ⟨w.heap.size,0,none⟩),.pointer (some ⟨w.heap.size+1+1,0,none⟩),.pointer (some ⟨w.heap.size+1,0,none⟩)],.func (.func 59) #[] #[.pointer (some ⟨w2.heap.size,0,none⟩),.pointer (some ⟨w.heap.size+1+1+1,0,none⟩)],.func (.func 60) #[] #[.pointer (some ⟨w2.heap.size,0,none⟩),.pointer (some ⟨w.heap.size,0,none⟩)]] tW)):=by have n13:=New.trans b12 (n3 (.cells #[.slice none 0 0] tS) (.cells #[.int .i64 (f:Int),.int .i64 ((f:Int)+(P.length:Int)),.func (.func 58) #[] #[.pointer (some ⟨w2.heap.size,0,none⟩),.pointer (some ⟨w.heap.size,0,none⟩),.pointer (some ⟨w.heap.size+1+1,0,none⟩),.pointer (some ⟨w.heap.size+1,0,none⟩)],.func (.func 59) #[] #[.pointer (some ⟨w2.heap.size,0,none⟩),.pointer (some ⟨w.heap.size+1+1+1,0,none⟩)],.func (.func 60) #[] #[.pointer (some ⟨w2.heap.size,0,none⟩),.pointer (some ⟨w.heap.size,0,none⟩)]] tW));refine⟨⟨V,.slice none 0 0,?_,.inl rfl,Turns.of_new (New.trans N1.out n13),⟨by omega,z2⟩,(Blk.new w2 _ _).alloc _,zc3⟩,⟨A2,c2,BQ.out.below n13 BQ.out.lt,hc2,hcm2,hlr⟩,BL.out.below n13 BL.out.lt,BP.out.below n13 BP.out.lt,BF.out.below n13 BF.out.lt,BR.out.below n13 BR.out.lt⟩;rw[show(zj0 P f ⟨[],R,[]⟩ []).frames=[] from rfl,qm3];exact HL.out.new (New.trans N1.out n13)
  have OV:=qa6 (w:=w) (B:=w.heap.size+5) (base:=base) (g:=g) (bo:=w2.heap.size) (bl:=w.heap.size) (bf:=w.heap.size+1) (bp:=w.heap.size+1+1) (bq:=w.heap.size+1+1+1) (br:=w.heap.size+1+1+1+1) (f:=f) (n:=n) (V:=V) (F:=F) (P:=P) (R:=R) (A:=A) (c:=c) ⟨by omega,z2⟩ (by omega) ⟨by omega,by omega,by omega,by omega,by omega⟩ ⟨by omega,by omega,by omega,by omega⟩ hbs hF (by omega) (by omega) c6 hlv hc hcm hlr.digs hC _ R3;rw[Int.natCast_add,Int.natCast_zero,qnk] at OV;have OV:=Hz OV;obtain⟨d,Fr,ej,-⟩:=zn4 (P:=P) (f:=f) (t:=f+P.length) (X:=fun _ _ _ _ _=>True) (fun _ _ _ _ _=>trivial) (fun _ _ _ _ _ _=>trivial) (fun _ _ _ _ _ _ _ _ _ _ _ _ _ _ _ _=>trivial) 0 n (qmu n) ⟨[],R,[]⟩;have hjs:z5e (n:Int) (f:Int) P R=⟨[d],R.drop (cnt (evs f (f+P.length) 0 n)),Fr⟩:=by unfold z5e;rw[qng,qng,ej];rfl
  have hdd:zh4 d:=by have:=(zp9 (P:=P) (f:=f) hlv.digs (evs f (f+P.length) 0 n) ⟨[],R,[]⟩ (fun _ h=>nomatch h) hlr.digs (by rw[c6];exact qmt _)).1;rw[ej] at this;exact this d (by simp)
  have JD:=Hz (show zq3 (n:Int) (f:Int) P R=d by unfold zq3;rw[OK.out,if_pos rfl,hjs];rfl);have JF:=Hz (show zxh (n:Int) (f:Int) P R=Fr by unfold zxh;rw[OK.out,if_pos rfl,hjs]);have EJ:=Hz ej;have HD:=Hz hdd;clear R3 n3 b2 b12 hjs ej hdd BL BF BP BQ BR HL N1 hlv hlr;go_wp2_with fail
  refine OV.out.mono ?_;rintro e w4 ⟨rfl,r,-⟩;obtain⟨d4,-,-,-,-,G4⟩:=r;rw[EJ.out] at d4;obtain⟨V',v,l,a,t,hb,Bb,o⟩:=d4;obtain⟨Ad,cd,rfl,-,-⟩:=zcw o;obtain⟨ad,rfl,hcell⟩:=qar (i:=0) o (fun x hx=>by obtain rfl:=qnz.1 hx;exact HD.out) (by simp);have hcell:=hcell w4 (KeepC.refl _);rw[qpj,zel] at hcell;obtain⟨cs,hcs⟩:∃cs,cs=(zan .u8 d).toArray:=⟨_,rfl⟩;have I32:Hid ((Tryz.prog.info? 35).map (·.size)=some cs.size):=Hz (by rw[hcs];exact z6p HD.out.1);have I32L:Hid ((Tryz.prog.info? 35).map (·.size)=some cs.toList.length):=Hz (by rw[hcs];simpa using z6p HD.out.1);have ONE:Hid (cs.all (·.oneCell')=true):=Hz (by rw[hcs];exact zuv d);have SZ:Hid ((#[.int .u8 0,.int .u8 0,.int .u8 0,.int .u8 0,.int .u8 0,.int .u8 0,.int .u8 0,.int .u8 0,.int .u8 0,.int .u8 0,.int .u8 0,.int .u8 0,.int .u8 0,.int .u8 0,.int .u8 0,.int .u8 0,.int .u8 0,.int .u8 0,.int .u8 0,.int .u8 0,.int .u8 0,.int .u8 0,.int .u8 0,.int .u8 0,.int .u8 0,.int .u8 0,.int .u8 0,.int .u8 0,.int .u8 0,.int .u8 0,.int .u8 0,.int .u8 0]:Array Value).size=cs.size):=Hz (by rw[hcs];simp[zan,HD.out.1]);have HC:Hid (∀j u,cs.toList[j]? =some u->w4.cell? (ad.add j)=some u):=Hz (by rw[hcs];simpa using hcell);have DV:=Hz (show dV d= .agg cs by rw[hcs];rfl);have LS:=Hz (qa7 (w:=w) (V:=V) (base:=base) l a t G4 (by omega) cs);have H:=Hz (qo8 (zay G4) (za5 G4 cs));have k4:w4.cell? ⟨w2.heap.size,0,none⟩=some (.slice (some ad) 1 cd):=Bb.cell 0;clear hcell hcs G4 Bb o l a t OV EJ;go_wp2_with (first
   |(refine zjw rfl 35 (.tmp 40) rfl (ad:=ad) (cs:=cs.toList) rfl HC.out zcn rfl I32L.out ?_)
   |(refine wpList_store_row rfl 35 (.tmp 10) (.tmp 41) rfl (w.heap.size+1+1+1+1) cs rfl rfl _ _ H.out.1 I32.out SZ.out ONE.out ?_))
  refine bodyPost_ret (zh7 rfl _ _ (w.heap.size+1+1+1+1) _ cs (0,0) _ rfl H.out.2 zcn rfl I32.out) rfl ⟨?_,?_⟩
  ·rw[OK.out,JD.out,DV.out]
   rfl
  ·rw[JF.out]
   exact LS.out
 ·have q1:(y==(R.length:Int))=false:=beq_eq_false_iff_ne.2 hyr
  have OK:=OKh false (by unfold joinOk;rw[<-HY.out];exact decide_eq_false hyr);clear OKh hneg;refine zax New [(true,0),(true,1),(true,2),(true,4),(true,5),(false,3),(true,6)]
   New.refl New.trans (by kernel_rfl) (by kernel_rfl) (by kernel_rfl) (by kernel_rfl) ?_
  iterate 5 (
   refine zar rfl rfl (v:=?_) (fun W' hW=>?_) ?_;rotate_left
   ·obtain⟨u1,u2⟩:=(T0 W' hW).out
    go_simp<;> with_reducible rfl
   simp only[Act.put,qo6,qou,qo7])
  refine zba rfl rfl (fun K hK=>?_);go_simp
  (with_reducible refine(ND.out W1.drew).mono ?_)
  rintro e w2 ⟨rfl,b2⟩;refine hK _ _ b2 ?_;clear hK ND T0;iterate 1 (
   refine zar rfl rfl (v:=?_) (fun W' hW=>?_) ?_;rotate_left
   ·go_simp<;> with_reducible rfl
   simp only[Act.put,qo6,qou,qo7])
  refine zdh ?_;have b12:=New.trans (New.drew W1) b2;have B12:=Hz b12;have z2:w.heap.size+5<=w2.heap.size:=by have:=b12.size;omega
  have G2:=BR.out.below b12 BR.out.lt;have LS:=Hz (qa7 (w:=w) (V:=V) (base:=base) (HL.out.new (New.trans N1.out b12)) (.inl rfl) (Turns.of_new (New.trans N1.out b12)) G2 (by omega) #[.int .u8 0,.int .u8 0,.int .u8 0,.int .u8 0,.int .u8 0,.int .u8 0,.int .u8 0,.int .u8 0,.int .u8 0,.int .u8 0,.int .u8 0,.int .u8 0,.int .u8 0,.int .u8 0,.int .u8 0,.int .u8 0,.int .u8 0,.int .u8 0,.int .u8 0,.int .u8 0,.int .u8 0,.int .u8 0,.int .u8 0,.int .u8 0,.int .u8 0,.int .u8 0,.int .u8 0,.int .u8 0,.int .u8 0,.int .u8 0,.int .u8 0,.int .u8 0]);have H:=Hz (qo8 (zay G2) (za5 G2 #[.int .u8 0,.int .u8 0,.int .u8 0,.int .u8 0,.int .u8 0,.int .u8 0,.int .u8 0,.int .u8 0,.int .u8 0,.int .u8 0,.int .u8 0,.int .u8 0,.int .u8 0,.int .u8 0,.int .u8 0,.int .u8 0,.int .u8 0,.int .u8 0,.int .u8 0,.int .u8 0,.int .u8 0,.int .u8 0,.int .u8 0,.int .u8 0,.int .u8 0,.int .u8 0,.int .u8 0,.int .u8 0,.int .u8 0,.int .u8 0,.int .u8 0,.int .u8 0]));have I32:Hid ((Tryz.prog.info? 35).map (·.size)=some ((#[.int .u8 0,.int .u8 0,.int .u8 0,.int .u8 0,.int .u8 0,.int .u8 0,.int .u8 0,.int .u8 0,.int .u8 0,.int .u8 0,.int .u8 0,.int .u8 0,.int .u8 0,.int .u8 0,.int .u8 0,.int .u8 0,.int .u8 0,.int .u8 0,.int .u8 0,.int .u8 0,.int .u8 0,.int .u8 0,.int .u8 0,.int .u8 0,.int .u8 0,.int .u8 0,.int .u8 0,.int .u8 0,.int .u8 0,.int .u8 0,.int .u8 0,.int .u8 0]:Array Value).size)):=Hz (z6p zero_dig.1);have ONE:Hid ((#[.int .u8 0,.int .u8 0,.int .u8 0,.int .u8 0,.int .u8 0,.int .u8 0,.int .u8 0,.int .u8 0,.int .u8 0,.int .u8 0,.int .u8 0,.int .u8 0,.int .u8 0,.int .u8 0,.int .u8 0,.int .u8 0,.int .u8 0,.int .u8 0,.int .u8 0,.int .u8 0,.int .u8 0,.int .u8 0,.int .u8 0,.int .u8 0,.int .u8 0,.int .u8 0,.int .u8 0,.int .u8 0,.int .u8 0,.int .u8 0,.int .u8 0,.int .u8 0]:Array Value).all (·.oneCell')=true):=Hz (zuv (List.replicate 32 0));have SZ:Hid ((#[.int .u8 0,.int .u8 0,.int .u8 0,.int .u8 0,.int .u8 0,.int .u8 0,.int .u8 0,.int .u8 0,.int .u8 0,.int .u8 0,.int .u8 0,.int .u8 0,.int .u8 0,.int .u8 0,.int .u8 0,.int .u8 0,.int .u8 0,.int .u8 0,.int .u8 0,.int .u8 0,.int .u8 0,.int .u8 0,.int .u8 0,.int .u8 0,.int .u8 0,.int .u8 0,.int .u8 0,.int .u8 0,.int .u8 0,.int .u8 0,.int .u8 0,.int .u8 0]:Array Value).size=(#[.int .u8 0,.int .u8 0,.int .u8 0,.int .u8 0,.int .u8 0,.int .u8 0,.int .u8 0,.int .u8 0,.int .u8 0,.int .u8 0,.int .u8 0,.int .u8 0,.int .u8 0,.int .u8 0,.int .u8 0,.int .u8 0,.int .u8 0,.int .u8 0,.int .u8 0,.int .u8 0,.int .u8 0,.int .u8 0,.int .u8 0,.int .u8 0,.int .u8 0,.int .u8 0,.int .u8 0,.int .u8 0,.int .u8 0,.int .u8 0,.int .u8 0,.int .u8 0]:Array Value).size):=Hz rfl;clear G2 b12 b2;go_wp2_with (refine wpList_store_row rfl 35 (.tmp 10) (.tmp 26) rfl (w.heap.size+1+1+1+1) #[.int .u8 0,.int .u8 0,.int .u8 0,.int .u8 0,.int .u8 0,.int .u8 0,.int .u8 0,.int .u8 0,.int .u8 0,.int .u8 0,.int .u8 0,.int .u8 0,.int .u8 0,.int .u8 0,.int .u8 0,.int .u8 0,.int .u8 0,.int .u8 0,.int .u8 0,.int .u8 0,.int .u8 0,.int .u8 0,.int .u8 0,.int .u8 0,.int .u8 0,.int .u8 0,.int .u8 0,.int .u8 0,.int .u8 0,.int .u8 0,.int .u8 0,.int .u8 0] rfl rfl _ _ H.out.1 I32.out SZ.out ONE.out ?_)
  refine bodyPost_ret (zh7 rfl _ _ (w.heap.size+1+1+1+1) _ #[.int .u8 0,.int .u8 0,.int .u8 0,.int .u8 0,.int .u8 0,.int .u8 0,.int .u8 0,.int .u8 0,.int .u8 0,.int .u8 0,.int .u8 0,.int .u8 0,.int .u8 0,.int .u8 0,.int .u8 0,.int .u8 0,.int .u8 0,.int .u8 0,.int .u8 0,.int .u8 0,.int .u8 0,.int .u8 0,.int .u8 0,.int .u8 0,.int .u8 0,.int .u8 0,.int .u8 0,.int .u8 0,.int .u8 0,.int .u8 0,.int .u8 0,.int .u8 0] (0,0) _ rfl H.out.2 zcn rfl I32.out) rfl ⟨?_,?_⟩
  ·rw[OK.out,show zq3 n f P R=List.replicate 32 0 by unfold zq3;rw[OK.out];rfl]
   rfl
  ·rw[show zxh n f P R=[] by unfold zxh;rw[OK.out];rfl,qm3]
   exact LS.out
end Go.Proofs.Y
