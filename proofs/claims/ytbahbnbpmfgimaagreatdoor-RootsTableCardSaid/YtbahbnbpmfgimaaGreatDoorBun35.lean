import Derived.Test.YtbahbnbpmfgimaaGreatDoorBun30
import Derived.Test.YtbahbnbpmfgimaaGreatDoorBun33
set_option maxHeartbeats 2000000
set_option maxRecDepth 100000
namespace Go.Proofs.Y
open Go Go.RowKit Go.Hm
theorem zpm:zek fz=[0,0,0]:=by
 unfold zek fz;have e:putC [] []=[0]:=by rw[putC,if_pos (by decide)];simp[zlv,zgj]
 rw[e];simp[zgj]
theorem qco{t:Int}{s:zdp}(d:statData s):∀x∈putS [] t s,x<256:=by
 intro x a;unfold putS at a;split at a
 ·split at a
  ·simp only[qrr,qr5,qr6] at a
   rcases a with((a|a)|a)|a
   ·exact zex _ _ (qq0 _) x a
   ·omega
   ·exact zex _ _ (qq0 _) x a
   ·exact qav (fun c b=>by simp at b;rcases b with rfl|rfl;exact d.1.1.2;exact d.2.1.2) x a
  ·simp only[qrr,qr5,qr6] at a
   rcases a with a|a
   ·exact zex _ _ (qq0 _) x a
   ·omega
 ·simp at a
theorem z62{F:FootS}(h:zbs F)(e:zfg F):∀x∈zek F,x<256:=by
 obtain⟨f,t,u,v,w⟩:=h;obtain⟨m,n⟩:=e;intro x a;unfold zek at a;simp only[qr5] at a;rcases a with((a|a)|a)|a
 ·have j:=(zdv F.cols).2 f
  rw[putC,if_pos j,qrr] at a;exact qbk F.cols (fun c i=>⟨m c i,(f.2.1 c i).2.2.1,(f.2.1 c i).2.2.2⟩) x a
 ·exact zex _ _ (qq0 _) x a
 ·exact zex _ _ (qq0 _) x a
 ·obtain⟨g,o,a⟩:=qtj.1 a
  unfold zc4 at a;rcases qr5.1 a with a|a
  ·exact zex _ _ (qq0 _) x a
  ·have k:∀(d:List za2) (b:List (List za3)),(∀l∈b,∀p∈l,statData p.2.2)->x∈zbu d b->x<256:=by
    intro d;induction d with
    |nil=>intro b _ a;simp[zbu] at a
    |cons c d s=>
     intro b e a;cases b with
     |nil=>simp[zbu] at a
     |cons l b=>
      simp only[zbu,qr5] at a;rcases a with a|a
      ·unfold zf4 at a
       rcases qr5.1 a with a|a
       ·exact zex _ _ (qq0 _) x a
       ·obtain⟨p,r,a⟩:=qtj.1 a
        simp only[zfj,qr5] at a;rcases a with(a|a)|a
        ·exact zex _ _ (qq0 _) x a
        ·exact zex _ _ (qq0 _) x a
        ·exact qco (e l (by simp) p r) x a
      ·exact s b (fun l q=>e l (by simp[q])) a
   exact k _ _ (n g o) a
open Go.RowKit Go.Hm
def kindS:List (List Nat):=[zcp,zfk,ze4,zfp]
def KindsIn(w:World):Prop:=0<w.heap.size/\ ∀i,i<4->w.cell? ⟨0,i,none⟩=some (.string (zaf (kindS.getD i [])))
theorem KindsIn.new{w w':World}(h:KindsIn w)(a:New w w'):KindsIn w':=⟨qqv h.1 a.size,fun i b=>(a.cell h.1).trans (h.2 i b)⟩
def GlobIn(w:World):Prop:=ConstIn w/\KindsIn w
theorem GlobIn.new{w w':World}(h:GlobIn w)(a:New w w'):GlobIn w':=⟨h.1.new a,h.2.new a⟩
theorem qjf(s:List Nat)(D:List (List Nat)):ovD s D=(zc9 (lvD s D)).1:=by unfold ovD;rfl
theorem qjg(s:List Nat)(D:List (List Nat)):ovF s D=lvF s D++(zc9 (lvD s D)).2:=by unfold ovF;rfl
theorem zpo{w:World}{base a g n c:Nat}{A:Option Addr}{V:Value}{F L:List (List Nat)}(h:w.ownsRow a tD 32 (.slice A n c) n (recs zi6 L))(o:n=L.length)(k:Digs L)(l:LogOf tL w base g V F):LeafIn w A L (g::zbt V):=by
 subst o;refine⟨qwz h,k,fun t q j=>?_⟩;subst j;rcases h.2 with⟨e,u⟩|⟨i,f,b,p,_,m,_⟩
 ·omega
 ·injection p with d r s
  injection d with d;subst d;exact l.notT (show Blk w i tD b from m) (by decide) (by decide)
theorem qc2{w:World}{base g:Nat}{V:Value}{F:List (List Nat)}(E:LogOf tL w base g V F)(l:base<=w.heap.size){A:Option Addr}{c:Nat}{D:List zju}(hD:DataF w A D (g::zbt V))(hF:F.length+2*D.length<=8000000)(C:∀w',Turns (g::zbt V) w w'->GlobIn w'):
 Calls Tryz.prog 12 #[.pointer (some ⟨g,0,none⟩),.slice A D.length c] w (zf3 tL (dV (ovD zcp (D.map (·.2.2)))) base g V (F++ovF zcp (D.map (·.2.2))) w):=by
 rw[qjf,qjg];have t:=zil zcp (D.map (·.2.2));have y:=znh zcp (D.map (·.2.2));have u:=zzg zcp (D.map (·.2.2));rw[qtl] at y u;have f:=zai w (.cells (za5 .u8 zau).toArray 35);have n:=qw1 w 35 (za5 .u8 zau).toArray;have q:g<w.heap.size:=E.lt;obtain⟨p,b⟩:∃W,W=w.alloc (.cells (za5 .u8 zau).toArray 35):=⟨_,rfl⟩;rw[<-b] at f n;have U:=qwk (zt1 (w:=p) (c:=c) (s:=zcp) (E.new f) (qqs l f.size) (by decide) (by decide) (hD.turn (qxe f) (fun _ _ h=>h)) (by omega) (fun w' k=>(C w' ((qxe f).trans k)).1));have x:=(C p (qxe f)).2.2 0 (by omega);have x:p.cell? ⟨0,0,none⟩=some (.string (zaf zcp)):=x;have HW:=qwk b;have HL:=qwk E;have HG:=qwk C;have I:=qwk f;have J:=qwk l;have T:=zd7 _ t;rw[<-qrc];generalize lvD zcp (D.map (·.2.2))=Lv at*;generalize lvF zcp (D.map (·.2.2))=Fv at*;obtain⟨z,m,a,M,i,O⟩:=zg7 T;have HV:=qwk m;replace a:=qwk a;replace M:=qwk M;replace i:=qwk i;replace t:=qwk t;replace n:=qwk n;replace y:=qwk y;replace u:=qwk u;have K:=qwk q;rw[m];clear T O m q;have S:=x;rw[show p=w.alloc (.cells qxy 35) from b] at S;clear b E C f l hD x;go_enter Tryz.func12,Tryz.ntmps12
 go_wp2_with fail
 rw[show w.alloc (.cells qxy 35)=p from HW.out.symm];refine U.out.mono ?_;rintro e w2 ⟨v,rfl,P,L,G,Z,Q⟩;obtain⟨A2,c2,rfl,q1,q2⟩:=zes P;have d:Turns (g::zbt V) w w2:=(qxe I.out).trans Q;have j:L.ownBlock=V.ownBlock\/ ∃h,L.ownBlock=some h/\w.heap.size<=h:=Z.imp id fun⟨h,h1,h2⟩=>⟨h,h1,qqs I.out.size h2⟩
 have N:=n.out.touch Q ((HL.out.new I.out).notT n.out (by decide) (by decide));have r:w.heap.size∉g::zbt L:=G.notT N (by decide) (by decide);have X:=qwk (z1q (Lv.length+1) (qv9 _) G (qqs J.out d.size) (by have:=y.out;have:=u.out;rw[qrp];omega) (zpo P rfl t.out G) q1 (by simp only[maxLen] at q2;omega) (fun w' k=>(HG.out w' (zbw d j k)).1));have Y:=qwk d;have o:=qwk j;have G2:=qwk N;have NR:=qwk r;clear q1 q2 S P G Z Q d j N r U n;go_wp2_with fail
 refine X.out.mono ?_;rintro e w4 ⟨rfl,V4,l4,a4,R⟩;have B:=G2.out.touch R NR.out;have PS:=qwk (zdu K.out l4 (zgq Y.out.size o.out a4) (zbw Y.out o.out R) B z);have H:=qwk (qtc (za1 B) (zbi B z));rw[HV.out];clear l4 a4 R B X;go_wp2_with (refine wpList_store_row rfl 35 (.tmp 4) (.tmp 11) rfl w.heap.size z rfl rfl _ _ H.out.1 a.out M.out i.out ?_)
 exact bodyPost_ret (results_cell_row rfl _ _ w.heap.size _ z (0,0) _ rfl H.out.2 zct rfl a.out) rfl ⟨rfl,by simpa only[qrc] using PS.out⟩
def zi9(A:Option Addr)(L:List (List Nat)):List zju:=(List.range L.length).map fun k=>(A.map (·.add (k*32)),32,L.getD k [])
theorem zh8(A:Option Addr)(L:List (List Nat)):(zi9 A L).length=L.length:=by simp[zi9]
theorem z06(A:Option Addr)(L:List (List Nat)):(zi9 A L).map (·.2.2)=L:=by
 refine qre (by simp[zi9]) fun i b a=>?_
 simp[zi9,List.getD_eq_getElem?_getD,List.getElem?_eq_getElem a]
theorem qh1(A:Option Addr)(L:List (List Nat)){k:Nat}(a:k<L.length):(zi9 A L).getD k (none,0,[])=(A.map (·.add (k*32)),32,L.getD k []):=by rw[qsh];simp[zi9,a]
theorem qc3{A:Option Addr}{L:List (List Nat)}{d:zju}(h:d∈zi9 A L):∃k,k<L.length/\d=(A.map (·.add (k*32)),32,L.getD k []):=by unfold zi9 at h;obtain⟨k,a,rfl⟩:=qqu.1 h;exact⟨k,qtn.1 a,rfl⟩
theorem z7d(A:Option Addr)(L:List (List Nat)){k:Nat}(b:k<L.length):(zi9 A L).take (k+1)=(zi9 A L).take k++[(A.map (·.add (k*32)),32,L.getD k [])]:=by
 have e:=qh1 A L b;have a:k<(zi9 A L).length:=by rw[zh8];exact b
 rw[qsh,qqt a] at e;rw[<-e,List.take_add_one,qqt a];rfl
theorem LeafIn.subs{w:World}{A:Option Addr}{L:List (List Nat)}{T:List Nat}(h:LeafIn w A L T):∀d∈zi9 A L,BytIn w d/\(0<d.2.2.length-> ∀ad,d.1=some ad->ad.block∉T)/\d.2.2.length<=d.2.1/\d.2.1<=9223372036854775807/\(∀x∈d.2.2,x<256)/\d.2.2.length<=9000000:=by
 intro d n;obtain⟨k,f,rfl⟩:=qc3 n;obtain⟨ad,e,m⟩:=h.at_ f;obtain⟨g,b,l,_⟩:=h.row.2 (by omega);rw[e] at b;injection b with b;subst b;subst e;have o:L.getD k []∈L:=zdt [] f;obtain⟨q,i⟩:=h.digs _ o;refine⟨⟨by simp[zar],fun _=>⟨_,rfl,by rw[zam];exact l,fun j u p=>m w (qwd _ _) j u p⟩⟩,fun _ a c=>?_,?_,?_,i,?_⟩
 ·simp only[qtw,qqh] at c
  subst c;rw[zam];exact h.far (by omega) _ rfl
 all_goals simp only;omega
theorem z3s{i:Nat}(h:i<4):(∀x∈kindS.getD i [],x<256)/\(kindS.getD i []).length<=140737488351232:=by
 match i,h with
 |0,_=>exact by decide
 |1,_=>exact by decide
 |2,_=>exact by decide
 |3,_=>exact by decide
theorem qh2{α:Type}(X Y:List α)(o u:α){k:Nat}(h:X.length=k):(X++o::Y).toArray.setIfInBounds k u=(X++u::Y).toArray:=by subst h;rw[qta,qsy _ _ (qq0 _),qsz];rfl
def qpm(w:World)(A:Option Addr)(L:List (List Nat))(k:Nat)(W:World):Prop:=
 New w W/\Blk W w.heap.size tD (za5 .u8 zau).toArray/\Blk W (w.heap.size+1) 24 (recs zjb ((zi9 A L).take k)++List.replicate (L.length-k) (Value.slice none 0 0)).toArray
theorem zyp{w:World}{base g:Nat}{V:Value}{F:List (List Nat)}(hL:LogOf tL w base g V F)(N:base<=w.heap.size){A:Option Addr}{c:Nat}{L:List (List Nat)}(hl:LeafIn w A L (g::zbt V)){i:Nat}(hi:i<4)(hF:F.length+2*L.length<=8000000)(hG:∀w',Turns (g::zbt V) w w'->GlobIn w'):
 Calls Tryz.prog 38 #[.pointer (some ⟨g,0,none⟩),.int .i64 (i:Int),.slice A L.length c] w (zf3 tL (dV (ovD (kindS.getD i []) L)) base g V (F++ovF (kindS.getD i []) L) w):=by
 rw[qjf,qjg,<-qrc];have G:=zil (kindS.getD i []) L;have U:=znh (kindS.getD i []) L;have R:=zzg (kindS.getD i []) L;have L1:=zd7 _ G;obtain⟨Lv,n⟩:∃x,x=lvD (kindS.getD i []) L:=⟨_,rfl⟩;obtain⟨Fv,m⟩:∃x,x=lvF (kindS.getD i []) L:=⟨_,rfl⟩;obtain⟨ks,z⟩:∃x,x=kindS.getD i []:=⟨_,rfl⟩;rw[<-n] at G U L1⊢;rw[<-m] at R⊢;rw[<-z] at n m;obtain⟨X,y,l,ZS,r,a5⟩:=zg7 L1;rw[y];have HV:=qwk y;have HK:=qwk z;have a1:=qwk n;have a0:=qwk m;replace l:=qwk l;replace ZS:=qwk ZS;replace r:=qwk r;replace G:=qwk G;replace U:=qwk U;replace R:=qwk R;clear a5 y L1 z n m;have c0:=zai w (.cells (za5 .u8 zau).toArray 35);have I:=qw1 w 35 (za5 .u8 zau).toArray;have O:g<w.heap.size:=hL.lt;have K:=qwk O;have HL:=qwk hL;have HG:=qwk hG;have J:=qwk N;have p:=qwk hl;have C0:=qwk c0;replace I:=qwk I;clear hL hG N hl O c0;go_enter Tryz.func38,Tryz.ntmps38
 go_wp2_with (refine znx elR rfl (.tmp 10) (.tmp 10) rfl L.length rfl rfl rfl rfl rfl (by omega) (by simp only[maxLen];omega) ?_
              intro w1 b n1 z1)
 rw[qww] at b;have W:qpm w A L 0 w1:=⟨qw5 C0.out n1,I.out.below n1 I.out.lt,by simpa[recs] using b⟩;replace W:=qwk W;clear b n1 z1;have HF:=hF;go_loopw [14] (fun j wr=>∃k:Nat,k<=L.length/\j= .int .i64 (k:Int)/\Hid (qpm w A L k wr)) (fun j _=>L.length-(intOf j).toNat)
 case atStart=>exact⟨0,qq1 _,rfl,W⟩
 case round=>
  obtain⟨k,hk,rfl,S⟩:=hrel;clear W;by_cases B:k<L.length
  ·obtain⟨a,f,b⟩:=S.out
   obtain⟨u,rfl,hb,hc⟩:=p.out.row.2 (by omega);have d:(L.getD k []).length=32:=(p.out.digs _ (zdt [] B)).1;have e4:L.length-k=(L.length-(k+1))+1:=by omega
   have M:(recs zjb ((zi9 (some u) L).take k)).length=k:=by rw[zaw (sz:=1) z24,qqx,zh8];omega
   rw[e4,qs0] at b;have a8:(k:Int)<(L.length:Int):=by omega
   replace a:=qwk a;replace f:=qwk f;replace b:=qwk b;replace M:=qwk M;replace d:=qwk d;clear hb hc e4
   go_wp2_with (refine zfh rfl 24 (.tmp 23) (.tmp 22) rfl (w.heap.size+1) k (.slice (some (u.add (k*32))) 32 32) rfl rfl b.out (by have:=M.out;simp;omega) (by kernel_rfl) rfl ?_
                intro W3 B3 g3 z3)
   have q:qpm w (some u) L (k+1) W3:=by
    refine⟨zbg a.out g3 (Nat.le_succ _) (qq0 _),f.out.touch (qxf (T:=[w.heap.size+1]) g3 (by simp)) (by simp),?_⟩;rw[qh2 _ _ _ _ M.out] at B3;have e5:recs zjb ((zi9 (some u) L).take (k+1))++List.replicate (L.length-(k+1)) (Value.slice none 0 0)=recs zjb ((zi9 (some u) L).take k)++Value.slice (some (u.add (k*32))) 32 32::List.replicate (L.length-(k+1)) (Value.slice none 0 0):=by
     rw[z7d _ _ B,zbe,qrc];congr 1
     show zjb _++[]++_=_;unfold zjb;rw[d.out];rfl
    rw[e5];exact B3
   have q:=qwk q;clear S B3 g3 z3 a f b M;go_wp2_with fail
   case' roundEnd=>skip
   exact⟨⟨k+1,by omega,by go_num,q⟩,by simp[intOf];omega⟩
  ·obtain rfl:k=L.length:=by omega
   obtain⟨a,f,b⟩:=S.out;rw[qsz,qup,qra,<-zh8 A L,quw] at b;have nT:w.heap.size+1∉g::zbt V:=by
    intro C;rcases qsm.1 C with e|C
    ·have:=K.out;omega
    ·obtain⟨A',n',c',D',e',_,o',_⟩:=HL.out
     rw[e'] at C;rcases o'.2 with⟨e2,_⟩|⟨g',a6,a3,hv,_,hg,_⟩
     ·rw[e2] at C
      simp[zbt,Value.ownBlock] at C
     ·rw[hv] at C
      simp[zbt,Value.ownBlock] at C;have:=Blk.lt (show Blk w g' _ a3 from hg);omega
   have P:=p.out.turn (qxe a) (fun _ _ h=>h);have hD:DataF wr (some ⟨w.heap.size+1,0,none⟩) (zi9 A L) (g::zbt V):=by refine⟨qwz (zyo (sz:=1) b (by rw[zaw (sz:=1) z24]) (by rw[zh8];simp only[maxLen];omega)),fun _ u ha=>?_,LeafIn.subs P⟩;injection ha with ha;subst ha;exact nT
   have D:=zt1 (w:=wr) (c:=L.length) (s:=kindS.getD i []) (HL.out.new a) (qqs J.out a.size) (z3s hi).1 (z3s hi).2 hD (by rw[zh8];omega) (fun w' k=>(HG.out w' ((qxe a).trans k)).1);rw[zh8,z06] at D;have K1:wr.cell? ⟨0,i,none⟩=some (.string (zaf (kindS.getD i []))):=(HG.out wr (qxe a)).2.2 i hi;rw[<-HK.out,<-a1.out,<-a0.out] at D;rw[<-HK.out] at K1;replace D:=qwk D;replace a:=qwk a;replace f:=qwk f;have a7:(i:Int)<4:=by omega
   clear S b nT P hD C0 I hk B;go_wp2_with fail
   refine D.out.mono ?_;rintro e w2 ⟨v,rfl,o2,V2,Z,a2,t2⟩;obtain⟨A2,c2,rfl,q1,q2⟩:=zes o2;have o:Turns (g::zbt V) w w2:=(qxe a.out).trans t2;have t:V2.ownBlock=V.ownBlock\/ ∃h,V2.ownBlock=some h/\w.heap.size<=h:=a2.imp id fun⟨h,h1,h2⟩=>⟨h,h1,qqs a.out.size h2⟩
   have g2:=f.out.touch t2 ((HL.out.new a.out).notT f.out (by decide) (by decide));have Q:w.heap.size∉g::zbt V2:=Z.notT g2 (by decide) (by decide);have RT:=qwk (z1q (Lv.length+1) (qv9 _) Z (qqs J.out o.size) (by have:=U.out;have:=R.out;rw[qrp];omega) (zpo o2 rfl G.out Z) q1 (by simp only[maxLen] at q2;omega) (fun w' k=>(HG.out w' (zbw o t k)).1));have T2:=qwk o;have E:=qwk t;have G2:=qwk g2;have NR:=qwk Q;clear q1 q2 K1 o2 Z a2 t2 o t g2 Q D f a;go_wp2_with fail
   refine RT.out.mono ?_;rintro e w4 ⟨rfl,V4,l4,a4,t4⟩;have Y:=G2.out.touch t4 NR.out;have PS:=qwk (zdu K.out l4 (zgq T2.out.size E.out a4) (zbw T2.out E.out t4) Y X);have H:=qwk (qtc (za1 Y) (zbi Y X));rw[HV.out];clear l4 a4 t4 Y RT;go_wp2_with (refine wpList_store_row rfl 35 (.tmp 6) (.tmp 32) rfl w.heap.size X rfl rfl _ _ H.out.1 l.out ZS.out r.out ?_)
   exact bodyPost_ret (results_cell_row rfl _ _ w.heap.size _ X (0,0) _ rfl H.out.2 zct rfl l.out) rfl ⟨rfl,by simpa only[qrc] using PS.out⟩
theorem qc4{w:World}{base g:Nat}{V:Value}{F:List (List Nat)}(q:LogOf tL w base g V F)(m:base<=w.heap.size){A:Option Addr}{c:Nat}{L:List (List Nat)}(D:LeafIn w A L (g::zbt V))(hF:F.length+2*L.length<=8000000)(C:∀w',Turns (g::zbt V) w w'->GlobIn w'):
 Calls Tryz.prog 14 #[.pointer (some ⟨g,0,none⟩),.slice A L.length c] w (zf3 tL (dV (ovD zfk L)) base g V (F++ovF zfk L) w):=by
 have b:=zai w (.cells (za5 .u8 zau).toArray 35);have l:=qw1 w 35 (za5 .u8 zau).toArray;obtain⟨z,f⟩:∃W,W=w.alloc (.cells (za5 .u8 zau).toArray 35):=⟨_,rfl⟩;rw[<-f] at b l;have j:=zyp (w:=z) (c:=c) (i:=1) (q.new b) (qqs m b.size) (D.turn (qxe b) (fun _ _ h=>h)) (by omega) hF (fun w' k=>C w' ((qxe b).trans k));rw[show kindS.getD 1 []=zfk from rfl] at j;have y:zna (ovD zfk L):=zni _ _;generalize ovD zfk L=O at*;generalize ovF zfk L=M at*;obtain⟨o,n,a,t,d,u⟩:=zg7 y;rw[n] at j⊢;have r:=qwk (show g<w.heap.size from q.lt);have s:=qwk ((q.new b).notT l (by decide) (by decide));replace l:=qwk l;replace j:=qwk j;have x:=qwk b;have G:=qwk f;replace a:=qwk a;replace t:=qwk t;replace d:=qwk d;clear n y u q m D C b f;go_enter Tryz.func14,Tryz.ntmps14
 go_wp2_with fail
 rw[show w.alloc (.cells qxy 35)=z from G.out.symm];refine j.out.mono ?_;rintro e P ⟨rfl,N,E,B,v⟩;have p:=l.out.touch v s.out;have I:=qwk (zdu r.out E (B.imp id fun⟨h,J,K⟩=>⟨h,J,qqs x.out.size K⟩) ((qxe x.out).trans v) p o);have H:=qwk (qtc (za1 p) (zbi p o));clear E B v p j;go_wp2_with (refine wpList_store_row rfl 35 (.tmp 4) (.tmp 7) rfl w.heap.size o rfl rfl _ _ H.out.1 a.out t.out d.out ?_)
 exact bodyPost_ret (results_cell_row rfl _ _ w.heap.size _ o (0,0) _ rfl H.out.2 zct rfl a.out) rfl ⟨rfl,I.out⟩
theorem z7e{w:World}{base g:Nat}{V:Value}{F:List (List Nat)}(q:LogOf tL w base g V F)(m:base<=w.heap.size){A:Option Addr}{c:Nat}{L:List (List Nat)}(D:LeafIn w A L (g::zbt V))(hF:F.length+2*L.length<=8000000)(C:∀w',Turns (g::zbt V) w w'->GlobIn w'):
 Calls Tryz.prog 16 #[.pointer (some ⟨g,0,none⟩),.slice A L.length c] w (zf3 tL (dV (ovD ze4 L)) base g V (F++ovF ze4 L) w):=by
 have b:=zai w (.cells (za5 .u8 zau).toArray 35);have l:=qw1 w 35 (za5 .u8 zau).toArray;obtain⟨z,f⟩:∃W,W=w.alloc (.cells (za5 .u8 zau).toArray 35):=⟨_,rfl⟩;rw[<-f] at b l;have j:=zyp (w:=z) (c:=c) (i:=2) (q.new b) (qqs m b.size) (D.turn (qxe b) (fun _ _ h=>h)) (by omega) hF (fun w' k=>C w' ((qxe b).trans k));rw[show kindS.getD 2 []=ze4 from rfl] at j;have y:zna (ovD ze4 L):=zni _ _;generalize ovD ze4 L=O at*;generalize ovF ze4 L=M at*;obtain⟨o,n,a,t,d,u⟩:=zg7 y;rw[n] at j⊢;have r:=qwk (show g<w.heap.size from q.lt);have s:=qwk ((q.new b).notT l (by decide) (by decide));replace l:=qwk l;replace j:=qwk j;have x:=qwk b;have G:=qwk f;replace a:=qwk a;replace t:=qwk t;replace d:=qwk d;clear n y u q m D C b f;go_enter Tryz.func16,Tryz.ntmps16
 go_wp2_with fail
 rw[show w.alloc (.cells qxy 35)=z from G.out.symm];refine j.out.mono ?_;rintro e P ⟨rfl,N,E,B,v⟩;have p:=l.out.touch v s.out;have I:=qwk (zdu r.out E (B.imp id fun⟨h,J,K⟩=>⟨h,J,qqs x.out.size K⟩) ((qxe x.out).trans v) p o);have H:=qwk (qtc (za1 p) (zbi p o));clear E B v p j;go_wp2_with (refine wpList_store_row rfl 35 (.tmp 4) (.tmp 7) rfl w.heap.size o rfl rfl _ _ H.out.1 a.out t.out d.out ?_)
 exact bodyPost_ret (results_cell_row rfl _ _ w.heap.size _ o (0,0) _ rfl H.out.2 zct rfl a.out) rfl ⟨rfl,I.out⟩
theorem zh9{a b:List Nat}:za9 zfp [a,b]=some (zb2 zfp [a,b]):=by unfold za9;exact if_pos ⟨by decide,by decide,by simp⟩
theorem z3t{w:World}{base g:Nat}{V:Value}{L:List (List Nat)}(N:LogOf tL w base g V L)(a7:base<=w.heap.size)(a3:L.length<=10000000){A:Option Addr}{c:Nat}{a b:List Nat}(ha:Reads w w.heap.size 1 A a.length (zar .u8 a))(O:∀x∈a,x<256)(a4:a.length<=c)(hc:c<=9223372036854775807)(a9:a.length<=9000000)(Z:zna b)(hG:∀w',Turns (g::zbt V) w w'->GlobIn w'):
 Calls Tryz.prog 18 #[.pointer (some ⟨g,0,none⟩),.slice A a.length c,dV b] w (zf3 tL (dV (z4o a b)) base g V (L++zqc a b) w):=by
 obtain⟨t,D⟩:∃f,f=(zar .u8 b).toArray:=⟨_,rfl⟩;have hC:∀w',Turns (g::zbt V) w w'->ConstIn w':=fun w' k=>(hG w' k).1
 show Calls Tryz.prog _ _ w (zf3 tL (dV (zca zfp [a,b])) base g V (L++[zb2 zfp [a,b]]) w);have R:dV b= .agg t:=by rw[D];rfl
 obtain⟨j,i⟩:∃W,W=(w.alloc (.cells t 35)).alloc (.cells (za5 .u8 zau).toArray 35):=⟨_,rfl⟩;have z1:(w.alloc (.cells t 35)).heap.size=w.heap.size+1:=by simp
 have zs:j.heap.size=w.heap.size+2:=by rw[i];simp
 have X:New w j:=by rw[i];exact qw5 (zai _ _) (zai _ _)
 have gb:Blk j w.heap.size 35 t:=by rw[i];exact(qw1 w _ t).alloc _
 have gr:Blk j (w.heap.size+1) 35 (za5 .u8 zau).toArray:=by rw[i];have:=qw1 (w.alloc (.cells t 35)) 35 (za5 .u8 zau).toArray;rwa[z1] at this
 have a8:g<w.heap.size:=N.lt;have B:∀x∈g::zbt V,x<w.heap.size:=fun x d=>by
  rcases qsm.1 d with rfl|d
  ·exact a8
  ·exact(N.ge x d).2
 obtain⟨W4,u⟩:∃W,W=(j.alloc (.cells #[.slice A a.length c,.slice (some ⟨w.heap.size,0,none⟩) 32 32] 24)).drew:=⟨_,rfl⟩;have m:New j W4:=by rw[u];exact qw5 (zai j _) (qw6 _)
 have rr:RowsAt W4 (some ⟨w.heap.size+2,0,none⟩) 2 2 [(A,c,a),(some ⟨w.heap.size,0,none⟩,32,b)]:=by
  refine⟨?_,fun x d=>?_,qq0 _⟩
  ·rw[u,<-zs]
   exact qxm j _ (0,0) _ 2 _ (by simp[recs,zf6,Z.1]) (by simp[recs,zf6])
  ·simp only[qsm,qur,or_false] at d
   rcases d with rfl|rfl
   ·exact⟨by show Reads _ _ 1 _ a.length _;exact qxj ha (qw5 X m),a4,hc⟩
   ·exact⟨by show Reads _ _ 1 _ b.length _;exact qxj (zgr gb (by rw[D])) m,by show b.length<=32;rw[Z.1];omega,by show(32:Nat)<=_;omega⟩
 have a6:bytesOf [(A,c,a),((some ⟨w.heap.size,0,none⟩:Option Addr),32,b)]=[a,b]:=rfl;have P:∀p∈[a,b],∀x∈p,x<256:=by
  intro p hp;simp only[qsm,qur,or_false] at hp;rcases hp with rfl|rfl
  ·exact O
  ·exact Z.2
 have Q:zik [a,b]<=9900000:=by simp[zik,Z.1];omega
 have l:=qw5 X m;have lh:=zl5 (s:=zfp) (N.new l) (qqs a7 l.size) a3 rr (by omega) (by decide) (by decide) Q P (fun w' k=>hC w' ((qxe l).trans k));rw[a6,zh9] at lh;obtain⟨f,n⟩:∃f,f=(za5 .u8 (zey zfp [a,b])).toArray:=⟨_,rfl⟩;have E:zla (zey zfp [a,b])= .agg f:=by rw[n];rfl
 have z:dV (zca zfp [a,b])= .agg f:=by rw[<-zlb,E]
 have o:=zl3 zfp [a,b];have r:(Tryz.prog.info? 35).map (·.size)=some f.size:=by rw[n];exact qdu o
 have ZS:(za5 .u8 zau).toArray.size=f.size:=by rw[n];simp[za5,zau,o]
 have C:f.all (·.oneCell')=true:=by rw[n];exact zfb _ _
 rw[E] at lh;rw[R,z];have LH:=qwk lh;have r:=qwk r;have ZS:=qwk ZS;have C:=qwk C;have HL:=qwk N;have GR:=qwk (gr.below m gr.lt);have q:=qwk l;have G:=qwk i;have a0:=qwk X;have HG:=qwk hG;clear hG;have a1:=qwk u;have H:=qwk B;have a2:=qwk zs;clear n E z o lh Q P rr m ha O gb gr z1 zs i u X l R D N B hC;go_enter Tryz.func18,Tryz.ntmps18
 go_wp2
 have F:=G.out;refine zav (TurnsB w.heap.size (g::zbt V)) [(true,0),(true,1),(true,2),(true,3),(true,4),(false,5),(false,6),(false,7)]
  (TurnsB.refl _ _) TurnsB.trans (by kernel_rfl) (by kernel_rfl) (by kernel_rfl) (by kernel_rfl) ?_
 iterate 2 (
  refine zas rfl rfl (v:=?_) (fun W Y=>?_) ?_;rotate_left
  ·skip
   go_simp<;> with_reducible rfl
  simp only[Act.put,qta,qs1,qtb])
 have J:(w.alloc (.cells t 35)).alloc (.cells qxy 35)=j:=G.out.symm;refine zas rfl rfl (v:= .string (zaf zfp)) (fun W Y=>?_) ?_
 ·rw[J] at Y
  have kk:W.cell? ⟨0,3,none⟩=some (.string (zaf zfp)):=(HG.out W (((TurnsB.of (qxe (qw5 a0.out (qw6 _))) (qq0 _)).trans Y).turns)).2.2 3 (by omega);go_simp
  all_goals(rw[kk];rfl)
 simp only[Act.put,qta,qs1,qtb];clear J;iterate 2 (
  refine zas rfl rfl (v:=?_) (fun W Y=>?_) ?_;rotate_left
  ·skip
   go_simp<;> with_reducible rfl
  simp only[Act.put,qta,qs1,qtb])
 have e3:(w.alloc (.cells t 35)).alloc (.cells (za5 .u8 zau).toArray 35)=j:=F.symm;rw[show((w.alloc (.cells t 35)).alloc (.cells qxy 35)).drew=j.drew from by rw[F];rfl];clear e3 F;have zs:=a2.out;refine za7 rfl rfl (fun K y=>?_);go_simp
 have S:=a1.out;refine y _ _ (.alloc _ (by show w.heap.size<=j.heap.size;omega)) ?_;clear y;rw[<-S];clear S;refine za7 rfl rfl (fun K y=>?_);go_simp
 refine LH.out.mono ?_;rintro e U ⟨rfl,I,l5,a5,T⟩;refine y _ _ (.of T q.out.size) ?_;clear y;have nT:w.heap.size+1∉g::zbt V:=fun d=>by have:=H.out _ d;omega
 have M:=GR.out.touch T nT;refine za7 rfl rfl (fun K y=>?_);refine wp_store_row 35 (.tmp 6) (.tmp 13) rfl (w.heap.size+1) f rfl rfl _ _ (za1 M) r.out ZS.out C.out ?_;refine y _ _ (.far (zbv (g:=w.heap.size+1) _ f) (by omega) (qqs q.out.size T.size)) ?_;clear y;refine zdr ?_;have G6:=qwk (zbi M f);have P6:Hid (∃I,LogOf tL (U.setRow (w.heap.size+1) f) base g I (L++[zb2 zfp [a,b]])/\(I.ownBlock=V.ownBlock\/ ∃h,I.ownBlock=some h/\w.heap.size<=h)/\Turns (g::zbt V) w (U.setRow (w.heap.size+1) f)):=qwk (by
  have tt:Turns [w.heap.size+1] U (U.setRow (w.heap.size+1) f):=qxf (zbv (g:=w.heap.size+1) U f) (by simp);refine⟨I,l5.turn tt (by simp;omega) ?_ ?_,a5.imp id (fun⟨h,h1,h2⟩=>⟨h,h1,qqs q.out.size h2⟩),?_⟩
  ·intro x d
   simp at d;subst d;obtain⟨A',n',c',D',e',_,o',_⟩:=l5;rw[e'];exact o'.blk_ne M (by decide)
  ·intro x d _ f hB
   simp at d;subst d;exact qw2 M hB (by decide) rfl
  ·exact qxh ((((qxe q.out).trans T).more (T':=(w.heap.size+1)::g::zbt V) (by intro x d;simp at d⊢;simp[d])).trans (tt.more (by intro x d;simp at d⊢;simp[d]))) (by omega))
 clear l5 a5 T M;go_wp2
 exact bodyPost_ret (results_cell_row rfl _ _ (w.heap.size+1) _ f (0,0) _ rfl G6.out zct rfl r.out) rfl ⟨rfl,P6.out⟩
def BIn(w W:World)(A:Option Addr)(b:List Nat):Prop:=
 Reads w w.heap.size 1 A b.length (zar .u8 b)\/(Reads W W.heap.size 1 A b.length (zar .u8 b)/\(0<b.length-> ∀ad,A=some ad-> ∃cs,Blk W ad.block 5 cs))
theorem BIn.keep{w W W':World}{A:Option Addr}{b:List Nat}(h:BIn w W A b)(k:KeepC W W'):BIn w W' A b:=by
 refine h.imp id fun⟨r,c⟩=>⟨⟨r.1,fun d=>?_⟩,fun d a m=>?_⟩
 ·obtain⟨a,e,p,n⟩:=r.2 d
  obtain⟨i,B⟩:=c d a e;have f:=k.2 _ _ _ (by decide) (by decide) B;refine⟨a,e,f.lt,fun j u o=>?_⟩;have l:W'.heap[(a.add j).block]? =W.heap[(a.add j).block]? :=by rw[zam];exact Eq.trans f (Eq.symm B)
  rw[World.cell?_of_block l];exact n j u o
 ·obtain⟨i,B⟩:=c d a m
  exact⟨i,k.2 _ _ _ (by decide) (by decide) B⟩
theorem BIn.arg{w W:World}{A:Option Addr}{b:List Nat}(h:Reads w w.heap.size 1 A b.length (zar .u8 b)):BIn w W A b:= .inl h
theorem BIn.own{w W:World}{base n c:Nat}{A:Option Addr}{b:List Nat}(h:Go.Hm.Own W base 5 (.slice A n c) (zar .u8 b))(k:n=b.length):BIn w W A b:=by
 subst k;refine .inr ⟨h.reads,fun q m i=>?_⟩;subst i;unfold Go.Hm.Own at h;rw[zaa] at h;rcases h.2 with⟨e,r⟩|⟨g,f,a,l,_,j,_⟩
 ·omega
 ·injection l with d o p
  injection d with d;subst d;exact⟨a,j⟩
theorem BIn.reads{w W:World}{A:Option Addr}{b:List Nat}(h:BIn w W A b)(n:New w W):Reads W W.heap.size 1 A b.length (zar .u8 b):=h.elim (fun r=>qxj r n) fun r=>r.1
theorem BIn.far{w W:World}{g:Nat}{V:Value}{F:List (List Nat)}{A:Option Addr}{b:List Nat}(h:BIn w W A b)(i:w.heap.size<=g)(l:LogOf tL W w.heap.size g V F):0<b.length-> ∀ad,A=some ad->ad.block∉g::zbt V:=by
 intro d ad a;rcases h with r|⟨_,c⟩
 ·obtain⟨f,e,m,_⟩:=r.2 d
  rw[a] at e;injection e with e;subst e;intro j;have:=l.own (B:=w.heap.size) (qq0 _) i _ j;omega
 ·obtain⟨k,B⟩:=c d ad a
  exact l.notT B (by decide) (by decide)
def Tw(w:World)(g h:Nat)(W:World)(F F':List (List Nat)):Prop:=
 ∃V V',LogOf tL W w.heap.size g V F/\LogOf tL W w.heap.size h V' F'/\(∀x∈zbt V',V.ownBlock≠some x)/\New w W
def TwPost(v:Value)(w:World)(g h:Nat)(F F':List (List Nat))(W:World)(e:Ending)(W':World):Prop:=e= .returned v/\Tw w g h W' F F'/\KeepC W W'
section
variable{w W W':World}{g h:Nat}{F F' F2:List (List Nat)}
theorem Tw.new(l:Tw w g h W F F')(n:New W W'):Tw w g h W' F F':=by obtain⟨V,c,d,e,a,b⟩:=l;exact⟨V,c,d.new n,e.new n,a,qw5 b n⟩
theorem Tw.news(l:Tw w g h W F F'):New w W:=by obtain⟨V,c,d,e,a,b⟩:=l;exact b
theorem Tw.swap(l:Tw w g h W F F'):Tw w h g W F' F:=by obtain⟨V,c,d,e,a,b⟩:=l;exact⟨c,V,e,d,zsr a,b⟩
theorem Tw.log(l:Tw w g h W F F'):∃V,LogOf tL W w.heap.size g V F:=by obtain⟨V,d,c,e,a,b⟩:=l;exact⟨V,c⟩
theorem Tw.call{v V:Value}(l:Tw w g h W F F')(m:w.heap.size<=g)(d:g≠h)(q:LogOf tL W w.heap.size g V F){e:Ending}(p:zf3 tL v w.heap.size g V F2 W e W'):TwPost v w g h F2 F' W e W':=by obtain⟨r,j,c,i,f,b⟩:=l;obtain rfl:=qc1 c q;obtain⟨rfl,k,o,a,t⟩:=p;exact⟨rfl,⟨k,j,o,i.beside (by decide) (by decide) (by decide) c (qs7 d) (zsr f) t,z4m f (fun x n=>(i.ge x n).2) a,Turns.below b t (c.own (qq0 _) m) (qq0 _)⟩,KeepC.log c t⟩
end
theorem TwPost.swap{v:Value}{w:World}{g h:Nat}{F F':List (List Nat)}{W:World}{e:Ending}{W':World}(p:TwPost v w g h F F' W e W'):TwPost v w h g F' F W e W':=⟨p.1,p.2.1.swap,p.2.2⟩
def KeepB(w a b:World):Prop:=KeepC a b/\Below w.heap.size a b
theorem KeepB.refl(w a:World):KeepB w a a:=⟨KeepC.refl a,qwd _ _⟩
theorem KeepB.trans{w a b c:World}(h:KeepB w a b)(k:KeepB w b c):KeepB w a c:=⟨h.1.trans k.1,h.2.trans k.2⟩
theorem KeepB.new{w a b:World}(h:New w a)(k:New a b):KeepB w a b:=⟨qxv k,k.mono h.size⟩
abbrev qxw:=@KeepB.new
theorem KeepB.log{w a b:World}(h:New w a)(c:New w b)(k:KeepC a b):KeepB w a b:=
 ⟨k,⟨c.os.trans h.os.symm,c.tape.trans h.tape.symm,c.output.trans h.output.symm,k.1,fun i d=>(c.block i d).trans (h.block i d).symm⟩⟩
theorem KeepC.own{W W':World}{base:Nat}{v:Value}{xs:List Value}(h:Go.Hm.Own W base 5 v xs)(k:KeepC W W'):Go.Hm.Own W' base 5 v xs:=by
 unfold Go.Hm.Own at h⊢;refine⟨h.1,?_⟩;rcases h.2 with e|⟨g,b,a,f,c,d,rest⟩
 ·exact .inl e
 ·exact .inr ⟨g,b,a,f,c,k.2 _ g a (by decide) (by decide) d,rest⟩
abbrev qxx:=@KeepC.own
theorem zt2(w:World)(base:Nat):LogOf tL (w.alloc (.cells #[.slice none 0 0] 86)) base w.heap.size (.slice none 0 0) []:=⟨none,0,0,[],rfl,qw1 _ _ _,qw0,(fun _ a=>nomatch a),rfl⟩
theorem Tw.made{w W:World}(n:New w W):Tw w W.heap.size (W.heap.size+1) ((W.alloc (.cells #[.slice none 0 0] 86)).alloc (.cells #[.slice none 0 0] 86)) [] []:=by
 have c:=(zt2 W w.heap.size).new (zai _ (.cells #[.slice none 0 0] 86));have a:=zt2 (W.alloc (.cells #[.slice none 0 0] 86)) w.heap.size;have b:(W.alloc (.cells #[.slice none 0 0] 86)).heap.size=W.heap.size+1:=by simp
 rw[b] at a;exact⟨_,_,c,a,by simp[zbt,Value.ownBlock],qw5 n (qw5 (zai _ _) (zai _ _))⟩
open Go.RowKit Go.Hm Go.WideShapes Go.ChangeShapes
theorem gKinds:Tryz.prog.globalNamed "hypostyle/roots.kinds" =some 0:=by kernel_rfl
theorem tKinds:(Tryz.prog.globals[0]?).map (·.type)=some 88:=by kernel_rfl
theorem z7g(s:List Nat)(a:ByteArray)(h:a.data.toList=s.map fun n=>UInt8.ofNat n):a=zaf s:=by obtain⟨⟨l⟩⟩:=a;simp only at h;subst h;rfl
theorem qh8:∀i,i<4->([DataW.lit (.string [112,97,103,101]),.lit (.string [99,104,117,110,107]),.lit (.string [103,114,111,117,112]),.lit (.string [102,105,108,101])]:List (DataW Unit))[i]? =some (.lit (.string ((kindS.getD i []).map fun n=>UInt8.ofNat n))):=by
 intro i a
 match i,a with
 |0,_=>rfl
 |1,_=>rfl
 |2,_=>rfl
 |3,_=>rfl
theorem zys{W:World}(h:laidMetH Tryz.prog zze W):GlobIn W:=by
 refine⟨zuf h,?_⟩;rw[MakeChecks.laidMetH_plain _ _ _ (by kernel_rfl)] at h;obtain⟨F,⟨_,_,_,_,_,_,_,_,_,_,⟨C,H,a,B,E,G,e,o,p,m,_,_⟩,_⟩,_,_⟩:=h;obtain rfl:=qqf (gKinds.symm.trans e);obtain rfl:=qqf (tKinds.symm.trans o);obtain⟨A,D,rfl,d,g,z,n⟩:=DataW.trod_array (show Tryz.prog.underlying 88=some (.array 4 9) by kernel_rfl) m;have u:Tryz.prog.cellsOf 88=4:=by kernel_rfl
 have t:Tryz.prog.cellsOf 9=1:=by kernel_rfl
 rw[u] at g;rw[show(Go.Proofs.YtbahbnbpmfgimaaGreatDoor.Rows.laid_hypostyle_roots_kinds:DataW Unit)= .agg [.lit (.string [112,97,103,101]),.lit (.string [99,104,117,110,107]),.lit (.string [103,114,111,117,112]),.lit (.string [102,105,108,101])] from rfl] at d;simp only[qqg,qqn] at d;have b:∀i,i<4->W.cell? ⟨0,i,none⟩=some (.string (zaf (kindS.getD i []))):=by
  intro i r;have l:=n i r;rw[t,qq7] at l;have c:i<a.toList.length:=by omega
  have j:(a.toList.drop i).take 1=[a.toList[i]]:=by rw[qrb c];rfl
  rw[j,qqt (by omega)] at l;obtain⟨x,q,v,_⟩:=DataW.trod_string (show Tryz.prog.underlying 9=some .string by kernel_rfl) l;have f:=qh8 i r;rw[d.1,qtk,qqt (show i<A.length by omega)] at f;simp only[qtw,qqh] at f;rw[v] at f;simp only[qqo,Lit.string.injEq] at f;have y:=World.var?_cell e p i;rw[y];simp only[qqe,and_true] at q;rw[qus (by simpa using c)];have w:a[i]'(by simpa using c)=a.toList[i]:=by simp
  rw[w,q,z7g _ _ f]
 refine⟨?_,b⟩;have k:=b 0 (by omega);unfold World.cell? at k;rcases qq4 0 W.heap.size with s|s
 ·exact s
 ·rw[qq5 (by omega)] at k
  cases k
end Go.Proofs.Y
