/- Merged. -/
import Derived.Test.YtbahbnbpmfgimaaGreatDoorBun44
set_option maxHeartbeats 4000000
namespace Go.Proofs.Y
open Go.RowKit Go.Hm
section
variable{L:List zbb}{E:List Int}{D:List (List zab)}{pr:Int}
def pgF(L:List zbb)(E:List Int)(D:List (List zab))(c:Nat)(q:Int × Int):List Nat:=(zia L E D c q).2
def zt3(L:List zbb)(E:List Int)(D:List (List zab))(l:List (Int × Int))(cs:List Nat):List (List (List Nat)):=cs.map fun c=>l.map (pgF L E D c)
def zqn(L:List zbb)(E:List Int)(D:List (List zab))(pr:Int)(l:List (Int × Int)):List (List (List (List Nat))):=l.map fun s=>zt3 L E D (zdp s.1 s.2 pr) (List.range L.length)
theorem z1y{c:Nat}:∀(l:List (Int × Int)) {y x:List (List Nat) × Int},chW L E D c (some y) l=some x->x.1=y.1++l.map (pgF L E D c)/\ ∀q∈l,(zia L E D c q).1=0
 | [],y,x,h=>by
   injection h with h;subst h;simp
 |q::l,y,x,h=>by
  have e:chW L E D c (some y) (q::l)=chW L E D c (pgW L E D c (some y) q) l:=rfl;rw[e] at h;cases hp:pgW L E D c (some y) q with
  |none=>rw[hp,zjp] at h;cases h
  |some z=>
   rw[hp] at h;obtain⟨h1,h2⟩:=z1y l h;unfold pgW at hp;dsimp only at hp;split at hp
   ·rename_i hc
    injection hp with hp;subst hp;refine⟨by rw[h1];simp[pgF],fun q' hq'=>?_⟩;rcases qof.1 hq' with rfl|hq'
    ·exact hc.1
    ·exact h2 _ hq'
   ·cases hp
theorem z1z{s:Int × Int}:∀(k:Nat) {y x:List (List Nat) × Int},gpW L E D pr s (some y) k=some x->x.1=y.1++(zt3 L E D (zdp s.1 s.2 pr) (List.range k)).flatten/\ ∀c,c<k-> ∀q∈zdp s.1 s.2 pr,(zia L E D c q).1=0
 |0,y,x,h=>by
  injection h with h;subst h;simp[zt3]
 |k+1,y,x,h=>by
  rw[gpW] at h;cases hp:gpW L E D pr s (some y) k with
  |none=>rw[hp,zjp] at h;cases h
  |some z=>
   rw[hp] at h;obtain⟨h1,h2⟩:=z1y _ h;obtain⟨h3,h4⟩:=z1z k hp;refine⟨by rw[h1,h3,qqc];simp[zt3],fun c hc q hq=>?_⟩;rcases qmx c k with h5|h5
   ·exact h4 c h5 q hq
   ·obtain rfl:c=k:=by omega
    exact h2 q hq
theorem zwz:∀(l:List (Int × Int)) {y x:List (List Nat) × Int},l.foldl (grW L E D pr) (some y)=some x->x.1=y.1++(zqn L E D pr l).flatten.flatten/\ ∀s∈l,∀c,c<L.length-> ∀q∈zdp s.1 s.2 pr,(zia L E D c q).1=0
 | [],y,x,h=>by
   injection h with h;subst h;simp[zqn]
 |s::l,y,x,h=>by
  rw[qqk] at h;cases hp:grW L E D pr (some y) s with
  |none=>rw[hp,zpy] at h;cases h
  |some z=>
   rw[hp] at h;obtain⟨h1,h2⟩:=zwz l h;obtain⟨h3,h4⟩:=z1z _ hp;refine⟨by rw[h1,h3];simp[zqn],fun s' hs'=>?_⟩;rcases qof.1 hs' with rfl|hs'
   ·exact h4
   ·exact h2 _ hs'
theorem qf5(c:Nat):∀(l:List (Int × Int)) (r:List Nat),z30 (l.map (zd0 L E D c)) ((l.map (pgF L E D c)).flatten++r)=l.map (pgF L E D c)/\(l.map (pgF L E D c)).flatten.length=szL (l.map (zd0 L E D c))
 | [],r=>⟨rfl,rfl⟩
 |q::l,r=>by
  obtain⟨h1,h2⟩:=qf5 c l r;have e:(zd0 L E D c q).1.toNat=(pgF L E D c q).length:=by unfold zd0 pgF;simp
  rw[qnc,qnc,z30,qq0,qm5,e,List.take_left,qrp,h1,zlj,e,qni,h2];exact⟨rfl,rfl⟩
theorem qf6(l:List (Int × Int)):∀(cs:List Nat) (r:List Nat),zce (cs.map fun c=>l.map (zd0 L E D c)) ((zt3 L E D l cs).flatten.flatten++r)=zt3 L E D l cs/\(zt3 L E D l cs).flatten.flatten.length=szC (cs.map fun c=>l.map (zd0 L E D c))
 | [],r=>⟨rfl,rfl⟩
 |c::cs,r=>by
  obtain⟨h1,h2⟩:=qf6 l cs r;obtain⟨h3,h4⟩:=qf5 (L:=L) (E:=E) (D:=D) c l ((zt3 L E D l cs).flatten.flatten++r);have e:zt3 L E D l (c::cs)=l.map (pgF L E D c)::zt3 L E D l cs:=rfl;rw[e,qnc,zce,qq0,qp9,qm5,h3,<-h4,qrp,h1,zlk,<-h4,qni,h2];exact⟨rfl,rfl⟩
theorem z99:∀(l:List (Int × Int)) (r:List Nat),zfi (l.map (zdr L E D pr)) ((zqn L E D pr l).flatten.flatten.flatten++r)=zqn L E D pr l/\(zqn L E D pr l).flatten.flatten.flatten.length=szG (l.map (zdr L E D pr))
 | [],r=>⟨rfl,rfl⟩
 |s::l,r=>by
  obtain⟨h1,h2⟩:=z99 l r;obtain⟨h3,h4⟩:=qf6 (L:=L) (E:=E) (D:=D) (zdp s.1 s.2 pr) (List.range L.length) ((zqn L E D pr l).flatten.flatten.flatten++r);have e:zqn L E D pr (s::l)=zt3 L E D (zdp s.1 s.2 pr) (List.range L.length)::zqn L E D pr l:=rfl;have e2:(zdr L E D pr s).2=(List.range L.length).map fun c=>(zdp s.1 s.2 pr).map (zd0 L E D c):=rfl
  rw[e,qnc,zfi,e2,qq0,qp9,qp9,qm5,h3,<-h4,qrp,h1,zll,e2,<-h4,qni,h2];exact⟨rfl,rfl⟩
end
theorem zp6(l:List zab){f t s:Nat}(hs:0<s):∀k,k<=zhz f t s->(((zgq f t s).take k).map fun q=>(l.drop q.1.toNat).take (q.2-q.1).toNat).flatten=(l.drop f).take (atN f t s k-f)
 |0,_=>by simp[atN];omega
 |k+1,hk=>by
  have ih:=zp6 l (f:=f) (t:=t) hs k (by omega);have hk2:=(zgr (f:=f) (t:=t) hs k).1 (by omega);obtain⟨a1,a2,a3⟩:=z07 hk2;have hle:f<=atN f t s k:=by rw[a1];omega
  rw[zpd (f:=f) (t:=t) (s:=s) (k:=k) (by omega),qp6,qp9,ih,a3];simp only[qnc,qnd,qq0,qrj,qm3,qng];have e1:(((atN f t s (k+1):Nat):Int)-((atN f t s k:Nat):Int)).toNat=atN f t s (k+1)-atN f t s k:=by omega
  have e2:atN f t s (k+1)-f=(atN f t s k-f)+(atN f t s (k+1)-atN f t s k):=by omega
  rw[e1,e2,qq2,qpc];congr 3
  omega
theorem qaa(l:List zab){f t:Nat}{s:Int}(h:f<=t)(ht:t<=65536)(hs:1<=s):((zdp (f:Int) (t:Int) s).map fun q=>(l.drop q.1.toNat).take (q.2-q.1).toNat).flatten=(l.drop f).take (t-f):=by
 obtain⟨n,rfl⟩:=qon (show 0<=s by omega);rcases qmx f t with hlt|hge
 ·rw[z08 hlt ht (by omega)]
  have:=zp6 l (f:=f) (t:=t) (s:=n) (by omega) (zhz f t n) (qmt _);have e:(zgq f t n).take (zhz f t n)=zgq f t n:=qnn (by rw[zf1];exact qmt _);rw[e] at this;rw[this];congr 1
  have hn: ¬(f+zhz f t n*n<t):=fun q=>by have:=(zgr (f:=f) (t:=t) (s:=n) (by omega) (zhz f t n)).2 q;omega
  unfold atN;omega
 ·rw[zvq (by omega)]
  have:t-f=0:=by omega
  rw[this];simp
theorem z12{f t:Nat}{s:Int}{q:Int × Int}(h:q∈zdp (f:Int) (t:Int) s):∃a b:Nat,q=((a:Int),(b:Int))/\f<=a/\a<=b/\b<=t:=by
 unfold zdp at h;split at h
 ·cases h
 ·rename_i hc
  unfold zgq at h;obtain⟨i,hi,rfl⟩:=qmn.1 h;rw[qpi] at hi;have:=(zgr (f:=(f:Int).toNat) (t:=(t:Int).toNat) (s:=s.toNat) (by omega) i).1 hi;refine⟨_,_,rfl,?_,?_,?_⟩
  ·omega
  ·rw[qoo];omega
  ·omega
open Go.RowKit Go.Hm
set_option maxRecDepth 100000 in
theorem qax{w:World}{base g:Nat}{V:Value}{F:List (List Nat)}(hL:LogOf tL w base g V F)(hbs:base<=w.heap.size){A:Option Addr}{cb:Nat}{b:List Nat}
 (hb:Reads w w.heap.size 1 A b.length (zan .u8 b))(h8:∀x∈b,x<256)(hbl:zza b)(hc:b.length<=cb)(hcb:cb<=9223372036854775807)(hfar:0<b.length-> ∀ad,A=some ad->ad.block∉g::zbi V)(hF:F.length<=1000000)(hG:∀w',Turns (g::zbi V) w w'->GlobIn w'):
 Calls Tryz.prog 23 #[.pointer (some ⟨g,0,none⟩),.slice A b.length cb] w (qgc b base g V F w):=by
 obtain⟨W0,hW0⟩:∃W,W=w.alloc (.cells (za7 .u8 zat).toArray 35):=⟨_,rfl⟩;have n0:New w W0:=by rw[hW0];exact zac _ _
 have G0:Blk W0 w.heap.size tD (za7 .u8 zat).toArray:=by rw[hW0];exact Blk.new _ _ _
 have O:=Hz (z1v (w:=W0) (c:=cb) (Reads.later hb n0) h8 hbl.1 hc hcb);have HW:=Hz hW0;have HL:=Hz hL;have HGL:=Hz (show g<w.heap.size from hL.lt);have HB:=Hz (qo8 hb (qo8 h8 (qo8 hbl (qo8 hc (qo8 hcb hfar)))));have HIS:=Hz (fun F' s (h:openO b=some (F',s))=>zny h8 hbl.1 h);have HG:=Hz hG;have HBS:=Hz hbs;have HFl:=Hz hF;have N0:=Hz n0;have HG0:=Hz G0;unfold qgc;obtain⟨cs,hdv,I32,ZS,ONE,hcs⟩:=zg7 (zn8 b);rw[hdv];have HER:=Hz (fun(h:openO b=none)=>z2d h);have HES:=Hz (fun F' s (h:openO b=some (F',s))=>qaw h);have HDV:=Hz hdv;have HCS:=Hz hcs;generalize z5n b=rd at*;generalize qbj b=er at*;generalize zxo b=fr at*;have I32:=Hz I32;have ZS:=Hz ZS;have ONE:=Hz ONE;obtain⟨X,hX⟩:∃X,X=openO b:=⟨_,rfl⟩;have hX:=Hz hX.symm;clear hdv hcs;clear hW0 hL hb h8 hc hcb hfar hG hbs hF n0 G0;go_enter Tryz.func23,Tryz.ntmps23
 go_wp2_with fail
 rw[show w.alloc (.cells #[.int .u8 0,.int .u8 0,.int .u8 0,.int .u8 0,.int .u8 0,.int .u8 0,.int .u8 0,.int .u8 0,.int .u8 0,.int .u8 0,.int .u8 0,.int .u8 0,.int .u8 0,.int .u8 0,.int .u8 0,.int .u8 0,.int .u8 0,.int .u8 0,.int .u8 0,.int .u8 0,.int .u8 0,.int .u8 0,.int .u8 0,.int .u8 0,.int .u8 0,.int .u8 0,.int .u8 0,.int .u8 0,.int .u8 0,.int .u8 0,.int .u8 0,.int .u8 0] 35)=W0 from HW.out.symm];refine O.out.mono ?_;rintro e W1 ⟨b1,hpost⟩;rw[hX.out] at hpost;have b01:=New.trans N0.out b1;have G1:=Hz (HG0.out.below b1 HG0.out.lt);have L1:=Hz (HL.out.new b01);clear O HG0;cases X with
 |none=>
  obtain rfl:=hpost;obtain⟨e1,e2,e3⟩:=HER.out hX.out;subst e2;subst e3;have PS:=Hz (fun(W:World) (n2:New W1 W)=>qo8 (zay (G1.out.below n2 G1.out.lt)) (qo8 (za5 (G1.out.below n2 G1.out.lt) cs) (zde HGL.out (L1.out.new n2) (.inl rfl) (Turns.of_new (New.trans b01 n2)) (G1.out.below n2 G1.out.lt) cs)));have hz:(.agg #[.int .u8 0,.int .u8 0,.int .u8 0,.int .u8 0,.int .u8 0,.int .u8 0,.int .u8 0,.int .u8 0,.int .u8 0,.int .u8 0,.int .u8 0,.int .u8 0,.int .u8 0,.int .u8 0,.int .u8 0,.int .u8 0,.int .u8 0,.int .u8 0,.int .u8 0,.int .u8 0,.int .u8 0,.int .u8 0,.int .u8 0,.int .u8 0,.int .u8 0,.int .u8 0,.int .u8 0,.int .u8 0,.int .u8 0,.int .u8 0,.int .u8 0,.int .u8 0]:Value)= .agg cs:=by rw[HCS.out,e1];rfl
  have HZ:=Hz hz;clear hX hz e1 HCS HER HES HDV;go_wp2_with (first
   |(refine zah rfl 79 (.tmp 6) (.tmp 18) rfl W1.heap.size _ rfl rfl (Blk.new W1 79 #[.slice none 0 0,.int .i64 0,.slice none 0 0]) (by kernel_rfl) rfl (by simp[Value.oneCell']) ?_
     intro W2 BF G2;have b2:New W1 W2:=zbj ((Below.refl _ _).alloc (qmt _) _) G2 (qmt _) (qmt _);have HB2:=Hz b2;clear BF G2 b2)
   |(refine wpList_store_row rfl 35 (.tmp 4) (.tmp 23) rfl w.heap.size cs rfl HZ.out _ _ (PS.out W2 HB2.out).1 I32.out ZS.out ONE.out ?_))
  exact bodyPost_ret (zhm rfl _ _ w.heap.size _ cs (0,0) _ rfl (PS.out W2 HB2.out).2.1 zcn rfl I32.out) rfl ⟨rfl,by rw[qm3];exact(PS.out W2 HB2.out).2.2⟩
 |some x=>
  obtain⟨F',s⟩:=x;obtain⟨Ac,cc,L,r,Ag,cg,G,A1,m1,c1,rfl,hFP,FI,hcg,o1⟩:=hpost;dsimp only at hFP o1;obtain⟨f1,f2,f3,f4,f5,f6,f7⟩:=HIS.out F' s hX.out;obtain⟨hb,h8,hok,hc,hcb,hfar⟩:=HB.out;obtain⟨k1,k2,k3⟩:=hok.2 F' s hX.out;obtain⟨q1,q2,q3,q4⟩:=z1k b f1;have hbl:=hok.1;obtain⟨e1,e2,e3⟩:=HES.out F' s hX.out;subst e1;unfold zy9 at e2;unfold zwd at e3;rw[<-hFP] at f1 f5 k2 k3 q1 q3 q4 e2 e3;have hFG:(zbx L r G).groups=G.map grP:=rfl;rw[hFG] at f5 k2 k3 q1 q3 q4 e2 e3;have hs:4+szG (G.map grP)<=b.length:=by omega
  have CU:=fun(W:World) (hW:New W1 W)=>zzo (r:=r) (cc:=cc) (cg:=cg) (Reads.later hb (New.trans b01 hW)) hbl hc hcb (FI.later hW) f1 hs
  unfold SheCutPostA at CU;have CU:=Hz CU;have HP:Hid (∀X∈zfi (G.map grP) (b.drop 4),∀x∈X,∀p∈x,(∀y∈p,y<256)/\p.length<=b.length/\p.length<=9000000):=Hz (by intro X hX x hx p hp;have hm:=qq1.2 ⟨x,qq1.2 ⟨X,hX,hx⟩,hp⟩;exact⟨fun y hy=>h8 y (qpa ((znv hm).1 y hy)),((q4 X hX).2 x hx).2 p hp,k3 p hm⟩)
  have HQ4:=Hz (fun X hX=>(q4 X hX).1);have HQ5:=Hz (fun X hX x hx=>((q4 X hX).2 x hx).1);have hwA:wA (zfi (G.map grP) (b.drop 4))<=5065536:=by omega
  generalize zfi (G.map grP) (b.drop 4)=CG at*;have HWA:=Hz hwA;rw[e2] at HDV;have HFR:=Hz e3;have HQ3:=Hz q3;have O1:=Hz o1;have HS7:=Hz (qo8 f7 k1);unfold zli at CU⊢;clear e2 e3 HCS HER HES;clear f1 f2 f3 f4 f5 f6 f7 hX HIS hb h8 hok hc hcb k1 k2 k3 q1 q2 q3 q4 hbl hFP hFG hs FI hcg hfar hwA o1
  go_upto_region 2 with(refine zah rfl 79 (.tmp 6) (.tmp 18) rfl W1.heap.size _ rfl rfl (Blk.new W1 79 #[.slice none 0 0,.int .i64 0,.slice none 0 0]) (by kernel_rfl) rfl (by simp[Value.oneCell']) ?_
                        intro W2 BF G2;have b2:New W1 W2:=zbj ((Below.refl _ _).alloc (qmt _) _) G2 (qmt _) (qmt _);obtain⟨x0,x1,x2⟩:=zao BF;clear G2)
  go_wp2_with fail
  refine(CU.out W2 b2).mono ?_;rintro e w4 ⟨AX,XR,rfl,b4,⟨RX,RXb⟩,HXR,hXP⟩;have BF4:=BF.below b4 BF.lt;have b14:=New.trans b2 b4;have b04:=New.trans b01 b14;have L4:=L1.out.new b14;have G4:=G1.out.below b14 G1.out.lt;have O4:=Hz (O1.out.later b14);have hlT:∀x∈g::zbi V,x<w.heap.size:=fun x hx=>by
   rcases qof.1 hx with rfl|hx
   ·exact HGL.out
   ·exact(HL.out.ge x hx).2
  have hw2:w.heap.size<=W2.heap.size:=qml b01.size b2.size;have RXT:=Hz (fun(W:World) (k:Turns (g::zbi V) w4 W)=>zg6 RX k (fun _ ad ha hm=>by have:=RXb ad ha;have:=hlT _ hm;omega));have hXl:=congrArg List.length hXP;rw[qpg] at hXl;have hXR:XR.length<=65536:=by have:=HQ3.out;omega
  have HROW:Hid (∀q∈XR,q.2.1=q.2.2.length/\(∀W,Turns (g::zbi V) w4 W->Reads W W.heap.size 1 q.1 q.2.2.length (recs zpt q.2.2))/\ ∀r∈q.2.2,r.2.1=r.2.2.length/\DataF w4 r.1 r.2.2 (g::zbi V)):=Hz (by
   intro q hq;obtain⟨h1,h2,h3⟩:=HXR q hq;refine⟨h1,fun W k=>zg6 h2.1 k (fun _ ad ha hm=>by have:=h2.2 ad ha;have:=hlT _ hm;omega),fun r hr=>?_⟩;obtain⟨h4,h5,h6⟩:=h3 r hr;have hqC:gpP q∈CG:=by rw[<-hXP];exact qmn.2 ⟨q,hq,rfl⟩
   have hrC:rwP r∈gpP q:=qmn.2 ⟨r,hr,rfl⟩;refine⟨h4,qav (w:=w) hlT HB.out.2.2.2.2.2 ⟨h5.1,fun ad ha=>qml hw2 (h5.2 ad ha)⟩ h6 (fun d hd=>?_)⟩;exact HP.out _ hqC _ hrC d.2.2 (qmn.2 ⟨d,hd,rfl⟩))
  have HXP:=Hz hXP;have HXL:=Hz hXl;have S4:Hid (ChSt w4 base g V (.slice none 0 0) (F++((CG.take 0).flatMap zrf)) ((CG.take 0).map zqq) w4):=Hz (by simpa using ChSt.first L4);have HL4:=Hz L4;have HG4:=Hz G4;have HB04:=Hz b04;have HGT:=Hz (fun w' (t:Turns (g::zbi V) w4 w')=>HG.out w' ((Turns.of_new b04).trans t));have HBS4:=Hz (qml HBS.out b04.size);clear CU x0 x1 x2 BF b2 b4 BF4 b14 b04 L4 G4 L1 G1 O1 hlT hw2 RX RXb HXR hXP hXl HP HB HW HL b1 b01;go_wp2_with fail
  go_loopw [9,29] (fun v i wr=>∃k:Nat,k<=XR.length/\i= .int .i64 (k:Int)/\Hid (ChSt w4 base g V v (F++((CG.take k).flatMap zrf)) ((CG.take k).map zqq) wr)) (fun _ i _=>XR.length-(intOf i).toNat)
  case atStart=>exact⟨0,qmu _,rfl,S4⟩
  case round=>
   obtain⟨k,hk,rfl,S5⟩:=hrel;clear S4;by_cases hlt:k<XR.length
   ·obtain⟨V5,l5,a5,t5,o5⟩:=S5.out
    obtain⟨ax,rfl,_,_,hcx⟩:=(RXT.out _ t5).rec_ (f:=zwg) (sz:=1) (fun _=>rfl) (none,0,[]) hlt (by omega);have hcx:=hcx 0 _ rfl;rw[qm0,qp4] at hcx;obtain⟨h1,h2,h3⟩:=HROW.out _ (zas _ hlt);have hgP:gpP (XR.getD k (none,0,[]))=CG.getD k []:=by rw[<-HXP.out,zbq gpP XR (none,0,[]) [] hlt]
    have hkC:k<CG.length:=by rw[<-HXL.out];exact hlt
    have hXm:=zas [] hkC;have n64:=HQ4.out _ hXm;have n65:=HQ5.out _ hXm;have e1:(CG.take (k+1)).flatMap zrf=(CG.take k).flatMap zrf++zrf (CG.getD k []):=by rw[zad CG k [] hkC,qp8];simp
    have e2:(CG.take (k+1)).map zqq=(CG.take k).map zqq++[zqq (CG.getD k [])]:=by rw[zad CG k [] hkC,qp6];rfl
    have w1:=qh5 hkC;have w2:=qle CG (k+1);have w3:=zkc (CG.take k);have hFk:(F++(CG.take k).flatMap zrf).length+wG (CG.getD k [])<=7000000:=by have:=HWA.out;have:=HFl.out;rw[qni];omega
    have hE1:F++(CG.take (k+1)).flatMap zrf=(F++(CG.take k).flatMap zrf)++zrf (CG.getD k []):=by rw[e1,qm5]
    have hPk:((CG.take k).map zqq).length<=65536:=by rw[qpg,qmq];omega
    have HE1:=Hz hE1;have HE2:=Hz e2;obtain⟨Fk,hFkk⟩:∃Fk,Fk=F++(CG.take k).flatMap zrf:=⟨_,rfl⟩;obtain⟨Pk,hPkk⟩:∃Pk,Pk=(CG.take k).map zqq:=⟨_,rfl⟩;obtain⟨X,hXX⟩:∃X,X=CG.getD k []:=⟨_,rfl⟩;rw[<-hFkk] at hFk l5 S5 HE1;rw[<-hPkk] at S5 HE2 hPk o5;rw[<-hXX] at hFk HE1 HE2 hgP n64 n65;generalize XR.getD k (none,0,[])=q at*;obtain⟨ga,gc,gl⟩:=q;dsimp only at hcx h1 h2 h3;have hgl:gl.length=X.length:=by rw[<-hgP];unfold gpP;rw[qpg]
    have HGP:=Hz hgP;have H2:=Hz h2;have H3:=Hz h3;have HFk:=Hz hFk;have HPk:=Hz hPk;have HN:=Hz n65;have L5:=Hz l5;have A5:=Hz a5;have T5:=Hz t5;have HGL5:=Hz hgl;have hgl64:gl.length<=64:=by omega
    have hki:(k:Int)<(XR.length:Int):=by omega
    clear hgP hXm hkC e1 e2 hE1 w1 w2 w3 hFkk hPkk hXX h1 h2 h3 hFk hPk n64 n65 l5 a5 t5 o5 hgl;go_wp2_with fail
    clear hcx;generalize wr=w5 at*;have S6:Hid (ChSt w5 base g V5 (.slice none 0 0) (Fk++(X.take 0).flatMap (ovF zbn)) ((X.take 0).map (ovD zbn)) w5):=Hz (by simpa using ChSt.first L5.out);go_loopw [12,35] (fun v i wr=>∃j:Nat,j<=gl.length/\i= .int .i64 (j:Int)/\Hid (ChSt w5 base g V5 v (Fk++(X.take j).flatMap (ovF zbn)) ((X.take j).map (ovD zbn)) wr)) (fun _ i _=>gl.length-(intOf i).toNat)
    case atStart=>exact⟨0,qmu _,rfl,S6⟩
    case round=>
     obtain⟨j,hj,rfl,S7⟩:=hrel;clear S6;by_cases hlj:j<gl.length
     ·obtain⟨V7,l7,a7,t7,o7⟩:=S7.out
      have t47:=zbp T5.out A5.out t7;have a47:=zf7 T5.out.size A5.out a7;obtain⟨ac,rfl,_,_,hcy⟩:=(H2.out _ t47).rec_ (f:=zpt) (sz:=1) (fun _=>rfl) (none,0,[]) hlj (by omega);have hcy:=hcy 0 _ rfl;rw[qm0,qp4] at hcy;obtain⟨i1,i2⟩:=H3.out _ (zas _ hlj);have hjX:j<X.length:=by rw[<-HGL5.out];exact hlj
      have hrP:rwP (gl.getD j (none,0,[]))=X.getD j []:=by rw[<-HGP.out];exact(zbq rwP gl (none,0,[]) [] hlj).symm
      have hxm:=HN.out _ (zas [] hjX);have e1:Fk++(X.take (j+1)).flatMap (ovF zbn)=(Fk++(X.take j).flatMap (ovF zbn))++ovF zbn (X.getD j []):=by rw[zad X j [] hjX,qp8,qm5];simp
      have e2:(X.take (j+1)).map (ovD zbn)=(X.take j).map (ovD zbn)++[ovD zbn (X.getD j [])]:=by rw[zad X j [] hjX,qp6];rfl
      have hF7:(Fk++(X.take j).flatMap (ovF zbn)).length+2*(X.getD j []).length<=8000000:=by have q1:=zmh (X.take j);have q2:=qh6 hjX;have q3:=qlf X (j+1);have q4:=HFk.out;unfold wG at q4;rw[qmq] at q1;rw[qni];omega
      have hP7:((X.take j).map (ovD zbn)).length<=65536:=by rw[qpg,qmq];omega
      have HE3:=Hz e1;have HE4:=Hz e2;obtain⟨F7,hF77⟩:∃F7,F7=Fk++(X.take j).flatMap (ovF zbn):=⟨_,rfl⟩;obtain⟨P7,hP77⟩:∃P7,P7=(X.take j).map (ovD zbn):=⟨_,rfl⟩;rw[<-hF77] at S7 HE3 hF7 l7;rw[<-hP77] at S7 HE4 hP7 o7;obtain⟨x,hx⟩:∃x,x=X.getD j []:=⟨_,rfl⟩;rw[<-hx] at hrP hxm HE3 HE4 hF7;generalize gl.getD j (none,0,[])=r9 at*;obtain⟨ra,rc,rl⟩:=r9;dsimp only at hcy i1 i2 hrP;have hrl:rl.length=x.length:=by rw[<-hrP];unfold rwP;rw[qpg]
      have CH:=zxd (c:=rc) l7 (qml HBS4.out (qml T5.out.size t7.size)) (i2.turn t47 (fun y hy hm=>zok hm hy a47)) (by omega) (fun w' t=>HGT.out w' (zbp t47 a47 t));rw[show rl.map (·.2.2)=x from hrP] at CH;have hdd:=zhs zbn x;generalize ovD zbn x=d at*;generalize ovF zbn x=fd at*;have HDS:Hid (Digs [d]):=Hz (fun y hy=>by obtain rfl:=qnz.1 hy;exact hdd);have CH:=Hz CH;have HP7:=Hz hP7;have HL7:=Hz l7;have hji:(j:Int)<(gl.length:Int):=by omega
      clear hdd hrP hrl i1 i2 hF7 hP7 hxm hx hF77 hP77 e1 e2 hjX l7 a7 t7 o7 t47 a47;go_wp2_with fail
      refine CH.out.mono ?_;rintro e w8 ⟨rfl,V8,l8,a8,t8⟩;have S8:=S7.out.turn HL7.out l8 a8 t8;have n8:=zac w8 (.cells (recs zet [d]).toArray 35);have S9:=Hz (S8.new n8);obtain⟨_,_,_,t9,o9⟩:=S9.out;have O9:=Hz o9;have LV:=Hz (zfy (w:=w8) HDS.out (T:=[]) (by simp)).row;have B9:=Hz t9.size;clear S8 n8 o9 t9 l8 a8 t8 CH hcy;go_wp2_with (first
       |(refine zom rfl 1 _ rfl [d] HDS.out rfl (by omega) (by omega) (by rw[qnc,qnd,qqa];rfl) ?_)
       |(refine zqe rfl (.tmp 39) (.tmp 43) rfl O9.out LV.out rfl rfl B9.out (by have:=HP7.out;rw[qqp];omega) ?_
         intro A9 c9 w10 _ _ o10 g10;rw[<-za2] at o10;have S10:=Hz (S9.out.push o10 (by rw[qni]) g10);rw[<-HE3.out,<-HE4.out] at S10;clear o10 g10))
      go_roundw
      case rel=>exact⟨j+1,by omega,by go_num,S10⟩
      case measure=>simp[intOf];omega
     ·obtain rfl:j=gl.length:=by omega
      rw[HGL5.out,qql] at S7;obtain⟨V7,l7,a7,t7,o7⟩:=S7.out;have t47:=zbp T5.out A5.out t7;have a47:=zf7 T5.out.size A5.out a7;obtain⟨Ac7,cc7,rfl,r1,r2⟩:=zcw o7;have S8:=Hz (S5.out.join L5.out S7.out);have LI:=zn7 o7 rfl (z1h zbn X) l7;have hF7:(Fk++X.flatMap (ovF zbn)).length+2*(X.map (ovD zbn)).length<=8000000:=by have q1:=zmh X;have q4:=HFk.out;unfold wG at q4;rw[qni,qpg];omega
      have GR:=Hz (qau (c:=cc7) l7 (qml HBS4.out (qml T5.out.size t7.size)) LI hF7 (fun w' t=>HGT.out w' (zbp t47 a47 t)));have hE:(Fk++X.flatMap (ovF zbn))++ovF zew (X.map (ovD zbn))=Fk++zrf X:=by rw[qm5];rfl
      have hD:ovD zew (X.map (ovD zbn))=zqq X:=rfl;have hdd:=z0g X;rw[hE,hD] at GR;have HL7:=Hz l7;have HDS:Hid (Digs [zqq X]):=Hz (fun y hy=>by obtain rfl:=qnz.1 hy;exact hdd);generalize zqq X=d at*;generalize Fk++zrf X=fd at*;generalize Fk++X.flatMap (ovF zbn)=fe at*;generalize X.map (ovD zbn)=P7 at*;clear hdd hE hD hF7 LI l7 a7 t7 o7 t47 a47 r1 r2 S7 S5;go_wp2_with fail
      refine GR.out.mono ?_;rintro e w8 ⟨rfl,V8,l8,a8,t8⟩;have S9:=S8.out.turn HL7.out l8 a8 t8;have n8:=zac w8 (.cells (recs zet [d]).toArray 35);have S9:=Hz (S9.new n8);obtain⟨_,_,_,t9,o9⟩:=S9.out;have O9:=Hz o9;have LV:=Hz (zfy (w:=w8) HDS.out (T:=[]) (by simp)).row;have B9:=Hz t9.size;clear n8 o9 t9 l8 a8 t8 GR S8;go_wp2_with (first
       |(refine zom rfl 1 _ rfl [d] HDS.out rfl (by omega) (by omega) (by rw[qnc,qnd,qqa];rfl) ?_)
       |(refine zqe rfl (.tmp 46) (.tmp 50) rfl O9.out LV.out rfl rfl B9.out (by have:=HPk.out;rw[qqp];omega) ?_
         intro A9 c9 w10 _ _ o10 g10;rw[<-za2] at o10;have S10:=Hz (S9.out.push o10 (by rw[qni]) g10);rw[<-HE1.out,<-HE2.out] at S10;clear o10 g10))
      go_roundw
      case rel=>exact⟨k+1,by omega,by go_num,S10⟩
      case measure=>simp[intOf];omega
   ·obtain rfl:k=XR.length:=by omega
    rw[HXL.out,qql] at S5;obtain⟨V5,l5,a5,t5,o5⟩:=S5.out;obtain⟨Ac5,cc5,rfl,r1,r2⟩:=zcw o5;have LI:=zn7 o5 rfl (zwb CG) l5;have hF5:(F++CG.flatMap zrf).length+2*(CG.map zqq).length<=8000000:=by have q1:=zkc CG;have q2:=HWA.out;have q3:=HQ3.out;have q4:=HFl.out;rw[qni,qpg];omega
    have hF6:(F++qbe CG).length<=10000000:=by have q1:=zkc CG;have q2:=HWA.out;have q3:=HQ3.out;have q4:=HFl.out;have q5:=zst zep (CG.map zqq);rw[qpg] at q5;unfold qbe;rw[qni,qni];omega
    have GS:=z5d (c:=cc5) l5 (qml HBS4.out t5.size) LI hF5 (fun w' t=>HGT.out w' (zbp t5 a5 t));rw[qm5,show CG.flatMap zrf++ovF zep (CG.map zqq)=qbe CG from rfl,show ovD zep (CG.map zqq)=z5k CG from rfl] at GS;have GS:=Hz GS;obtain rfl:m1=s.length:=by have:=O4.out.len;rwa[zaa] at this
    have hcap:=O4.out.cap;have hcm:=hcap.2;simp only[maxLen] at hcm;have FL:Hid (∀(W:World) (V8:Value),LogOf tL W base g V8 (F++qbe CG)->(V8.ownBlock=V.ownBlock\/ ∃h,V8.ownBlock=some h/\w4.heap.size<=h)->Turns (g::zbi V) w4 W->Calls Tryz.prog 18 #[.pointer (some ⟨g,0,none⟩),.slice A1 s.length c1,dV (z5k CG)] W (zev tL (.agg cs) base g V8 (F++fr) W)):=Hz (by intro W V8 l8 a8 t8;have:=z2c (c:=c1) (b:=z5k CG) l8 (qml HBS4.out t8.size) hF6 (a:=s) (A:=A1) (zg6 O4.out.reads t8 (fun h0=>qfd O4.out HL4.out (by rw[zaa];exact h0))) HS7.out.1 hcap.1 (by omega) HS7.out.2 (znl CG) (fun w' t=>HGT.out w' (zbp t8 a8 t));rw[HDV.out,qm5,<-HFR.out] at this;exact this)
    have HL5:=Hz l5;have HA5:=Hz a5;have HT5:=Hz t5;have hcd:=znl CG;generalize z5k CG=ad at*;generalize F++qbe CG=F6 at*;generalize CG.map zqq=P5 at*;clear LI hF5 hF6 l5 a5 t5 o5 r1 r2 S5 hcap hcm hcd;go_wp2_with fail
    refine GS.out.mono ?_;rintro e w8 ⟨rfl,V8,l8,a8,t8⟩;have t48:=zbp HT5.out HA5.out t8;have a48:=zf7 HT5.out.size HA5.out a8;have FL:=Hz (FL.out w8 V8 l8 a48 t48);have HT8:=Hz t48;have HA8:=Hz a48;clear l8 a8 t8 t48 a48 GS HL5 HA5 HT5;go_wp2_with fail
    refine FL.out.mono ?_;rintro e w9 ⟨rfl,V9,l9,a9,t9⟩;have t49:=zbp HT8.out HA8.out t9;have a49:=zf7 HT8.out.size HA8.out a9;have g9:=HG4.out.touch t49 (HL4.out.notT HG4.out (by decide) (by decide));have PS:=Hz (zde HGL.out l9 (a49.imp id fun⟨h,h1,h2⟩=>⟨h,h1,qml HB04.out.size h2⟩) ((Turns.of_new HB04.out).trans t49) g9 cs);have H:=Hz (qo8 (zay g9) (za5 g9 cs));clear l9 a9 t9 t49 a49 g9 FL;go_wp2_with (refine wpList_store_row rfl 35 (.tmp 4) (.tmp 58) rfl w.heap.size cs rfl rfl _ _ H.out.1 I32.out ZS.out ONE.out ?_)
    exact bodyPost_ret (zhm rfl _ _ w.heap.size _ cs (0,0) _ rfl H.out.2 zcn rfl I32.out) rfl ⟨rfl,PS.out⟩
open Go.RowKit Go.Hm
theorem zsf{s:List Nat}{L:List (List Nat)}(hs:∀x∈s,x<256)(hL:∀p∈L,∀x∈p,x<256)(ht:zfl L<=9900000):∀f∈(zbe s L).toList,(∀x∈f,x<256)/\f.length<=10000000:=by
 intro f hf;cases ho:zbe s L with
 |none=>rw[ho] at hf;cases hf
 |some y=>
  rw[ho] at hf;obtain rfl:=qnz.1 hf;exact⟨zf5 hs hL ho,ze2 ho ht⟩
theorem zt9{s:List Nat}{D:List (List Nat)}(hs:∀x∈s,x<256)(hD:∀d∈D,(∀x∈d,x<256)/\d.length<=9000000):GoodF (ovF s D):=by unfold ovF;refine GoodF.app (fun f hf=>?_) (z2w (zhr s D));unfold lvF at hf;obtain⟨k,hk,hf⟩:=qpe.1 hf;obtain⟨h1,h2⟩:=hD _ (zgo (qpi.1 hk));generalize D.getD k []=d at*;exact zsf hs (z0f h1) (by unfold zfl;rw[zh1];simp[zbg];omega) f hf
theorem z2e{d:List Nat}(h:zh4 d):(∀x∈d,x<256)/\d.length<=9000000:=⟨h.2,by rw[h.1];omega⟩
theorem flat_good{α:Type}{f:α->List (List Nat)}{X:List α}(h:∀x∈X,GoodF (f x)):GoodF (X.flatMap f):=fun y hy=>by obtain⟨x,hx,hy⟩:=qpe.1 hy;exact h x hx y hy
theorem qay{b:List Nat}(h8:∀x∈b,x<256)(hl:zza b):GoodF (zxo b):=by
 unfold zxo;cases ho:openO b with
 |none=>exact fun f hf=>nomatch hf
 |some x=>
  obtain⟨F,s⟩:=x;obtain⟨l1,l2,l3⟩:=hl.2 F s ho;have hl1:=hl.1;obtain⟨a1,a2,a3,a4,a5,a6,a7⟩:=zny h8 hl.1 ho;have hm:∀X∈zfi F.groups (b.drop 4),∀x∈X,∀p∈x,(∀y∈p,y<256)/\p.length<=9000000:=by intro X hX x hx p hp;have hm:=qq1.2 ⟨x,qq1.2 ⟨X,hX,hx⟩,hp⟩;exact⟨fun y hy=>h8 y (qpa ((znv hm).1 y hy)),l3 p hm⟩
  dsimp only;unfold zwd qbe zqr;refine GoodF.app (GoodF.app (flat_good fun X hX=>?_) (zt9 (by decide) fun d hd=>z2e (zwb _ d hd))) (fun f hf=>?_)
  ·unfold zrf
   exact GoodF.app (flat_good fun x hx=>zt9 (by decide) (hm X hX x hx)) (zt9 (by decide) fun d hd=>z2e (z1h _ _ d hd))
  ·obtain rfl:=qnz.1 hf
   refine⟨zf5 (s:=ze3) (L:=[s,z5k (zfi F.groups (b.drop 4))]) (by decide) (fun p hp=>?_) zhl,?_⟩
   ·simp only[qof,qqg,or_false] at hp
    rcases hp with rfl|rfl
    ·exact a7
    ·exact(znl _).2
   ·exact ze2 (s:=ze3) (L:=[s,z5k (zfi F.groups (b.drop 4))]) zhl (by simp[zfl,(znl _).1];omega)
def qk6(b:List Nat)(w:World)(g h:Nat)(F F':List (List Nat))(W:World):Ending->World->Prop:=TwPost (.tuple #[dV (z5n b),.int .i64 (qbj b)]) w g h (F++zxo b) F' W
section
variable{w W:World}{g h:Nat}{F F':List (List Nat)}
theorem zqf(hG:GlobIn w)(hg:w.heap.size<=g){V:Value}(l:LogOf tL W w.heap.size g V F)(n:New w W):∀w',Turns (g::zbi V) W w'->GlobIn w':=fun _ t=>hG.new (Turns.below n t (l.own (qmt _) hg) (qmt _))
theorem qaz(hg:w.heap.size<=g)(hne:g≠h)(hG:GlobIn w)(l:Tw w g h W F F'){A:Option Addr}{c:Nat}{b:List Nat}(hb:BIn w W A b)(h8:∀x∈b,x<256)(hbl:zza b)(hc:b.length<=c)(hcm:c<=9223372036854775807)(hF:F.length<=1000000):
 Calls Tryz.prog 23 #[.pointer (some ⟨g,0,none⟩),.slice A b.length c] W (qk6 b w g h F F' W):=by
 obtain⟨V,lV⟩:=l.log;refine(qax lV l.news.size (hb.reads l.news) h8 hbl hc hcm (hb.far hg lV) hF (zqf hG hg lV l.news)).mono fun e W' p=>?_
 exact l.call hg hne lV p
theorem zzu(hg:w.heap.size<=g)(hne:g≠h)(hG:GlobIn w)(l:Tw w g h W F F'){s d:List Nat}{k n:Int}{A:Option Addr}{c:Nat}(hs8:∀x∈s,x<256)(hs:s.length<=140737488351232)(hd:Reads W W.heap.size 1 A d.length (zan .u8 d))(h8:∀x∈d,x<256)(hdl:d.length<=9000000)(hc:d.length<=c)(hcm:c<=9223372036854775807)(hF:F.length<=1000000):
 Calls Tryz.prog 34 #[.pointer (some ⟨g,0,none⟩),.string (zae s),.int .i64 k,.int .i64 n,.slice A d.length c] W (TwPost (dV (zb6 s (leafP k n d))) w g h (F++(zbe s (leafP k n d)).toList) F' W):=by
 obtain⟨V,lV⟩:=l.log;have:=zz9 (k:=k) (n:=n) lV l.news.size (by omega) hs8 hs hd h8 hdl hc hcm (fun w' t=>(zqf hG hg lV l.news w' t).1);rw[zj6] at this;exact this.mono fun _ _ p=>l.call hg hne lV p
theorem qit(hg:w.heap.size<=g)(hne:g≠h)(hG:GlobIn w)(l:Tw w g h W F F'){A:Option Addr}{c:Nat}{a b:List Nat}(hd:Reads W W.heap.size 1 A a.length (zan .u8 a))(h8:∀x∈a,x<256)(hal:a.length<=9000000)(hc:a.length<=c)(hcm:c<=9223372036854775807)(hb:zh4 b)(hF:F.length<=1000000):
 Calls Tryz.prog 18 #[.pointer (some ⟨g,0,none⟩),.slice A a.length c,dV b] W (TwPost (dV (z6u a b)) w g h (F++zqr a b) F' W):=by
 obtain⟨V,lV⟩:=l.log;exact(z2c lV l.news.size (by omega) hd h8 hc hcm hal hb (zqf hG hg lV l.news)).mono fun _ _ p=>l.call hg hne lV p
end
end Go.Proofs.Y
