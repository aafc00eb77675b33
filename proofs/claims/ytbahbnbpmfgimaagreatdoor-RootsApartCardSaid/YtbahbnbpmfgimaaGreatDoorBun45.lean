/- Merged. -/
import Derived.Test.YtbahbnbpmfgimaaGreatDoorBun44
set_option maxHeartbeats 4000000
namespace Go.Proofs.Y
open Go.RowKit Go.Hm
noncomputable def z9h(F:FootS)(b:List Nat):List (List Nat):=(zet F.groups (b.drop 4)).flatten.flatten
theorem z05{n:Nat}:∀{C:List (List za2)},(∀l∈C,l.length<=n)->C.flatten.length<=C.length*n
 | [],_=>by simp
 |l::C,h=>by
  have h1:=h l (by simp);have h2:=z05 (C:=C) fun q hq=>h q (by simp[hq])
  rw[List.flatten_cons,List.length_append,List.length_cons,Nat.succ_mul];omega
theorem z06{cols:List zbc}(hc:cols.length<=64):∀{G:List za1} (x:List Nat),(∀g∈G,GroupOk cols g)->((zet G x).flatten.flatten.length:Int)<=64*(G.map (·.1)).sum
 | [],x,_=>by simp[zet]
 |g::G,x,h=>by
  obtain⟨h1,h2,h3⟩:=h g (by simp);have ih:=z06 hc (G:=G) (x.drop (szC g.2)) fun q hq=>h q (by simp[hq])
  obtain⟨n,hn⟩:=Int.eq_ofNat_of_zero_le (show 0<=g.1 by omega);have h4:∀l∈g.2,l.length<=n:=fun l hl=>by obtain⟨i,hi,rfl⟩:=List.getElem_of_mem hl;obtain⟨a,b⟩:=h3 i (by omega);rw[List.getD_eq_getElem?_getD,List.getElem?_eq_getElem hi] at a b;have a2:=zfe a;simp only[Option.getD_some] at a2 b;omega
  have h5:=z05 h4;have h6:g.2.length*n<=64*n:=Nat.mul_le_mul_right _ (by omega);rw[zet,List.flatten_cons,List.flatten_append,List.length_append,zli,List.map_cons,List.sum_cons,hn];omega
theorem z36{F:FootS}(h:zbq F)(b:List Nat):(z9h F b).length<=4194304:=by have h1:=z06 h.1.1 (b.drop 4) h.2.1;have h2:=h.2.2.1;have h3:=h.2.2.2.1;unfold z9h;omega
open Go.RowKit Go.Hm
section
variable{L:List zbc}{E:List Int}{D:List (List zab)}{pr:Int}
def pgF(L:List zbc)(E:List Int)(D:List (List zab))(c:Nat)(q:Int × Int):List Nat:=(zh7 L E D c q).2
def ztv(L:List zbc)(E:List Int)(D:List (List zab))(l:List (Int × Int))(cs:List Nat):List (List (List Nat)):=cs.map fun c=>l.map (pgF L E D c)
def zqg(L:List zbc)(E:List Int)(D:List (List zab))(pr:Int)(l:List (Int × Int)):List (List (List (List Nat))):=l.map fun s=>ztv L E D (zdq s.1 s.2 pr) (List.range L.length)
theorem z07{c:Nat}:∀(l:List (Int × Int)) {y x:List (List Nat) × Int},chW L E D c (some y) l=some x->x.1=y.1++l.map (pgF L E D c)/\ ∀q∈l,(zh7 L E D c q).1=0
 | [],y,x,h=>by
   injection h with h;subst h;simp
 |q::l,y,x,h=>by
  have e:chW L E D c (some y) (q::l)=chW L E D c (pgW L E D c (some y) q) l:=rfl;rw[e] at h;cases hp:pgW L E D c (some y) q with
  |none=>rw[hp,zjp] at h;cases h
  |some z=>
   rw[hp] at h;obtain⟨h1,h2⟩:=z07 l h;unfold pgW at hp;dsimp only at hp;split at hp
   ·rename_i hc
    injection hp with hp;subst hp;refine⟨by rw[h1];simp[pgF],fun q' hq'=>?_⟩;rcases List.mem_cons.1 hq' with rfl|hq'
    ·exact hc.1
    ·exact h2 _ hq'
   ·cases hp
theorem z08{s:Int × Int}:∀(k:Nat) {y x:List (List Nat) × Int},gpW L E D pr s (some y) k=some x->x.1=y.1++(ztv L E D (zdq s.1 s.2 pr) (List.range k)).flatten/\ ∀c,c<k-> ∀q∈zdq s.1 s.2 pr,(zh7 L E D c q).1=0
 |0,y,x,h=>by
  injection h with h;subst h;simp[ztv]
 |k+1,y,x,h=>by
  rw[gpW] at h;cases hp:gpW L E D pr s (some y) k with
  |none=>rw[hp,zjp] at h;cases h
  |some z=>
   rw[hp] at h;obtain⟨h1,h2⟩:=z07 _ h;obtain⟨h3,h4⟩:=z08 k hp;refine⟨by rw[h1,h3,List.range_succ];simp[ztv],fun c hc q hq=>?_⟩;rcases Nat.lt_or_ge c k with h5|h5
   ·exact h4 c h5 q hq
   ·obtain rfl:c=k:=by omega
    exact h2 q hq
theorem zwk:∀(l:List (Int × Int)) {y x:List (List Nat) × Int},l.foldl (grW L E D pr) (some y)=some x->x.1=y.1++(zqg L E D pr l).flatten.flatten/\ ∀s∈l,∀c,c<L.length-> ∀q∈zdq s.1 s.2 pr,(zh7 L E D c q).1=0
 | [],y,x,h=>by
   injection h with h;subst h;simp[zqg]
 |s::l,y,x,h=>by
  rw[List.foldl_cons] at h;cases hp:grW L E D pr (some y) s with
  |none=>rw[hp,zpz] at h;cases h
  |some z=>
   rw[hp] at h;obtain⟨h1,h2⟩:=zwk l h;obtain⟨h3,h4⟩:=z08 _ hp;refine⟨by rw[h1,h3];simp[zqg],fun s' hs'=>?_⟩;rcases List.mem_cons.1 hs' with rfl|hs'
   ·exact h4
   ·exact h2 _ hs'
theorem qez(c:Nat):∀(l:List (Int × Int)) (r:List Nat),z28 (l.map (zd5 L E D c)) ((l.map (pgF L E D c)).flatten++r)=l.map (pgF L E D c)/\(l.map (pgF L E D c)).flatten.length=szL (l.map (zd5 L E D c))
 | [],r=>⟨rfl,rfl⟩
 |q::l,r=>by
  obtain⟨h1,h2⟩:=qez c l r;have e:(zd5 L E D c q).1.toNat=(pgF L E D c q).length:=by unfold zd5 pgF;simp
  rw[List.map_cons,List.map_cons,z28,List.flatten_cons,List.append_assoc,e,List.take_left,List.drop_left,h1,zlc,e,List.length_append,h2];exact⟨rfl,rfl⟩
theorem qe0(l:List (Int × Int)):∀(cs:List Nat) (r:List Nat),zcb (cs.map fun c=>l.map (zd5 L E D c)) ((ztv L E D l cs).flatten.flatten++r)=ztv L E D l cs/\(ztv L E D l cs).flatten.flatten.length=szC (cs.map fun c=>l.map (zd5 L E D c))
 | [],r=>⟨rfl,rfl⟩
 |c::cs,r=>by
  obtain⟨h1,h2⟩:=qe0 l cs r;obtain⟨h3,h4⟩:=qez (L:=L) (E:=E) (D:=D) c l ((ztv L E D l cs).flatten.flatten++r);have e:ztv L E D l (c::cs)=l.map (pgF L E D c)::ztv L E D l cs:=rfl;rw[e,List.map_cons,zcb,List.flatten_cons,List.flatten_append,List.append_assoc,h3,<-h4,List.drop_left,h1,zld,<-h4,List.length_append,h2];exact⟨rfl,rfl⟩
theorem z9j:∀(l:List (Int × Int)) (r:List Nat),zet (l.map (zdt L E D pr)) ((zqg L E D pr l).flatten.flatten.flatten++r)=zqg L E D pr l/\(zqg L E D pr l).flatten.flatten.flatten.length=szG (l.map (zdt L E D pr))
 | [],r=>⟨rfl,rfl⟩
 |s::l,r=>by
  obtain⟨h1,h2⟩:=z9j l r;obtain⟨h3,h4⟩:=qe0 (L:=L) (E:=E) (D:=D) (zdq s.1 s.2 pr) (List.range L.length) ((zqg L E D pr l).flatten.flatten.flatten++r);have e:zqg L E D pr (s::l)=ztv L E D (zdq s.1 s.2 pr) (List.range L.length)::zqg L E D pr l:=rfl;have e2:(zdt L E D pr s).2=(List.range L.length).map fun c=>(zdq s.1 s.2 pr).map (zd5 L E D c):=rfl
  rw[e,List.map_cons,zet,e2,List.flatten_cons,List.flatten_append,List.flatten_append,List.append_assoc,h3,<-h4,List.drop_left,h1,zle,e2,<-h4,List.length_append,h2];exact⟨rfl,rfl⟩
end
theorem zp7(l:List zab){f t s:Nat}(hs:0<s):∀k,k<=zhy f t s->(((zgn f t s).take k).map fun q=>(l.drop q.1.toNat).take (q.2-q.1).toNat).flatten=(l.drop f).take (atN f t s k-f)
 |0,_=>by simp[atN];omega
 |k+1,hk=>by
  have ih:=zp7 l (f:=f) (t:=t) hs k (by omega);have hk2:=(zgo (f:=f) (t:=t) hs k).1 (by omega);obtain⟨a1,a2,a3⟩:=z0h hk2;have hle:f<=atN f t s k:=by rw[a1];omega
  rw[zpe (f:=f) (t:=t) (s:=s) (k:=k) (by omega),List.map_append,List.flatten_append,ih,a3];simp only[List.map_cons,List.map_nil,List.flatten_cons,List.flatten_nil,List.append_nil,Int.toNat_natCast];have e1:(((atN f t s (k+1):Nat):Int)-((atN f t s k:Nat):Int)).toNat=atN f t s (k+1)-atN f t s k:=by omega
  have e2:atN f t s (k+1)-f=(atN f t s k-f)+(atN f t s (k+1)-atN f t s k):=by omega
  rw[e1,e2,List.take_add,List.drop_drop];congr 3
  omega
theorem z9k(l:List zab){f t:Nat}{s:Int}(h:f<=t)(ht:t<=65536)(hs:1<=s):((zdq (f:Int) (t:Int) s).map fun q=>(l.drop q.1.toNat).take (q.2-q.1).toNat).flatten=(l.drop f).take (t-f):=by
 obtain⟨n,rfl⟩:=Int.eq_ofNat_of_zero_le (show 0<=s by omega);rcases Nat.lt_or_ge f t with hlt|hge
 ·rw[z0i hlt ht (by omega)]
  have:=zp7 l (f:=f) (t:=t) (s:=n) (by omega) (zhy f t n) (Nat.le_refl _);have e:(zgn f t n).take (zhy f t n)=zgn f t n:=List.take_of_length_le (by rw[zfx];exact Nat.le_refl _);rw[e] at this;rw[this];congr 1
  have hn: ¬(f+zhy f t n*n<t):=fun q=>by have:=(zgo (f:=f) (t:=t) (s:=n) (by omega) (zhy f t n)).2 q;omega
  unfold atN;omega
 ·rw[zvd (by omega)]
  have:t-f=0:=by omega
  rw[this];simp
theorem z09{f t:Nat}{s:Int}{q:Int × Int}(h:q∈zdq (f:Int) (t:Int) s):∃a b:Nat,q=((a:Int),(b:Int))/\f<=a/\a<=b/\b<=t:=by
 unfold zdq at h;split at h
 ·cases h
 ·rename_i hc
  unfold zgn at h;obtain⟨i,hi,rfl⟩:=List.mem_map.1 h;rw[List.mem_range] at hi;have:=(zgo (f:=(f:Int).toNat) (t:=(t:Int).toNat) (s:=s.toNat) (by omega) i).1 hi;refine⟨_,_,rfl,?_,?_,?_⟩
  ·omega
  ·rw[Nat.succ_mul];omega
  ·omega
open Go.RowKit Go.Hm
set_option maxRecDepth 100000 in
theorem z93{w:World}{base g:Nat}{V:Value}{F:List (List Nat)}(hL:LogOf tL w base g V F)(hbs:base<=w.heap.size){A:Option Addr}{cb:Nat}{b:List Nat}
 (hb:Reads w w.heap.size 1 A b.length (zao .u8 b))(h8:∀x∈b,x<256)(hbl:zv2 b)(hc:b.length<=cb)(hcb:cb<=9223372036854775807)(hfar:0<b.length-> ∀ad,A=some ad->ad.block∉g::zbm V)(hF:F.length<=1000000)(hG:∀w',Turns (g::zbm V) w w'->GlobIn w'):
 Calls Tryz.prog 23 #[.pointer (some ⟨g,0,none⟩),.slice A b.length cb] w (qe6 b base g V F w):=by
 obtain⟨W0,hW0⟩:∃W,W=w.alloc (.cells (za0 .u8 zat).toArray 35):=⟨_,rfl⟩;have n0:New w W0:=by rw[hW0];exact zah _ _
 have G0:Blk W0 w.heap.size tD (za0 .u8 zat).toArray:=by rw[hW0];exact Blk.new _ _ _
 have O:=Hz (z04 (w:=W0) (c:=cb) (Reads.later hb n0) h8 hbl.1 hc hcb);have HW:=Hz hW0;have HL:=Hz hL;have HGL:=Hz (show g<w.heap.size from hL.lt);have HB:=Hz (And.intro hb (And.intro h8 (And.intro hbl (And.intro hc (And.intro hcb hfar)))));have HIS:=Hz (fun F' s (h:openO b=some (F',s))=>zfs h8 hbl.1 h);have HG:=Hz hG;have HBS:=Hz hbs;have HFl:=Hz hF;have N0:=Hz n0;have HG0:=Hz G0;unfold qe6;obtain⟨cs,hdv,I32,ZS,ONE,hcs⟩:=zgm (zgs b);rw[hdv];have HER:=Hz (fun(h:openO b=none)=>z1i h);have HES:=Hz (fun F' s (h:openO b=some (F',s))=>z92 h);have HDV:=Hz hdv;have HCS:=Hz hcs;generalize zr6 b=rd at*;generalize znz b=er at*;generalize zn0 b=fr at*;have I32:=Hz I32;have ZS:=Hz ZS;have ONE:=Hz ONE;obtain⟨X,hX⟩:∃X,X=openO b:=⟨_,rfl⟩;have hX:=Hz hX.symm;clear hdv hcs;clear hW0 hL hb h8 hc hcb hfar hG hbs hF n0 G0;go_enter Tryz.func23,Tryz.ntmps23
 go_wp2_with fail
 rw[show w.alloc (.cells #[.int .u8 0,.int .u8 0,.int .u8 0,.int .u8 0,.int .u8 0,.int .u8 0,.int .u8 0,.int .u8 0,.int .u8 0,.int .u8 0,.int .u8 0,.int .u8 0,.int .u8 0,.int .u8 0,.int .u8 0,.int .u8 0,.int .u8 0,.int .u8 0,.int .u8 0,.int .u8 0,.int .u8 0,.int .u8 0,.int .u8 0,.int .u8 0,.int .u8 0,.int .u8 0,.int .u8 0,.int .u8 0,.int .u8 0,.int .u8 0,.int .u8 0,.int .u8 0] 35)=W0 from HW.out.symm];refine O.out.mono ?_;rintro e W1 ⟨b1,hpost⟩;rw[hX.out] at hpost;have b01:=New.trans N0.out b1;have G1:=Hz (HG0.out.below b1 HG0.out.lt);have L1:=Hz (HL.out.new b01);clear O HG0;cases X with
 |none=>
  obtain rfl:=hpost;obtain⟨e1,e2,e3⟩:=HER.out hX.out;subst e2;subst e3;have PS:=Hz (fun(W:World) (n2:New W1 W)=>And.intro (zaz (G1.out.below n2 G1.out.lt)) (And.intro (zbg (G1.out.below n2 G1.out.lt) cs) (zde HGL.out (L1.out.new n2) (.inl rfl) (Turns.of_new (New.trans b01 n2)) (G1.out.below n2 G1.out.lt) cs)));have hz:(.agg #[.int .u8 0,.int .u8 0,.int .u8 0,.int .u8 0,.int .u8 0,.int .u8 0,.int .u8 0,.int .u8 0,.int .u8 0,.int .u8 0,.int .u8 0,.int .u8 0,.int .u8 0,.int .u8 0,.int .u8 0,.int .u8 0,.int .u8 0,.int .u8 0,.int .u8 0,.int .u8 0,.int .u8 0,.int .u8 0,.int .u8 0,.int .u8 0,.int .u8 0,.int .u8 0,.int .u8 0,.int .u8 0,.int .u8 0,.int .u8 0,.int .u8 0,.int .u8 0]:Value)= .agg cs:=by rw[HCS.out,e1];rfl
  have HZ:=Hz hz;clear hX hz e1 HCS HER HES HDV;go_wp2_with (first
   |(refine zaf rfl 79 (.tmp 6) (.tmp 18) rfl W1.heap.size _ rfl rfl (Blk.new W1 79 #[.slice none 0 0,.int .i64 0,.slice none 0 0]) (by kernel_rfl) rfl (by simp[Value.oneCell']) ?_
     intro W2 BF G2;have b2:New W1 W2:=zbe ((Below.refl _ _).alloc (Nat.le_refl _) _) G2 (Nat.le_refl _) (Nat.le_refl _);have HB2:=Hz b2;clear BF G2 b2)
   |(refine wpList_store_row rfl 35 (.tmp 4) (.tmp 23) rfl w.heap.size cs rfl HZ.out _ _ (PS.out W2 HB2.out).1 I32.out ZS.out ONE.out ?_))
  exact bodyPost_ret (zhh rfl _ _ w.heap.size _ cs (0,0) _ rfl (PS.out W2 HB2.out).2.1 zcd rfl I32.out) rfl ⟨rfl,by rw[List.append_nil];exact(PS.out W2 HB2.out).2.2⟩
 |some x=>
  obtain⟨F',s⟩:=x;obtain⟨Ac,cc,L,r,Ag,cg,G,A1,m1,c1,rfl,hFP,FI,hcg,o1⟩:=hpost;dsimp only at hFP o1;obtain⟨f1,f2,f3,f4,f5,f6,f7⟩:=HIS.out F' s hX.out;obtain⟨hb,h8,hok,hc,hcb,hfar⟩:=HB.out;obtain⟨k1,k2,k3⟩:=hok.2 F' s hX.out;obtain⟨q1,q2,q3,q4⟩:=ztq b f1;have hbl:=hok.1;obtain⟨e1,e2,e3⟩:=HES.out F' s hX.out;subst e1;unfold zpt at e2;unfold zne at e3;rw[<-hFP] at f1 f5 k2 k3 q1 q3 q4 e2 e3;have hFG:(zbt L r G).groups=G.map grP:=rfl;rw[hFG] at f5 k2 k3 q1 q3 q4 e2 e3;have hs:4+szG (G.map grP)<=b.length:=by omega
  have CU:=fun(W:World) (hW:New W1 W)=>zy1 (r:=r) (cc:=cc) (cg:=cg) (Reads.later hb (New.trans b01 hW)) hbl hc hcb (FI.later hW) f1 hs
  unfold SheCutPostA at CU;have CU:=Hz CU;have HP:Hid (∀X∈zet (G.map grP) (b.drop 4),∀x∈X,∀p∈x,(∀y∈p,y<256)/\p.length<=b.length/\p.length<=9000000):=Hz (by intro X hX x hx p hp;have hm:=List.mem_flatten.2 ⟨x,List.mem_flatten.2 ⟨X,hX,hx⟩,hp⟩;exact⟨fun y hy=>h8 y (List.mem_of_mem_drop ((zlh hm).1 y hy)),((q4 X hX).2 x hx).2 p hp,k3 p hm⟩)
  have HQ4:=Hz (fun X hX=>(q4 X hX).1);have HQ5:=Hz (fun X hX x hx=>((q4 X hX).2 x hx).1);have hwA:wA (zet (G.map grP) (b.drop 4))<=5065536:=by omega
  generalize zet (G.map grP) (b.drop 4)=CG at*;have HWA:=Hz hwA;rw[e2] at HDV;have HFR:=Hz e3;have HQ3:=Hz q3;have O1:=Hz o1;have HS7:=Hz (And.intro f7 k1);unfold zlb at CU⊢;clear e2 e3 HCS HER HES;clear f1 f2 f3 f4 f5 f6 f7 hX HIS hb h8 hok hc hcb k1 k2 k3 q1 q2 q3 q4 hbl hFP hFG hs FI hcg hfar hwA o1
  go_upto_region 2 with(refine zaf rfl 79 (.tmp 6) (.tmp 18) rfl W1.heap.size _ rfl rfl (Blk.new W1 79 #[.slice none 0 0,.int .i64 0,.slice none 0 0]) (by kernel_rfl) rfl (by simp[Value.oneCell']) ?_
                        intro W2 BF G2;have b2:New W1 W2:=zbe ((Below.refl _ _).alloc (Nat.le_refl _) _) G2 (Nat.le_refl _) (Nat.le_refl _);obtain⟨x0,x1,x2⟩:=zan BF;clear G2)
  go_wp2_with fail
  refine(CU.out W2 b2).mono ?_;rintro e w4 ⟨AX,XR,rfl,b4,⟨RX,RXb⟩,HXR,hXP⟩;have BF4:=BF.below b4 BF.lt;have b14:=New.trans b2 b4;have b04:=New.trans b01 b14;have L4:=L1.out.new b14;have G4:=G1.out.below b14 G1.out.lt;have O4:=Hz (O1.out.later b14);have hlT:∀x∈g::zbm V,x<w.heap.size:=fun x hx=>by
   rcases List.mem_cons.1 hx with rfl|hx
   ·exact HGL.out
   ·exact(HL.out.ge x hx).2
  have hw2:w.heap.size<=W2.heap.size:=Nat.le_trans b01.size b2.size;have RXT:=Hz (fun(W:World) (k:Turns (g::zbm V) w4 W)=>zg3 RX k (fun _ ad ha hm=>by have:=RXb ad ha;have:=hlT _ hm;omega));have hXl:=congrArg List.length hXP;rw[List.length_map] at hXl;have hXR:XR.length<=65536:=by have:=HQ3.out;omega
  have HROW:Hid (∀q∈XR,q.2.1=q.2.2.length/\(∀W,Turns (g::zbm V) w4 W->Reads W W.heap.size 1 q.1 q.2.2.length (recs zpu q.2.2))/\ ∀r∈q.2.2,r.2.1=r.2.2.length/\DataF w4 r.1 r.2.2 (g::zbm V)):=Hz (by
   intro q hq;obtain⟨h1,h2,h3⟩:=HXR q hq;refine⟨h1,fun W k=>zg3 h2.1 k (fun _ ad ha hm=>by have:=h2.2 ad ha;have:=hlT _ hm;omega),fun r hr=>?_⟩;obtain⟨h4,h5,h6⟩:=h3 r hr;have hqC:gpP q∈CG:=by rw[<-hXP];exact List.mem_map.2 ⟨q,hq,rfl⟩
   have hrC:rwP r∈gpP q:=List.mem_map.2 ⟨r,hr,rfl⟩;refine⟨h4,z91 (w:=w) hlT HB.out.2.2.2.2.2 ⟨h5.1,fun ad ha=>Nat.le_trans hw2 (h5.2 ad ha)⟩ h6 (fun d hd=>?_)⟩;exact HP.out _ hqC _ hrC d.2.2 (List.mem_map.2 ⟨d,hd,rfl⟩))
  have HXP:=Hz hXP;have HXL:=Hz hXl;have S4:Hid (ChSt w4 base g V (.slice none 0 0) (F++((CG.take 0).flatMap zon)) ((CG.take 0).map zl2) w4):=Hz (by simpa using ChSt.first L4);have HL4:=Hz L4;have HG4:=Hz G4;have HB04:=Hz b04;have HGT:=Hz (fun w' (t:Turns (g::zbm V) w4 w')=>HG.out w' ((Turns.of_new b04).trans t));have HBS4:=Hz (Nat.le_trans HBS.out b04.size);clear CU x0 x1 x2 BF b2 b4 BF4 b14 b04 L4 G4 L1 G1 O1 hlT hw2 RX RXb HXR hXP hXl HP HB HW HL b1 b01;go_wp2_with fail
  go_loopw [9,29] (fun v i wr=>∃k:Nat,k<=XR.length/\i= .int .i64 (k:Int)/\Hid (ChSt w4 base g V v (F++((CG.take k).flatMap zon)) ((CG.take k).map zl2) wr)) (fun _ i _=>XR.length-(intOf i).toNat)
  case atStart=>exact⟨0,Nat.zero_le _,rfl,S4⟩
  case round=>
   obtain⟨k,hk,rfl,S5⟩:=hrel;clear S4;by_cases hlt:k<XR.length
   ·obtain⟨V5,l5,a5,t5,o5⟩:=S5.out
    obtain⟨ax,rfl,_,_,hcx⟩:=(RXT.out _ t5).rec_ (f:=zv0) (sz:=1) (fun _=>rfl) (none,0,[]) hlt (by omega);have hcx:=hcx 0 _ rfl;rw[Nat.mul_one,Nat.add_zero] at hcx;obtain⟨h1,h2,h3⟩:=HROW.out _ (zai _ hlt);have hgP:gpP (XR.getD k (none,0,[]))=CG.getD k []:=by rw[<-HXP.out,zbk gpP XR (none,0,[]) [] hlt]
    have hkC:k<CG.length:=by rw[<-HXL.out];exact hlt
    have hXm:=zai [] hkC;have n64:=HQ4.out _ hXm;have n65:=HQ5.out _ hXm;have e1:(CG.take (k+1)).flatMap zon=(CG.take k).flatMap zon++zon (CG.getD k []):=by rw[zac CG k [] hkC,List.flatMap_append];simp
    have e2:(CG.take (k+1)).map zl2=(CG.take k).map zl2++[zl2 (CG.getD k [])]:=by rw[zac CG k [] hkC,List.map_append];rfl
    have w1:=qgx hkC;have w2:=qjv CG (k+1);have w3:=zh0 (CG.take k);have hFk:(F++(CG.take k).flatMap zon).length+wG (CG.getD k [])<=7000000:=by have:=HWA.out;have:=HFl.out;rw[List.length_append];omega
    have hE1:F++(CG.take (k+1)).flatMap zon=(F++(CG.take k).flatMap zon)++zon (CG.getD k []):=by rw[e1,List.append_assoc]
    have hPk:((CG.take k).map zl2).length<=65536:=by rw[List.length_map,List.length_take];omega
    have HE1:=Hz hE1;have HE2:=Hz e2;obtain⟨Fk,hFkk⟩:∃Fk,Fk=F++(CG.take k).flatMap zon:=⟨_,rfl⟩;obtain⟨Pk,hPkk⟩:∃Pk,Pk=(CG.take k).map zl2:=⟨_,rfl⟩;obtain⟨X,hXX⟩:∃X,X=CG.getD k []:=⟨_,rfl⟩;rw[<-hFkk] at hFk l5 S5 HE1;rw[<-hPkk] at S5 HE2 hPk o5;rw[<-hXX] at hFk HE1 HE2 hgP n64 n65;generalize XR.getD k (none,0,[])=q at*;obtain⟨ga,gc,gl⟩:=q;dsimp only at hcx h1 h2 h3;have hgl:gl.length=X.length:=by rw[<-hgP];unfold gpP;rw[List.length_map]
    have HGP:=Hz hgP;have H2:=Hz h2;have H3:=Hz h3;have HFk:=Hz hFk;have HPk:=Hz hPk;have HN:=Hz n65;have L5:=Hz l5;have A5:=Hz a5;have T5:=Hz t5;have HGL5:=Hz hgl;have hgl64:gl.length<=64:=by omega
    have hki:(k:Int)<(XR.length:Int):=by omega
    clear hgP hXm hkC e1 e2 hE1 w1 w2 w3 hFkk hPkk hXX h1 h2 h3 hFk hPk n64 n65 l5 a5 t5 o5 hgl;go_wp2_with fail
    clear hcx;generalize wr=w5 at*;have S6:Hid (ChSt w5 base g V5 (.slice none 0 0) (Fk++(X.take 0).flatMap (ovF zcg)) ((X.take 0).map (ovD zcg)) w5):=Hz (by simpa using ChSt.first L5.out);go_loopw [12,35] (fun v i wr=>∃j:Nat,j<=gl.length/\i= .int .i64 (j:Int)/\Hid (ChSt w5 base g V5 v (Fk++(X.take j).flatMap (ovF zcg)) ((X.take j).map (ovD zcg)) wr)) (fun _ i _=>gl.length-(intOf i).toNat)
    case atStart=>exact⟨0,Nat.zero_le _,rfl,S6⟩
    case round=>
     obtain⟨j,hj,rfl,S7⟩:=hrel;clear S6;by_cases hlj:j<gl.length
     ·obtain⟨V7,l7,a7,t7,o7⟩:=S7.out
      have t47:=zbp T5.out A5.out t7;have a47:=zf5 T5.out.size A5.out a7;obtain⟨ac,rfl,_,_,hcy⟩:=(H2.out _ t47).rec_ (f:=zpu) (sz:=1) (fun _=>rfl) (none,0,[]) hlj (by omega);have hcy:=hcy 0 _ rfl;rw[Nat.mul_one,Nat.add_zero] at hcy;obtain⟨i1,i2⟩:=H3.out _ (zai _ hlj);have hjX:j<X.length:=by rw[<-HGL5.out];exact hlj
      have hrP:rwP (gl.getD j (none,0,[]))=X.getD j []:=by rw[<-HGP.out];exact(zbk rwP gl (none,0,[]) [] hlj).symm
      have hxm:=HN.out _ (zai [] hjX);have e1:Fk++(X.take (j+1)).flatMap (ovF zcg)=(Fk++(X.take j).flatMap (ovF zcg))++ovF zcg (X.getD j []):=by rw[zac X j [] hjX,List.flatMap_append,List.append_assoc];simp
      have e2:(X.take (j+1)).map (ovD zcg)=(X.take j).map (ovD zcg)++[ovD zcg (X.getD j [])]:=by rw[zac X j [] hjX,List.map_append];rfl
      have hF7:(Fk++(X.take j).flatMap (ovF zcg)).length+2*(X.getD j []).length<=8000000:=by have q1:=zmi (X.take j);have q2:=qgy hjX;have q3:=qjw X (j+1);have q4:=HFk.out;unfold wG at q4;rw[List.length_take] at q1;rw[List.length_append];omega
      have hP7:((X.take j).map (ovD zcg)).length<=65536:=by rw[List.length_map,List.length_take];omega
      have HE3:=Hz e1;have HE4:=Hz e2;obtain⟨F7,hF77⟩:∃F7,F7=Fk++(X.take j).flatMap (ovF zcg):=⟨_,rfl⟩;obtain⟨P7,hP77⟩:∃P7,P7=(X.take j).map (ovD zcg):=⟨_,rfl⟩;rw[<-hF77] at S7 HE3 hF7 l7;rw[<-hP77] at S7 HE4 hP7 o7;obtain⟨x,hx⟩:∃x,x=X.getD j []:=⟨_,rfl⟩;rw[<-hx] at hrP hxm HE3 HE4 hF7;generalize gl.getD j (none,0,[])=r9 at*;obtain⟨ra,rc,rl⟩:=r9;dsimp only at hcy i1 i2 hrP;have hrl:rl.length=x.length:=by rw[<-hrP];unfold rwP;rw[List.length_map]
      have CH:=z9y (c:=rc) l7 (Nat.le_trans HBS4.out (Nat.le_trans T5.out.size t7.size)) (i2.turn t47 (fun y hy hm=>zsh hm hy a47)) (by omega) (fun w' t=>HGT.out w' (zbp t47 a47 t));rw[show rl.map (·.2.2)=x from hrP] at CH;have hdd:=zl1 zcg x;generalize ovD zcg x=d at*;generalize ovF zcg x=fd at*;have HDS:Hid (Digs [d]):=Hz (fun y hy=>by obtain rfl:=List.mem_singleton.1 hy;exact hdd);have CH:=Hz CH;have HP7:=Hz hP7;have HL7:=Hz l7;have hji:(j:Int)<(gl.length:Int):=by omega
      clear hdd hrP hrl i1 i2 hF7 hP7 hxm hx hF77 hP77 e1 e2 hjX l7 a7 t7 o7 t47 a47;go_wp2_with fail
      refine CH.out.mono ?_;rintro e w8 ⟨rfl,V8,l8,a8,t8⟩;have S8:=S7.out.turn HL7.out l8 a8 t8;have n8:=zah w8 (.cells (recs zh4 [d]).toArray 35);have S9:=Hz (S8.new n8);obtain⟨_,_,_,t9,o9⟩:=S9.out;have O9:=Hz o9;have LV:=Hz (zq1 (w:=w8) HDS.out (T:=[]) (by simp)).row;have B9:=Hz t9.size;clear S8 n8 o9 t9 l8 a8 t8 CH hcy;go_wp2_with (first
       |(refine zol rfl 1 _ rfl [d] HDS.out rfl (by omega) (by omega) (by rw[List.map_cons,List.map_nil,Array.toList_map];rfl) ?_)
       |(refine zp9 rfl (.tmp 39) (.tmp 43) rfl O9.out LV.out rfl rfl B9.out (by have:=HP7.out;rw[List.length_singleton];omega) ?_
         intro A9 c9 w10 _ _ o10 g10;rw[<-zbb] at o10;have S10:=Hz (S9.out.push o10 (by rw[List.length_append]) g10);rw[<-HE3.out,<-HE4.out] at S10;clear o10 g10))
      go_roundw
      case rel=>exact⟨j+1,by omega,by go_num,S10⟩
      case measure=>simp[intOf];omega
     ·obtain rfl:j=gl.length:=by omega
      rw[HGL5.out,List.take_length] at S7;obtain⟨V7,l7,a7,t7,o7⟩:=S7.out;have t47:=zbp T5.out A5.out t7;have a47:=zf5 T5.out.size A5.out a7;obtain⟨Ac7,cc7,rfl,r1,r2⟩:=zd8 o7;have S8:=Hz (S5.out.join L5.out S7.out);have LI:=zny o7 rfl (znt zcg X) l7;have hF7:(Fk++X.flatMap (ovF zcg)).length+2*(X.map (ovD zcg)).length<=8000000:=by have q1:=zmi X;have q4:=HFk.out;unfold wG at q4;rw[List.length_append,List.length_map];omega
      have GR:=Hz (z90 (c:=cc7) l7 (Nat.le_trans HBS4.out (Nat.le_trans T5.out.size t7.size)) LI hF7 (fun w' t=>HGT.out w' (zbp t47 a47 t)));have hE:(Fk++X.flatMap (ovF zcg))++ovF zew (X.map (ovD zcg))=Fk++zon X:=by rw[List.append_assoc];rfl
      have hD:ovD zew (X.map (ovD zcg))=zl2 X:=rfl;have hdd:=zzq X;rw[hE,hD] at GR;have HL7:=Hz l7;have HDS:Hid (Digs [zl2 X]):=Hz (fun y hy=>by obtain rfl:=List.mem_singleton.1 hy;exact hdd);generalize zl2 X=d at*;generalize Fk++zon X=fd at*;generalize Fk++X.flatMap (ovF zcg)=fe at*;generalize X.map (ovD zcg)=P7 at*;clear hdd hE hD hF7 LI l7 a7 t7 o7 t47 a47 r1 r2 S7 S5;go_wp2_with fail
      refine GR.out.mono ?_;rintro e w8 ⟨rfl,V8,l8,a8,t8⟩;have S9:=S8.out.turn HL7.out l8 a8 t8;have n8:=zah w8 (.cells (recs zh4 [d]).toArray 35);have S9:=Hz (S9.new n8);obtain⟨_,_,_,t9,o9⟩:=S9.out;have O9:=Hz o9;have LV:=Hz (zq1 (w:=w8) HDS.out (T:=[]) (by simp)).row;have B9:=Hz t9.size;clear n8 o9 t9 l8 a8 t8 GR S8;go_wp2_with (first
       |(refine zol rfl 1 _ rfl [d] HDS.out rfl (by omega) (by omega) (by rw[List.map_cons,List.map_nil,Array.toList_map];rfl) ?_)
       |(refine zp9 rfl (.tmp 46) (.tmp 50) rfl O9.out LV.out rfl rfl B9.out (by have:=HPk.out;rw[List.length_singleton];omega) ?_
         intro A9 c9 w10 _ _ o10 g10;rw[<-zbb] at o10;have S10:=Hz (S9.out.push o10 (by rw[List.length_append]) g10);rw[<-HE1.out,<-HE2.out] at S10;clear o10 g10))
      go_roundw
      case rel=>exact⟨k+1,by omega,by go_num,S10⟩
      case measure=>simp[intOf];omega
   ·obtain rfl:k=XR.length:=by omega
    rw[HXL.out,List.take_length] at S5;obtain⟨V5,l5,a5,t5,o5⟩:=S5.out;obtain⟨Ac5,cc5,rfl,r1,r2⟩:=zd8 o5;have LI:=zny o5 rfl (zlm CG) l5;have hF5:(F++CG.flatMap zon).length+2*(CG.map zl2).length<=8000000:=by have q1:=zh0 CG;have q2:=HWA.out;have q3:=HQ3.out;have q4:=HFl.out;rw[List.length_append,List.length_map];omega
    have hF6:(F++zzp CG).length<=10000000:=by have q1:=zh0 CG;have q2:=HWA.out;have q3:=HQ3.out;have q4:=HFl.out;have q5:=zsj zei (CG.map zl2);rw[List.length_map] at q5;unfold zzp;rw[List.length_append,List.length_append];omega
    have GS:=z4k (c:=cc5) l5 (Nat.le_trans HBS4.out t5.size) LI hF5 (fun w' t=>HGT.out w' (zbp t5 a5 t));rw[List.append_assoc,show CG.flatMap zon++ovF zei (CG.map zl2)=zzp CG from rfl,show ovD zei (CG.map zl2)=zul CG from rfl] at GS;have GS:=Hz GS;obtain rfl:m1=s.length:=by have:=O4.out.len;rwa[zaa] at this
    have hcap:=O4.out.cap;have hcm:=hcap.2;simp only[maxLen] at hcm;have FL:Hid (∀(W:World) (V8:Value),LogOf tL W base g V8 (F++zzp CG)->(V8.ownBlock=V.ownBlock\/ ∃h,V8.ownBlock=some h/\w4.heap.size<=h)->Turns (g::zbm V) w4 W->Calls Tryz.prog 18 #[.pointer (some ⟨g,0,none⟩),.slice A1 s.length c1,dV (zul CG)] W (zfk tL (.agg cs) base g V8 (F++fr) W)):=Hz (by intro W V8 l8 a8 t8;have:=z1g (c:=c1) (b:=zul CG) l8 (Nat.le_trans HBS4.out t8.size) hF6 (a:=s) (A:=A1) (zg3 O4.out.reads t8 (fun h0=>qd5 O4.out HL4.out (by rw[zaa];exact h0))) HS7.out.1 hcap.1 (by omega) HS7.out.2 (zi5 CG) (fun w' t=>HGT.out w' (zbp t8 a8 t));rw[HDV.out,List.append_assoc,<-HFR.out] at this;exact this)
    have HL5:=Hz l5;have HA5:=Hz a5;have HT5:=Hz t5;have hcd:=zi5 CG;generalize zul CG=ad at*;generalize F++zzp CG=F6 at*;generalize CG.map zl2=P5 at*;clear LI hF5 hF6 l5 a5 t5 o5 r1 r2 S5 hcap hcm hcd;go_wp2_with fail
    refine GS.out.mono ?_;rintro e w8 ⟨rfl,V8,l8,a8,t8⟩;have t48:=zbp HT5.out HA5.out t8;have a48:=zf5 HT5.out.size HA5.out a8;have FL:=Hz (FL.out w8 V8 l8 a48 t48);have HT8:=Hz t48;have HA8:=Hz a48;clear l8 a8 t8 t48 a48 GS HL5 HA5 HT5;go_wp2_with fail
    refine FL.out.mono ?_;rintro e w9 ⟨rfl,V9,l9,a9,t9⟩;have t49:=zbp HT8.out HA8.out t9;have a49:=zf5 HT8.out.size HA8.out a9;have g9:=HG4.out.touch t49 (HL4.out.notT HG4.out (by decide) (by decide));have PS:=Hz (zde HGL.out l9 (a49.imp id fun⟨h,h1,h2⟩=>⟨h,h1,Nat.le_trans HB04.out.size h2⟩) ((Turns.of_new HB04.out).trans t49) g9 cs);have H:=Hz (And.intro (zaz g9) (zbg g9 cs));clear l9 a9 t9 t49 a49 g9 FL;go_wp2_with (refine wpList_store_row rfl 35 (.tmp 4) (.tmp 58) rfl w.heap.size cs rfl rfl _ _ H.out.1 I32.out ZS.out ONE.out ?_)
    exact bodyPost_ret (zhh rfl _ _ w.heap.size _ cs (0,0) _ rfl H.out.2 zcd rfl I32.out) rfl ⟨rfl,PS.out⟩
open Go.RowKit Go.Hm
theorem z94{a b:List Nat}(ha8:∀x∈a,x<256)(hb8:∀x∈b,x<256)(hla:a.length<=140737488351232)(hlb:b.length<=140737488351232)(ha:znz a=0)(hb:znz b=0)(h:zr6 a=zr6 b)(hne:a≠b):Tells (zn0 a) (zn0 b):=by obtain⟨F,s,ho,e1,e2⟩:=z1h ha;obtain⟨G,t,ko,k1,k2⟩:=z1h hb;rw[e2,k2];exact zyn ha8 hb8 hla hlb ho ko (by rw[<-e1,<-k1];exact h) hne
theorem zr8{s:List Nat}{L:List (List Nat)}(hs:∀x∈s,x<256)(hL:∀p∈L,∀x∈p,x<256)(ht:zhq L<=9900000):∀f∈(za4 s L).toList,(∀x∈f,x<256)/\f.length<=10000000:=by
 intro f hf;cases ho:za4 s L with
 |none=>rw[ho] at hf;cases hf
 |some y=>
  rw[ho] at hf;obtain rfl:=List.mem_singleton.1 hf;exact⟨zf3 hs hL ho,ze1 ho ht⟩
theorem zty{s:List Nat}{D:List (List Nat)}(hs:∀x∈s,x<256)(hD:∀d∈D,(∀x∈d,x<256)/\d.length<=9000000):GoodF (ovF s D):=by unfold ovF;refine GoodF.app (fun f hf=>?_) (z13 (zhr s D));unfold lvF at hf;obtain⟨k,hk,hf⟩:=List.mem_flatMap.1 hf;obtain⟨h1,h2⟩:=hD _ (zfp (List.mem_range.1 hk));generalize D.getD k []=d at*;exact zr8 hs (zzo h1) (by unfold zhq;rw[zc1];simp[za6];omega) f hf
theorem z1j{d:List Nat}(h:zlr d):(∀x∈d,x<256)/\d.length<=9000000:=⟨h.2,by rw[h.1];omega⟩
theorem flat_good{α:Type}{f:α->List (List Nat)}{X:List α}(h:∀x∈X,GoodF (f x)):GoodF (X.flatMap f):=fun y hy=>by obtain⟨x,hx,hy⟩:=List.mem_flatMap.1 hy;exact h x hx y hy
theorem zqa{b:List Nat}(h8:∀x∈b,x<256)(hl:zv2 b):GoodF (zn0 b):=by
 unfold zn0;cases ho:openO b with
 |none=>exact fun f hf=>nomatch hf
 |some x=>
  obtain⟨F,s⟩:=x;obtain⟨l1,l2,l3⟩:=hl.2 F s ho;have hl1:=hl.1;obtain⟨a1,a2,a3,a4,a5,a6,a7⟩:=zfs h8 hl.1 ho;have hm:∀X∈zet F.groups (b.drop 4),∀x∈X,∀p∈x,(∀y∈p,y<256)/\p.length<=9000000:=by intro X hX x hx p hp;have hm:=List.mem_flatten.2 ⟨x,List.mem_flatten.2 ⟨X,hX,hx⟩,hp⟩;exact⟨fun y hy=>h8 y (List.mem_of_mem_drop ((zlh hm).1 y hy)),l3 p hm⟩
  dsimp only;unfold zne zzp zoo;refine GoodF.app (GoodF.app (flat_good fun X hX=>?_) (zty (by decide) fun d hd=>z1j (zlm _ d hd))) (fun f hf=>?_)
  ·unfold zon
   exact GoodF.app (flat_good fun x hx=>zty (by decide) (hm X hX x hx)) (zty (by decide) fun d hd=>z1j (znt _ _ d hd))
  ·obtain rfl:=List.mem_singleton.1 hf
   refine⟨zf3 (s:=ze3) (L:=[s,zul (zet F.groups (b.drop 4))]) (by decide) (fun p hp=>?_) zhg,?_⟩
   ·simp only[List.mem_cons,List.not_mem_nil,or_false] at hp
    rcases hp with rfl|rfl
    ·exact a7
    ·exact(zi5 _).2
   ·exact ze1 (s:=ze3) (L:=[s,zul (zet F.groups (b.drop 4))]) zhg (by simp[zhq,(zi5 _).1];omega)
theorem z1k{b:List Nat}(h8:∀x∈b,x<256)(hl:zv2 b):(zn0 b).length<=6000000:=by
 unfold zn0;cases ho:openO b with
 |none=>simp
 |some x=>
  obtain⟨F,s⟩:=x;obtain⟨l1,l2,l3⟩:=hl.2 F s ho;have hl1:=hl.1;obtain⟨a1,a2,a3,a4,a5,a6,a7⟩:=zfs h8 hl.1 ho;obtain⟨f1,f2,f3,f4⟩:=ztq b a1;have h1:=zh0 (zet F.groups (b.drop 4));have h2:=zsj zei ((zet F.groups (b.drop 4)).map zl2);rw[List.length_map] at h2;dsimp only;unfold zne zzp zoo;rw[List.length_append,List.length_append,List.length_singleton];omega
def qjf(b:List Nat)(w:World)(g h:Nat)(F F':List (List Nat))(W:World):Ending->World->Prop:=TwPost (.tuple #[dV (zr6 b),.int .i64 (znz b)]) w g h (F++zn0 b) F' W
section
variable{w W:World}{g h:Nat}{F F':List (List Nat)}
theorem zqb(hG:GlobIn w)(hg:w.heap.size<=g){V:Value}(l:LogOf tL W w.heap.size g V F)(n:New w W):∀w',Turns (g::zbm V) W w'->GlobIn w':=fun _ t=>hG.new (Turns.below n t (l.own (Nat.le_refl _) hg) (Nat.le_refl _))
theorem zwu(hg:w.heap.size<=g)(hne:g≠h)(hG:GlobIn w)(l:Tw w g h W F F'){A:Option Addr}{c:Nat}{b:List Nat}(hb:BIn w W A b)(h8:∀x∈b,x<256)(hbl:zv2 b)(hc:b.length<=c)(hcm:c<=9223372036854775807)(hF:F.length<=1000000):
 Calls Tryz.prog 23 #[.pointer (some ⟨g,0,none⟩),.slice A b.length c] W (qjf b w g h F F' W):=by
 obtain⟨V,lV⟩:=l.log;refine(z93 lV l.news.size (hb.reads l.news) h8 hbl hc hcm (hb.far hg lV) hF (zqb hG hg lV l.news)).mono fun e W' p=>?_
 exact l.call hg hne lV p
theorem zy4(hg:w.heap.size<=g)(hne:g≠h)(hG:GlobIn w)(l:Tw w g h W F F'){s d:List Nat}{k n:Int}{A:Option Addr}{c:Nat}(hs8:∀x∈s,x<256)(hs:s.length<=140737488351232)(hd:Reads W W.heap.size 1 A d.length (zao .u8 d))(h8:∀x∈d,x<256)(hdl:d.length<=9000000)(hc:d.length<=c)(hcm:c<=9223372036854775807)(hF:F.length<=1000000):
 Calls Tryz.prog 34 #[.pointer (some ⟨g,0,none⟩),.string (zad s),.int .i64 k,.int .i64 n,.slice A d.length c] W (TwPost (dV (zb2 s (leafP k n d))) w g h (F++(za4 s (leafP k n d)).toList) F' W):=by
 obtain⟨V,lV⟩:=l.log;have:=zzk (k:=k) (n:=n) lV l.news.size (by omega) hs8 hs hd h8 hdl hc hcm (fun w' t=>(zqb hG hg lV l.news w' t).1);rw[zj2] at this;exact this.mono fun _ _ p=>l.call hg hne lV p
theorem qhf(hg:w.heap.size<=g)(hne:g≠h)(hG:GlobIn w)(l:Tw w g h W F F'){A:Option Addr}{c:Nat}{a b:List Nat}(hd:Reads W W.heap.size 1 A a.length (zao .u8 a))(h8:∀x∈a,x<256)(hal:a.length<=9000000)(hc:a.length<=c)(hcm:c<=9223372036854775807)(hb:zlr b)(hF:F.length<=1000000):
 Calls Tryz.prog 18 #[.pointer (some ⟨g,0,none⟩),.slice A a.length c,dV b] W (TwPost (dV (z16 a b)) w g h (F++zoo a b) F' W):=by
 obtain⟨V,lV⟩:=l.log;exact(z1g lV l.news.size (by omega) hd h8 hc hcm hal hb (zqb hG hg lV l.news)).mono fun _ _ p=>l.call hg hne lV p
end
end Go.Proofs.Y
