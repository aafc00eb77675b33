/- Merged. -/
import Derived.Test.YtmgfkpnghlmheaaGreatBun12
import Derived.Test.YtmgfkpnghlmheaaGreatBun14
set_option maxHeartbeats 4000000
namespace Go.Proofs.Y
open Go.RowKit Go.Hm
theorem zzp(b n:Nat): -1<=nby (b:Int) (n:Int)/\nby (b:Int) (n:Int)<=524289:=by
 by_cases hb:b<=64
 ·by_cases hn:n<=65536
  ·rw[znp b n hb hn]
   have:=Nat.mul_le_mul hb hn;omega
  ·unfold nby
   rw[if_pos (by omega)];omega
 ·unfold nby
  rw[if_pos (by omega)];omega
theorem qa3(n k b:Nat)(h:k<n):(List.replicate k b++List.replicate (n-k) 0).set k b=List.replicate (k+1) b++List.replicate (n-(k+1)) 0:=by rw[List.set_append_right _ _ (by simp),List.length_replicate,Nat.sub_self,show n-k=(n-(k+1))+1 by omega,List.replicate_succ,List.set_cons_zero,List.replicate_succ',List.append_assoc];rfl
def qfo(x:List Nat)(g:Nat)(S:St)(w:World)(e:Ending)(w':World):Prop:=
 ∃A n c,e= .returned (.slice A n c)/\n=x.length/\Own w' w.heap.size 87 (.slice A n c) (za2 .u64 x)/\CurS w' g S/\w.grownBy w' (some g)
theorem zsk{w:World}{g:Nat}{S:St}{most:Nat}(h:CurS w g S)(hm:most<=65536):
 Calls Tryz.prog 225 #[.pointer (some ⟨g,0,none⟩),.int .i64 (most:Int)] w (qfo (rpS most S).1 g (rpS most S).2 w):=by
 have hle:=zbx (m:=2*(most:Int)+1) S (by omega) h.ok;have C1:=Hz (zcc (m:=2*(most:Int)+1) h (by omega) (by omega));obtain⟨X,hX⟩:∃X,X=rpS most S:=⟨_,rfl⟩;rw[<-hX];unfold rpS at hX;dsimp only at hX;generalize lenS (2*(most:Int)+1) S=H at*;obtain⟨a,S1⟩:=H;dsimp only at*;have ha:a<=131073:=by omega
 have D1:(a:Int).tdiv 2=((a/2:Nat):Int):=by rw[Int.tdiv_eq_ediv_of_nonneg (by omega)];rfl
 have D2:(a:Int).tmod 2=((a%2:Nat):Int):=by rw[Int.tmod_eq_emod_of_nonneg (by omega)];rfl
 have hn:a/2<=65536:=by omega
 have ho:a%2<2:=Nat.mod_lt _ (by omega);generalize a/2=n at*;generalize a%2=o at*;have HX:=Hz hX;clear h hX;go_enter Tryz.func225,Tryz.ntmps225
 go_wp2_with fail
 refine C1.out.mono ?_;rintro e w1 ⟨rfl,s1,g1⟩;clear C1;by_cases h1:o=1
 ·subst h1
  have hX:=HX.out;rw[if_pos rfl] at hX;clear HX;have C2:=Hz (ze8 s1);have hb:=zhl s1.ok;generalize zbf S1=Bq at*;obtain⟨b,S2⟩:=Bq;dsimp only at*;have HX:=Hz hX;clear hX;go_wp2_with fail
  refine C2.out.mono ?_;rintro e w2 ⟨rfl,s2,g2⟩;clear C2 s1;have hbw:IntKind.i64.wrap (b:Int)=(b:Int):=IntWalk.i64_in _ (by omega);go_wp2_with fail
  refine(zh9 (b:Int) (n:Int) w2 (by omega) (by omega) (by omega) (by omega)).mono ?_;rintro e w3 ⟨rfl,rfl⟩;go_wp2_with fail
  refine(zc6 (n:=nby (b:Int) (n:Int)) s2 (by have:=zzp b n;omega) (by have:=zzp b n;omega)).mono ?_;rintro e w4 ⟨A4,n4,c4,rfl,e4,o4,s4,g4⟩;have hX:=HX.out;have h8:=(zct (n:=nby (b:Int) (n:Int)) s2.ok).2;generalize zbr (nby (b:Int) (n:Int)) S2=Tq at*;obtain⟨x,S4⟩:=Tq;dsimp only at*;subst e4;clear HX;have HX:=Hz hX;clear hX s2;have hxl:x.length<=9223372036854775807:=by have:=o4.cap;simp only[maxLen] at this;omega
  have C5:=Hz (zgx (c:=c4) (b:Int) (n:Int) o4.reads h8 hxl (by omega) (by omega) (by omega) (by omega));go_wp2_with fail
  refine C5.out.mono ?_;intro e w5 h5;have hX:=HX.out;generalize zbh x (b:Int) (n:Int)=o5 at*;clear HX C5;have G4:=(g1.trans g2).trans g4;cases o5 with
  |none=>
   obtain⟨rfl,b5⟩:=h5;dsimp only at hX;go_wp2_with fail
   refine(zjq (s4.below b5)).mono ?_;rintro e w6 ⟨rfl,s6,g6⟩;go_wp2
   go_ret
   rw[hX];exact⟨none,0,0,rfl,rfl,Own.nil_,s6,(G4.trans (Far.of_new b5)).trans g6⟩
  |some l=>
   obtain⟨A5,n5,c5,rfl,o5,b5⟩:=h5;dsimp only at hX;go_wp2
   go_ret
   rw[hX];exact⟨A5,n5,c5,rfl,by have:=o5.len;rwa[zaa] at this,o5.base_le (by have:=G4.size;omega),s4.below b5,G4.trans (Far.of_new b5)⟩
 ·obtain rfl:o=0:=by omega
  have hX:=HX.out;rw[if_neg (by omega)] at hX;clear HX;have C2:=Hz (zkg s1);have hb:=zjm s1.ok;generalize zh0 S1=Bq at*;obtain⟨b,S2⟩:=Bq;dsimp only at*;have HX:=Hz hX;clear hX;go_wp2_with fail
  refine C2.out.mono ?_;rintro e w2 ⟨rfl,s2,g2⟩;clear C2 s1;have G2:=g1.trans g2;have hz:=G2.size;have G2:=Hz G2;clear g1 g2;go_wp2_with (first
   |(refine zcf elW rfl (.tmp 44) (.tmp 44) rfl (W:=w2) (B:=w2.heap.size) n n rfl rfl rfl rfl (by omega) (Below.refl _ _) (Nat.le_refl _) rfl (by omega) (by simp only[maxLen];omega) ?_
     intro w3 hown3 hg3 hb3 hs3))
  go_loopw [48] (fun i wr=>∃k:Nat,k<=n/\i= .int .i64 (k:Int)/\Own wr w2.heap.size 87 (.slice (some ⟨w2.heap.size,0,none⟩) n n) (za2 .u64 (List.replicate k b++List.replicate (n-k) 0))/\Below w2.heap.size w2 wr) (fun i _=>n-(intOf i).toNat)
  case atStart=>exact⟨0,Nat.zero_le _,rfl,by simpa[zbt] using hown3,hb3⟩
  case round=>
   obtain⟨k,hk,rfl,hown,hbl⟩:=hrel;by_cases hlt:k<n
   ·obtain⟨hg0,hgl,hc,hf,hset⟩:=hown.num0 (i:=k) hlt
    have hs:=hset b;rw[qa3 n k b hlt] at hs;go_wp2
    go_roundw
    case rel=>exact⟨k+1,by omega,by go_num,hs,hbl.setCell (p:=⟨w2.heap.size,k,none⟩) (Nat.le_refl _) _⟩
    case measure=>simp[intOf];omega
   ·obtain rfl:k=n:=by omega
    go_wp2
    go_ret
    rw[HX.out];refine⟨_,_,_,rfl,by simp,?_,s2.below hbl,G2.out.trans (Far.of_new hbl)⟩;rw[Nat.sub_self,List.replicate_zero,List.append_nil] at hown;exact hown.base_le hz
open Go.RowKit Go.Hm
set_option maxRecDepth 100000 in
theorem zvt{w:World}{A:Option Addr}{n c:Nat}{l:List Int}(h:Reads w w.heap.size 1 A n (zeq .i64 l))(hl:∀x∈l,ze5 x)(h0:0<n)(hn:n<=65536):
 Calls Tryz.prog 230 #[.slice A n c] w (OptB (some (blockD l)) w):=by
 obtain rfl:=h.lenI;have MN:=Hz (qce (c:=c) h h0 (by omega));have HR:=Hz h;have hll:=zka hl h0;have ZG:=Hz (fun W:World=>znu (leastD l) W hll.1 hll.2);have PT:=Hz (fun W:World=>zcz none 0 0 [] (zig (leastD l)) W Reads.none_ (by omega) (by have:=zj8 hll;omega));have hvl:=zap (zj8 hll);have hmw:=zkb hl;have hml:=zny l;have hw:=zj5 _ hmw;have PO:=zfr (zdr l) (wid (zdr l)) hw (by rw[hml];exact hn) (Nat.le_refl _);have hm:(wid (zdr l)*l.length+7)/8<=524288:=by have:=Nat.mul_le_mul hw hn;omega
 have hlen:(low (pk (wid (zdr l)) (zdr l)) ((wid (zdr l)*l.length+7)/8)).length=(wid (zdr l)*l.length+7)/8:=zbk _ _;rw[hml] at PO;have HAT:Hid (∀k,k<l.length->(zdr l).getD k 0=(l.getD k 0-leastD l).toNat/\ze5 (l.getD k 0)/\leastD l<=l.getD k 0):=Hz (fun k hk=>by refine⟨?_,hl _ (zic hk),znx (zic hk)⟩;unfold zdr;rw[List.getD_eq_getElem?_getD,List.getElem?_map,List.getD_eq_getElem?_getD,List.getElem?_eq_getElem hk];rfl)
 have HB:Hid (blockD l=vp (zig (leastD l))++[wid (zdr l)]++low (pk (wid (zdr l)) (zdr l)) ((wid (zdr l)*l.length+7)/8)):=Hz (by unfold blockD;simp);have HML:=Hz hml;have HMW:=Hz hmw;have HPO:=Hz PO;have HLL:=Hz hll;clear h hl PO hml hmw hll;generalize blockD l=BD at*;generalize low (pk (wid (zdr l)) (zdr l)) ((wid (zdr l)*l.length+7)/8)=PB at*;generalize(wid (zdr l)*l.length+7)/8=pm at*;generalize zdr l=D at*;generalize leastD l=ll at*;subst hlen;go_enter Tryz.func230,Tryz.ntmps230
 go_wp2_with fail
 refine MN.out.mono ?_;rintro e w1 ⟨rfl,rfl⟩;clear MN
 go_wp2_with (refine zcf elW rfl (.tmp 15) (.tmp 15) rfl (W:=w) (B:=w.heap.size) l.length l.length rfl rfl rfl rfl (Nat.le_refl _) (Below.refl _ _) (Nat.le_refl _) rfl (by omega) (by simp only[maxLen];omega) ?_
              intro w1 o1 _ b1 s1)
 go_loopw [19] (fun i wr=>∃k:Nat,k<=l.length/\i= .int .i64 (k:Int)/\Go.Hm.Own wr w.heap.size 87 (.slice (some ⟨w.heap.size,0,none⟩) l.length l.length) (za2 .u64 (D.take k++List.replicate (l.length-k) 0))/\New w wr) (fun i _=>l.length-(intOf i).toNat)
 case atStart=>exact⟨0,Nat.zero_le _,rfl,by simpa[zbt] using o1,b1⟩
 case round=>
  clear o1 b1 s1;obtain⟨k,hk,rfl,o,b⟩:=hrel;by_cases hlt:k<l.length
  ·obtain⟨ad,rfl,_,c0⟩:=(Reads.later HR.out b).int hlt
   obtain⟨e1,e2,e3⟩:=HAT.out k hlt;have htk:=zae D k 0 (by have:=HML.out;omega);obtain⟨hg0,hgl,hc,hf,hset⟩:=o.num0 (i:=k) hlt;have hsl:(D.take k).length=k:=by rw[List.length_take];have:=HML.out;omega
   have hs2:=hset (D.getD k 0);rw[zvs _ hsl hlt,<-htk,e1] at hs2;have HSet:=Hz hs2;generalize(D.take k++List.replicate (l.length-k) 0).getD k 0=z at*;generalize l.getD k 0=x at*;have hll:=HLL.out;unfold ze5 at e2 hll;have hw2:IntKind.u64.wrap (IntKind.u64.wrap x-IntKind.u64.wrap ll)=(((x-ll).toNat:Nat):Int):=by rw[IntKind.wrap_u64,IntKind.wrap_u64,IntKind.wrap_u64];omega
   generalize(x-ll).toNat=d at*;have i1:(k:Int)<(l.length:Int):=by omega
   have HB2:=Hz (fun q=>(below_drewN b q).setCell (p:=⟨w.heap.size,k,none⟩) (Nat.le_refl _) (.int .u64 (d:Int)));clear e1 e2 e3 hll htk hset hs2 hsl;go_wp2
   go_roundw
   case rel=>exact⟨k+1,by omega,by go_num,by first|exact HSet.out|exact(HSet.out).drewN _,by first|exact HB2.out _|exact HB2.out 0⟩
   case measure=>simp[intOf];omega
  ·obtain rfl:k=l.length:=by omega
   have hS:D.take l.length=D:=List.take_of_length_le (by have:=HML.out;omega);rw[hS,Nat.sub_self,List.replicate_zero,List.append_nil] at o;have W:=Hz (zj6 (c:=l.length) o.reads HMW.out (by omega));have K:=zmw (c:=l.length) (wid D:Int) o.reads HMW.out (by omega) (by omega) (by omega);rw[HPO.out] at K;replace K:=Hz K;generalize wid D=q at*;clear hS o;go_wp2_with fail
   refine W.out.mono ?_;rintro e w1 ⟨rfl,rfl⟩;go_wp2_with fail
   refine K.out.mono ?_;rintro e w2 ⟨A2,n2,c2,rfl,o2,b2⟩;obtain rfl:n2=PB.length:=by have:=o2.len;rwa[zaa] at this
   clear W K;have b02:=New.trans b b2;have hwq:IntKind.u8.wrap (q:Int)=(q:Int):=by rw[IntKind.wrap_u8];omega
   go_wp2_with fail
   refine(ZG.out _).mono ?_;rintro e w3 ⟨rfl,rfl⟩;go_wp2_with fail
   refine(PT.out _).mono ?_;rintro e w3 ⟨A3,n3,c3,rfl,o3,b3⟩;rw[List.nil_append] at o3;obtain rfl:n3=(vp (zig ll)).length:=by have:=o3.len;rwa[zaa] at this
   have b03:=New.trans b02 b3;have z3:=b3.size;have h23:=zf0 (zgj o3 (o2.base_le (Nat.zero_le _)));have o2:=o2.later b3;have o3:=o3.base_le (b':=w.heap.size) b02.size;clear ZG PT;go_wp2_with (first
    |(refine zdt elB rfl (.tmp 43) (.tmp 46) rfl (W:=w) (B:=w.heap.size) o3 rfl rfl q rfl b03 (Nat.le_refl _) b03.size (by omega) (by simp only[maxLen];omega) ?_
      intro A4 c4 w4 _ _ o4 g4 b4 _ d4;have p2:=o2.kept g4 h23;have hz4:=b4.size)
    |(refine zau elB rfl (.tmp 48) (.tmp 49) rfl (W:=w) (B:=w.heap.size) o4 p2.reads rfl rfl b4 (Nat.le_refl _) hz4 (by omega) (by simp only[maxLen];omega) ?_
      intro A5 c5 w5 _ _ o5 _ b5 _))
   go_ret2
   refine⟨A5,_,c5,rfl,?_,b5⟩;rw[HB.out];exact o5
open Go.RowKit Go.Hm
def qi1(x:List Int)(g:Nat)(S:St)(w:World)(e:Ending)(w':World):Prop:=
 ∃A n c,e= .returned (.slice A n c)/\n=x.length/\Go.Hm.Own w' w.heap.size 3 (.slice A n c) (zeq .i64 x)/\CurS w' g S/\w.grownBy w' (some g)
set_option maxRecDepth 100000 in
theorem zth{w:World}{g:Nat}{S:St}{n:Nat}(h:CurS w g S)(hn:n<=65536):
 Calls Tryz.prog 243 #[.pointer (some ⟨g,0,none⟩),.int .i64 (n:Int)] w (qi1 (zdl n S).1 g (zdl n S).2 w):=by
 have C1:=Hz (zkg h);obtain⟨X,hX⟩:∃X,X=zdl n S:=⟨_,rfl⟩;rw[<-hX];unfold zdl at hX;have ha:=zjm h.ok;have hz:=zy6 ha;generalize zh0 S=H at*;obtain⟨a,S1⟩:=H;dsimp only at*;have Z1:=Hz (fun W=>znv a W ha);generalize zag a=z at*;have HX:=Hz hX;clear h hX;go_enter Tryz.func243,Tryz.ntmps243
 go_wp2_with fail
 refine C1.out.mono ?_;rintro e w1 ⟨rfl,s1,g1⟩;clear C1;go_wp2_with fail
 refine(Z1.out _).mono ?_;rintro e w2 ⟨rfl,rfl⟩;clear Z1;have hX:=HX.out;have C2:=Hz (ze8 s1);have hb:=zhl s1.ok;generalize zbf S1=Bq at*;obtain⟨b,S2⟩:=Bq;dsimp only at*;clear HX;have HX:=Hz hX;clear hX;go_wp2_with fail
 refine C2.out.mono ?_;rintro e w2 ⟨rfl,s2,g2⟩;clear C2 s1;have hbw:IntKind.i64.wrap (b:Int)=(b:Int):=IntWalk.i64_in _ (by omega);go_wp2_with fail
 refine(zh9 (b:Int) (n:Int) w2 (by omega) (by omega) (by omega) (by omega)).mono ?_;rintro e w3 ⟨rfl,rfl⟩;go_wp2_with fail
 refine(zc6 (n:=nby (b:Int) (n:Int)) s2 (by have:=zzp b n;omega) (by have:=zzp b n;omega)).mono ?_;rintro e w4 ⟨A4,n4,c4,rfl,e4,o4,s4,g4⟩;have hX:=HX.out;have h8:=(zct (n:=nby (b:Int) (n:Int)) s2.ok).2;generalize zbr (nby (b:Int) (n:Int)) S2=Tq at*;obtain⟨x,S4⟩:=Tq;dsimp only at*;subst e4;clear HX;have HX:=Hz hX;clear hX s2;have hxl:x.length<=9223372036854775807:=by have:=o4.cap;simp only[maxLen] at this;omega
 have C5:=Hz (zgx (c:=c4) (b:Int) (n:Int) o4.reads h8 hxl (by omega) (by omega) (by omega) (by omega));go_wp2_with fail
 refine C5.out.mono ?_;intro e w5 h5;have hX:=HX.out;have hul:= @zjn x;have hun:=Hz (fun m (e:zbh x (b:Int) (n:Int)=some m)=>And.intro (hul e) (zhk h8 e).2.2.2.1);clear hul;generalize zbh x (b:Int) (n:Int)=o5 at*;clear HX C5;have G4:=(g1.trans g2).trans g4;cases o5 with
 |none=>
  obtain⟨rfl,b5⟩:=h5;dsimp only at hX;go_wp2_with fail
  refine(zjq (s4.below b5)).mono ?_;rintro e w6 ⟨rfl,s6,g6⟩;go_wp2
  go_ret
  rw[hX];exact⟨none,0,0,rfl,rfl,Own.nil_,s6,(G4.trans (Far.of_new b5)).trans g6⟩
 |some m=>
  obtain⟨A5,n5,c5,rfl,o5,b5⟩:=h5;dsimp only at hX;obtain⟨hml,hmw⟩:=hun.out m rfl;obtain rfl:n5=m.length:=by have:=o5.len;rwa[zaa] at this
  subst hml;have HX:=Hz hX;have HMW:=Hz hmw;have R5:=Hz o5.reads;have s5:=s4.below b5;have G5:=G4.trans (Far.of_new b5);have hz5:=G5.size;have HS:=Hz (And.intro s5 G5);clear hX hmw o5 b5 s4 G4 g1 g2 g4 hun s5 G5
  go_wp2_with (refine zcf elI rfl (.tmp 33) (.tmp 33) rfl (W:=w5) (B:=w5.heap.size) m.length m.length rfl rfl rfl rfl (Nat.le_refl _) (Below.refl _ _) (Nat.le_refl _) rfl (by omega) (by simp only[maxLen];omega) ?_
               intro w6 o6 _ b6 s6)
  go_loopw [37] (fun i wr=>∃k:Nat,k<=m.length/\i= .int .i64 (k:Int)/\Go.Hm.Own wr w5.heap.size 3 (.slice (some ⟨w5.heap.size,0,none⟩) m.length m.length) (zeq .i64 (((m.take k).map fun y:Nat=>wrI (z+(y:Int)))++List.replicate (m.length-k) 0))/\New w5 wr) (fun i _=>m.length-(intOf i).toNat)
  case atStart=>exact⟨0,Nat.zero_le _,rfl,by simpa[zdj] using o6,b6⟩
  case round=>
   clear o6 b6 s6;obtain⟨k,hk,rfl,o,b⟩:=hrel;by_cases hlt:k<m.length
   ·obtain⟨ad,rfl,_,c0⟩:=(Reads.later R5.out b).num hlt
    have htk:=zae m k 0 hlt;obtain⟨hg0,hgl,hc,hf,hset⟩:=o.int0 (i:=k) hlt;have hsl:((m.take k).map fun y:Nat=>wrI (z+(y:Int))).length=k:=by rw[List.length_map,List.length_take];omega
    have hs2:=hset (wrI (z+(m.getD k 0:Nat)));rw[zis _ hsl hlt] at hs2;have e1:((m.take k).map fun y:Nat=>wrI (z+(y:Int)))++[wrI (z+(m.getD k 0:Nat))]=(m.take (k+1)).map fun y:Nat=>wrI (z+(y:Int)):=by rw[htk,List.map_append];rfl
    rw[e1] at hs2;have HSet:=Hz hs2;generalize(((m.take k).map fun y:Nat=>wrI (z+(y:Int)))++List.replicate (m.length-k) 0).getD k 0=q at*;have hy:=HMW.out _ (show m.getD k 0∈m by rw[List.getD_eq_getElem?_getD,List.getElem?_eq_getElem hlt];exact List.getElem_mem hlt);generalize m.getD k 0=y at*;have hw1:IntKind.i64.wrap (y:Int)=wrI (y:Int):=rfl;have hw2:IntKind.i64.wrap (z+wrI (y:Int))=wrI (z+(y:Int)):=by unfold wrI;rw[IntKind.wrap_i64,IntKind.wrap_i64,IntKind.wrap_i64];omega
    have i1:(k:Int)<(m.length:Int):=by omega
    have HB2:=Hz (fun q=>(below_drewN b q).setCell (p:=⟨w5.heap.size,k,none⟩) (Nat.le_refl _) (.int .i64 (wrI (z+(y:Int)))));clear htk hset hs2 hsl e1 hy;go_wp2
    go_roundw
    case rel=>exact⟨k+1,by omega,by go_num,by first|exact HSet.out|exact(HSet.out).drewN _,by first|exact HB2.out _|exact HB2.out 0⟩
    case measure=>simp[intOf];omega
   ·obtain rfl:k=m.length:=by omega
    rw[List.take_length,Nat.sub_self,List.replicate_zero,List.append_nil] at o;obtain⟨s5,G5⟩:=HS.out;go_wp2
    go_ret
    rw[HX.out];exact⟨_,_,_,rfl,by simp,o.base_le hz5,s5.below b,G5.trans (Far.of_new b)⟩
theorem qck(P Z:List Int):zib 0 (P++Z)=zib (zib 0 P) Z:=by unfold zib;rw[List.getLast?_append];cases Z.getLast? <;> rfl
def zhc(P x:List Int)(q:Nat):List Int:=P++zfi (zib 0 P) (x.take q)
theorem zlq(P x:List Int):zhc P x 0=P:=by simp[zhc,zfi]
theorem z3a(P x:List Int){q:Nat}(h:q<x.length):zhc P x (q+1)=zhc P x q++[wrI (zib 0 (zhc P x q)+x.getD q 0)]:=by unfold zhc;rw[zae x q 0 h,z1h,qck,List.append_assoc]
theorem z73(P x:List Int):zhc P x x.length=P++zfi (zib 0 P) x:=by unfold zhc;rw[List.take_length]
theorem z74(P x:List Int){q:Nat}(h:q<=x.length):(zhc P x q).length=P.length+q:=by unfold zhc;rw[List.length_append,zj9,List.length_take];omega
set_option maxRecDepth 100000 in
theorem zpd{w:World}{g:Nat}{S:St}{n:Nat}(h:CurS w g S)(h0:0<n)(hn:n<=65536):
 Calls Tryz.prog 232 #[.pointer (some ⟨g,0,none⟩),.int .i64 (n:Int)] w (qi1 (zp3 n S).1 g (zp3 n S).2 w):=by
 have HG:=Hz h.lt;have C1:=Hz (zkg h);have ha:=zjm h.ok;obtain⟨X,hX⟩:∃X,X=zp3 n S:=⟨_,rfl⟩;rw[<-hX];unfold zp3 at hX;generalize zh0 S=H at*;obtain⟨a,S1⟩:=H;dsimp only at*;have Z1:=Hz (fun W=>znv a W ha);generalize zag a=z at*;obtain⟨m,hm⟩:∃m,m=n-1:=⟨_,rfl⟩;rw[<-hm] at hX;have KB1:=Hz (fun W=>zrp m W (by omega));have hK:nblk m<=2048:=by unfold nblk;omega
 have HK:Hid (nblk m=(m+31)/32):=Hz rfl;generalize nblk m=K at*;have T0:Hid (zk7 m 0 ([z],S1)=([z],S1)):=Hz rfl;have TS:Hid (∀k,zk7 m (k+1) ([z],S1)=((zk7 m k ([z],S1)).1++zfi (zib 0 (zk7 m k ([z],S1)).1) (zdl (min 32 (m-k*32)) (zk7 m k ([z],S1)).2).1,(zdl (min 32 (m-k*32)) (zk7 m k ([z],S1)).2).2)):=Hz (fun k=>rfl);have TL:=Hz (fun k=>zw0 m ([z],S1) k);have TP:=Hz (fun k=>zza m ([z],S1) (by simp) k);have hw1:IntKind.i64.wrap ((n:Int)-1)=(m:Int):=by rw[IntKind.wrap_i64];omega
 have HX:=Hz hX;have HM:=Hz hm;clear h hX hm;generalize zk7 m=RT at*;go_enter Tryz.func232,Tryz.ntmps232
 go_wp2_with fail
 refine C1.out.mono ?_;rintro e w1 ⟨rfl,s1,g1⟩;clear C1;go_wp2_with fail
 refine(Z1.out _).mono ?_;rintro e w2 ⟨rfl,rfl⟩;clear Z1;have ol:Go.Hm.Own (w1.alloc (.cells #[.int .i64 z] 3)) w1.heap.size 3 (.slice (some ⟨w1.heap.size,0,none⟩) 1 1) (zeq .i64 [z]):=World.ownsRow_lit (e:=3) (size:=1) (base:=w1.heap.size) w1 #[.int .i64 z] 1 (Nat.le_refl _) (by decide) rfl;have sl:=s1.below ((Below.refl _ _).alloc (Nat.le_refl _) (.cells #[.int .i64 z] 3));have gl:w.grownBy (w1.alloc (.cells #[.int .i64 z] 3)) (some g):=g1.trans (Far.of_new ((Below.refl _ _).alloc (Nat.le_refl _) _));have hz1:=g1.size;have hz2:=gl.size;go_wp2_with fail
 refine(KB1.out _).mono ?_;rintro e w2 ⟨rfl,rfl⟩;clear KB1;have hg0:g<w1.heap.size:=s1.lt;have hgw:g<w.heap.size:=HG.out;have ol:=ol.base_le (b':=w.heap.size) hz1;generalize w1.alloc (.cells #[.int .i64 z] 3)=w2 at*;clear s1 g1 hg0;go_wp2_with fail
 go_loopw [5,16] (fun v i wr=>∃(k:Nat) (AE:Option Addr) (cE:Nat),k<=K/\i= .int .i64 (k:Int)/\v= .slice AE (RT k ([z],S1)).1.length cE/\Go.Hm.Own wr w.heap.size 3 (.slice AE (RT k ([z],S1)).1.length cE) (zeq .i64 (RT k ([z],S1)).1)/\CurS wr g (RT k ([z],S1)).2/\w.grownBy wr (some g)) (fun _ i _=>K-(intOf i).toNat)
 case atStart=>exact⟨0,_,1,Nat.zero_le _,rfl,by rw[T0.out];rfl,by rw[T0.out];exact ol,by rw[T0.out];exact sl,gl⟩
 case round=>
  clear ol sl gl hz1 hz2;obtain⟨k,AE,cE,hk,rfl,rfl,o,s,G⟩:=hrel;have tl:=TL.out k;have tp:=TP.out k;rw[List.length_singleton] at tl;by_cases hlt:k<K
  ·have hK2:=HK.out
   obtain⟨f,hf⟩:∃f,f=k*32:=⟨_,rfl⟩;obtain⟨r,hr⟩:∃r,r=m-f:=⟨_,rfl⟩;obtain⟨e,he⟩:∃e,e=min 32 r:=⟨_,rfl⟩;have TSk:=TS.out k;rw[<-hf,<-hr,<-he] at TSk;have w1:IntKind.i64.wrap ((k:Int)*32)=(f:Int):=by rw[IntKind.wrap_i64];omega
   have w2:IntKind.i64.wrap ((m:Int)-(f:Int))=(r:Int):=by rw[IntKind.wrap_i64];omega
   have m1:min (32:Int) (r:Int)=(e:Int):=by omega
   have m2:(if(r:Int)<32 then(r:Int) else 32)=(e:Int):=by split<;> omega
   have m3:(if r<32 then(r:Int) else 32)=(e:Int):=by split<;> omega
   have he32:e<=32:=by omega
   generalize RT k ([z],S1)=p at*;obtain⟨P,S⟩:=p;dsimp only at*;have RB:=Hz (zth s (n:=e) (by omega));have hxl:=zqm e S;generalize zdl e S=q at*;obtain⟨x,S2⟩:=q;dsimp only at*;have HTS:=Hz TSk;have hP:P.length<=65600:=by omega
   have hki:(k:Int)<(K:Int):=by omega
   clear TSk hf hr he hK2;go_wp2_with fail
   refine RB.out.mono ?_;rintro e2 w3 ⟨A3,n3,c3,rfl,rfl,o3,s3,g3⟩;have hap:=zgj o3 (o.base_le (Nat.zero_le _));have o2:=o.kept g3 (.inr (fun e=>by have:=(o.lt _ e).1;omega));have hz0:=G.size;have o3:=o3.base_le (b':=w.heap.size) hz0;have G3:=G.trans g3;clear o s G g3 RB m1 m2 m3 w1 w2;go_wp2_with fail
   go_loopw [5,28] (fun v i wr=>∃(j:Nat) (AF:Option Addr) (cF:Nat),j<=x.length/\i= .int .i64 (j:Int)/\v= .slice AF (zhc P x j).length cF/\Go.Hm.Own wr w.heap.size 3 (.slice AF (zhc P x j).length cF) (zeq .i64 (zhc P x j))/\Go.Hm.Own wr w.heap.size 3 (.slice A3 x.length c3) (zeq .i64 x)/\(Value.ownBlock (.slice A3 x.length c3)=none\/Value.ownBlock (.slice A3 x.length c3)≠Value.ownBlock (.slice AF (zhc P x j).length cF))/\CurS wr g S2/\w.grownBy wr (some g)) (fun _ i _=>x.length-(intOf i).toNat)
   case atStart=>exact⟨0,AE,cE,Nat.zero_le _,rfl,by rw[zlq],by rw[zlq];exact o2,o3,by rw[zlq];exact hap,s3,G3⟩
   case round=>
    clear o2 o3 hap s3 G3;obtain⟨j,AF,cF,hj,rfl,rfl,o,u,hap,s,G⟩:=hrel;by_cases hlj:j<x.length
    ·have hyl:=z74 P x hj
     have hys:=z3a P x hlj;obtain⟨ax,rfl,_,c0⟩:=u.reads.int hlj;have hYp:0<(zhc P x j).length:=by omega
     obtain⟨t,ht⟩:∃t,t=(zhc P x j).length-1:=⟨_,rfl⟩;obtain⟨ay,rfl,_,c1⟩:=o.reads.int (i:=t) (by omega);have hla:=qah hYp 0;rw[<-ht] at hla;rw[<-hla] at c1;have HYS:=Hz hys;have wl:IntKind.i64.wrap (((zhc P x j).length:Int)-1)=(t:Int):=by rw[IntKind.wrap_i64];omega
     have hti:(t:Int)<((zhc P x j).length:Int):=by omega
     have hY6:(zhc P x j).length<=70000:=by omega
     have hji:(j:Int)<(x.length:Int):=by omega
     generalize zhc P x j=Y at*;generalize zib 0 Y=la at*;generalize x.getD j 0=st at*;have wa:IntKind.i64.wrap (la+st)=wrI (la+st):=rfl;have hsz:=G.size;clear hys hla ht hyl;go_wp2_with (first
      |(refine zfy elI rfl (.tmp 32) (.tmp 41) rfl (W:=w) (B:=0) o rfl rfl (zlc G) (Nat.zero_le _) hsz rfl (by rw[zcy];omega) (by rw[zcy];simp only[maxLen];omega) ?_
        rw[zcy];intro A9 c9 w9 hc9 _ o9 g9 _ hz9 d9;have s9:=s.push o g9 (by decide) (by decide);have G9:=ze7 G g9 (fun b e=>(o.lt b e).1);have u9:=u.kept g9 hap;have hap9:=zif hap d9 u))
     go_roundw
     have e9:(Y++[wrI (la+st)]).length=Y.length+1:=by simp
     case rel=>exact⟨j+1,A9,c9,by omega,by go_num,by rw[HYS.out,e9],by rw[HYS.out,e9,zx2];exact o9,u9,by rw[HYS.out,e9];exact hap9,s9,G9⟩
     case measure=>simp[intOf];omega
    ·obtain rfl:j=x.length:=by omega
     rw[z73] at o hap⊢;go_wp2_with fail
     go_roundw
     case rel=>exact⟨k+1,AF,cF,by omega,by go_num,by rw[HTS.out],by rw[HTS.out];exact o,by rw[HTS.out];exact s,G⟩
     case measure=>simp[intOf];omega
  ·obtain rfl:k=K:=by omega
   go_wp2_with fail
   go_ret
   rw[HX.out];exact⟨_,_,_,rfl,rfl,o,s,G⟩
end Go.Proofs.Y
