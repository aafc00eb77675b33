/- Merged. -/
import Derived.Test.YtbahbnbpmfgimaaGreatDoorBun25
import Derived.Test.YtbahbnbpmfgimaaGreatDoorBun40
set_option maxHeartbeats 8000000
namespace Go.Proofs.Y
open Go.RowKit Go.Hm
def encOf(t e:Int)(l:List zab):Int:=if e= -1 then bestV t (zdy l) else e
def pgE(t:Int)(nu:Bool)(e:Int)(l:List zab):Int × List Nat:=
 if¬(0<=t/\t<=3)\/(e≠ -1/\fitsV t e=false) then(3,[])
 else if 65536<l.length then(4,[])
 else if(l.all fun c=>zae c t nu)=true then
  (match zfl t (encOf t e l) (zdy l) with
  |some d=>(0,(encOf t e l).toNat::(vp l.length++((if nu=true then zcx l else [])++d)))
  |none=>(1,[]))
 else(1,[])
theorem zrf{l:List zab}{t:Int}{nu:Bool}(h:∀c∈l,zae c t nu=true):∀c∈zdy l,zae c t false=true:=fun c hc=>by
 unfold zdy at hc;rw[List.mem_filter] at hc;have h1:=h c hc.1;have h2:c.1=false:=by simpa using hc.2
 unfold zae at h1⊢;rw[h2] at h1⊢;exact h1
theorem z72{c:zab}{t:Int}(nu:Bool)(h:zae c t false=true):zae c t nu=true:=by have h0:=zky h;unfold zae at h⊢;rw[h0] at h⊢;exact h
theorem z73{l:List zab}{t:Int}{nu:Bool}(ht:0<=t/\t<=3)(hl:l.length<=65536)(h:∀c∈l,zae c t nu=true):zkx t (zdy l)=true:=
 plOk_iff.2 ⟨⟨ht.1,ht.2,Nat.le_trans (ztg l) hl⟩,zrf h⟩
theorem z0k{t:Int}{nu:Bool}{e:Int}{l:List zab}{b:List Nat}(h:pgE t nu e l=(0,b)):
 (0<=t/\t<=3)/\l.length<=65536/\(∀c∈l,zae c t nu=true)/\fitsV t (encOf t e l)=true/\ ∃d,zfl t (encOf t e l) (zdy l)=some d/\b=(encOf t e l).toNat::(vp l.length++((if nu=true then zcx l else [])++d)):=by
 unfold pgE at h;split at h
 ·injection h with h _
  omega
 ·rename_i h1
  split at h
  ·injection h with h _
   omega
  ·rename_i h2
   split at h
   ·rename_i h3
    rw[List.all_eq_true] at h3;have ht:0<=t/\t<=3:=by
     by_cases q:0<=t/\t<=3
     ·exact q
     ·exact absurd (.inl q) h1
    split at h
    ·rename_i d hd
     injection h with _ h;refine⟨ht,by omega,h3,?_,d,hd,h.symm⟩;unfold encOf;split
     ·exact(zvh (z73 ht (by omega) h3)).1
     ·rename_i he
      cases hf:fitsV t e with
      |true=>rfl
      |false=>exact absurd (.inr ⟨he,hf⟩) h1
    ·injection h with h _
     omega
   ·injection h with h _
    omega
structure IsPg(t:Int)(nu:Bool)(b:List Nat)(o:Option (List zab)):Prop where
 sound:∀l,o=some l->(∃e,fitsV t e=true/\pgE t nu e l=(0,b))/\ ∀c∈l,zaq c
 compl:∀l,(∀c∈l,zaq c)->(∃e,fitsV t e=true/\pgE t nu e l=(0,b))->o=some l
theorem IsPg.uniq{t:Int}{nu:Bool}{b:List Nat}{o p:Option (List zab)}(h:IsPg t nu b o)(k:IsPg t nu b p):o=p:=by
 cases o with
 |some l=>obtain⟨a,c⟩:=h.sound l rfl;exact(k.compl l c a).symm
 |none=>
  cases p with
  |none=>rfl
  |some l=>obtain⟨a,c⟩:=k.sound l rfl;exact h.compl l c a
theorem zpg{l:List zab}(h:∀c∈l,zaq c):∀c∈zdy l,zaq c:=fun c hc=>h c (by unfold zdy at hc;exact(List.mem_filter.1 hc).1)
end Go.Proofs.Y
namespace Go.Hm
def headL_film:List Nat:=[72,89,80,79]
def tailL:List Nat:=[79,80,89,72]
def ownN(b:List Nat):Nat:=num ((b.drop (b.length-8)).take 4)
def zph(b:List Nat):Option (List Nat):=
 if b.length<12\/b.take 4≠headL_film\/b.drop (b.length-4)≠tailL then none
 else if b.length-12<ownN b then none
 else some ((b.drop (b.length-8-ownN b)).take (ownN b))
theorem z0l{b s:List Nat}(h:zph b=some s):s.length=ownN b/\ownN b+12<=b.length:=by
 unfold zph at h;split at h
 ·cases h
 ·rename_i h1
  split at h
  ·cases h
  ·injection h with h
   subst h;rw[List.length_take,List.length_drop];omega
end Go.Hm
namespace Go.Proofs.Y
open Go.RowKit Go.Hm
def z3r:Nat->Nat
 |0=>134
 |1=>155
 |2=>157
 |3=>159
 |_=>161
def qiu:Nat->Nat
 |0=>154
 |1=>156
 |2=>158
 |3=>160
 |_=>162
def qjx(q:Nat):Value:= .agg #[.func (.func (z3r q)) #[] #[],.func (.func (qiu q)) #[] #[]]
theorem qhp:Maps.Keyed Tryz.prog 3:=Maps.int_keyed (show Tryz.prog.underlying 3=some (.int .i64) by kernel_rfl)
theorem z3s:Tryz.prog.underlying 206=some (.map 3 205):=by kernel_rfl
theorem zjm(k:Nat)(h:k<=4):∃kl,keyOf Tryz.prog 3 (.int .i64 (k:Int))=some kl:=
 ⟨_,Maps.keyOf_int_mk (show Tryz.prog.underlying 3=some (.int .i64) by kernel_rfl) (by simp[Lit.wf,IntKind.min,IntKind.max,IntKind.signed,IntKind.bits];omega)⟩
theorem z3t(W:World):(Instr.makeMap 206 none).run Tryz.prog W= .ok (.map (some W.heap.size)) (W.alloc (.map #[] 0)):=by simp[Instr.makeMap,Result.andThen]
def qg0(w:World)(e:Ending)(w':World):Prop:=
 ∃b f,e= .returned (.map (some b))/\MapF_mapf Tryz.prog 3 qjx w' b 5 f/\(∀k:Nat,k<=4->f (k:Int)=some k)/\New w w'
set_option maxRecDepth 100000 in
theorem zyo{w:World}:Calls Tryz.prog 143 #[] w (qg0 w):=by
 have hmm:=z3t;have b0:New w (w.alloc (.map #[] 0)):=(Below.refl _ _).alloc (Nat.le_refl _) _;have M0:=MapF_mapf.made (P:=Tryz.prog) (k:=3) (F:=qjx) w;go_enter Tryz.func143,Tryz.ntmps143
 go_wp2_with (first
  |(refine zge rfl (.tmp 1) _ (.tmp 2) 206 rfl qhp z3s M0 (by unfold maxLen;omega) (zjm 0 (by omega)) 0 rfl rfl rfl ?_
    intro w1 M1 g1)
  |(refine zge rfl (.tmp 1) _ (.tmp 3) 206 rfl qhp z3s M1 (by unfold maxLen;omega) (zjm 1 (by omega)) 1 rfl rfl rfl ?_
    intro w2 M2 g2)
  |(refine zge rfl (.tmp 1) _ (.tmp 4) 206 rfl qhp z3s M2 (by unfold maxLen;omega) (zjm 2 (by omega)) 2 rfl rfl rfl ?_
    intro w3 M3 g3)
  |(refine zge rfl (.tmp 1) _ (.tmp 5) 206 rfl qhp z3s M3 (by unfold maxLen;omega) (zjm 3 (by omega)) 3 rfl rfl rfl ?_
    intro w4 M4 g4)
  |(refine zge rfl (.tmp 1) _ (.tmp 6) 206 rfl qhp z3s M4 (by unfold maxLen;omega) (zjm 4 (by omega)) 4 rfl rfl rfl ?_
    intro w5 M5 g5))
 go_ret
 have gr:∀{wa wb:World},New w wa->wa.grownBy wb (some w.heap.size)->New w wb:=fun h g=>zbe h g (Nat.le_refl _) (Nat.le_refl _)
 exact⟨_,_,rfl,M5,fun k hk=>by rcases(by omega:k=0\/k=1\/k=2\/k=3\/k=4) with rfl|rfl|rfl|rfl|rfl<;> rfl,gr (gr (gr (gr (gr b0 g1) g2) g3) g4) g5⟩
open Go.RowKit Go.Hm
def ztr(l:List zab):List (Int × Int):=l.map fun c=>(c.2.2.2.1,c.2.2.2.2)
theorem qdh(l:List zab):(ztr l).length=l.length:=by simp[ztr]
theorem qiw(l:List zab):(ztr l).map (·.1)=xsV l:=by unfold ztr xsV;rw[List.map_map];rfl
theorem qix(l:List zab):(ztr l).map (·.2)=ysV l:=by unfold ztr ysV;rw[List.map_map];rfl
theorem z0v{l:List Int}(h:l.length<=65536):∃b,zut l=some b:=by unfold zut;rw[if_neg (by omega)];split<;> exact⟨_,rfl⟩
theorem z8x{S:List (Int × Int)}{k:Nat}(h:k<S.length):((S.take (k+1)).map (·.1))=(S.take k).map (·.1)++[(S.getD k (0,0)).1]:=by rw[zac S k (0,0) h];simp
theorem z8y{S:List (Int × Int)}{k:Nat}(h:k<S.length):((S.take (k+1)).map (·.2))=(S.take k).map (·.2)++[(S.getD k (0,0)).2]:=by rw[zac S k (0,0) h];simp
set_option maxRecDepth 100000 in
theorem znf{w:World}{A:Option Addr}{n c:Nat}{L:List zab}(h:Reads w w.heap.size 5 A n (recs zay L))(hr:∀y∈L,zae y 3 false=true)(hn:n<=65536):
 Calls Tryz.prog 178 #[.slice A n c] w (OptX (encPts L) w):=by
 obtain rfl:=h.lenCell;have HR:=Hz h;obtain⟨S,hS⟩:∃S,S=(zqf 0 (xsV L)).zip (zqf 0 (ysV L)):=⟨_,rfl⟩;have hS1:zgb (0,0) (ztr L)=some S:=by
  rw[hS,zvg (ztr L) (0,0) (fun p hp=>by obtain⟨c,hc,rfl⟩:=List.mem_map.1 hp;have:=zoy (hr c hc);exact inBox_iff.2 (by dsimp only;omega)),qiw,qix]
 have hxl:(zqf 0 (xsV L)).length=L.length:=by rw[ztd];simp[xsV]
 have hyl:(zqf 0 (ysV L)).length=L.length:=by rw[ztd];simp[ysV]
 have hSl:S.length=L.length:=by rw[hS,List.length_zip];omega
 have hSx:S.map (·.1)=zqf 0 (xsV L):=by rw[hS];exact List.map_fst_zip (by omega)
 have hSy:S.map (·.2)=zqf 0 (ysV L):=by rw[hS];exact List.map_snd_zip (by omega)
 obtain⟨i1,i2⟩:=qip hr;obtain⟨a,ha⟩:=z0v (l:=zqf 0 (xsV L)) (by omega);obtain⟨b,hb⟩:=z0v (l:=zqf 0 (ysV L)) (by omega);have hal:=zku i1 ha;have hbl:=zku i2 hb;have HE:Hid (encPts L=some (vp a.length++a++b)):=Hz (by unfold encPts;rw[ha,hb]);rw[<-hSx] at i1 ha;rw[<-hSy] at i2 hb;have HA:=Hz (And.intro i1 ha);have HB:=Hz (And.intro i2 hb);have PS:=fun(W:World) (A:Option Addr) (c:Nat) (hR:Reads W W.heap.size 2 A L.length (zdj (ztr L)))=>show Calls Tryz.prog 194 #[.slice A L.length c] W (qey (some S) W) from by have:=z3w (c:=c) hR (by omega);rw[hS1] at this;exact this
 have PS:=Hz PS;have HSL:=Hz hSl;clear h hr hS hS1 hxl hyl hSx hSy i1 i2 ha hb hSl;have hb0:New w w:=New.refl w;have hz0:w.heap.size<=w.heap.size:=Nat.le_refl _;go_enter Tryz.func178,Tryz.ntmps178
 go_wp2_with (refine zyq qjy rfl (.tmp 17) (.tmp 17) rfl (W:=w) (B:=w.heap.size) L.length rfl rfl rfl rfl hb0 hz0 (by omega) (by simp only[maxLen];omega) ?_
              intro w1 o1 g1 b1 hs1)
 rw[z3y] at o1;clear hb0 hz0 g1;go_loopw [21] (fun i wr=>∃k:Nat,k<=L.length/\i= .int .i64 (k:Int)/\wr.ownsRow w.heap.size 73 2 (.slice (some ⟨w.heap.size,0,none⟩) L.length L.length) L.length (zdj (ztr (L.take k)++List.replicate (L.length-k) (0,0)))/\New w wr) (fun i _=>L.length-(intOf i).toNat)
 case atStart=>exact⟨0,Nat.zero_le _,rfl,by simpa[ztr] using o1,b1⟩
 case round=>
  clear o1 b1 hs1;obtain⟨k,hk,rfl,o,bw⟩:=hrel;by_cases hlt:k<L.length
  ·obtain⟨ad,rfl,_,d0,d1,d2,d3,d4⟩:=(Reads.later HR.out bw).cell5 hlt
   have hst:ztr (L.take (k+1))=ztr (L.take k)++ztr [L.getD k (false,0,[],0,0)]:=by rw[zac L k (false,0,[],0,0) hlt];simp[ztr]
   have hll:(ztr (L.take k)).length=k:=by rw[qdh,List.length_take];omega
   have i1:(k:Int)<(L.length:Int):=by omega
   generalize L.getD k (false,0,[],0,0)=x at*;obtain⟨xb,xn,xs,xx,xy⟩:=x;have hst:ztr (L.take (k+1))=ztr (L.take k)++[(xx,xy)]:=hst;dsimp only at d0 d1 d2 d3 d4;have b2:New wr (wr.alloc (.cells #[.bool xb,.int .i64 xn,.string (zad xs),.int .i64 xx,.int .i64 xy] 75)):=(Below.refl _ _).alloc (Nat.le_refl _) _;have B2:=Blk.new wr 75 #[.bool xb,.int .i64 xn,.string (zad xs),.int .i64 xx,.int .i64 xy];rw[show L.length-k=(L.length-(k+1))+1 by omega,List.replicate_succ] at o;have o2:=Hz (za5 o b2);have b02:=New.trans bw b2;obtain⟨p0,p1,p2,p3,p4⟩:=zcq B2;have ead:(⟨w.heap.size,0,none⟩:Addr).add (k*2)=⟨w.heap.size,k*2,none⟩:=by unfold Addr.add;split<;> simp_all
   have HST:=Hz hst;have HLL:=Hz hll;clear hst hll o bw b2 B2
   go_wp2_with (refine zv7 rfl 73 (.tmp 30) (.tmp 29) rfl (new:=(xx,xy)) o2.out HLL.out hlt rfl rfl (by kernel_rfl) ?_
                intro w3 o3 g3)
   have b3:=Far.below b02 g3 (Nat.le_refl _) (Nat.le_refl _);have o3:w3.ownsRow w.heap.size 73 2 (.slice (some ⟨w.heap.size,0,none⟩) L.length L.length) L.length (zdj (ztr (L.take (k+1))++List.replicate (L.length-(k+1)) (0,0))):=by rw[HST.out,List.append_assoc];exact o3
   go_roundw
   case rel=>exact⟨k+1,by omega,by go_num,o3,b3⟩
   case measure=>simp[intOf];omega
  ·obtain rfl:k=L.length:=by omega
   rw[List.take_length,Nat.sub_self,List.replicate_zero,List.append_nil] at o;have HRO:=Hz (Reads.of_own o);clear o hlt;obtain⟨i1,hi1,hz1,hs1,hb1⟩:=info_parts elI.hi;have mk1:=fun W=>run_make (P:=Tryz.prog) W 57 3 i1 _ elI.ht hi1 hz1 .i64 .i64 (L.length:Int) (L.length:Int) (by omega) (by omega) (by rw[hb1];omega) (by omega)
   simp only[Int.toNat_natCast,hs1] at mk1;generalize hC1:madeCells _ (L.length*1)=C1 at mk1;have HC1:=Hz hC1;clear hC1 hi1 hz1 hs1 hb1;have BA:=Blk.new wr 3 C1;have BB:=Blk.new (wr.alloc (.cells C1 3)) 3 C1;have BA2:=BA.alloc (.cells C1 3);have hba:New wr ((wr.alloc (.cells C1 3)).alloc (.cells C1 3)):=((Below.refl _ _).alloc (Nat.le_refl _) _).alloc (by simp) _;simp only[World.size_alloc] at BB;go_upto_region 7 with fail
   go_cut [7,8] (fun s7 s8 wx=>∃gx gy:Nat,s7= .slice (some ⟨gx,0,none⟩) L.length L.length/\s8= .slice (some ⟨gy,0,none⟩) L.length L.length/\gx≠gy/\wr.heap.size<=gx/\wr.heap.size<=gy/\Blk wx gx 3 C1/\Blk wx gy 3 C1/\New wr wx)
   case first=>
    go_region
    all_goals
     go_wp2_with fail
     go_meet
     first
      |exact⟨wr.heap.size,wr.heap.size+1,rfl,rfl,by omega,by omega,by omega,BA2,BB,hba⟩
      |exact⟨wr.heap.size+1,wr.heap.size,rfl,rfl,by omega,by omega,by omega,BB,BA2,hba⟩
      |exact⟨wr.heap.size,wr.heap.size+1,rfl,rfl,by omega,by omega,by omega,BA2,BB,New.trans hba (New.drew _)⟩
      |exact⟨wr.heap.size+1,wr.heap.size,rfl,rfl,by omega,by omega,by omega,BB,BA2,New.trans hba (New.drew _)⟩
   case rest=>
    obtain⟨gx,gy,rfl,rfl,hxy,hgx,hgy,BX,BY,bx⟩:=hcut;have hz:=bw.size;have own0:∀g,wr.heap.size<=g->Blk wc g 3 C1->Go.Hm.Own wc w.heap.size 3 (.slice (some ⟨g,0,none⟩) L.length L.length) (za0 .i64 (List.replicate L.length 0)):=by
     intro g hg hB;have e1:(za0 .i64 (List.replicate L.length 0)).length=L.length:=by rw[zhi,List.length_replicate]
     unfold Go.Hm.Own;rw[e1];refine⟨by rw[e1,Nat.mul_one],.inr ⟨g,L.length,C1,rfl,by omega,hB,Nat.le_refl _,by simp only[maxLen];omega,by rw[<-HC1.out];simp[size_madeCells],?_⟩⟩;rw[<-HC1.out,List.take_of_length_le (by simp[size_madeCells]),zeb];have:=toList_madeCells_one (.int .i64 0) (L.length*1);rw[Nat.mul_one] at this⊢;exact this
    have ox:=own0 gx hgx BX;have oy:=own0 gy hgy BY;have bc:=New.trans bw bx;have RC:=Reads.later HRO.out bx;have lx:=BX.lt;have ly:=BY.lt;have hgx:w.heap.size<=gx:=by omega
    have hgy:w.heap.size<=gy:=by omega
    have PC:=Hz (PS.out wc _ L.length RC);clear own0 BX BY bw bx RC BA BB BA2 hba HC1 mk1 HRO PS hz;go_wp2_with fail
    refine PC.out.mono ?_;rintro e w4 ⟨A4,n4,c4,rfl,o4,b4⟩;obtain rfl:n4=S.length:=(Reads.of_own o4).lenP;have hSl:=HSL.out;have o4:w4.ownsRow wc.heap.size 73 2 (.slice A4 S.length c4) S.length (zdj S):=o4;have ox:=ox.later b4;have oy:=oy.later b4;have b04:=New.trans bc b4;generalize wc.heap.size=n1 at*;clear PC bc b4;go_wp2_with fail
    go_loopw [41] (fun i wr=>∃k:Nat,k<=S.length/\i= .int .i64 (k:Int)/\Go.Hm.Own wr w.heap.size 3 (.slice (some ⟨gx,0,none⟩) L.length L.length) (za0 .i64 ((S.take k).map (·.1)++List.replicate (L.length-k) 0))/\Go.Hm.Own wr w.heap.size 3 (.slice (some ⟨gy,0,none⟩) L.length L.length) (za0 .i64 ((S.take k).map (·.2)++List.replicate (L.length-k) 0))/\wr.ownsRow n1 73 2 (.slice A4 S.length c4) S.length (zdj S)/\New w wr) (fun i _=>S.length-(intOf i).toNat)
    case atStart=>exact⟨0,Nat.zero_le _,rfl,by simpa using ox,by simpa using oy,o4,b04⟩
    case round=>
     clear ox oy o4 b04;obtain⟨k,hk,rfl,ox,oy,o4,bw⟩:=hrel;by_cases hlt:k<S.length
     ·obtain⟨ad,rfl,_,d0,d1⟩:=(Reads.of_own o4).pair hlt
      have ms1:=z8x hlt;have ms2:=z8y hlt;have hlx:((S.take k).map (·.1)).length=k:=by rw[List.length_map,List.length_take];omega
      have hly:((S.take k).map (·.2)).length=k:=by rw[List.length_map,List.length_take];omega
      have d2:wr.cell? ⟨(ad.add (k*2)).block,(ad.add (k*2)).off+1,none⟩=some (.int .i64 (S.getD k (0,0)).2):=by rw[<-za9] at d1;exact d1
      have i1:(k:Int)<(S.length:Int):=by omega
      have i2:(k:Int)<(L.length:Int):=by omega
      have hkL:k<L.length:=by omega
      generalize S.getD k (0,0)=sp at*;obtain⟨sx,sy⟩:=sp;dsimp only at d0 d1 d2 ms1 ms2;have b2:New wr (wr.alloc (.cells #[.int .i64 sx,.int .i64 sy] 73)):=(Below.refl _ _).alloc (Nat.le_refl _) _;have B2:=Blk.new wr 73 #[.int .i64 sx,.int .i64 sy];obtain⟨p0,p1⟩:=zbw B2;have lx2:=(ox.lt gx rfl).2;have ly2:=(oy.lt gy rfl).2;obtain⟨-,-,hcx,hfx,hsx⟩:=ox.int0 hkL;obtain⟨-,-,hcy,hfy,hsy⟩:=oy.int0 hkL;have xA:=hsx sx;have yA:=hsy sy;have nxy:Value.ownBlock (.slice (some ⟨gx,0,none⟩) L.length L.length)=none\/Value.ownBlock (.slice (some ⟨gx,0,none⟩) L.length L.length)≠some gy:= .inr (by simpa[Value.ownBlock] using hxy);have nyx:Value.ownBlock (.slice (some ⟨gy,0,none⟩) L.length L.length)=none\/Value.ownBlock (.slice (some ⟨gy,0,none⟩) L.length L.length)≠some gx:= .inr (by simpa[Value.ownBlock] using fun e=>hxy e.symm);have yx:=oy.kept (zax (g:=gx) (i:=k) (x:= .int .i64 sx)) nyx;have xy:=ox.kept (zax (g:=gy) (i:=k) (x:= .int .i64 sy)) nxy;have yB:=(yx.int0 hkL).2.2.2.2 sy;have xB:=(xy.int0 hkL).2.2.2.2 sx;have xC:=xA.kept (zax (g:=gy) (i:=k) (x:= .int .i64 sy)) nxy;have yC:=yA.kept (zax (g:=gx) (i:=k) (x:= .int .i64 sx)) nyx;rw[zlp _ hlx hkL,<-ms1] at xB xC;rw[zlp _ hly hkL,<-ms2] at yB yC;have o4x:=World.ownsRow.kept o4 (zax (g:=gx) (i:=k) (x:= .int .i64 sx)) (.inr (fun e=>by have:=(World.ownsRow.lt o4 _ e).1;omega));have o4y:=World.ownsRow.kept o4 (zax (g:=gy) (i:=k) (x:= .int .i64 sy)) (.inr (fun e=>by have:=(World.ownsRow.lt o4 _ e).1;omega));have o4A:=World.ownsRow.kept o4x (zax (g:=gy) (i:=k) (x:= .int .i64 sy)) (.inr (fun e=>by have:=(World.ownsRow.lt o4x _ e).1;omega));have o4B:=World.ownsRow.kept o4y (zax (g:=gx) (i:=k) (x:= .int .i64 sx)) (.inr (fun e=>by have:=(World.ownsRow.lt o4y _ e).1;omega));have bA:=(bw.setCell (p:=⟨gx,k,none⟩) hgx (.int .i64 sx)).setCell (p:=⟨gy,k,none⟩) hgy (.int .i64 sy);have bB:=(bw.setCell (p:=⟨gy,k,none⟩) hgy (.int .i64 sy)).setCell (p:=⟨gx,k,none⟩) hgx (.int .i64 sx);have al:∀W:World,New W ((W.alloc (.cells #[.int .i64 sx,.int .i64 sy] 73)).drew):=fun W=>New.trans ((Below.refl _ _).alloc (Nat.le_refl _) _) (New.drew _)
      have HA1:=Hz (And.intro (xC.later (al _)) (And.intro (yB.later (al _)) (And.intro (za5 o4A (al _)) (New.trans bA (al _)))));have HB1:=Hz (And.intro (xB.later (al _)) (And.intro (yC.later (al _)) (And.intro (za5 o4B (al _)) (New.trans bB (al _)))));have hcx':∃q,wr.cell? ⟨gx,k,none⟩=some (.int .i64 q):=⟨_,hcx⟩;have hcy':∃q,wr.cell? ⟨gy,k,none⟩=some (.int .i64 q):=⟨_,hcy⟩;clear hcx hcy;obtain⟨q1,hcx⟩:=hcx';obtain⟨q2,hcy⟩:=hcy';have hyx:gy≠gx:=fun e=>hxy e.symm
      clear al xC yB o4A bA xB yC o4B bB o4x o4y xA yA xy yx nxy nyx hsx hsy ox oy o4 bw b2 B2 ms1 ms2 hlx hly d1;go_wp2_with fail
      go_region
      all_goals
       go_wp2_with fail
       go_roundw
       case rel=>
        first
         |exact⟨k+1,by omega,by go_num,HA1.out⟩
         |exact⟨k+1,by omega,by go_num,HB1.out⟩
       case measure=>simp[intOf];omega
     ·obtain rfl:k=S.length:=by omega
      rw[List.take_length,hSl,Nat.sub_self,List.replicate_zero,List.append_nil] at ox;rw[List.take_length,hSl,Nat.sub_self,List.replicate_zero,List.append_nil] at oy;have EX:=Hz (ziz (c:=L.length) ox.reads HA.out.1 (by omega));have hzw:=bw.size;clear o4 hlt;go_wp2_with fail
      refine EX.out.mono ?_;intro e w5 h5;rw[HA.out.2] at h5;obtain⟨A5,n5,c5,rfl,o5,b5⟩:=h5;obtain rfl:n5=a.length:=by have:=o5.len;rwa[zaa] at this
      have EY:=Hz (ziz (c:=L.length) (oy.later b5).reads HB.out.1 (by omega));have b05:=New.trans bw b5;have hz5:=b05.size;clear EX ox oy b5 bw;go_wp2_with fail
      refine EY.out.mono ?_;intro e w6 h6;rw[HB.out.2] at h6;obtain⟨A6,n6,c6,rfl,o6,b6⟩:=h6;obtain rfl:n6=b.length:=by have:=o6.len;rwa[zaa] at this
      have o5:=o5.later b6;have b06:=New.trans b05 b6;have hz6:=b06.size;have hw1:IntKind.u64.wrap (a.length:Int)=(a.length:Int):=by rw[IntKind.wrap_u64];omega
      have PT:=Hz (fun W:World=>zc0 none 0 0 [] a.length W Reads.none_ (by omega) (by omega));have hvl:=zap (n:=a.length) (by omega);clear EY b6 b05;generalize hV:vp a.length=V at*;clear hV;go_wp2_with fail
      refine(PT.out _).mono ?_;rintro e w7 ⟨A7,n7,c7,rfl,o7,b7⟩;rw[List.nil_append] at o7;obtain rfl:n7=V.length:=by have:=o7.len;rwa[zaa] at this
      have h57:=zf9 (zhw o7 (o5.base_le (Nat.zero_le _)));have h67:=zf9 (zhw o7 (o6.base_le (Nat.zero_le _)));have o5:=o5.later b7;have o6:=o6.later b7;have b07:=New.trans b06 b7;have hz7:=b07.size;have o7:=o7.base_le (b':=w.heap.size) hz6;clear PT b7 b06;go_wp2_with (first
       |(refine zam elB rfl (.tmp 71) (.tmp 72) rfl (W:=w) (B:=w.heap.size) o7 o5.reads rfl rfl b07 (Nat.le_refl _) hz7 (by omega) (by simp only[maxLen];omega) ?_
         intro A8 c8 w8 _ _ o8 g8 b8 d8;have p6:=o6.kept g8 h67;have hz8:=b8.size)
       |(refine zam elB rfl (.tmp 74) (.tmp 75) rfl (W:=w) (B:=w.heap.size) o8 p6.reads rfl rfl b8 (Nat.le_refl _) hz8 (by omega) (by simp only[maxLen];omega) ?_
         intro A9 c9 w9 _ _ o9 _ b9 _))
      go_ret2
      rw[HE.out];exact⟨_,_,_,rfl,o9,b9⟩
open Go.RowKit Go.Hm
theorem OptX.u{o:Option (List Nat)}{w w':World}{e:Ending}(h:OptX o w e w'):∃v,e= .returned (.tuple #[v,.bool o.isSome])/\New w w'/\ ∀b,o=some b-> ∃A n c,v= .slice A n c/\Go.Hm.Own w' w.heap.size 5 (.slice A n c) (zao .u8 b):=by
 cases o with
 |none=>obtain⟨⟨v,rfl⟩,h2⟩:=h;exact⟨v,rfl,h2,fun b hb=>by cases hb⟩
 |some l=>obtain⟨A,n,c,rfl,h2,h3⟩:=h;exact⟨_,rfl,h3,fun b hb=>by injection hb with hb;subst hb;exact⟨_,_,_,rfl,h2⟩⟩
theorem OptX.of{o:Option (List Nat)}{w w':World}{v:Value}(h1:New w w')(h2:∀b,o=some b-> ∃A n c,v= .slice A n c/\Go.Hm.Own w' w.heap.size 5 (.slice A n c) (zao .u8 b)):OptX o w (.returned (.tuple #[v,.bool o.isSome])) w':=by
 cases o with
 |none=>exact⟨⟨v,rfl⟩,h1⟩
 |some l=>obtain⟨A,n,c,rfl,h3⟩:=h2 l rfl;exact⟨A,n,c,rfl,h3,h1⟩
set_option maxRecDepth 100000 in
theorem zng{w:World}{A:Option Addr}{n c:Nat}{L:List zab}(h:Reads w w.heap.size 5 A n (recs zay L))(hL:∀y∈L,zaq y)(hn:n<=65536):
 Calls Tryz.prog 159 #[.int .i64 3,.slice A n c] w (OptX (zfl 3 3 L) w):=by
 obtain rfl:=h.lenCell;have RI:=Hz (zjl (t:=3) (c:=c) h hL (by omega));have PE:Hid (∀W,New w W->zkx 3 L=true->Calls Tryz.prog 178 #[.slice A L.length c] W (OptX (encPts L) W)):=
  Hz (fun W hW hp=>znf (Reads.later h hW) (plOk_iff.1 hp).2 hn)
 have hv:zfl 3 3 L=if zkx 3 L=true then encPts L else none:=by unfold zfl;simp
 obtain⟨X,hX⟩:∃X,X=zfl 3 3 L:=⟨_,rfl⟩;rw[<-hX];have HX:=Hz (hX.trans hv);clear hv hX h hL;generalize zkx 3 L=O at*;go_enter Tryz.func159,Tryz.ntmps159
 go_wp2_with fail
 refine RI.out.mono ?_;rintro e W0 ⟨rfl,b0⟩;clear RI;cases O with
 |false=>
  have hx:X=none:=by rw[HX.out];rfl
  subst hx;go_wp2
  go_ret2
  exact⟨⟨_,rfl⟩,b0⟩
 |true=>
  have hx:=HX.out;rw[if_pos rfl] at hx;subst hx;have P2:=Hz (PE.out W0 b0 rfl);clear HX PE;generalize encPts L=Y at*;go_wp2_with fail
  refine P2.out.mono ?_;rintro e W1 hpost;obtain⟨v,rfl,b1,ho⟩:=hpost.u;have HO:=Hz ho;clear ho hpost P2;generalize hs:Y.isSome=S at*;have HS:=Hz hs;clear hs;go_wp2_with fail
  go_ret2
  rw[<-HS.out];exact OptX.of (New.trans b0 b1) (fun b hb=>by obtain⟨A1,n1,c1,e1,o1⟩:=HO.out b hb;exact⟨A1,n1,c1,e1,o1.base_le b0.size⟩)
theorem qdi{w:World}{q:Nat}{t:Int}{A:Option Addr}{n c:Nat}{L:List zab}(hf:fitsV t (q:Int)=true)(h:Reads w w.heap.size 5 A n (recs zay L))(hL:∀y∈L,CellFine y)(hn:n<=65536):
 Calls Tryz.prog (z3r q) #[.int .i64 t,.slice A n c] w (OptX (zfl t (q:Int) L) w):=by
 have hq:=(ztc hf).1;have hD:∀y∈L,zaq y:=fun y hy=>zk5 (hL y hy)
 rcases(by omega:q=0\/q=1\/q=2\/q=3\/q=4) with rfl|rfl|rfl|rfl|rfl
 ·have e:zfl t ((0:Nat):Int) L=plO t L:=by unfold zfl;simp
  rw[e];exact(zk1 h hD (by omega)).mono fun _ _ p=>OptB.x p
 ·have e:zfl t ((1:Nat):Int) L=zl4 t L:=by unfold zfl;simp
  rw[e];exact(zx3 h hL hn).mono fun _ _ p=>OptB.x p
 ·exact zqr h hD (by omega)
 ·have ht:t=0\/t=3:=by
   unfold fitsV at hf;rw[decide_eq_true_eq] at hf;omega
  rcases ht with rfl|rfl
  ·exact zqs h hD (by omega)
  ·exact zng h hD hn
 ·exact zpw h hD (by omega)
def zyr(t e:Int)(L:List zab):Int × List Nat:=if fitsV t e=true then(match zfl t e L with|some b=>(0,b)|none=>(1,[])) else(3,[])
def zjn(x:Int × List Nat)(w:World)(en:Ending)(w':World):Prop:=
 ∃A n c,en= .returned (.tuple #[.slice A n c,.int .i64 x.1])/\Go.Hm.Own w' w.heap.size 5 (.slice A n c) (zao .u8 x.2)/\New w w'
noncomputable def qkq:Value:=match(Tryz.prog.info? 205).bind (·.zero) with|some v=>v|none=>undef
theorem qg1(w:World):(zeroValue 205).run Tryz.prog w= .ok qkq w:=by kernel_rfl
theorem z3z(i j:Nat)(w:World):(Instr.field 205 (.agg #[.func (.func i) #[] #[],.func (.func j) #[] #[]]) 0).run Tryz.prog w= .ok (.func (.func i) #[] #[]) w:=by kernel_rfl
set_option maxRecDepth 100000 in
theorem zj8{w:World}{t e:Int}{A:Option Addr}{n c:Nat}{L:List zab}(h:Reads w w.heap.size 5 A n (recs zay L))(hL:∀y∈L,CellFine y)(hn:n<=65536):
 Calls Tryz.prog 128 #[.int .i64 t,.int .i64 e,.slice A n c] w (zjn (zyr t e L) w):=by
 have F:=Hz (zk8 t e w);by_cases hf:fitsV t e=true
 ·have hq:=(ztc hf).1
  obtain⟨q,rfl⟩:=Int.eq_ofNat_of_zero_le hq.1;have hq4:q<=4:=by omega
  have C:=Hz (@zyo w);have V:=Hz (fun(W:World) (hW:New w W)=>qdi (c:=c) hf (Reads.later h hW) hL hn);have hk:∀args w,(callFunc (z3r q) args).run Tryz.prog w= .ok (.enter (z3r q) args) w:=by intro args w;rcases(by omega:q=0\/q=1\/q=2\/q=3\/q=4) with rfl|rfl|rfl|rfl|rfl<;> simp only[z3r]<;> go_simp
  have HV:Hid (zyr t (q:Int) L=match zfl t (q:Int) L with|some b=>(0,b)|none=>(1,[])):=Hz (by unfold zyr;rw[if_pos hf]);rw[hf] at F;generalize zfl t (q:Int) L=Y at*;generalize zyr t (q:Int) L=X at*;clear hf h hL hq;go_enter Tryz.func128,Tryz.ntmps128
  go_wp2_with fail
  refine F.out.mono ?_;rintro e W0 ⟨rfl,rfl⟩;clear F;go_wp2_with fail
  refine C.out.mono ?_;rintro e W1 ⟨bl,f,rfl,M,hff,b1⟩;have V1:=Hz (V.out W1 b1);have hfq:=hff q hq4;clear C V hff;have hz:=qg1 W1;have hfd:=z3z (z3r q) (qiu q) W1;go_wp2_with (refine zmj rfl (.tmp 15) (.tmp 16) 206 rfl qhp z3s hz M hfq (zjm q hq4) rfl rfl ?_;unfold qjx)
  refine V1.out.mono ?_;rintro e W2 hpost;obtain⟨v,rfl,b2,ho⟩:=hpost.u;have HO:=Hz ho;clear ho hpost V1 M hz hfq;cases Y with
  |none=>
   have hx:X=(1,[]):=HV.out;subst hx;go_wp2_with fail
   go_ret2
   exact⟨none,0,0,rfl,Own.nil_,New.trans b1 b2⟩
  |some b=>
   have hx:X=(0,b):=HV.out;subst hx;obtain⟨A1,n1,c1,rfl,o1⟩:=HO.out b rfl;go_wp2_with fail
   go_ret2
   exact⟨A1,n1,c1,rfl,o1.base_le b1.size,New.trans b1 b2⟩
 ·have hf0:fitsV t e=false:=by simpa using hf
  have hx:zyr t e L=(3,[]):=by unfold zyr;rw[if_neg hf]
  rw[hx];rw[hf0] at F;clear hf hf0 h hL;go_enter Tryz.func128,Tryz.ntmps128
  go_wp2_with fail
  refine F.out.mono ?_;rintro e W0 ⟨rfl,rfl⟩;clear F;go_wp2_with fail
  go_ret2
  exact⟨none,0,0,rfl,Own.nil_,New.refl _⟩
open Go.RowKit Go.Hm
def OptCX(o:Option (List zab))(w:World)(e:Ending)(w':World):Prop:=
 match o with
 |none=>(∃v,e= .returned (.tuple #[v,.bool false]))/\New w w'
 |some l=>∃A n c,e= .returned (.tuple #[.slice A n c,.bool true])/\w'.ownsRow w.heap.size 75 5 (.slice A n c) n (recs zay l)/\New w w'
theorem OptC.x{o:Option (List zab)}{w w':World}{e:Ending}(h:OptC o w e w'):OptCX o w e w':=by
 cases o with
 |none=>exact⟨⟨_,h.1⟩,h.2⟩
 |some l=>exact h
end Go.Proofs.Y
namespace Go.Hm
open Go Go.RowKit
section
variable{P:Program}{ops:Array Oper}{rest:List Oper}{o:Oper}{a:Act}{Q:Exit->Act->World->Prop}
end
end Go.Hm
namespace Go.Proofs.Y
open Go.RowKit Go.Hm
theorem OptI.u{o:Option (List Int)}{w w':World}{e:Ending}(h:OptI o w e w'):
 ∃A n c,e= .returned (.tuple #[.slice A n c,.bool o.isSome])/\Go.Hm.Own w' w.heap.size 3 (.slice A n c) (za0 .i64 (o.getD []))/\New w w':=by
 cases o with
 |none=>exact⟨none,0,0,h.1,Own.nil_,h.2⟩
 |some l=>exact h
open Go.RowKit Go.Hm
theorem OptCX.u{o:Option (List zab)}{w w':World}{e:Ending}(h:OptCX o w e w'):∃v,e= .returned (.tuple #[v,.bool o.isSome])/\New w w'/\ ∀l,o=some l-> ∃A n c,v= .slice A n c/\w'.ownsRow w.heap.size 75 5 (.slice A n c) n (recs zay l):=by
 cases o with
 |none=>obtain⟨⟨v,rfl⟩,h2⟩:=h;exact⟨v,rfl,h2,fun b hb=>by cases hb⟩
 |some l=>obtain⟨A,n,c,rfl,h2,h3⟩:=h;exact⟨_,rfl,h3,fun b hb=>by injection hb with hb;subst hb;exact⟨_,_,_,rfl,h2⟩⟩
theorem OptCX.of{o:Option (List zab)}{w w':World}{v:Value}(h1:New w w')(h2:∀l,o=some l-> ∃A n c,v= .slice A n c/\w'.ownsRow w.heap.size 75 5 (.slice A n c) n (recs zay l)):OptCX o w (.returned (.tuple #[v,.bool o.isSome])) w':=by
 cases o with
 |none=>exact⟨⟨v,rfl⟩,h1⟩
 |some l=>obtain⟨A,n,c,rfl,h3⟩:=h2 l rfl;exact⟨A,n,c,rfl,h3,h1⟩
def DecVPost(t e:Int)(b:List Nat)(n:Int)(w:World)(en:Ending)(w':World):Prop:=
 New w w'/\((fitsV t e=false/\en= .returned (.tuple #[.slice none 0 0,.int .i64 3]))\/
  (fitsV t e=true/\IsVal t e b n none/\en= .returned (.tuple #[.slice none 0 0,.int .i64 2]))\/
  (fitsV t e=true/\ ∃l A m c,IsVal t e b n (some l)/\en= .returned (.tuple #[.slice A m c,.int .i64 0])/\w'.ownsRow w.heap.size 75 5 (.slice A m c) m (recs zay l)))
open Go.RowKit Go.Hm
theorem z80(t:Int)(l:List zab)(k:Nat):zdx t l (k+1)=if(zyr t (k:Int) l).1=0/\((zdx t l k).1<0\/(zyr t (k:Int) l).2.length<(zdx t l k).2) then((k:Int),(zyr t (k:Int) l).2.length) else zdx t l k:=by
 rw[zdx];unfold zyr;cases hf:fitsV t (k:Int) with
 |false=>simp
 |true=>
  cases hv:zfl t (k:Int) l with
  |none=>simp
  |some b=>simp
set_option maxRecDepth 100000 in
theorem z81{w:World}{t:Int}{A:Option Addr}{n c:Nat}{L:List zab}(h:Reads w w.heap.size 5 A n (recs zay L))(hL:∀y∈L,CellFine y)(hn:n<=65536):
 Calls Tryz.prog 127 #[.int .i64 t,.slice A n c] w (zal (.int .i64 (bestV t L)) w):=by
 have V:=Hz (fun(W:World) (hW:New w W) (e:Int)=>zj8 (t:=t) (e:=e) (c:=c) (Reads.later h hW) hL hn);have HK:=Hz (ztf t L);have ST:=Hz (z80 t L);have HE:Hid (bestV t L=(zdx t L 5).1):=Hz rfl;have H0:Hid (zdx t L 0=(-1,0)):=Hz rfl;generalize bestV t L=Z at*;generalize hB:zdx t L=B at*;generalize hG:(fun k:Nat=>zyr t (k:Int) L)=G at*;have V2:Hid (∀(W:World) (k:Nat),New w W->Calls Tryz.prog 128 #[.int .i64 t,.int .i64 (k:Int),.slice A n c] W (zjn (G k) W)):=Hz (by subst hG;exact fun W k hW=>V.out W hW (k:Int));have ST2:Hid (∀k,B (k+1)=if(G k).1=0/\((B k).1<0\/(G k).2.length<(B k).2) then((k:Int),(G k).2.length) else B k):=Hz (by subst hG;exact ST.out);clear V h hL hB hG ST;go_enter Tryz.func127,Tryz.ntmps127
 go_wp2_with fail
 go_loopw [5,6,7] (fun p f i wr=>∃k:Nat,k<=5/\i= .int .i64 (k:Int)/\p= .int .i64 (B k).1/\f= .int .i64 ((B k).2:Int)/\New w wr) (fun _ _ i _=>5-(intOf i).toNat)
 case atStart=>exact⟨0,by omega,rfl,by rw[H0.out],by rw[H0.out];rfl,New.refl _⟩
 case round=>
  obtain⟨k,hk,rfl,rfl,rfl,b⟩:=hrel;by_cases hlt:k<5
  ·have V3:=Hz (V2.out _ k b)
   have hst:=ST2.out k;obtain⟨⟨p,f⟩,hpf⟩:∃x,B k=x:=⟨_,rfl⟩;obtain⟨⟨er,bs⟩,hgk⟩:∃x,G k=x:=⟨_,rfl⟩;rw[hpf,hgk] at hst;rw[hpf];rw[hgk] at V3;have HST:=Hz hst;have i1:(k:Int)<=4:=by omega
   clear hst hpf hgk;go_wp2_with fail
   refine V3.out.mono ?_;rintro e W1 ⟨A1,n1,c1,rfl,o1,b1⟩;obtain rfl:n1=bs.length:=by simpa[zao] using o1.len
   clear V3;by_cases h1:er=0
   ·subst h1
    by_cases h2:p<0
    ·go_wp2_with fail
     go_roundw
     case rel=>exact⟨k+1,by omega,by go_num,by rw[HST.out,if_pos ⟨by trivial,.inl h2⟩],by rw[HST.out,if_pos ⟨by trivial,.inl h2⟩],New.trans b b1⟩
     case measure=>simp[intOf];omega
    ·by_cases h3:bs.length<f
     ·have i3:(bs.length:Int)<(f:Int):=by omega
      go_wp2_with fail
      go_roundw
      case rel=>exact⟨k+1,by omega,by go_num,by rw[HST.out,if_pos ⟨by trivial,.inr h3⟩],by rw[HST.out,if_pos ⟨by trivial,.inr h3⟩],New.trans b b1⟩
      case measure=>simp[intOf];omega
     ·have i3:decide ((bs.length:Int)<(f:Int))=false:=decide_eq_false (by omega)
      have h4: ¬(p<0\/bs.length<f):=by rintro(q|q);exact h2 q;exact h3 q
      have H4:=Hz h4;clear h4;go_wp2_with fail
      go_roundw
      case rel=>exact⟨k+1,by omega,by go_num,by rw[HST.out,if_neg (fun q=>H4.out q.2)],by rw[HST.out,if_neg (fun q=>H4.out q.2)],New.trans b b1⟩
      case measure=>simp[intOf];omega
   ·have H1:=Hz h1
    have i2:(er==0)=false:=by simpa using h1
    go_wp2_with fail
    go_roundw
    case rel=>exact⟨k+1,by omega,by go_num,by rw[HST.out,if_neg (fun q=>H1.out q.1)],by rw[HST.out,if_neg (fun q=>H1.out q.1)],New.trans b b1⟩
    case measure=>simp[intOf];omega
  ·have hk5:k=5:=by omega
   subst hk5;go_wp2_with fail
   go_ret
   exact⟨by rw[HE.out];rfl,b⟩
open Go.RowKit Go.Hm
theorem qiy(t:Int):fitsV t 0=decide (0<=t/\t<=3):=by unfold fitsV;rw[decide_eq_decide];omega
def ckE(t:Int)(nu:Bool)(e:Int)(l:List zab):Int:=
 if¬(0<=t/\t<=3)\/(e≠ -1/\fitsV t e=false) then 3 else if 65536<l.length then 4 else if(l.all fun c=>zae c t nu)=true then 0 else 1
theorem qiz(t:Int)(nu:Bool)(e:Int)(l:List zab):pgE t nu e l=if ckE t nu e l=0 then(match zfl t (encOf t e l) (zdy l) with
 |some d=>(0,(encOf t e l).toNat::(vp l.length++((if nu=true then zcx l else [])++d)))
 |none=>(1,[])) else(ckE t nu e l,[]):=by
 unfold pgE ckE;split
 ·simp
 ·split
  ·simp
  ·split
   ·rw[if_pos rfl]
    all_goals(generalize zfl t (encOf t e l) (zdy l)=Z;cases Z<;> rfl)
   ·simp
theorem z30{w:World}{t:Int}:Calls Tryz.prog 141 #[.int .i64 t] w (zdl (.bool (decide (0<=t/\t<=3))) w):=by
 have F:=Hz (zk8 t 0 w);rw[qiy] at F;generalize decide (0<=t/\t<=3)=K at*;go_enter Tryz.func141,Tryz.ntmps141
 go_wp2_with fail
 refine F.out.mono ?_;rintro e W0 ⟨rfl,rfl⟩;go_wp2_with fail
 go_ret
 exact⟨rfl,rfl⟩
set_option maxRecDepth 100000 in
theorem z31{w:World}{cn:List Nat}{t:Int}{nu:Bool}{e:Int}{A:Option Addr}{n c:Nat}{L:List zab}(h:Reads w w.heap.size 5 A n (recs zay L))(hL:∀y∈L,y.2.2.1.length<=140737488351232)(hn:n<=4611686018427387903):
 Calls Tryz.prog 125 #[.agg #[.string (zad cn),.int .i64 t,.bool nu],.int .i64 e,.slice A n c] w (zal (.int .i64 (ckE t nu e L)) w):=by
 obtain rfl:=h.lenCell;have HR:=Hz h;have HL:=Hz hL;clear h hL;have KN:=Hz (fun W=>z30 (w:=W) (t:=t));have F:=Hz (fun W=>zk8 t e W);obtain⟨M,hM⟩:∃M,M=ckE t nu e L:=⟨_,rfl⟩;rw[<-hM];unfold ckE at hM;have n1:New w (w.alloc (.cells #[.string (zad cn),.int .i64 t,.bool nu] 71)):=(Below.refl _ _).alloc (Nat.le_refl _) _;have g1:Blk (w.alloc (.cells #[.string (zad cn),.int .i64 t,.bool nu] 71)) w.heap.size 71 #[.string (zad cn),.int .i64 t,.bool nu]:=Blk.new _ _ _;obtain⟨c0,c1,c2⟩:=zan g1;have N1:=Hz n1;have G1:=Hz g1;clear n1 g1;by_cases hk:0<=t/\t<=3
 ·rw[decide_eq_true hk] at KN
  by_cases he:e= -1
  ·subst he
   rw[if_neg (by rintro(q|q);exact q hk;exact q.1 rfl)] at hM;have HM:=Hz hM;clear hM hk F;go_enter Tryz.func125,Tryz.ntmps125
   go_wp2_with fail
   refine(KN.out _).mono ?_;rintro e W0 ⟨rfl,rfl⟩;clear KN;by_cases hbig:65536<L.length
   ·have hx:M=4:=by rw[HM.out,if_pos hbig]
    subst hx;have i2:(65536:Int)<(L.length:Int):=by omega
    go_wp2_with fail
    go_ret
    exact⟨rfl,N1.out⟩
   ·have hx:=HM.out
    rw[if_neg hbig] at hx;replace HM:=Hz hx;have i2:(L.length:Int)<=65536:=by omega
    have hs:L.length<=65536:=by omega
    clear hx hbig;go_wp2_with fail
    go_loopw [29] (fun i wr=>∃k:Nat,k<=L.length/\i= .int .i64 (k:Int)/\New (w.alloc (.cells #[.string (zad cn),.int .i64 t,.bool nu] 71)) wr/\Hid (∀c∈L.take k,zae c t nu=true)) (fun i _=>L.length-(intOf i).toNat)
    case atStart=>exact⟨0,Nat.zero_le _,rfl,New.refl _,Hz (by simp)⟩
    case round=>
     clear c0 c1 c2;obtain⟨k,hk,rfl,hW,hr⟩:=hrel;by_cases hlt:k<L.length
     ·obtain⟨ad,rfl,hb,d0,d1,d2,d3,d4⟩:=(Reads.later HR.out (New.trans N1.out hW)).cell5 hlt
      have htk:=zac L k (false,0,[],0,0) hlt;have hmem:=zea (false,0,[],0,0) hlt;have hy:=HL.out _ hmem;have R1:=fun(W:World)=>zfw (w:=W) (b:=(L.getD k (false,0,[],0,0)).1) (n:=(L.getD k (false,0,[],0,0)).2.1) (s:=(L.getD k (false,0,[],0,0)).2.2.1) (x:=(L.getD k (false,0,[],0,0)).2.2.2.1) (y:=(L.getD k (false,0,[],0,0)).2.2.2.2) (cn:=cn) (t:=t) (nu:=nu) hy
      have hno:zae (L.getD k (false,0,[],0,0)) t nu=false->M=1:=fun e=>by rw[HM.out,if_neg];intro e2;have:=(List.all_eq_true.1 e2) _ hmem;rw[e] at this;cases this
      have hyes:zae (L.getD k (false,0,[],0,0)) t nu=true-> ∀c∈L.take (k+1),zae c t nu=true:=fun e c hc=>by
       rw[htk] at hc;rcases List.mem_append.1 hc with hc|hc
       ·exact hr.out c hc
       ·rw[List.mem_singleton.1 hc];exact e
      clear htk hmem hy hr;generalize L.getD k (false,0,[],0,0)=y at*;obtain⟨y0,y1,y2,y3,y4⟩:=y;dsimp only at R1 d0 d1 d2 d3 d4;generalize zae (y0,y1,y2,y3,y4) t nu=m at*;have R1:Hid (∀W,Calls Tryz.prog 83 #[.agg #[.bool y0,.int .i64 y1,.string (zad y2),.int .i64 y3,.int .i64 y4],.agg #[.string (zad cn),.int .i64 t,.bool nu]] W (zal (.bool m) W)):=Hz R1;have hno:=Hz hno;have hyes:=Hz hyes;have ha:New wr (wr.alloc (.cells #[.bool y0,.int .i64 y1,.string (zad y2),.int .i64 y3,.int .i64 y4] 75)):=(Below.refl _ _).alloc (Nat.le_refl _) _;have G2:=(G1.out.below hW G1.out.lt).below ha (G1.out.below hW G1.out.lt).lt;obtain⟨c0,c1,c2⟩:=zan G2;clear G2;have i3:(k:Int)<(L.length:Int):=by omega
      go_wp2_with fail
      refine(R1.out _).mono ?_;rintro e w1 ⟨rfl,b1⟩;have hl:=New.trans (New.trans hW ha) b1;clear c0 c1 c2;cases m with
      |false=>
       have hm:=hno.out (by trivial);have HM2:=Hz hm;clear hno hyes hm;go_wp2_with fail
       go_ret
       rw[HM2.out];exact⟨rfl,New.trans N1.out hl⟩
      |true=>
       have hm:=Hz (hyes.out (by trivial));clear hno hyes;go_wp2_with fail
       go_roundw
       case rel=>exact⟨k+1,by omega,by go_num,hl,hm⟩
       case measure=>simp[intOf];omega
     ·obtain rfl:k=L.length:=by omega
      have hx:M=0:=by rw[HM.out,if_pos];exact List.all_eq_true.2 (by simpa using hr.out)
      subst hx;go_wp2_with fail
      go_ret
      exact⟨rfl,New.trans N1.out hW⟩
  ·have i1:(e== -1)=false:=by simpa using he
   cases hf:fitsV t e with
   |false=>
    rw[if_pos (.inr ⟨he,hf⟩)] at hM;subst hM;rw[hf] at F;have HE:=Hz he;clear he hf hk;go_enter Tryz.func125,Tryz.ntmps125
    go_wp2_with fail
    refine(KN.out _).mono ?_;rintro e W0 ⟨rfl,rfl⟩;clear KN;go_wp2_with fail
    refine(F.out _).mono ?_;rintro e W0 ⟨rfl,rfl⟩;clear F;go_wp2_with fail
    go_ret
    exact⟨rfl,N1.out⟩
   |true=>
    rw[if_neg (by rintro(q|q);exact q hk;rw[hf] at q;cases q.2)] at hM;have HM:=Hz hM;rw[hf] at F;have HE:=Hz he;clear hM hk he hf;go_enter Tryz.func125,Tryz.ntmps125
    go_wp2_with fail
    refine(KN.out _).mono ?_;rintro e W0 ⟨rfl,rfl⟩;clear KN;go_wp2_with fail
    refine(F.out _).mono ?_;rintro e W0 ⟨rfl,rfl⟩;clear F;by_cases hbig:65536<L.length
    ·have hx:M=4:=by rw[HM.out,if_pos hbig]
     subst hx;have i2:(65536:Int)<(L.length:Int):=by omega
     go_wp2_with fail
     go_ret
     exact⟨rfl,N1.out⟩
    ·have hx:=HM.out
     rw[if_neg hbig] at hx;replace HM:=Hz hx;have i2:(L.length:Int)<=65536:=by omega
     have hs:L.length<=65536:=by omega
     clear hx hbig;go_wp2_with fail
     go_loopw [29] (fun i wr=>∃k:Nat,k<=L.length/\i= .int .i64 (k:Int)/\New (w.alloc (.cells #[.string (zad cn),.int .i64 t,.bool nu] 71)) wr/\Hid (∀c∈L.take k,zae c t nu=true)) (fun i _=>L.length-(intOf i).toNat)
     case atStart=>exact⟨0,Nat.zero_le _,rfl,New.refl _,Hz (by simp)⟩
     case round=>
      clear c0 c1 c2;obtain⟨k,hk,rfl,hW,hr⟩:=hrel;by_cases hlt:k<L.length
      ·obtain⟨ad,rfl,hb,d0,d1,d2,d3,d4⟩:=(Reads.later HR.out (New.trans N1.out hW)).cell5 hlt
       have htk:=zac L k (false,0,[],0,0) hlt;have hmem:=zea (false,0,[],0,0) hlt;have hy:=HL.out _ hmem;have R1:=fun(W:World)=>zfw (w:=W) (b:=(L.getD k (false,0,[],0,0)).1) (n:=(L.getD k (false,0,[],0,0)).2.1) (s:=(L.getD k (false,0,[],0,0)).2.2.1) (x:=(L.getD k (false,0,[],0,0)).2.2.2.1) (y:=(L.getD k (false,0,[],0,0)).2.2.2.2) (cn:=cn) (t:=t) (nu:=nu) hy
       have hno:zae (L.getD k (false,0,[],0,0)) t nu=false->M=1:=fun e=>by rw[HM.out,if_neg];intro e2;have:=(List.all_eq_true.1 e2) _ hmem;rw[e] at this;cases this
       have hyes:zae (L.getD k (false,0,[],0,0)) t nu=true-> ∀c∈L.take (k+1),zae c t nu=true:=fun e c hc=>by
        rw[htk] at hc;rcases List.mem_append.1 hc with hc|hc
        ·exact hr.out c hc
        ·rw[List.mem_singleton.1 hc];exact e
       clear htk hmem hy hr;generalize L.getD k (false,0,[],0,0)=y at*;obtain⟨y0,y1,y2,y3,y4⟩:=y;dsimp only at R1 d0 d1 d2 d3 d4;generalize zae (y0,y1,y2,y3,y4) t nu=m at*;have R1:Hid (∀W,Calls Tryz.prog 83 #[.agg #[.bool y0,.int .i64 y1,.string (zad y2),.int .i64 y3,.int .i64 y4],.agg #[.string (zad cn),.int .i64 t,.bool nu]] W (zal (.bool m) W)):=Hz R1;have hno:=Hz hno;have hyes:=Hz hyes;have ha:New wr (wr.alloc (.cells #[.bool y0,.int .i64 y1,.string (zad y2),.int .i64 y3,.int .i64 y4] 75)):=(Below.refl _ _).alloc (Nat.le_refl _) _;have G2:=(G1.out.below hW G1.out.lt).below ha (G1.out.below hW G1.out.lt).lt;obtain⟨c0,c1,c2⟩:=zan G2;clear G2;have i3:(k:Int)<(L.length:Int):=by omega
       go_wp2_with fail
       refine(R1.out _).mono ?_;rintro e w1 ⟨rfl,b1⟩;have hl:=New.trans (New.trans hW ha) b1;clear c0 c1 c2;cases m with
       |false=>
        have hm:=hno.out (by trivial);have HM2:=Hz hm;clear hno hyes hm;go_wp2_with fail
        go_ret
        rw[HM2.out];exact⟨rfl,New.trans N1.out hl⟩
       |true=>
        have hm:=Hz (hyes.out (by trivial));clear hno hyes;go_wp2_with fail
        go_roundw
        case rel=>exact⟨k+1,by omega,by go_num,hl,hm⟩
        case measure=>simp[intOf];omega
      ·obtain rfl:k=L.length:=by omega
       have hx:M=0:=by rw[HM.out,if_pos];exact List.all_eq_true.2 (by simpa using hr.out)
       subst hx;go_wp2_with fail
       go_ret
       exact⟨rfl,New.trans N1.out hW⟩
 ·rw[decide_eq_false hk] at KN
  rw[if_pos (.inl hk)] at hM;subst hM;have HK:=Hz hk;clear hk F;go_enter Tryz.func125,Tryz.ntmps125
  go_wp2_with fail
  refine(KN.out _).mono ?_;rintro e W0 ⟨rfl,rfl⟩;clear KN;go_wp2_with fail
  go_ret
  exact⟨rfl,N1.out⟩
open Go.RowKit Go.Hm
theorem qdj{l:List zab}(h:∀c∈l,zaq c):∀x∈zit l,zi9 x:=fun x hx=>by obtain⟨c,hc,rfl⟩:=List.mem_map.1 hx;exact(h c hc).2
theorem z0w{t:Int}{l:List zab}(h:zkx t l=true)(ht:t=3):(∀x∈zqf 0 (xsV l),zi9 x)/\ ∀x∈zqf 0 (ysV l),zi9 x:=by
 subst ht;have hr:=(plOk_iff.1 h).2;have hb:∀c∈l,(-1048576<=c.2.2.2.1/\c.2.2.2.1<=1048576)/\ -1048576<=c.2.2.2.2/\c.2.2.2.2<=1048576:=fun c hc=>by have:=zoy (hr c hc);omega
 refine⟨fun x hx=>?_,fun x hx=>?_⟩
 ·have:=zte (a:=0) (by omega) (fun z hz=>by obtain⟨c,hc,rfl⟩:=List.mem_map.1 hz;exact(hb c hc).1) x hx
  unfold zi9;omega
 ·have:=zte (a:=0) (by omega) (fun z hz=>by obtain⟨c,hc,rfl⟩:=List.mem_map.1 hz;exact(hb c hc).2) x hx
  unfold zi9;omega
theorem z0x{t e:Int}{l:List zab}{b:List Nat}(hd:∀c∈l,zaq c)(h:zfl t e l=some b):b.length<=100000000000:=by
 have hok:=z70 h;have hl:=(plOk_iff.1 hok).1.2.2;unfold zfl at h;split at h
 ·have:=zx2 hok
  rw[<-(plO_iff.1 h).2];omega
 ·split at h
  ·have:=z7a h
   omega
  ·try rw[if_pos hok] at h
   split at h
   ·injection h with h
    have:=zs5 (zpf hd) (by unfold zhz;rw[List.length_map];exact hl);rw[show(zhz l).length=l.length by unfold zhz;rw[List.length_map]] at this;rw[<-h];omega
   ·split at h
    ·split at h
     ·rename_i ht
      obtain⟨d1,d2⟩:=z0w hok ht;unfold encPts at h;split at h
      ·rename_i x y hx hy
       have a1:=zku d1 hx;have a2:=zku d2 hy;have a3:=zap (n:=x.length) (by omega);injection h with h;rw[<-h,List.length_append,List.length_append];omega
      ·cases h
     ·have:=zku (qdj hd) h
      omega
    ·unfold qek at h
     split at h
     ·rename_i hf
      obtain⟨f1,f2,f3⟩:=(zje _).1 hf;have:=zz8 [] (zh5 l) f2;injection h with h;rw[<-h];omega
     ·cases h
theorem qg2{t e:Int}{l:List zab}{b:List Nat}(hd:∀c∈l,zaq c)(h:zfl t e l=some b):∀x∈b,x<256:=by
 have hok:=z70 h;unfold zfl at h;split at h
 ·rw[<-(plO_iff.1 h).2]
  exact z7v (fun c hc=>(hd c hc).1.2)
 ·split at h
  ·exact qcd hd h
  ·try rw[if_pos hok] at h
   split at h
   ·injection h with h
    rw[<-h];exact zu0 (zpf hd)
   ·split at h
    ·split at h
     ·rename_i ht
      obtain⟨d1,d2⟩:=z0w hok ht;unfold encPts at h;split at h
      ·rename_i x y hx hy
       injection h with h;rw[<-h];intro z hz;rcases List.mem_append.1 hz with hz|hz
       ·rcases List.mem_append.1 hz with hz|hz
        ·exact zz9 _ _ (Nat.le_refl _) z hz
        ·exact zys hx z hz
       ·exact zys hy z hz
      ·cases h
     ·exact zys h
    ·exact qgo (fun s hs=>by obtain⟨c,hc,rfl⟩:=List.mem_map.1 hs;exact(hd c hc).1.2) h
theorem zrw{l:List zab}(h:l.length<=65536):(zcx l).length<=8193:=by unfold zcx;rw[za6,zk9];omega
theorem zyt{t:Int}{nu:Bool}{e:Int}{l:List zab}{b:List Nat}{k:Int}(hd:∀c∈l,zaq c)(h:pgE t nu e l=(k,b)):b.length<=100000010000:=by
 by_cases hk:k=0
 ·subst hk
  obtain⟨_,h1,_,_,d,h2,rfl⟩:=z0k h;have a:=z0x (zpg hd) h2;have b:=zrw h1;have c:=zap (n:=l.length) (by omega);simp only[List.length_cons,List.length_append];split<;> simp<;> omega
 ·have:b=[]:=by
   unfold pgE at h;split at h
   ·injection h with _ h;exact h.symm
   ·split at h
    ·injection h with _ h;exact h.symm
    ·split at h
     ·split at h
      ·injection h with h _;exact absurd h.symm hk
      ·injection h with _ h;exact h.symm
     ·injection h with _ h;exact h.symm
  subst this;simp
theorem qi0{t:Int}{nu:Bool}{e:Int}{l:List zab}{b:List Nat}(hd:∀c∈l,zaq c)(h:pgE t nu e l=(0,b)):∀x∈b,x<256:=by
 obtain⟨_,_,_,h4,d,h2,rfl⟩:=z0k h;have:=(ztc h4).1;intro x hx;rcases List.mem_cons.1 hx with rfl|hx
 ·omega
 ·rcases List.mem_append.1 hx with hx|hx
  ·exact zz9 _ _ (Nat.le_refl _) x hx
  ·rcases List.mem_append.1 hx with hx|hx
   ·split at hx
    ·exact zg0 _ _ x hx
    ·cases hx
   ·exact qg2 (zpg hd) h2 x hx
open Go.RowKit Go.Hm
theorem DecVPost.u{t e:Int}{b:List Nat}{n:Int}{w w':World}{en:Ending}(h:DecVPost t e b n w en w'):
 ∃v k,en= .returned (.tuple #[v,.int .i64 k])/\New w w'/\((k≠0/\(fitsV t e=true->IsVal t e b n none))\/(k=0/\fitsV t e=true/\ ∃l A m c,v= .slice A m c/\IsVal t e b n (some l)/\w'.ownsRow w.heap.size 75 5 (.slice A m c) m (recs zay l))):=by
 obtain⟨hb,h⟩:=h;rcases h with⟨h1,rfl⟩|⟨h1,h2,rfl⟩|⟨h1,l,A,m,c,h2,rfl,h3⟩
 ·exact⟨_,_,rfl,hb,.inl ⟨by omega,fun q=>by rw[h1] at q;cases q⟩⟩
 ·exact⟨_,_,rfl,hb,.inl ⟨by omega,fun _=>h2⟩⟩
 ·exact⟨_,_,rfl,hb,.inr ⟨rfl,h1,l,A,m,c,rfl,h2,h3⟩⟩
open Go.RowKit Go.Hm
def SheOk(t:Int)(nu:Bool)(p:za2)(b:List Nat)(l:List zab):Prop:=IsPg t nu b (some l)/\(b.length:Int)=p.1/\(l.length:Int)=p.2.1/\IsStat t l p.2.2
theorem zrx{c:zab}{t:Int}{nu:Bool}(h:zae c t nu=true):zae c t true=true:=by
 cases nu with
 |false=>exact z72 true h
 |true=>exact h
open Go.RowKit Go.Hm
theorem SheOk.uniq{t:Int}{nu:Bool}{p:za2}{b:List Nat}{l m:List zab}(h:SheOk t nu p b l)(k:SheOk t nu p b m):l=m:=by have:=h.1.uniq k.1;injection this
open Go.RowKit Go.Hm
theorem zwe:Tryz.prog.underlying 24=some (.slice (Tryz.prog.elem 24)):=by kernel_rfl
theorem zwf(w:World):(sizeOf (Tryz.prog.elem 24)).run Tryz.prog w= .ok 1 w:=by kernel_rfl
theorem z9e{l:List Nat}(hl:∀x∈l,x<256):((zad l).toList== [72,89,80,79])=decide (l=headL_film):=by rw[<-zgh hl (m:=headL_film) (by decide)];rw[show(zad headL_film).toList=[72,89,80,79] by simp[zad,headL_film]]
theorem z9f{l:List Nat}(hl:∀x∈l,x<256):((zad l).toList== [79,80,89,72])=decide (l=tailL):=by rw[<-zgh hl (m:=tailL) (by decide)];rw[show(zad tailL).toList=[79,80,89,72] by simp[zad,tailL]]
def zmm(b:List Nat)(w:World)(e:Ending)(w':World):Prop:=
 New w w'/\match zph b with
 |none=>e= .returned (.tuple #[.slice none 0 0,.bool false])
 |some s=>∃A c,e= .returned (.tuple #[.slice A s.length c,.bool true])/\Reads w' w.heap.size 1 A s.length (zao .u8 s)/\s.length<=c/\c<=9223372036854775807
set_option maxRecDepth 100000 in
theorem zwg{w:World}{A:Option Addr}{c:Nat}{b:List Nat}(h:Reads w w.heap.size 1 A b.length (zao .u8 b))(h8:∀x∈b,x<256)(hb:b.length<=140737488351232)(hc:b.length<=c)(hc2:c<=9223372036854775807):
 Calls Tryz.prog 67 #[.slice A b.length c] w (zmm b w):=by
 have HR:=Hz h;by_cases h1:b.length<12
 ·have ho:zph b=none:=by unfold zph;rw[if_pos (.inl h1)]
  have i1:(b.length:Int)<12:=by omega
  go_enter Tryz.func67,Tryz.ntmps67
  go_wp2_with fail
  go_ret2
  unfold zmm;rw[ho];exact⟨New.refl _,rfl⟩
 ·have i1:(12:Int)<=(b.length:Int):=by omega
  have S1:(Instr.sliceAt 24 (.slice A b.length c) none (some (.int .i64 4)) none).run Tryz.prog w= .ok (.slice A 4 c) w:=qdd zwe zwf A b.length c 4 (by omega) w;have C1:=zi1 (c:=c) (show Reads w w.heap.size 1 A 4 (zao .u8 (b.take 4)) by have:=h.take (k:=4) (by omega);rwa[show 4*1=4 from rfl,zen] at this)
  have q1:=z9e (l:=b.take 4) (fun x hx=>h8 x (List.mem_of_mem_take hx));have hz1:=zbn (b.take 4);by_cases hH:b.take 4=headL_film
  ·rw[decide_eq_true hH] at q1
   have S2:(Instr.sliceAt 24 (.slice A b.length c) (some (.int .i64 ((b.length:Int)-4))) none none).run Tryz.prog w= .ok (.slice (if c=b.length-4 then A else A.map (·.add ((b.length-4)*1))) (b.length-(b.length-4)) (c-(b.length-4))) w:=by have:=qde zwe zwf A b.length c (b.length-4) (by omega) w;rwa[show((b.length-4:Nat):Int)=(b.length:Int)-4 by omega] at this
   have C2:=zi1 (c:=c-(b.length-4)) (show Reads w w.heap.size 1 (if c=b.length-4 then A else A.map (·.add ((b.length-4)*1))) (b.length-(b.length-4)) (zao .u8 (b.drop (b.length-4))) by have:=h.cut (k:=b.length-4) (cap:=c) (by omega) hc;simpa only[Nat.mul_one,zd6] using this)
   have q2:=z9f (l:=b.drop (b.length-4)) (fun x hx=>h8 x (List.mem_of_mem_drop hx));generalize hA2:(if c=b.length-4 then A else A.map (·.add ((b.length-4)*1)))=A2 at*;have HA2:=Hz hA2;generalize hD2:b.drop (b.length-4)=D2 at*;have HD2:=Hz hD2;generalize hN4:b.length-4=N4 at*;have HN4:=Hz hN4;have HH:=Hz hH;clear hA2 hD2 hN4 hH;by_cases hT:D2=tailL
   ·rw[decide_eq_true hT] at q2
    subst hT;have S3:(Instr.sliceAt 24 (.slice A b.length c) (some (.int .i64 ((b.length:Int)-4-4))) (some (.int .i64 ((b.length:Int)-4))) none).run Tryz.prog w= .ok (.slice (if c=b.length-8 then A else A.map (·.add ((b.length-8)*1))) 4 (c-(b.length-8))) w:=by have:=zhe zwe zwf A b.length c (b.length-8) (b.length-4) (by omega) (by omega) w;rwa[show((b.length-8:Nat):Int)=(b.length:Int)-4-4 by omega,show((b.length-4:Nat):Int)=(b.length:Int)-4 by omega,show b.length-4-(b.length-8)=4 by omega] at this
    have hd4:((b.drop (b.length-8)).take 4).length=4:=by rw[List.length_take,List.length_drop];omega
    have R3:Reads w w.heap.size 1 (if c=b.length-8 then A else A.map (·.add ((b.length-8)*1))) 4 (zao .u8 ((b.drop (b.length-8)).take 4)):=by have:=(h.cut (k:=b.length-8) (cap:=c) (by omega) hc).take (k:=4) (by omega);simpa only[Nat.mul_one,zd6,zen] using this
    have h48:∀x∈(b.drop (b.length-8)).take 4,x<256:=fun x hx=>h8 x (List.mem_of_mem_drop (List.mem_of_mem_take hx))
    have R3':Reads w w.heap.size 1 (if c=b.length-8 then A else A.map (·.add ((b.length-8)*1))) ((b.drop (b.length-8)).take 4).length (zao .u8 ((b.drop (b.length-8)).take 4)):=by rw[hd4];exact R3
    have C:=Hz (zsn (c:=c-(b.length-8)) R3' (by omega) h48);rw[hd4] at C;have hnl:=zqw _ h48;rw[hd4] at hnl;have hN:num ((b.drop (b.length-8)).take 4)=ownN b:=rfl;rw[hN] at hnl;have hnl2:ownN b<4294967296:=hnl;generalize hA3:(if c=b.length-8 then A else A.map (·.add ((b.length-8)*1)))=A3 at*;generalize hD4:(b.drop (b.length-8)).take 4=D4 at*;have HD4:=Hz hD4;have HN:=Hz hN;have HL4:=Hz hd4;have S4:Hid (∀W,ownN b<=b.length-12->(Instr.sliceAt 24 (.slice A b.length c) (some (.int .i64 ((b.length:Int)-4-4-(ownN b:Int)))) (some (.int .i64 ((b.length:Int)-4-4))) none).run Tryz.prog W= .ok (.slice (if c=b.length-8-ownN b then A else A.map (·.add ((b.length-8-ownN b)*1))) (ownN b) (c-(b.length-8-ownN b))) W):=Hz (fun W hW=>by have:=zhe zwe zwf A b.length c (b.length-8-ownN b) (b.length-8) (by omega) (by omega) W;rwa[show((b.length-8-ownN b:Nat):Int)=(b.length:Int)-4-4-(ownN b:Int) by omega,show((b.length-8:Nat):Int)=(b.length:Int)-4-4 by omega,show b.length-8-(b.length-8-ownN b)=ownN b by omega] at this)
    have R4:Hid (ownN b<=b.length-12->Reads w w.heap.size 1 (if c=b.length-8-ownN b then A else A.map (·.add ((b.length-8-ownN b)*1))) (ownN b) (zao .u8 ((b.drop (b.length-8-ownN b)).take (ownN b)))):=Hz (fun hW=>by have:=(h.cut (k:=b.length-8-ownN b) (cap:=c) (by omega) hc).take (k:=ownN b) (by omega);simpa only[Nat.mul_one,zd6,zen] using this)
    have hown:zph b=if b.length-12<ownN b then none else some ((b.drop (b.length-8-ownN b)).take (ownN b)):=by unfold zph;rw[if_neg (by rintro(q|q|q);exact h1 q;exact q HH.out;exact q (by rw[HN4.out,HD2.out]))]
    have HOW:=Hz hown;clear hA3 hD4 hN hd4 hown R3 R3' h48 h8 h;generalize ownN b=N at*;have iw:IntKind.i64.wrap (N:Int)=(N:Int):=by rw[IntKind.wrap_i64];omega
    go_enter Tryz.func67,Tryz.ntmps67
    go_wp2_with fail
    refine C.out.mono ?_;rintro e w1 ⟨g,rfl,hg,C1,b1⟩;have U:=qbh C1 (by rw[HL4.out];exact Nat.le_refl _);rw[List.take_of_length_le (by rw[HL4.out];exact Nat.le_refl _),HN.out] at U;replace U:=Hz U;clear C C1;go_wp2_with fail
    refine U.out.mono ?_;rintro e w2 ⟨rfl,C2',g2⟩;have b2:=Far.below b1 g2 hg (Nat.le_refl _);clear U C2' g2 b1;by_cases hbig:b.length-12<N
    ·have ho:zph b=none:=by rw[HOW.out,if_pos hbig]
     have i5:(b.length:Int)-4-4-4<(N:Int):=by omega
     clear hbig;go_wp2_with fail
     go_ret2
     unfold zmm;rw[ho];exact⟨b2,rfl⟩
    ·have ho:zph b=some ((b.drop (b.length-8-N)).take N):=by rw[HOW.out,if_neg hbig]
     have i5:(N:Int)<=(b.length:Int)-4-4-4:=by omega
     have S5:=S4.out w2 (by omega);have R5:=Hz ((R4.out (by omega)).below b2);have hcN:N<=c-(b.length-8-N):=by omega
     have hlN:((b.drop (b.length-8-N)).take N).length=N:=by rw[List.length_take,List.length_drop];omega
     have HO:=Hz ho;have HLN:=Hz hlN;clear hbig ho hlN;generalize(if c=b.length-8-N then A else A.map (·.add ((b.length-8-N)*1)))=A5 at*;generalize hk5:c-(b.length-8-N)=k5 at*;have HK5:=Hz hk5;clear hk5;go_wp2_with fail
     go_ret2
     unfold zmm;rw[HO.out];refine⟨b2,A5,k5,?_,?_,?_,?_⟩
     ·rw[HLN.out];rfl
     ·rw[HLN.out];exact R5.out
     ·rw[HLN.out];exact hcN
     ·rw[<-HK5.out];omega
   ·rw[decide_eq_false hT] at q2
    have ho:zph b=none:=by unfold zph;rw[if_pos (.inr (.inr (by rw[HN4.out,HD2.out];exact hT)))]
    clear hT;go_enter Tryz.func67,Tryz.ntmps67
    go_wp2_with fail
    go_ret2
    unfold zmm;rw[ho];exact⟨New.refl _,rfl⟩
  ·rw[decide_eq_false hH] at q1
   have ho:zph b=none:=by unfold zph;rw[if_pos (.inr (.inl hH))]
   clear hH;go_enter Tryz.func67,Tryz.ntmps67
   go_wp2_with fail
   go_ret2
   unfold zmm;rw[ho];exact⟨New.refl _,rfl⟩
end Go.Proofs.Y
