/- Merged. -/
import Derived.Test.YtbahbnbpmfgimaaGreatDoorBun32
import Derived.Test.YtbahbnbpmfgimaaGreatDoorBun34
set_option maxHeartbeats 2000000
namespace Go.Proofs.Y
open Go Go.RowKit Go.Hm
def fz:FootS:=⟨[],0,[]⟩
theorem qi6:zbq fz:=⟨(zek []).1 (by decide),by simp[fz],by simp[fz],by simp[fz],by simp[fz]⟩
open Go Go.RowKit Go.Hm
theorem znw:zev fz=[0,0,0]:=by
 unfold zev fz;have e:putC [] []=[0]:=by rw[putC,if_pos (by decide)];simp[zkd,zfz]
 rw[e];simp[zfz]
theorem z9i{t:Int}{s:zdb}(hd:statData s):∀x∈putS [] t s,x<256:=by
 intro x hx;unfold putS at hx;split at hx
 ·split at hx
  ·simp only[List.nil_append,List.mem_append,List.mem_singleton] at hx
   rcases hx with((hx|hx)|hx)|hx
   ·exact zed _ _ (Nat.le_refl _) x hx
   ·omega
   ·exact zed _ _ (Nat.le_refl _) x hx
   ·exact z7v (fun c hc=>by simp at hc;rcases hc with rfl|rfl;exact hd.1.1.2;exact hd.2.1.2) x hx
  ·simp only[List.nil_append,List.mem_append,List.mem_singleton] at hx
   rcases hx with hx|hx
   ·exact zed _ _ (Nat.le_refl _) x hx
   ·omega
 ·simp at hx
theorem z37{F:FootS}(h:zbq F)(hd:zfa F):∀x∈zev F,x<256:=by
 obtain⟨a1,a2,a3,a4,a5⟩:=h;obtain⟨d1,d2⟩:=hd;intro x hx;unfold zev at hx;simp only[List.mem_append] at hx;rcases hx with((hx|hx)|hx)|hx
 ·have hck:=(zek F.cols).2 a1
  rw[putC,if_pos hck,List.nil_append] at hx;exact z8h F.cols (fun c hc=>⟨d1 c hc,(a1.2.1 c hc).2.2.1,(a1.2.1 c hc).2.2.2⟩) x hx
 ·exact zed _ _ (Nat.le_refl _) x hx
 ·exact zed _ _ (Nat.le_refl _) x hx
 ·obtain⟨g,hg,hx⟩:=List.mem_flatMap.1 hx
  unfold zc3 at hx;rcases List.mem_append.1 hx with hx|hx
  ·exact zed _ _ (Nat.le_refl _) x hx
  ·have key:∀(cs:List zbc) (ls:List (List za2)),(∀l∈ls,∀p∈l,statData p.2.2)->x∈zca cs ls->x<256:=by
    intro cs;induction cs with
    |nil=>intro ls _ hx;simp[zca] at hx
    |cons c cs ih=>
     intro ls hd hx;cases ls with
     |nil=>simp[zca] at hx
     |cons l ls=>
      simp only[zca,List.mem_append] at hx;rcases hx with hx|hx
      ·unfold zgq at hx
       rcases List.mem_append.1 hx with hx|hx
       ·exact zed _ _ (Nat.le_refl _) x hx
       ·obtain⟨p,hp,hx⟩:=List.mem_flatMap.1 hx
        simp only[zfq,List.mem_append] at hx;rcases hx with(hx|hx)|hx
        ·exact zed _ _ (Nat.le_refl _) x hx
        ·exact zed _ _ (Nat.le_refl _) x hx
        ·exact z9i (hd l (by simp) p hp) x hx
      ·exact ih ls (fun l hl=>hd l (by simp[hl])) hx
   exact key _ _ (d2 g hg) hx
open Go.RowKit Go.Hm
def Box1(g bl bv:Nat)(A:Option Addr)(n c:Nat)(W:World):Prop:=Blk W bl 27 #[.pointer (some ⟨g,0,none⟩)]/\Blk W bv tS #[.slice A n c]
theorem Box1.keep{g B bo bl bv:Nat}{A:Option Addr}{n c:Nat}{W W':World}(h:Box1 g bl bv A n c W)(k:KeepX B bo W W')(h1:bl≠bo)(h2:bv≠bo):Box1 g bl bv A n c W':=
 ⟨k.2 _ _ _ (by decide) (by decide) (.inl (by decide)) h1 h.1,k.2 _ _ _ (by decide) (by decide) (.inl (by decide)) h2 h.2⟩
theorem KeepX.t{B bo:Nat}{W W':World}(h:KeepX B bo W W'){cs:Array Value}(Bb:Blk W bo tS cs):KeepT tW W W':=
 ⟨h.1,fun b _ hb=>h.2 _ _ _ (by decide) (by decide) (.inl (by decide)) (Blk.ne_ hb Bb (by decide)) hb⟩
def z1e(P:List (List Nat))(base g:Nat)(V:Value)(F:List (List Nat))(w:World)(e:Ending)(w':World):Prop:=
 ∃v,e= .returned v/\w'.ownsRow w.heap.size tD 32 v P.length (recs zh4 P)/\ ∃V',LogOf tL w' base g V' F/\(V'.ownBlock=V.ownBlock\/ ∃h,V'.ownBlock=some h/\w.heap.size<=h)/\Turns (g::zbm V) w w'
theorem DrSt.post{w W:World}{B base g bo:Nat}{V0:Value}{F P:List (List Nat)}(h:DrSt w B base g V0 bo F P W){v:Value}(hv:∀v',Blk W bo tS #[v']->v'=v):z1e P base g V0 F w (.returned v) W:=by obtain⟨V,v',l,a,t,hb,Bb,o⟩:=h;obtain rfl:=hv v' Bb;exact⟨_,rfl,zeq o hb.1,V,l,a,t⟩
end Go.Proofs.Y
namespace Go.Hm
open Go Go.RowKit
theorem zws{w:World}{g n sz:Nat}{e:TypeId}{xs:List Value}(h:Blk w g e xs.toArray)(hl:xs.length=n*sz)(hm:n<=maxLen):w.ownsRow g e sz (.slice (some ⟨g,0,none⟩) n n) n xs:=
 ⟨hl,.inr ⟨g,n,xs.toArray,rfl,Nat.le_refl _,h,Nat.le_refl _,hm,by simpa using hl,by rw[List.take_of_length_le (by simp[hl])]⟩⟩
end Go.Hm
namespace Go.Proofs.Y
open Go.RowKit Go.Hm
structure DataF(w:World)(A:Option Addr)(D:List zix)(T:List Nat):Prop where
 row:Reads w w.heap.size 1 A D.length (recs zib D)
 far:0<D.length-> ∀ad,A=some ad->ad.block∉T
 at_:∀d∈D,BytIn w d/\(0<d.2.2.length-> ∀ad,d.1=some ad->ad.block∉T)/\d.2.2.length<=d.2.1/\d.2.1<=9223372036854775807/\(∀x∈d.2.2,x<256)/\d.2.2.length<=9000000
theorem DataF.turn{w w':World}{A:Option Addr}{D:List zix}{T T':List Nat}(h:DataF w A D T)(k:Turns T w w')(hT:∀x,x<w.heap.size->x∉T->x∉T'):DataF w' A D T':=by
 refine⟨zg3 h.row k h.far,fun hn ad ha=>?_,fun d hd=>?_⟩
 ·obtain⟨ad',e,hb,_⟩:=h.row.2 hn
  rw[ha] at e;injection e with e;subst e;exact hT _ hb (h.far hn ad ha)
 ·obtain⟨a1,a2,a3,a4,a5,a6⟩:=h.at_ d hd
  refine⟨zg3 a1 k a2,fun hn ad ha=>?_,a3,a4,a5,a6⟩;obtain⟨ad',e,hb,_⟩:=a1.2 hn;rw[ha] at e;injection e with e;subst e;exact hT _ hb (a2 hn ad ha)
theorem LogOf.keepB{t u:TypeId}{w w':World}{base g x:Nat}{V:Value}{L:List (List Nat)}{cs:Array Value}(h:LogOf t w base g V L)(B:Blk w x u cs)(h1:t≠u)(h2:24≠u)(h3:5≠u)(k:w.grownBy w' (some x)):LogOf t w' base g V L:=by
 have hx:=h.notT B h1 h2;refine h.turn (T:=[x]) (Turns.of_far k (by simp)) (fun hm=>?_) (fun y hy e=>?_) (fun y hy _ cs' hB=>?_)
 ·obtain rfl:=List.mem_singleton.1 hm
  exact hx (by simp)
 ·obtain rfl:=List.mem_singleton.1 hy
  exact hx (List.mem_cons_of_mem _ (zzn e))
 ·obtain rfl:=List.mem_singleton.1 hy
  exact Blk.ne_ hB B h3 rfl
theorem Turns.behind{w w1 w2:World}{T:List Nat}{x:Nat}(h:Turns T w w1)(k:w1.grownBy w2 (some x))(hx:w.heap.size<=x):Turns T w w2:=
 ⟨k.os.trans h.os,k.tape.trans h.tape,k.output.trans h.output,Nat.le_trans h.size k.size,fun i hi hT=>(k.block i (Nat.lt_of_lt_of_le hi h.size) (fun e=>by injection e with e;omega)).trans (h.block i hi hT)⟩
def z4i:List Value:=List.replicate 32 (.int .u8 0)
def qj3(w:World)(base g go:Nat)(V:Value)(F:List (List Nat))(s:List Nat)(Dl:List (List Nat))(k:Nat)(W:World):Prop:=
 ∃V',LogOf tL W base g V' (F++qaa s Dl k)/\(V'.ownBlock=V.ownBlock\/ ∃h,V'.ownBlock=some h/\w.heap.size<=h)/\Turns (g::zbm V) w W/\Blk W go tD (recs zh4 (z15 s Dl k)++(List.replicate (Dl.length-k) z4i).flatten).toArray
set_option maxRecDepth 100000 in
theorem zr5{w:World}{base g:Nat}{V:Value}{F:List (List Nat)}(hL:LogOf tL w base g V F)(hbs:base<=w.heap.size){s:List Nat}{A:Option Addr}{c:Nat}{D:List zix}(hs8:∀x∈s,x<256)(hs:s.length<=140737488351232)(hD:DataF w A D (g::zbm V))(hF:F.length+D.length<=9000000)(hC:∀w',Turns (g::zbm V) w w'->ConstIn w'):
 Calls Tryz.prog 10 #[.pointer (some ⟨g,0,none⟩),.string (zad s),.slice A D.length c] w (z1e (lvD s (D.map (·.2.2))) base g V (F++lvF s (D.map (·.2.2))) w):=by
 obtain⟨Dl,hDl⟩:∃Dl,Dl=D.map (·.2.2):=⟨_,rfl⟩;rw[<-hDl];have hdl:Dl.length=D.length:=by rw[hDl,List.length_map]
 have HD:=Hz hD;have HL:=Hz hL;have HC:=Hz hC;have HB:=Hz hbs;have HDl:=Hz hDl;have HSs:=Hz (And.intro hs8 hs);have hdn:=Hz hdl;clear hD hL hC hbs hDl hs8 hs hdl;go_enter Tryz.func10,Tryz.ntmps10
 go_wp2_with (refine z4h elD (by simp) rfl (.tmp 11) (.tmp 11) rfl D.length rfl rfl rfl rfl (by omega) (by simp only[maxLen];omega) ?_
              intro w1 B1 n1 z1)
 have hdn:=hdn;have S0:qj3 w base g w.heap.size V F s Dl 0 w1:=by
  refine⟨V,by simpa[qaa] using HL.out.new n1,.inl rfl,Turns.of_new n1,?_⟩;have e:recs zh4 (z15 s Dl 0)++(List.replicate (Dl.length-0) z4i).flatten=(List.replicate D.length (Array.replicate 32 (Value.int .u8 0)).toList).flatten:=by rw[hdn.out];simp[z15,recs,z4i]
  rw[e];exact B1
 have S0:=Hz S0;have HF:=hF;clear B1 z1 n1;go_wp2_with fail
 go_loopw [15] (fun i wr=>∃k:Nat,k<=D.length/\i= .int .i64 (k:Int)/\Hid (qj3 w base g w.heap.size V F s Dl k wr)) (fun i _=>D.length-(intOf i).toNat)
 case atStart=>exact⟨0,Nat.zero_le _,rfl,S0⟩
 case round=>
  obtain⟨k,hk,rfl,HS⟩:=hrel;clear S0;by_cases hlt:k<D.length
  ·obtain⟨V1,l1,a1,t1,B1⟩:=HS.out
   have hD1:=HD.out.turn t1 (T':=g::zbm V1) (fun x hx hm=>zsh hm hx a1);obtain⟨ad,rfl,hb,hc⟩:=z8l hD1.row hlt;obtain⟨p1,p2,p3,p4,p5,p6⟩:=hD1.at_ _ (zea (none,0,[]) hlt);have hfl:(F++qaa s Dl k).length<=10000000:=by have:=qbb s Dl k;rw[List.length_append];omega
   have hg:Dl.getD k []=(D.getD k (none,0,[])).2.2:=by rw[HDl.out,List.getD_eq_getElem?_getD,List.getElem?_map,List.getElem?_eq_getElem hlt,List.getD_eq_getElem?_getD,List.getElem?_eq_getElem hlt];rfl
   have LF:=zzk (k:=(k:Int)) (n:=(D.length:Int)) (s:=s) l1 (Nat.le_trans HB.out t1.size) hfl HSs.out.1 HSs.out.2 p1 p5 p6 p3 p4 (fun w' q=>HC.out w' (zbp t1 a1 q));rw[zj2] at LF;have e1:=z52 s Dl k;have e2:=zuk s Dl k;rw[hdn.out,hg] at e1 e2;have E1:=Hz e1;have E2:=Hz e2;clear hg;generalize D.getD k (none,0,[])=d at*;obtain⟨da,dc,db⟩:=d;dsimp only at hc LF E1 E2;have hHd:=zb7 s (leafP (k:Int) (D.length:Int) db);have hki:(k:Int)<(D.length:Int):=by omega
   generalize zb2 s (leafP (k:Int) (D.length:Int) db)=hd at*;generalize(za4 s (leafP (k:Int) (D.length:Int) db)).toList=fr at*;have LF:=Hz LF;have B1:=Hz B1;have l1:=Hz l1;have t1:=Hz t1;have a1:=Hz a1;have hHd:=Hz hHd;clear hD1 hb p1 p2 p3 p4 p5 p6 hfl e1 e2;go_wp2_with fail
   refine LF.out.mono ?_;rintro e w2 ⟨rfl,V2,l2,a2,t2⟩;have B2:=B1.out.touch t2 (l1.out.notT B1.out (by decide) (by decide));have e4:D.length-k=(D.length-(k+1))+1:=by omega
   rw[hdn.out,e4,List.replicate_succ,List.flatten_cons] at B2;have hlA:(recs zh4 (z15 s Dl k)).length=k*32:=by rw[zau (sz:=32) ze8,qba]
   have hA1:=Hz l1;have B2:=Hz B2;clear LF B1 e4
   go_wp2_with (refine ztx rfl tD (.tmp 29) (.tmp 28) rfl w.heap.size (zao .u8 hd).toArray rfl rfl B2.out hlA (by simp[z4i,zao,hHd.out.1]) (qfz hHd.out.1) (z1y _) ?_
                intro W3 B3 g3 z3)
   have HSn:qj3 w base g w.heap.size V F s Dl (k+1) W3:=by
    refine⟨V2,?_,zf5 t1.out.size a1.out a2,Turns.behind (zbp t1.out a1.out t2) g3 (Nat.le_refl _),?_⟩
    ·rw[E2.out,<-List.append_assoc]
     exact l2.keepB B2.out (by decide) (by decide) (by decide) g3
    ·have e5:recs zh4 (z15 s Dl (k+1))++(List.replicate (Dl.length-(k+1)) z4i).flatten=recs zh4 (z15 s Dl k)++((zao .u8 hd).toArray.toList++(List.replicate (D.length-(k+1)) z4i).flatten):=by
      rw[E1.out,hdn.out,zbb,List.append_assoc];congr 2
      show zh4 hd++[]=_;rw[List.append_nil,zxb hHd.out.1]
     rw[e5];exact B3
   have HSn:=Hz HSn;clear HS HD HL HC HSs l2 a2 t2 B2 B3 g3 z3 hA1 t1 a1 E1 E2;go_wp2_with fail
   go_roundw
   case rel=>exact⟨k+1,by omega,by go_num,HSn⟩
   case measure=>simp[intOf];omega
  ·obtain rfl:k=D.length:=by omega
   obtain⟨V1,l1,a1,t1,B1⟩:=HS.out;have hlen:(lvD s Dl).length=D.length:=by rw[zl0,hdn.out]
   have e6:z15 s Dl D.length=lvD s Dl:=by unfold z15 lvD;rw[hdn.out]
   have e7:qaa s Dl D.length=lvF s Dl:=by unfold qaa lvF;rw[hdn.out]
   rw[hdn.out,Nat.sub_self,List.replicate_zero,List.flatten_nil,List.append_nil,e6] at B1;rw[e7] at l1;have R:=zws (n:=(lvD s Dl).length) (sz:=32) B1 (by rw[zau (sz:=32) ze8]) (by rw[hlen];simp only[maxLen];omega);have R:=Hz R;have HP:=Hz (And.intro l1 (And.intro a1 t1));have hlen:=Hz hlen;clear HS HD HL HC HSs B1 l1 a1 t1 e6 e7;go_wp2_with fail
   go_ret
   exact⟨_,rfl,by have:=R.out;rw[hlen.out] at this⊢;exact this,V1,HP.out.1,HP.out.2.1,HP.out.2.2⟩
open Go.RowKit Go.Hm
def kindS:List (List Nat):=[zcg,zew,zei,ze3]
def KindsIn(w:World):Prop:=0<w.heap.size/\ ∀i,i<4->w.cell? ⟨0,i,none⟩=some (.string (zad (kindS.getD i [])))
theorem KindsIn.new{w w':World}(h:KindsIn w)(hb:New w w'):KindsIn w':=⟨Nat.lt_of_lt_of_le h.1 hb.size,fun i hi=>(hb.cell h.1).trans (h.2 i hi)⟩
def GlobIn(w:World):Prop:=ConstIn w/\KindsIn w
theorem GlobIn.new{w w':World}(h:GlobIn w)(hb:New w w'):GlobIn w':=⟨h.1.new hb,h.2.new hb⟩
theorem qe4(s:List Nat)(D:List (List Nat)):ovD s D=(zcw (lvD s D)).1:=by unfold ovD;rfl
theorem qe5(s:List Nat)(D:List (List Nat)):ovF s D=lvF s D++(zcw (lvD s D)).2:=by unfold ovF;rfl
theorem zny{w:World}{base base' g n c:Nat}{A:Option Addr}{V:Value}{F L:List (List Nat)}(h:w.ownsRow base' tD 32 (.slice A n c) n (recs zh4 L))(hn:n=L.length)(hd:Digs L)(l:LogOf tL w base g V F):LeafIn w A L (g::zbm V):=by
 subst hn;refine⟨Reads.of_own h,hd,fun h0 ad ha=>?_⟩;subst ha;rcases h.2 with⟨e,h2⟩|⟨g',cap,cur,hv,_,hg,_⟩
 ·omega
 ·injection hv with e1 e2 e3
  injection e1 with e1;subst e1;exact l.notT (show Blk w g' tD cur from hg) (by decide) (by decide)
set_option maxRecDepth 100000 in
theorem z9y{w:World}{base g:Nat}{V:Value}{F:List (List Nat)}(hL:LogOf tL w base g V F)(hbs:base<=w.heap.size){A:Option Addr}{c:Nat}{D:List zix}(hD:DataF w A D (g::zbm V))(hF:F.length+2*D.length<=8000000)(hG:∀w',Turns (g::zbm V) w w'->GlobIn w'):
 Calls Tryz.prog 12 #[.pointer (some ⟨g,0,none⟩),.slice A D.length c] w (zfk tL (dV (ovD zcg (D.map (·.2.2)))) base g V (F++ovF zcg (D.map (·.2.2))) w):=by
 rw[qe4,qe5];have DG:=zhr zcg (D.map (·.2.2));have LL:=zl0 zcg (D.map (·.2.2));have FL:=zxf zcg (D.map (·.2.2));rw[List.length_map] at LL FL;have c0:=zah w (.cells (za0 .u8 zat).toArray 35);have G0:=Blk.new w 35 (za0 .u8 zat).toArray;have hgl:g<w.heap.size:=hL.lt;obtain⟨W0,hW0⟩:∃W,W=w.alloc (.cells (za0 .u8 zat).toArray 35):=⟨_,rfl⟩;rw[<-hW0] at c0 G0;have LV:=Hz (zr5 (w:=W0) (c:=c) (s:=zcg) (hL.new c0) (Nat.le_trans hbs c0.size) (by decide) (by decide) (hD.turn (Turns.of_new c0) (fun _ _ h=>h)) (by omega) (fun w' k=>(hG w' ((Turns.of_new c0).trans k)).1));have K0:=(hG W0 (Turns.of_new c0)).2.2 0 (by omega);have K0:W0.cell? ⟨0,0,none⟩=some (.string (zad zcg)):=K0;have HW:=Hz hW0;have HL:=Hz hL;have HG:=Hz hG;have C0:=Hz c0;have HBS:=Hz hbs;have L1:=zdn _ DG;rw[<-List.append_assoc];generalize lvD zcg (D.map (·.2.2))=Lv at*;generalize lvF zcg (D.map (·.2.2))=Fv at*;obtain⟨cs,hdv,I32,ZS,ONE,hcs⟩:=zgm L1;have HV:=Hz hdv;replace I32:=Hz I32;replace ZS:=Hz ZS;replace ONE:=Hz ONE;replace DG:=Hz DG;replace G0:=Hz G0;replace LL:=Hz LL;replace FL:=Hz FL;have HGL:=Hz hgl;rw[hdv];clear L1 hcs hdv hgl;have K1:=K0;rw[show W0=w.alloc (.cells #[.int .u8 0,.int .u8 0,.int .u8 0,.int .u8 0,.int .u8 0,.int .u8 0,.int .u8 0,.int .u8 0,.int .u8 0,.int .u8 0,.int .u8 0,.int .u8 0,.int .u8 0,.int .u8 0,.int .u8 0,.int .u8 0,.int .u8 0,.int .u8 0,.int .u8 0,.int .u8 0,.int .u8 0,.int .u8 0,.int .u8 0,.int .u8 0,.int .u8 0,.int .u8 0,.int .u8 0,.int .u8 0,.int .u8 0,.int .u8 0,.int .u8 0,.int .u8 0] 35) from hW0] at K1;clear hW0 hL hG c0 hbs hD K0;go_enter Tryz.func12,Tryz.ntmps12
 go_wp2_with fail
 rw[show w.alloc (.cells #[.int .u8 0,.int .u8 0,.int .u8 0,.int .u8 0,.int .u8 0,.int .u8 0,.int .u8 0,.int .u8 0,.int .u8 0,.int .u8 0,.int .u8 0,.int .u8 0,.int .u8 0,.int .u8 0,.int .u8 0,.int .u8 0,.int .u8 0,.int .u8 0,.int .u8 0,.int .u8 0,.int .u8 0,.int .u8 0,.int .u8 0,.int .u8 0,.int .u8 0,.int .u8 0,.int .u8 0,.int .u8 0,.int .u8 0,.int .u8 0,.int .u8 0,.int .u8 0] 35)=W0 from HW.out.symm];refine LV.out.mono ?_;rintro e w2 ⟨v,rfl,o2,V2,l2,a2,t2⟩;obtain⟨A2,c2,rfl,q1,q2⟩:=zd8 o2;have t2':Turns (g::zbm V) w w2:=(Turns.of_new C0.out).trans t2;have a2':V2.ownBlock=V.ownBlock\/ ∃h,V2.ownBlock=some h/\w.heap.size<=h:=a2.imp id fun⟨h,h1,h2⟩=>⟨h,h1,Nat.le_trans C0.out.size h2⟩
 have g2:=G0.out.touch t2 ((HL.out.new C0.out).notT G0.out (by decide) (by decide));have nr2:w.heap.size∉g::zbm V2:=l2.notT g2 (by decide) (by decide);have RT:=Hz (zzl (Lv.length+1) (Nat.lt_succ_self _) l2 (Nat.le_trans HBS.out t2'.size) (by have:=LL.out;have:=FL.out;rw[List.length_append];omega) (zny o2 rfl DG.out l2) q1 (by simp only[maxLen] at q2;omega) (fun w' k=>(HG.out w' (zbp t2' a2' k)).1));have T2:=Hz t2';have A2':=Hz a2';have G2:=Hz g2;have NR:=Hz nr2;clear q1 q2 K1 o2 l2 a2 t2 t2' a2' g2 nr2 LV G0;go_wp2_with fail
 refine RT.out.mono ?_;rintro e w4 ⟨rfl,V4,l4,a4,t4⟩;have g4:=G2.out.touch t4 NR.out;have PS:=Hz (zde HGL.out l4 (zf5 T2.out.size A2'.out a4) (zbp T2.out A2'.out t4) g4 cs);have H:=Hz (And.intro (zaz g4) (zbg g4 cs));rw[HV.out];clear l4 a4 t4 g4 RT;go_wp2_with (refine wpList_store_row rfl 35 (.tmp 4) (.tmp 11) rfl w.heap.size cs rfl rfl _ _ H.out.1 I32.out ZS.out ONE.out ?_)
 exact bodyPost_ret (results_cell_row rfl _ _ w.heap.size _ cs (0,0) _ rfl H.out.2 zcd rfl I32.out) rfl ⟨rfl,by simpa only[List.append_assoc] using PS.out⟩
open Go.RowKit Go.Hm
def zh8(A:Option Addr)(L:List (List Nat)):List zix:=(List.range L.length).map fun k=>(A.map (·.add (k*32)),32,L.getD k [])
theorem zhf(A:Option Addr)(L:List (List Nat)):(zh8 A L).length=L.length:=by simp[zh8]
theorem zy3(A:Option Addr)(L:List (List Nat)):(zh8 A L).map (·.2.2)=L:=by
 refine List.ext_getElem (by simp[zh8]) fun i h1 h2=>?_
 simp[zh8,List.getD_eq_getElem?_getD,List.getElem?_eq_getElem h2]
theorem qd1(A:Option Addr)(L:List (List Nat)){k:Nat}(hk:k<L.length):(zh8 A L).getD k (none,0,[])=(A.map (·.add (k*32)),32,L.getD k []):=by rw[List.getD_eq_getElem?_getD];simp[zh8,hk]
theorem z9z{A:Option Addr}{L:List (List Nat)}{d:zix}(h:d∈zh8 A L):∃k,k<L.length/\d=(A.map (·.add (k*32)),32,L.getD k []):=by unfold zh8 at h;obtain⟨k,hk,rfl⟩:=List.mem_map.1 h;exact⟨k,List.mem_range.1 hk,rfl⟩
theorem z4j(A:Option Addr)(L:List (List Nat)){k:Nat}(hk:k<L.length):(zh8 A L).take (k+1)=(zh8 A L).take k++[(A.map (·.add (k*32)),32,L.getD k [])]:=by
 have e:=qd1 A L hk;have hk':k<(zh8 A L).length:=by rw[zhf];exact hk
 rw[List.getD_eq_getElem?_getD,List.getElem?_eq_getElem hk'] at e;rw[<-e,List.take_add_one,List.getElem?_eq_getElem hk'];rfl
theorem LeafIn.subs{w:World}{A:Option Addr}{L:List (List Nat)}{T:List Nat}(h:LeafIn w A L T):∀d∈zh8 A L,BytIn w d/\(0<d.2.2.length-> ∀ad,d.1=some ad->ad.block∉T)/\d.2.2.length<=d.2.1/\d.2.1<=9223372036854775807/\(∀x∈d.2.2,x<256)/\d.2.2.length<=9000000:=by
 intro d hd;obtain⟨k,hk,rfl⟩:=z9z hd;obtain⟨ad,e,hc⟩:=h.at_ hk;obtain⟨ad',e',hb,_⟩:=h.row.2 (by omega);rw[e] at e';injection e' with e';subst e';subst e;have hm:L.getD k []∈L:=zea [] hk;obtain⟨d1,d2⟩:=h.digs _ hm;refine⟨⟨by simp[zao],fun _=>⟨_,rfl,by rw[zaj];exact hb,fun j u hu=>hc w (Below.refl _ _) j u hu⟩⟩,fun _ a ha=>?_,?_,?_,d2,?_⟩
 ·simp only[Option.map_some,Option.some.injEq] at ha
  subst ha;rw[zaj];exact h.far (by omega) _ rfl
 all_goals simp only;omega
theorem z1f{i:Nat}(h:i<4):(∀x∈kindS.getD i [],x<256)/\(kindS.getD i []).length<=140737488351232:=by
 match i,h with
 |0,_=>exact by decide
 |1,_=>exact by decide
 |2,_=>exact by decide
 |3,_=>exact by decide
theorem qd2{α:Type}(X Y:List α)(o u:α){k:Nat}(h:X.length=k):(X++o::Y).toArray.setIfInBounds k u=(X++u::Y).toArray:=by subst h;rw[List.setIfInBounds_toArray,List.set_append_right _ _ (Nat.le_refl _),Nat.sub_self];rfl
def qj4(w:World)(A:Option Addr)(L:List (List Nat))(k:Nat)(W:World):Prop:=
 New w W/\Blk W w.heap.size tD (za0 .u8 zat).toArray/\Blk W (w.heap.size+1) 24 (recs zib ((zh8 A L).take k)++List.replicate (L.length-k) (Value.slice none 0 0)).toArray
set_option maxRecDepth 100000 in
theorem zwt{w:World}{base g:Nat}{V:Value}{F:List (List Nat)}(hL:LogOf tL w base g V F)(hbs:base<=w.heap.size){A:Option Addr}{c:Nat}{L:List (List Nat)}(hl:LeafIn w A L (g::zbm V)){i:Nat}(hi:i<4)(hF:F.length+2*L.length<=8000000)(hG:∀w',Turns (g::zbm V) w w'->GlobIn w'):
 Calls Tryz.prog 38 #[.pointer (some ⟨g,0,none⟩),.int .i64 (i:Int),.slice A L.length c] w (zfk tL (dV (ovD (kindS.getD i []) L)) base g V (F++ovF (kindS.getD i []) L) w):=by
 rw[qe4,qe5,<-List.append_assoc];have DG:=zhr (kindS.getD i []) L;have LL:=zl0 (kindS.getD i []) L;have FL:=zxf (kindS.getD i []) L;have L1:=zdn _ DG;obtain⟨Lv,hLv⟩:∃x,x=lvD (kindS.getD i []) L:=⟨_,rfl⟩;obtain⟨Fv,hFv⟩:∃x,x=lvF (kindS.getD i []) L:=⟨_,rfl⟩;obtain⟨ks,hks⟩:∃x,x=kindS.getD i []:=⟨_,rfl⟩;rw[<-hLv] at DG LL L1⊢;rw[<-hFv] at FL⊢;rw[<-hks] at hLv hFv;obtain⟨cs,hdv,I32,ZS,ONE,hcs⟩:=zgm L1;rw[hdv];have HV:=Hz hdv;have HK:=Hz hks;have HLV:=Hz hLv;have HFV:=Hz hFv;replace I32:=Hz I32;replace ZS:=Hz ZS;replace ONE:=Hz ONE;replace DG:=Hz DG;replace LL:=Hz LL;replace FL:=Hz FL;clear hcs hdv L1 hks hLv hFv;have c0:=zah w (.cells (za0 .u8 zat).toArray 35);have G0:=Blk.new w 35 (za0 .u8 zat).toArray;have hgl:g<w.heap.size:=hL.lt;have HGL:=Hz hgl;have HL:=Hz hL;have HG:=Hz hG;have HBS:=Hz hbs;have HLf:=Hz hl;have C0:=Hz c0;replace G0:=Hz G0;clear hL hG hbs hl hgl c0;go_enter Tryz.func38,Tryz.ntmps38
 go_wp2_with (refine zmg elR rfl (.tmp 10) (.tmp 10) rfl L.length rfl rfl rfl rfl rfl (by omega) (by simp only[maxLen];omega) ?_
              intro w1 B1 n1 z1)
 rw[World.size_alloc] at B1;have S0:qj4 w A L 0 w1:=⟨New.trans C0.out n1,G0.out.below n1 G0.out.lt,by simpa[recs] using B1⟩;replace S0:=Hz S0;clear B1 n1 z1;have HF:=hF;go_loopw [14] (fun j wr=>∃k:Nat,k<=L.length/\j= .int .i64 (k:Int)/\Hid (qj4 w A L k wr)) (fun j _=>L.length-(intOf j).toNat)
 case atStart=>exact⟨0,Nat.zero_le _,rfl,S0⟩
 case round=>
  obtain⟨k,hk,rfl,HS⟩:=hrel;clear S0;by_cases hlt:k<L.length
  ·obtain⟨N1,G1,B1⟩:=HS.out
   obtain⟨ad,rfl,hb,hc⟩:=HLf.out.row.2 (by omega);have hd32:(L.getD k []).length=32:=(HLf.out.digs _ (zea [] hlt)).1;have e4:L.length-k=(L.length-(k+1))+1:=by omega
   have hX:(recs zib ((zh8 (some ad) L).take k)).length=k:=by rw[zau (sz:=1) z0s,List.length_take,zhf];omega
   rw[e4,List.replicate_succ] at B1;have hki:(k:Int)<(L.length:Int):=by omega
   replace N1:=Hz N1;replace G1:=Hz G1;replace B1:=Hz B1;replace hX:=Hz hX;replace hd32:=Hz hd32;clear hb hc e4
   go_wp2_with (refine zeu rfl 24 (.tmp 23) (.tmp 22) rfl (w.heap.size+1) k (.slice (some (ad.add (k*32))) 32 32) rfl rfl B1.out (by have:=hX.out;simp;omega) (by kernel_rfl) rfl ?_
                intro W3 B3 g3 z3)
   have HSn:qj4 w (some ad) L (k+1) W3:=by
    refine⟨zbe N1.out g3 (Nat.le_succ _) (Nat.le_refl _),G1.out.touch (Turns.of_far (T:=[w.heap.size+1]) g3 (by simp)) (by simp),?_⟩;rw[qd2 _ _ _ _ hX.out] at B3;have e5:recs zib ((zh8 (some ad) L).take (k+1))++List.replicate (L.length-(k+1)) (Value.slice none 0 0)=recs zib ((zh8 (some ad) L).take k)++Value.slice (some (ad.add (k*32))) 32 32::List.replicate (L.length-(k+1)) (Value.slice none 0 0):=by
     rw[z4j _ _ hlt,zbb,List.append_assoc];congr 1
     show zib _++[]++_=_;unfold zib;rw[hd32.out];rfl
    rw[e5];exact B3
   have HSn:=Hz HSn;clear HS B3 g3 z3 N1 G1 B1 hX;go_wp2_with fail
   case' roundEnd=>skip
   exact⟨⟨k+1,by omega,by go_num,HSn⟩,by simp[intOf];omega⟩
  ·obtain rfl:k=L.length:=by omega
   obtain⟨N1,G1,B1⟩:=HS.out;rw[Nat.sub_self,List.replicate_zero,List.append_nil,<-zhf A L,List.take_length] at B1;have nT:w.heap.size+1∉g::zbm V:=by
    intro hm;rcases List.mem_cons.1 hm with e|hm
    ·have:=HGL.out;omega
    ·obtain⟨A',n',c',D',e',_,o',_⟩:=HL.out
     rw[e'] at hm;rcases o'.2 with⟨e2,_⟩|⟨g',cap,cur,hv,_,hg,_⟩
     ·rw[e2] at hm
      simp[zbm,Value.ownBlock] at hm
     ·rw[hv] at hm
      simp[zbm,Value.ownBlock] at hm;have:=Blk.lt (show Blk w g' _ cur from hg);omega
   have hlN:=HLf.out.turn (Turns.of_new N1) (fun _ _ h=>h);have hD:DataF wr (some ⟨w.heap.size+1,0,none⟩) (zh8 A L) (g::zbm V):=by refine⟨Reads.of_own (zws (sz:=1) B1 (by rw[zau (sz:=1) z0s]) (by rw[zhf];simp only[maxLen];omega)),fun _ ad ha=>?_,LeafIn.subs hlN⟩;injection ha with ha;subst ha;exact nT
   have LV:=zr5 (w:=wr) (c:=L.length) (s:=kindS.getD i []) (HL.out.new N1) (Nat.le_trans HBS.out N1.size) (z1f hi).1 (z1f hi).2 hD (by rw[zhf];omega) (fun w' k=>(HG.out w' ((Turns.of_new N1).trans k)).1);rw[zhf,zy3] at LV;have K1:wr.cell? ⟨0,i,none⟩=some (.string (zad (kindS.getD i []))):=(HG.out wr (Turns.of_new N1)).2.2 i hi;rw[<-HK.out,<-HLV.out,<-HFV.out] at LV;rw[<-HK.out] at K1;replace LV:=Hz LV;replace N1:=Hz N1;replace G1:=Hz G1;have hil:(i:Int)<4:=by omega
   clear HS B1 nT hlN hD C0 G0 hk hlt;go_wp2_with fail
   refine LV.out.mono ?_;rintro e w2 ⟨v,rfl,o2,V2,l2,a2,t2⟩;obtain⟨A2,c2,rfl,q1,q2⟩:=zd8 o2;have t2':Turns (g::zbm V) w w2:=(Turns.of_new N1.out).trans t2;have a2':V2.ownBlock=V.ownBlock\/ ∃h,V2.ownBlock=some h/\w.heap.size<=h:=a2.imp id fun⟨h,h1,h2⟩=>⟨h,h1,Nat.le_trans N1.out.size h2⟩
   have g2:=G1.out.touch t2 ((HL.out.new N1.out).notT G1.out (by decide) (by decide));have nr2:w.heap.size∉g::zbm V2:=l2.notT g2 (by decide) (by decide);have RT:=Hz (zzl (Lv.length+1) (Nat.lt_succ_self _) l2 (Nat.le_trans HBS.out t2'.size) (by have:=LL.out;have:=FL.out;rw[List.length_append];omega) (zny o2 rfl DG.out l2) q1 (by simp only[maxLen] at q2;omega) (fun w' k=>(HG.out w' (zbp t2' a2' k)).1));have T2:=Hz t2';have A2':=Hz a2';have G2:=Hz g2;have NR:=Hz nr2;clear q1 q2 K1 o2 l2 a2 t2 t2' a2' g2 nr2 LV G1 N1;go_wp2_with fail
   refine RT.out.mono ?_;rintro e w4 ⟨rfl,V4,l4,a4,t4⟩;have g4:=G2.out.touch t4 NR.out;have PS:=Hz (zde HGL.out l4 (zf5 T2.out.size A2'.out a4) (zbp T2.out A2'.out t4) g4 cs);have H:=Hz (And.intro (zaz g4) (zbg g4 cs));rw[HV.out];clear l4 a4 t4 g4 RT;go_wp2_with (refine wpList_store_row rfl 35 (.tmp 6) (.tmp 32) rfl w.heap.size cs rfl rfl _ _ H.out.1 I32.out ZS.out ONE.out ?_)
   exact bodyPost_ret (results_cell_row rfl _ _ w.heap.size _ cs (0,0) _ rfl H.out.2 zcd rfl I32.out) rfl ⟨rfl,by simpa only[List.append_assoc] using PS.out⟩
open Go.RowKit Go.Hm
def BIn(w W:World)(A:Option Addr)(b:List Nat):Prop:=
 Reads w w.heap.size 1 A b.length (zao .u8 b)\/(Reads W W.heap.size 1 A b.length (zao .u8 b)/\(0<b.length-> ∀ad,A=some ad-> ∃cs,Blk W ad.block 5 cs))
theorem BIn.keep{w W W':World}{A:Option Addr}{b:List Nat}(h:BIn w W A b)(k:KeepC W W'):BIn w W' A b:=by
 refine h.imp id fun⟨r,c⟩=>⟨⟨r.1,fun hn=>?_⟩,fun hn ad ha=>?_⟩
 ·obtain⟨ad,e,hb,hc⟩:=r.2 hn
  obtain⟨cs,B⟩:=c hn ad e;have B':=k.2 _ _ _ (by decide) (by decide) B;refine⟨ad,e,B'.lt,fun j u hu=>?_⟩;have e2:W'.heap[(ad.add j).block]? =W.heap[(ad.add j).block]? :=by rw[zaj];exact Eq.trans B' (Eq.symm B)
  rw[World.cell?_of_block e2];exact hc j u hu
 ·obtain⟨cs,B⟩:=c hn ad ha
  exact⟨cs,k.2 _ _ _ (by decide) (by decide) B⟩
theorem BIn.arg{w W:World}{A:Option Addr}{b:List Nat}(h:Reads w w.heap.size 1 A b.length (zao .u8 b)):BIn w W A b:= .inl h
theorem BIn.own{w W:World}{base n c:Nat}{A:Option Addr}{b:List Nat}(h:Go.Hm.Own W base 5 (.slice A n c) (zao .u8 b))(hn:n=b.length):BIn w W A b:=by
 subst hn;refine .inr ⟨h.reads,fun h0 ad ha=>?_⟩;subst ha;unfold Go.Hm.Own at h;rw[zaa] at h;rcases h.2 with⟨e,h2⟩|⟨g,cap,cur,hv,_,hg,_⟩
 ·omega
 ·injection hv with e1 e2 e3
  injection e1 with e1;subst e1;exact⟨cur,hg⟩
theorem BIn.reads{w W:World}{A:Option Addr}{b:List Nat}(h:BIn w W A b)(n:New w W):Reads W W.heap.size 1 A b.length (zao .u8 b):=h.elim (fun r=>Reads.later r n) fun r=>r.1
theorem BIn.far{w W:World}{g:Nat}{V:Value}{F:List (List Nat)}{A:Option Addr}{b:List Nat}(h:BIn w W A b)(hg:w.heap.size<=g)(l:LogOf tL W w.heap.size g V F):0<b.length-> ∀ad,A=some ad->ad.block∉g::zbm V:=by
 intro hn ad ha;rcases h with r|⟨_,c⟩
 ·obtain⟨ad',e,hb,_⟩:=r.2 hn
  rw[ha] at e;injection e with e;subst e;intro hm;have:=l.own (B:=w.heap.size) (Nat.le_refl _) hg _ hm;omega
 ·obtain⟨cs,B⟩:=c hn ad ha
  exact l.notT B (by decide) (by decide)
def Tw(w:World)(g h:Nat)(W:World)(F F':List (List Nat)):Prop:=
 ∃V V',LogOf tL W w.heap.size g V F/\LogOf tL W w.heap.size h V' F'/\(∀x∈zbm V',V.ownBlock≠some x)/\New w W
def TwPost(v:Value)(w:World)(g h:Nat)(F F':List (List Nat))(W:World)(e:Ending)(W':World):Prop:=e= .returned v/\Tw w g h W' F F'/\KeepC W W'
section
variable{w W W':World}{g h:Nat}{F F' F2:List (List Nat)}
theorem Tw.new(l:Tw w g h W F F')(n:New W W'):Tw w g h W' F F':=by obtain⟨V,V',l1,l2,a,b⟩:=l;exact⟨V,V',l1.new n,l2.new n,a,New.trans b n⟩
theorem Tw.news(l:Tw w g h W F F'):New w W:=by obtain⟨V,V',l1,l2,a,b⟩:=l;exact b
theorem Tw.swap(l:Tw w g h W F F'):Tw w h g W F' F:=by obtain⟨V,V',l1,l2,a,b⟩:=l;exact⟨V',V,l2,l1,zq2 a,b⟩
theorem Tw.log(l:Tw w g h W F F'):∃V,LogOf tL W w.heap.size g V F:=by obtain⟨V,V',l1,l2,a,b⟩:=l;exact⟨V,l1⟩
theorem Tw.call{v V:Value}(l:Tw w g h W F F')(hg:w.heap.size<=g)(hne:g≠h)(lV:LogOf tL W w.heap.size g V F){e:Ending}(p:zfk tL v w.heap.size g V F2 W e W'):TwPost v w g h F2 F' W e W':=by obtain⟨V1,V',l1,l2,ap,b⟩:=l;obtain rfl:=z9x l1 lV;obtain⟨rfl,V2,l',a,t⟩:=p;exact⟨rfl,⟨V2,V',l',l2.beside (by decide) (by decide) (by decide) l1 (Ne.symm hne) (zq2 ap) t,z14 ap (fun x hx=>(l2.ge x hx).2) a,Turns.below b t (l1.own (Nat.le_refl _) hg) (Nat.le_refl _)⟩,KeepC.log l1 t⟩
end
theorem TwPost.swap{v:Value}{w:World}{g h:Nat}{F F':List (List Nat)}{W:World}{e:Ending}{W':World}(p:TwPost v w g h F F' W e W'):TwPost v w h g F' F W e W':=⟨p.1,p.2.1.swap,p.2.2⟩
def KeepB(w a b:World):Prop:=KeepC a b/\Below w.heap.size a b
theorem KeepB.refl(w a:World):KeepB w a a:=⟨KeepC.refl a,Below.refl _ _⟩
theorem KeepB.trans{w a b c:World}(h:KeepB w a b)(k:KeepB w b c):KeepB w a c:=⟨h.1.trans k.1,h.2.trans k.2⟩
theorem KeepB.new{w a b:World}(h:New w a)(k:New a b):KeepB w a b:=⟨KeepC.new k,k.mono h.size⟩
theorem KeepB.log{w a b:World}(h:New w a)(h2:New w b)(k:KeepC a b):KeepB w a b:=
 ⟨k,⟨h2.os.trans h.os.symm,h2.tape.trans h.tape.symm,h2.output.trans h.output.symm,k.1,fun i hi=>(h2.block i hi).trans (h.block i hi).symm⟩⟩
theorem KeepC.own{W W':World}{base:Nat}{v:Value}{xs:List Value}(h:Go.Hm.Own W base 5 v xs)(k:KeepC W W'):Go.Hm.Own W' base 5 v xs:=by
 unfold Go.Hm.Own at h⊢;refine⟨h.1,?_⟩;rcases h.2 with hn|⟨g,cap,cur,hv,hbg,hgg,rest⟩
 ·exact .inl hn
 ·exact .inr ⟨g,cap,cur,hv,hbg,k.2 _ g cur (by decide) (by decide) hgg,rest⟩
theorem zr7(w:World)(base:Nat):LogOf tL (w.alloc (.cells #[.slice none 0 0] 86)) base w.heap.size (.slice none 0 0) []:=⟨none,0,0,[],rfl,Blk.new _ _ _,Own.nil_,(fun _ hd=>nomatch hd),rfl⟩
theorem Tw.made{w W:World}(n:New w W):Tw w W.heap.size (W.heap.size+1) ((W.alloc (.cells #[.slice none 0 0] 86)).alloc (.cells #[.slice none 0 0] 86)) [] []:=by
 have l1:=(zr7 W w.heap.size).new (zah _ (.cells #[.slice none 0 0] 86));have l2:=zr7 (W.alloc (.cells #[.slice none 0 0] 86)) w.heap.size;have hz:(W.alloc (.cells #[.slice none 0 0] 86)).heap.size=W.heap.size+1:=by simp
 rw[hz] at l2;exact⟨_,_,l1,l2,by simp[zbm,Value.ownBlock],New.trans n (New.trans (zah _ _) (zah _ _))⟩
open Go.RowKit Go.Hm
def RestIn(w:World)(g:Nat)(V0:Value)(bq:Nat)(R:List (List Nat))(W:World):Prop:=∃A c,Blk W bq tS #[.slice A R.length c]/\R.length<=c/\c<=9223372036854775807/\LeafIn w A R (g::zbm V0)
open Go.RowKit Go.Hm
theorem RestIn.keep{w W W':World}{g bq:Nat}{V:Value}{R:List (List Nat)}(h:RestIn w g V bq R W)(k:∀cs,Blk W bq tS cs->Blk W' bq tS cs):RestIn w g V bq R W':=by obtain⟨A,c,b,r⟩:=h;exact⟨A,c,k _ b,r⟩
end Go.Proofs.Y
