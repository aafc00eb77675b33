import Derived.Test.YtbahbnbpmfgimaaGreatDoorBun23
import Derived.Test.YtbahbnbpmfgimaaGreatDoorBun24
import Derived.Test.YtbahbnbpmfgimaaGreatDoorBun25
import Derived.Test.YtbahbnbpmfgimaaGreatDoorBun26
set_option maxHeartbeats 2000000
set_option maxRecDepth 100000
namespace Go.Hm
open Go Go.RowKit
theorem zd0{w:World}{g:Nat}{t:TypeId}{cs:Array Value}{l:List Nat}(h:Blk w g t cs)(hl:cs.toList=zah .u8 l):Reads w w.heap.size 1 (some ⟨g,0,none⟩) l.length (zah .u8 l):=by
 refine⟨by simp[zah],fun _=>⟨_,rfl,h.lt,fun j u hu=>?_⟩⟩;have e:(⟨g,0,none⟩:Addr).add j=⟨g,j,none⟩:=by unfold Addr.add;split<;> simp_all
 rw[e,h.cell,<-hu,<-hl,Array.getElem?_toList]
end Go.Hm
namespace Go.Proofs.Y
open Go.RowKit Go.Hm
theorem qbo{w:World}{base g:Nat}{V:Value}{L:List (List Nat)}(hL:LogOf tL w base g V L)(hbs:base<=w.heap.size)(hLn:L.length<=10000000){a b:List Nat}(ha:zim a)(hb:zim b)(hC:∀w',Turns (g::zbg V) w w'->ConstIn w'):
 Calls Tryz.prog 61 #[.pointer (some ⟨g,0,none⟩),dV a,dV b] w (zc3 tL (dV (zb4 zb3 [a,b])) base g V (L++[zc2 zb3 [a,b]]) w):=by
 obtain⟨ca,hca⟩:∃cs,cs=(zah .u8 a).toArray:=⟨_,rfl⟩;obtain⟨cb,hcb⟩:∃cs,cs=(zah .u8 b).toArray:=⟨_,rfl⟩;have hva:dV a= .agg ca:=by rw[hca];rfl
 have hvb:dV b= .agg cb:=by rw[hcb];rfl
 obtain⟨W3,hW3⟩:∃W,W=((w.alloc (.cells ca 35)).alloc (.cells cb 35)).alloc (.cells (zap .u8 zad).toArray 35):=⟨_,rfl⟩;have z1:(w.alloc (.cells ca 35)).heap.size=w.heap.size+1:=by simp
 have z2:((w.alloc (.cells ca 35)).alloc (.cells cb 35)).heap.size=w.heap.size+2:=by simp
 have zs:W3.heap.size=w.heap.size+3:=by rw[hW3];simp
 have b3:New w W3:=by rw[hW3];exact qr0 (qr0 (zac _ _) (zac _ _)) (zac _ _)
 have ga:Blk W3 w.heap.size 35 ca:=by rw[hW3];exact((qrv w _ ca).alloc _).alloc _
 have gb:Blk W3 (w.heap.size+1) 35 cb:=by rw[hW3];have:=qrv (w.alloc (.cells ca 35)) 35 cb;rw[z1] at this;exact this.alloc _
 have gr:Blk W3 (w.heap.size+2) 35 (zap .u8 zad).toArray:=by rw[hW3];have:=qrv ((w.alloc (.cells ca 35)).alloc (.cells cb 35)) 35 (zap .u8 zad).toArray;rwa[z2] at this
 have hgl:g<w.heap.size:=hL.lt;have lowT:∀x∈g::zbg V,x<w.heap.size:=fun x hx=>by
  rcases qnu.1 hx with rfl|hx
  ·exact hgl
  ·exact(hL.ge x hx).2
 obtain⟨W4,hW4⟩:∃W,W=(W3.alloc (.cells #[.slice (some ⟨w.heap.size,0,none⟩) 32 32,.slice (some ⟨w.heap.size+1,0,none⟩) 32 32] 24)).drew:=⟨_,rfl⟩;have b34:New W3 W4:=by rw[hW4];exact qr0 (zac W3 _) (qr1 _)
 have rr:RowsAt W4 (some ⟨w.heap.size+3,0,none⟩) 2 2 [(some ⟨w.heap.size,0,none⟩,32,a),(some ⟨w.heap.size+1,0,none⟩,32,b)]:=by
  refine⟨?_,fun x hx=>?_,ql6 _⟩
  ·rw[hW4,<-zs]
   exact qsl W3 _ (0,0) _ 2 _ (by simp[recs,zdr,ha.1,hb.1]) (by simp[recs,zdr])
  ·simp only[qnu,qpt,or_false] at hx
   rcases hx with rfl|rfl
   ·exact⟨by show Reads _ _ 1 _ a.length _;exact qsg (zd0 ga (by rw[hca])) b34,by show a.length<=32;rw[ha.1];omega,by show(32:Nat)<=_;omega⟩
   ·exact⟨by show Reads _ _ 1 _ b.length _;exact qsg (zd0 gb (by rw[hcb])) b34,by show b.length<=32;rw[hb.1];omega,by show(32:Nat)<=_;omega⟩
 have hbo:bytesOf [((some ⟨w.heap.size,0,none⟩:Option Addr),32,a),(some ⟨w.heap.size+1,0,none⟩,32,b)]=[a,b]:=rfl;have hp8:∀p∈[a,b],∀x∈p,x<256:=by
  intro p hp;simp only[qnu,qpt,or_false] at hp;rcases hp with rfl|rfl
  ·exact ha.2
  ·exact hb.2
 have hts:zem [a,b]<=9900000:=by simp[zem,ha.1,hb.1]
 have b04:=qr0 b3 b34;have lh:=zkx (s:=zb3) (hL.new b04) (qlw hbs b04.size) hLn rr (by omega) (by decide) (by decide) hts hp8 (fun w' k=>hC w' ((qr9 b04).trans k));rw[hbo,zl8] at lh;obtain⟨cs,hcs⟩:∃cs,cs=(zap .u8 (zdj zb3 [a,b])).toArray:=⟨_,rfl⟩;have hdv:zm9 (zdj zb3 [a,b])= .agg cs:=by rw[hcs];rfl
 have hdv2:dV (zb4 zb3 [a,b])= .agg cs:=by rw[<-zgg,hdv]
 have hl32:=zfs zb3 [a,b];have I32:(Tryz.prog.info? 35).map (·.size)=some cs.size:=by rw[hcs];exact zxd hl32
 have ZS:(zap .u8 zad).toArray.size=cs.size:=by rw[hcs];simp[zap,zad,hl32]
 have ONE:cs.all (·.oneCell')=true:=by rw[hcs];exact zcs _ _
 rw[hdv] at lh;rw[hva,hvb,hdv2];have LH:=qrf lh;have I32:=qrf I32;have ZS:=qrf ZS;have ONE:=qrf ONE;have HL:=qrf hL;have GR:=qrf (gr.below b34 gr.lt);have B04:=qrf b04;have HW3:=qrf hW3;have HW4:=qrf hW4;have LOWT:=qrf lowT;have ZSZ:=qrf zs;clear hcs hdv hdv2 hl32 lh hts hp8 rr b34 ga gb gr z1 z2 zs hW3 hW4 b3 b04 hva hvb hca hcb hL lowT hC;go_enter Tryz.func61,Tryz.ntmps61
 go_wp2
 have hw3:=HW3.out;refine zaw (TurnsB w.heap.size (g::zbg V)) [(true,0),(true,1),(true,2),(false,3),(false,4),(false,5)]
  (qsj _ _) qsk (by kernel_rfl) (by kernel_rfl) (by kernel_rfl) (by kernel_rfl) ?_
 iterate 3 (
  refine zaj rfl rfl (v:=?_) (fun W hW=>?_) ?_;rotate_left
  ·skip
   go_simp<;> with_reducible rfl
  simp only[Act.put,qoi,qn8,qoj])
 have e3:((w.alloc (.cells ca 35)).alloc (.cells cb 35)).alloc (.cells (zap .u8 zad).toArray 35)=W3:=hw3.symm;rw[show(((w.alloc (.cells ca 35)).alloc (.cells cb 35)).alloc (.cells qsy 35)).drew=W3.drew from by rw[hw3];rfl];clear e3 hw3;have zs:=ZSZ.out;refine za6 rfl rfl (fun K hK=>?_);go_simp
 have hw4:=HW4.out;refine hK _ _ (.alloc _ (by show w.heap.size<=W3.heap.size;omega)) ?_;clear hK;rw[<-hw4];clear hw4;refine za6 rfl rfl (fun K hK=>?_);go_simp
 refine LH.out.mono ?_;rintro e w5 ⟨rfl,V',l5,a5,t5⟩;refine hK _ _ (.of t5 B04.out.size) ?_;clear hK;have nT:w.heap.size+2∉g::zbg V:=fun hx=>by have:=LOWT.out _ hx;omega
 have g5:=GR.out.touch t5 nT;refine za6 rfl rfl (fun K hK=>?_);refine wp_store_row 35 (.tmp 6) (.tmp 11) rfl (w.heap.size+2) cs rfl rfl _ _ (zaf g5) I32.out ZS.out ONE.out ?_;refine hK _ _ (.far (za3 (g:=w.heap.size+2) _ cs) (by omega) (qlw B04.out.size t5.size)) ?_;clear hK;refine zda ?_;have G6:=qrf (zau g5 cs);have P6:Hid (∃V',LogOf tL (w5.setRow (w.heap.size+2) cs) base g V' (L++[zc2 zb3 [a,b]])/\(V'.ownBlock=V.ownBlock\/ ∃h,V'.ownBlock=some h/\w.heap.size<=h)/\Turns (g::zbg V) w (w5.setRow (w.heap.size+2) cs)):=qrf (by
  have tt:Turns [w.heap.size+2] w5 (w5.setRow (w.heap.size+2) cs):=qsa (za3 (g:=w.heap.size+2) w5 cs) (by simp);refine⟨V',l5.turn tt (by simp;omega) ?_ ?_,a5.imp id (fun⟨h,h1,h2⟩=>⟨h,h1,qlw B04.out.size h2⟩),?_⟩
  ·intro x hx
   simp at hx;subst hx;obtain⟨A',n',c',D',e',_,o',_⟩:=l5;rw[e'];exact o'.blk_ne g5 (by decide)
  ·intro x hx _ cs hB
   simp at hx;subst hx;exact qrx g5 hB (by decide) rfl
  ·exact qsd ((((qr9 B04.out).trans t5).more (T':=(w.heap.size+2)::g::zbg V) (by intro x hx;simp at hx⊢;simp[hx])).trans (tt.more (by intro x hx;simp at hx⊢;simp[hx]))) (by omega))
 clear l5 a5 t5 g5;go_wp2
 exact bodyPost_ret (results_cell_row rfl _ _ (w.heap.size+2) _ cs (0,0) _ rfl G6.out zbp rfl I32.out) rfl ⟨rfl,P6.out⟩
theorem z6g{w:World}{base g:Nat}{V:Value}{L:List (List Nat)}(hL:LogOf tR w base g V L)(hbs:base<=w.heap.size)(hLn:L.length<=10000000){a b:List Nat}(ha:zim a)(hb:zim b):
 Calls Tryz.prog 74 #[.pointer (some ⟨g,0,none⟩),dV a,dV b] w (zc3 tR (dV (zb4 zb3 [a,b])) base g V (L++[zc2 zb3 [a,b]]) w):=by
 obtain⟨ca,hca⟩:∃cs,cs=(zah .u8 a).toArray:=⟨_,rfl⟩;obtain⟨cb,hcb⟩:∃cs,cs=(zah .u8 b).toArray:=⟨_,rfl⟩;have hva:dV a= .agg ca:=by rw[hca];rfl
 have hvb:dV b= .agg cb:=by rw[hcb];rfl
 obtain⟨W3,hW3⟩:∃W,W=((w.alloc (.cells ca 35)).alloc (.cells cb 35)).alloc (.cells (zap .u8 zad).toArray 35):=⟨_,rfl⟩;have z1:(w.alloc (.cells ca 35)).heap.size=w.heap.size+1:=by simp
 have z2:((w.alloc (.cells ca 35)).alloc (.cells cb 35)).heap.size=w.heap.size+2:=by simp
 have zs:W3.heap.size=w.heap.size+3:=by rw[hW3];simp
 have b3:New w W3:=by rw[hW3];exact qr0 (qr0 (zac _ _) (zac _ _)) (zac _ _)
 have ga:Blk W3 w.heap.size 35 ca:=by rw[hW3];exact((qrv w _ ca).alloc _).alloc _
 have gb:Blk W3 (w.heap.size+1) 35 cb:=by rw[hW3];have:=qrv (w.alloc (.cells ca 35)) 35 cb;rw[z1] at this;exact this.alloc _
 have gr:Blk W3 (w.heap.size+2) 35 (zap .u8 zad).toArray:=by rw[hW3];have:=qrv ((w.alloc (.cells ca 35)).alloc (.cells cb 35)) 35 (zap .u8 zad).toArray;rwa[z2] at this
 have hgl:g<w.heap.size:=hL.lt;have lowT:∀x∈g::zbg V,x<w.heap.size:=fun x hx=>by
  rcases qnu.1 hx with rfl|hx
  ·exact hgl
  ·exact(hL.ge x hx).2
 obtain⟨W4,hW4⟩:∃W,W=(W3.alloc (.cells #[.slice (some ⟨w.heap.size,0,none⟩) 32 32,.slice (some ⟨w.heap.size+1,0,none⟩) 32 32] 24)).drew:=⟨_,rfl⟩;have b34:New W3 W4:=by rw[hW4];exact qr0 (zac W3 _) (qr1 _)
 have rr:RowsAt W4 (some ⟨w.heap.size+3,0,none⟩) 2 2 [(some ⟨w.heap.size,0,none⟩,32,a),(some ⟨w.heap.size+1,0,none⟩,32,b)]:=by
  refine⟨?_,fun x hx=>?_,ql6 _⟩
  ·rw[hW4,<-zs]
   exact qsl W3 _ (0,0) _ 2 _ (by simp[recs,zdr,ha.1,hb.1]) (by simp[recs,zdr])
  ·simp only[qnu,qpt,or_false] at hx
   rcases hx with rfl|rfl
   ·exact⟨by show Reads _ _ 1 _ a.length _;exact qsg (zd0 ga (by rw[hca])) b34,by show a.length<=32;rw[ha.1];omega,by show(32:Nat)<=_;omega⟩
   ·exact⟨by show Reads _ _ 1 _ b.length _;exact qsg (zd0 gb (by rw[hcb])) b34,by show b.length<=32;rw[hb.1];omega,by show(32:Nat)<=_;omega⟩
 have hbo:bytesOf [((some ⟨w.heap.size,0,none⟩:Option Addr),32,a),(some ⟨w.heap.size+1,0,none⟩,32,b)]=[a,b]:=rfl;have hp8:∀p∈[a,b],∀x∈p,x<256:=by
  intro p hp;simp only[qnu,qpt,or_false] at hp;rcases hp with rfl|rfl
  ·exact ha.2
  ·exact hb.2
 have hts:zem [a,b]<=9900000:=by simp[zem,ha.1,hb.1]
 have b04:=qr0 b3 b34;have keep:∀w',Turns (g::zbg V) W4 w'->RowsAt w' (some ⟨w.heap.size+3,0,none⟩) 2 2 [(some ⟨w.heap.size,0,none⟩,32,a),(some ⟨w.heap.size+1,0,none⟩,32,b)]:=fun w' k=>by
  refine zus rr k (fun _ ad hd hm=>?_) (fun x hx _ ad hd hm=>?_)
  ·injection hd with hd
   subst hd;have h9:w.heap.size+3<w.heap.size:=lowT _ hm;omega
  ·simp only[qnu,qpt,or_false] at hx
   rcases hx with rfl|rfl
   ·injection hd with hd
    subst hd;have h9:w.heap.size<w.heap.size:=lowT _ hm;omega
   ·injection hd with hd
    subst hd;have h9:w.heap.size+1<w.heap.size:=lowT _ hm;omega
 have lh:=zjc (s:=zb3) (hL.new b04) (qlw hbs b04.size) hLn keep (by omega) (by decide) (by decide) hts hp8;rw[hbo,zl8] at lh;obtain⟨cs,hcs⟩:∃cs,cs=(zap .u8 (zdj zb3 [a,b])).toArray:=⟨_,rfl⟩;have hdv:zm9 (zdj zb3 [a,b])= .agg cs:=by rw[hcs];rfl
 have hdv2:dV (zb4 zb3 [a,b])= .agg cs:=by rw[<-zgg,hdv]
 have hl32:=zfs zb3 [a,b];have I32:(Tryz.prog.info? 35).map (·.size)=some cs.size:=by rw[hcs];exact zxd hl32
 have ZS:(zap .u8 zad).toArray.size=cs.size:=by rw[hcs];simp[zap,zad,hl32]
 have ONE:cs.all (·.oneCell')=true:=by rw[hcs];exact zcs _ _
 rw[hdv] at lh;rw[hva,hvb,hdv2];have LH:=qrf lh;have I32:=qrf I32;have ZS:=qrf ZS;have ONE:=qrf ONE;have HL:=qrf hL;have GR:=qrf (gr.below b34 gr.lt);have B04:=qrf b04;have HW3:=qrf hW3;have HW4:=qrf hW4;have LOWT:=qrf lowT;have ZSZ:=qrf zs;clear hcs hdv hdv2 hl32 lh hts hp8 rr b34 ga gb gr z1 z2 zs hW3 hW4 b3 b04 hva hvb hca hcb hL lowT;go_enter Tryz.func74,Tryz.ntmps74
 go_wp2
 have hw3:=HW3.out;refine zaw (TurnsB w.heap.size (g::zbg V)) [(true,0),(true,1),(true,2),(false,3),(false,4),(false,5)]
  (qsj _ _) qsk (by kernel_rfl) (by kernel_rfl) (by kernel_rfl) (by kernel_rfl) ?_
 iterate 3 (
  refine zaj rfl rfl (v:=?_) (fun W hW=>?_) ?_;rotate_left
  ·skip
   go_simp<;> with_reducible rfl
  simp only[Act.put,qoi,qn8,qoj])
 have e3:((w.alloc (.cells ca 35)).alloc (.cells cb 35)).alloc (.cells (zap .u8 zad).toArray 35)=W3:=hw3.symm;rw[show(((w.alloc (.cells ca 35)).alloc (.cells cb 35)).alloc (.cells qsy 35)).drew=W3.drew from by rw[hw3];rfl];clear e3 hw3;have zs:=ZSZ.out;refine za6 rfl rfl (fun K hK=>?_);go_simp
 have hw4:=HW4.out;refine hK _ _ (.alloc _ (by show w.heap.size<=W3.heap.size;omega)) ?_;clear hK;rw[<-hw4];clear hw4;refine za6 rfl rfl (fun K hK=>?_);go_simp
 refine LH.out.mono ?_;rintro e w5 ⟨rfl,V',l5,a5,t5⟩;refine hK _ _ (.of t5 B04.out.size) ?_;clear hK;have nT:w.heap.size+2∉g::zbg V:=fun hx=>by have:=LOWT.out _ hx;omega
 have g5:=GR.out.touch t5 nT;refine za6 rfl rfl (fun K hK=>?_);refine wp_store_row 35 (.tmp 6) (.tmp 11) rfl (w.heap.size+2) cs rfl rfl _ _ (zaf g5) I32.out ZS.out ONE.out ?_;refine hK _ _ (.far (za3 (g:=w.heap.size+2) _ cs) (by omega) (qlw B04.out.size t5.size)) ?_;clear hK;refine zda ?_;have G6:=qrf (zau g5 cs);have P6:Hid (∃V',LogOf tR (w5.setRow (w.heap.size+2) cs) base g V' (L++[zc2 zb3 [a,b]])/\(V'.ownBlock=V.ownBlock\/ ∃h,V'.ownBlock=some h/\w.heap.size<=h)/\Turns (g::zbg V) w (w5.setRow (w.heap.size+2) cs)):=qrf (by
  have tt:Turns [w.heap.size+2] w5 (w5.setRow (w.heap.size+2) cs):=qsa (za3 (g:=w.heap.size+2) w5 cs) (by simp);refine⟨V',l5.turn tt (by simp;omega) ?_ ?_,a5.imp id (fun⟨h,h1,h2⟩=>⟨h,h1,qlw B04.out.size h2⟩),?_⟩
  ·intro x hx
   simp at hx;subst hx;obtain⟨A',n',c',D',e',_,o',_⟩:=l5;rw[e'];exact o'.blk_ne g5 (by decide)
  ·intro x hx _ cs hB
   simp at hx;subst hx;exact qrx g5 hB (by decide) rfl
  ·exact qsd ((((qr9 B04.out).trans t5).more (T':=(w.heap.size+2)::g::zbg V) (by intro x hx;simp at hx⊢;simp[hx])).trans (tt.more (by intro x hx;simp at hx⊢;simp[hx]))) (by omega))
 clear l5 a5 t5 g5;go_wp2
 exact bodyPost_ret (results_cell_row rfl _ _ (w.heap.size+2) _ cs (0,0) _ rfl G6.out zbp rfl I32.out) rfl ⟨rfl,P6.out⟩
end Go.Proofs.Y
set_option maxRecDepth 100000
namespace Go.Hm
open Go Go.RowKit
abbrev qgi:=List Nat × Option Addr × Nat × List zcx
def qkv(r:qgi):List Value:=[.string (zai r.1),.slice r.2.1 r.2.2.2.length r.2.2.1]
def PartsFine(D:List zcx):Prop:=∀p∈bytesOf D,(∀x∈p,x<256)/\p.length<=140737488351232
theorem PartsFine.lt{D:List zcx}(h:PartsFine D):∀p∈bytesOf D,∀x∈p,x<256:=fun p hp=>(h p hp).1
structure RowIn(w:World)(r:qgi):Prop where
 tag:(∀x∈r.1,x<256)/\r.1.length<=140737488351232
 rows:RowsAt w r.2.1 r.2.2.2.length r.2.2.1 r.2.2.2
 fine:PartsFine r.2.2.2
 few:r.2.2.2.length<=4611686018427387903
theorem RowIn.later{w w':World}{r:qgi}(h:RowIn w r)(hb:New w w'):RowIn w' r:=⟨h.tag,h.rows.later hb,h.fine,h.few⟩
end Go.Hm
namespace Go.Proofs.Y
open Go.RowKit Go.Hm Go.WideShapes Go.ChangeShapes
section
variable{H:Type}{enc:TypeId × Value->H}{W:World}{base:Nat}{v:Value}{d:DataW H}{ps:List MemPlace}
theorem qbr(l:List Nat):recs (fun n:Nat=>[.int .u8 (n:Int)]) l=zah .u8 l:=by
 induction l with
 |nil=>rfl
 |cons x l ih=>rw[zhd,ih];rfl
theorem z2g{cs:List Value}(h:Held enc Tryz.prog W 24 cs):∃x:zcx,cs=zdr x/\(Reads W W.heap.size 1 x.1 x.2.2.length (zah .u8 x.2.2)/\x.2.2.length<=x.2.1/\x.2.1<=140737488351232/\ ∀z∈x.2.2,z<256):=by
 have ht:Tryz.prog.underlying 24=some (.slice 5):=by kernel_rfl
 obtain⟨A,c,l,h1,h2,_,h4,h5,h6⟩:=h.recs (f:=fun n:Nat=>[.int .u8 (n:Int)]) (sz:=1) (by_:=1) (Q:=fun x=>x<256) 0 ht (by kernel_rfl) (by kernel_rfl) (fun _=>rfl) (by omega) (fun cs hh=>by obtain⟨n,e1,e2⟩:=hh.nat (k:= .u8) rfl (by kernel_rfl);exact⟨n,e1,by simp[IntKind.max,IntKind.signed,IntKind.bits] at e2;omega⟩)
 rw[qbr] at h5;exact⟨(A,c,l),h1,h5,h2,by show c<=_;unfold reachBytes at h4;omega,h6⟩
theorem z2h{cs:List Value}(h:Held enc Tryz.prog W 22 cs):∃(A:Option Addr) (c:Nat) (D:List zcx),cs=[.slice A D.length c]/\RowsAt W A D.length c D/\PartsFine D/\D.length<=4611686018427387903:=by
 have ht:Tryz.prog.underlying 22=some (.slice 24):=by kernel_rfl
 obtain⟨A,c,l,h1,h2,_,h4,h5,h6⟩:=h.recs (f:=zdr) (sz:=1) (by_:=24) (Q:=fun x=>(Reads W W.heap.size 1 x.1 x.2.2.length (zah .u8 x.2.2)/\x.2.2.length<=x.2.1/\x.2.1<=140737488351232/\ ∀z∈x.2.2,z<256)) (none,0,[]) ht (by kernel_rfl) (by kernel_rfl) (fun _=>rfl) (by omega) (fun cs hh=>z2g hh);refine⟨A,c,l,h1,⟨h5,fun d hd=>⟨(h6 d hd).1,(h6 d hd).2.1,by have:=(h6 d hd).2.2.1;omega⟩,h2⟩,fun p hp=>?_,by unfold reachBytes at h4;omega⟩;obtain⟨d,hd,rfl⟩:=qly.1 hp;exact⟨(h6 d hd).2.2.2,by have:=(h6 d hd).2.1;have:=(h6 d hd).2.2.1;omega⟩
theorem qgj(hval:Value.okWide Tryz.prog W .any base 22 v)(h:DataW.Trod enc Tryz.prog W 0 (fun _=>true) true 22 v d ps)(hlt:∀p∈ps,p.block<W.heap.size)(hw:∀n∈d.weights Tryz.prog 22,n<=reachBytes):
 ∃(A:Option Addr) (c:Nat) (D:List zcx),v= .slice A D.length c/\RowsAt W A D.length c D/\PartsFine D/\D.length<=4611686018427387903:=by
 have ht:Tryz.prog.underlying 22=some (.slice 24):=by kernel_rfl
 obtain⟨a0,len,cap,rfl⟩:=okWide_slice ht hval;obtain⟨A,c,D,h1,h2⟩:=z2h (Held.of h hlt hw);simp only[Value.cells,qli,and_true] at h1;rw[h1];exact⟨A,c,D,rfl,h2⟩
end
end Go.Proofs.Y
namespace Go.Hm
open Go Go.RowKit
structure LogRows(w:World)(A:Option Addr)(L:List qgi):Prop where
 row:Reads w w.heap.size 2 A L.length (recs qkv L)
 fine:∀r∈L,RowIn w r
theorem LogRows.later{w w':World}{A:Option Addr}{L:List qgi}(h:LogRows w A L)(hb:New w w'):LogRows w' A L:=⟨qsg h.row hb,fun r hr=>(h.fine r hr).later hb⟩
abbrev qic:qgi:=([],none,0,[])
theorem LogRows.at_{w:World}{A:Option Addr}{L:List qgi}(h:LogRows w A L){i:Nat}(hi:i<L.length):
 ∃ad,A=some ad/\RowIn w (L.getD i qic)/\ ∀W,New w W->W.cell? (ad.add (i*2))=some (.string (zai (L.getD i qic).1))/\W.cell? ⟨(ad.add (i*2)).block,(ad.add (i*2)).off+1,none⟩=some (.slice (L.getD i qic).2.1 (L.getD i qic).2.2.2.length (L.getD i qic).2.2.1):=by
 obtain⟨ad,e,hb,hl,hc⟩:=Reads.rec_ (f:=qkv) (sz:=2) (fun _=>rfl) qic h.row hi (by omega);refine⟨ad,e,h.fine _ ?_,fun W hW=>?_⟩
 ·rw[qnp,qlx hi]
  exact qml hi
 ·have h0:=hc 0 _ rfl
  have h1:=hc 1 _ rfl;rw[<-zba] at h1;exact⟨(qro hW (by rw[zao];exact hb)).trans h0,(qro hW (by rw[zao];exact hb)).trans h1⟩
def GoodF(F:List (List Nat)):Prop:=∀p∈F,(∀x∈p,x<256)/\p.length<=10000000
theorem GoodF.add{F:List (List Nat)}{o:Option (List Nat)}(h:GoodF F)(ho:∀f,o=some f->(∀x∈f,x<256)/\f.length<=10000000):GoodF (F++o.toList):=by
 intro p hp;rcases qnd.1 hp with hp|hp
 ·exact h p hp
 ·cases o with
  |none=>simp at hp
  |some f=>
   obtain rfl:p=f:=by simpa using hp
   exact ho p rfl
end Go.Hm
namespace Go.Proofs.Y
open Go.RowKit Go.Hm
section
variable{P:Program}{w:World}{a:Act}{dst:Option Tmp}{tt:TypeId}{pos:String}{af:Array Edge}{gd:Option (Nat × Bool)}
theorem z6j{t t2:TypeId}{x y:Operand}{v:Value}{xs ys:Array Value}(hx:a.eval x= .agg xs)(hy:a.eval y= .agg ys)(hm:P.eqGuardType P.depth t=false)(hv:(binOp .neq t (.agg xs) (.agg ys)).run P w= .ok v w):(execOp a.eval ⟨dst,.binOp .neq t x y t2,tt,pos,af,gd⟩).run P w= .ok (.value v) w:=by unfold execOp;simp only[hx,hy,qrb,run_eqGuard_agg (hm:=hm),hv,qrd,qrc]
end
theorem zxp{P:Program}{w:World}{t:TypeId}{xs ys:Array Value}{b:Bool}(h:(binOp .eql t (.agg xs) (.agg ys)).run P w= .ok (.bool b) w):(binOp .neq t (.agg xs) (.agg ys)).run P w= .ok (.bool !b) w:=by
 rw[run_eql_struct] at h;simp only[binOp];simp[Op.equal,Op.maxDepth];cases hq:(Op.equalIn 10000 t (.agg xs) (.agg ys)).run P w with
 |ok b' w'=>
  rw[hq] at h;simp[Result.andThen] at h⊢;exact h
 |_=>rw[hq] at h;simp[Result.andThen] at h
theorem LogAt.own{w:World}{base g B:Nat}{V:Value}{L:List (List Nat)}(h:LogAt w base g V L)(hb:B<=base)(hg:B<=g):∀x∈g::zbg V,B<=x:=by
 intro x hx;rcases qnu.1 hx with rfl|hx
 ·exact hg
 ·exact qlw hb (h.ge x hx).1
theorem LogAt.noB{w:World}{base g:Nat}{V:Value}{L:List (List Nat)}(h:LogAt w base g V L):∀x∈g::zbg V,x<w.heap.size-> ∀cs,¬Blk w x 5 cs:=by
 obtain⟨A,n,c,D,rfl,h1,h2,_⟩:=h;intro x hx _ cs hB;rcases qnu.1 hx with rfl|hx
 ·exact qrx h1 hB (by decide) rfl
 ·exact zer h2 hB (by decide) hx
theorem zz2{V:Value}{x:Nat}(h:V.ownBlock=some x):x∈zbg V:=by unfold zbg;rw[h];simp
theorem zhr{m:Int}{S:St}{N:Nat}{r:List Nat}(hS:S.ok)(h:lenS m S=(N,some r)):S=some (vp N++r)/\(N:Int)<=m:=by
 rcases zdq m S hS with k|⟨M,r',e,k1,_,k⟩
 ·rw[k] at h
  injection h with _ h;cases h
 ·rw[k] at h
  injection h with h1 h2;injection h2 with h2;subst h1 h2;exact⟨e,k1⟩
theorem zpx{t:Int}{S:St}{s:zdl}{r:List Nat}(hS:S.ok)(h:getA t S=(s,some r)):S=some (putS [] t s++r)/\zck t s=true:=by
 cases S with
 |none=>
  exfalso;rw[ztr (N:=0) (y:=0) (S1:=none) (S2:=none) rfl rfl,ztq (N:=0) (y:=0) (S1:=none) (S2:=none) rfl rfl] at h;simp at h
 |some b=>
  obtain⟨h1,h2⟩:=z8j (hS b rfl) h;exact⟨by rw[h2],h1⟩
theorem qhi{t:Int}{S:St}(hS:S.ok):(getA t S).2.ok:=by
 cases h:(getA t S).2 with
 |none=>exact qsp
 |some r=>
  have:=(zpx hS (show getA t S=((getA t S).1,some r) by rw[<-h])).1;exact qsq fun x hx=>hS _ this x (by simp[hx])
noncomputable def zg6(t m:Int)(S:St):zbc × St:=
 ((((lenS 268435456 S).1:Int),((lenS m (lenS 268435456 S).2).1:Int),(getA t (lenS m (lenS 268435456 S).2).2).1),(getA t (lenS m (lenS 268435456 S).2).2).2)
theorem z84{t m k:Int}{nu:Bool}{p:zbc}{r:List Nat}(h:zij t nu p k=true)(hk:p.2.1<=m)(hm:m<=9223372036854775807)(hd:statData p.2.2)(hr:r.length<=140737488351232):zg6 t m (some (zf4 t p++r))=(p,some r):=by
 obtain⟨⟨h1,h2,h3,h4⟩,h5⟩:=pageB_most.1 h;obtain⟨a,b,s⟩:=p;dsimp only at h1 h2 h3 h4 h5 hk hd;obtain⟨a,rfl⟩:=qn1 (show 0<=a by omega);obtain⟨b,rfl⟩:=qn1 (show 0<=b by omega);have hs:zck t s=true:=by rw[qnt] at h5;exact h5.1
 have e1:lenS 268435456 (some (zf4 t ((a:Int),(b:Int),s)++r))=(a,some (vp b++(putS [] t s++r))):=by
  have:zf4 t ((a:Int),(b:Int),s)++r=vp a++(vp b++(putS [] t s++r)):=by simp[zf4]
  rw[this];exact zea _ _ (by omega) (by omega)
 have e2:lenS m (some (vp b++(putS [] t s++r)))=(b,some (putS [] t s++r)):=zea _ _ hk hm;unfold zg6;rw[e1];dsimp only;rw[e2];dsimp only;rw[qdi hs hd r hr]
theorem z3t{t m:Int}{S:St}{p:zbc}{r:List Nat}(hS:S.ok)(h:zg6 t m S=(p,some r)):S=some (zf4 t p++r):=by
 unfold zg6 at h;injection h with h1 h2;subst h1;obtain⟨N,S1,k1⟩:∃N S1,lenS 268435456 S=(N,S1):=⟨_,_,rfl⟩;have hS1:S1.ok:=by have:=zb9 (m:=268435456) hS;rwa[k1] at this
 rw[k1] at h2⊢;dsimp only at h2⊢;obtain⟨M,S2,k2⟩:∃N S2,lenS m S1=(N,S2):=⟨_,_,rfl⟩;have hS2:S2.ok:=by have:=zb9 (m:=m) hS1;rwa[k2] at this
 rw[k2] at h2⊢;dsimp only at h2⊢;have g:=(zpx hS2 (show getA t S2=((getA t S2).1,some r) by rw[<-h2])).1;generalize hgs:(getA t S2).1=s at*;subst g;clear hgs h2;have e2:=(zhr hS1 k2).1;subst e2;have e1:=(zhr hS k1).1;rw[e1];simp[zf4]
theorem zoa{t m:Int}{S:St}(hS:S.ok):(zg6 t m S).2.ok:=qhi (zb9 (zb9 hS))
theorem z3u{t m:Int}{S:St}:statData (zg6 t m S).1.2.2:=z8i
noncomputable def zc0(t m:Int):Nat->St->List zbc × St
 |0,S=>([],S)
 |_+1,none=>([],none)
 |k+1,some l=>((zg6 t m (some l)).1::(zc0 t m k (zg6 t m (some l)).2).1,(zc0 t m k (zg6 t m (some l)).2).2)
theorem zyu(t m:Int)(k:Nat):zc0 t m k none=([],none):=by cases k<;> rfl
theorem zwe{t m:Int}:∀(k:Nat) {S:St},S.ok->(zc0 t m k S).2.ok
 |0,_,h=>h
 |_+1,none,_=>qsp
 |k+1,some _,h=>zwe k (zoa h)
theorem zpy{t m:Int}:∀(k:Nat) (S:St),∀p∈(zc0 t m k S).1,statData p.2.2
 |0,_,p,hp=>by simp[zc0] at hp
 |_+1,none,p,hp=>by simp[zc0] at hp
 |k+1,some l,p,hp=>by
  simp only[zc0,qnu] at hp;rcases hp with rfl|hp
  ·exact z3u
  ·exact zpy k _ p hp
theorem zr7{t m k:Int}{nu:Bool}(hm:m<=9223372036854775807):∀(l:List zbc) (r:List Nat),(∀p∈l,zij t nu p k=true/\p.2.1<=m/\statData p.2.2)->(l.flatMap (zf4 t)).length+r.length<=140737488351232->zc0 t m l.length (some (l.flatMap (zf4 t)++r))=(l,some r)
 | [],r,_,_=>rfl
 |p::l,r,h,hr=>by
  obtain⟨a,b,c⟩:=h p (by simp);rw[qpe,qmv] at hr;rw[qpe,qmi,qm9];simp only[zc0];rw[z84 a b hm c (by rw[qmv];omega)];dsimp only;rw[zr7 hm l r (fun q hq=>h q (by simp[hq])) (by omega)]
theorem zpz{t m:Int}:∀(k:Nat) {S:St} {l:List zbc} {r:List Nat},S.ok->zc0 t m k S=(l,some r)->S=some (l.flatMap (zf4 t)++r)/\l.length=k
 |0,S,l,r,_,h=>by
  simp only[zc0,qlk] at h;obtain⟨rfl,rfl⟩:=h;exact⟨rfl,rfl⟩
 |k+1,none,l,r,_,h=>by
  simp only[zc0,qlk] at h;cases h.2
 |k+1,some b,l,r,hS,h=>by
  simp only[zc0,qlk] at h;obtain⟨rfl,h2⟩:=h;have ih:=zpz k (S:=(zg6 t m (some b)).2) (zoa hS) (show zc0 t m k (zg6 t m (some b)).2=((zc0 t m k (zg6 t m (some b)).2).1,some r) by rw[<-h2]);obtain⟨e1,e2⟩:=ih;have e3:=z3t hS (show zg6 t m (some b)=((zg6 t m (some b)).1,some _) by rw[<-e1]);refine⟨?_,by rw[qm9,e2]⟩;rw[qpe,qmi];exact e3
noncomputable def zdi(t m:Int)(S:St):List zbc × St:=zc0 t m (lenS m S).1 (lenS m S).2
theorem zlv{t m:Int}{S:St}(h:S.ok):(zdi t m S).2.ok:=zwe _ (zb9 h)
theorem z3v{t m:Int}{nu:Bool}{l:List zbc}{r:List Nat}{rows:Int}(h:zes t nu l rows)(hrm:rows<=m)(hm:m<=9223372036854775807)(hd:∀p∈l,statData p.2.2)(hr:(zgz t l).length+r.length<=140737488351232):
 zdi t m (some (zgz t l++r))=(l,some r):=by
 have hp:=zfv h.1;have h2:=h.2;have hle:∀p∈l,p.2.1<=zmq l:=by
  have key:∀l:List zbc,(∀p∈l,zij t nu p 65536=true)-> ∀p∈l,p.2.1<=zmq l:=by
   intro l;induction l with
   |nil=>intro _ p hp;simp at hp
   |cons q l ih=>
    intro h p hp;have h1:=zfv (l:=l) fun z hz=>h z (by simp[hz])
    have h3:=(pageB_most.1 (h q (by simp))).1;rw[zho];rcases qnu.1 hp with rfl|hp
    ·omega
    ·have:=ih (fun z hz=>h z (by simp[hz])) p hp
     omega
  exact key l h.1
 unfold zdi zgz at*;rw[qmv] at hr;rw[qmi,zea l.length _ (by omega) hm];dsimp only;exact zr7 (k:=65536) (nu:=nu) hm l r (fun p hpm=>⟨h.1 p hpm,by have:=hle p hpm;omega,hd p hpm⟩) (by omega)
theorem zyv{t m:Int}{S:St}{l:List zbc}{r:List Nat}(hS:S.ok)(h:zdi t m S=(l,some r)):S=some (zgz t l++r):=by
 unfold zdi at h;obtain⟨N,S1,k⟩:∃N S1,lenS m S=(N,S1):=⟨_,_,rfl⟩;have hS1:S1.ok:=by have:=zb9 (m:=m) hS;rwa[k] at this
 rw[k] at h;obtain⟨e1,e2⟩:=zpz N hS1 h;subst e1;rw[(zhr hS k).1];simp[zgz,e2]
noncomputable def zbq(m:Int):List zbi->St->List (List zbc) × St
 | [],S=>([],S)
 |c::cs,S=>((zdi c.2.1 m S).1::(zbq m cs (zdi c.2.1 m S).2).1,(zbq m cs (zdi c.2.1 m S).2).2)
theorem zr8{m:Int}:∀(cs:List zbi) {S:St},S.ok->(zbq m cs S).2.ok
 | [],_,h=>h
 |_::cs,_,h=>zr8 cs (zlv h)
theorem zyw{t m:Int}{S:St}:∀p∈(zdi t m S).1,statData p.2.2:=zpy _ _
theorem znj{m:Int}:∀(cs:List zbi) (S:St),∀l∈(zbq m cs S).1,∀p∈l,statData p.2.2
 | [],_,l,hl=>by simp[zbq] at hl
 |c::cs,S,l,hl=>by
  simp only[zbq,qnu] at hl;rcases hl with rfl|hl
  ·exact zyw
  ·exact znj cs _ l hl
theorem zp0{m:Int}:∀(cs:List zbi) (S:St),(zbq m cs S).1.length=cs.length
 | [],_=>rfl
 |c::cs,S=>by simp only[zbq,qm9,zp0 cs]
theorem znk{m:Int}:∀(cs:List zbi) {S:St} {ls:List (List zbc)} {r:List Nat},S.ok->zbq m cs S=(ls,some r)->S=some (zcl cs ls++r)
 | [],S,ls,r,_,h=>by
   simp only[zbq,qlk] at h;obtain⟨rfl,rfl⟩:=h;rfl
 |c::cs,S,ls,r,hS,h=>by
  simp only[zbq,qlk] at h;obtain⟨rfl,h2⟩:=h;have ih:=znk cs (S:=(zdi c.2.1 m S).2) (zlv hS) (show zbq m cs (zdi c.2.1 m S).2=((zbq m cs (zdi c.2.1 m S).2).1,some r) by rw[<-h2]);have e3:=zyv hS (show zdi c.2.1 m S=((zdi c.2.1 m S).1,some _) by rw[<-ih]);simp only[zcl,qmi];exact e3
end Go.Proofs.Y
