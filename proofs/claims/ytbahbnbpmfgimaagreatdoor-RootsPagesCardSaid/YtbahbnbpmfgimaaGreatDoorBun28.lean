/- Merged. -/
import Derived.Great.BuildSlice
import Derived.Test.YtbahbnbpmfgimaaGreatDoorBun26
import Derived.Test.YtbahbnbpmfgimaaGreatDoorBun27
set_option maxHeartbeats 4000000
namespace Go.Hm
open Go Go.RowKit
theorem z2s{T:List Nat}{w w1 w2:World}{g:Nat}{V1 V2:Value}(hT:∀x∈g::zbi V1,x∈T)(hw:w.heap.size<=w1.heap.size)(a2:V2.ownBlock=V1.ownBlock\/ ∃h,V2.ownBlock=some h/\w.heap.size<=h)(t2:Turns (g::zbi V2) w1 w2):TurnsB w.heap.size T w1 w2:=
 ⟨t2.os,t2.tape,t2.output,t2.size,fun k hk hm=>t2.block k (by omega) (zok (fun h=>hm (hT k h)) hk a2)⟩
theorem LeafIn.at_{w:World}{A:Option Addr}{L:List (List Nat)}{T:List Nat}(h:LeafIn w A L T){i:Nat}(hi:i<L.length):
 ∃ad,A=some ad/\ ∀W,New w W-> ∀j v,(zan .u8 (L.getD i []))[j]? =some v->W.cell? ((ad.add (i*32)).add j)=some v:=by
 obtain⟨ad,e,hb,hl,hc⟩:=Reads.rec_ (f:=zet) (sz:=32) zdi [] h.row hi (by omega);have hd:zh4 (L.getD i []):=by refine h.digs _ ?_;rw[qoa,qmm hl];exact qm8 hl
 refine⟨ad,e,fun W hW j v hv=>?_⟩;rw[za3];rw[<-zol hd.1] at hv;exact(Below.cell hW (by rw[zai];exact hb)).trans (hc j v hv)
end Go.Hm
namespace Go.Proofs.Y
open Go.RowKit Go.Hm
theorem sD:Tryz.prog.underlying 23=some (.slice (Tryz.prog.elem 23)):=by kernel_rfl
theorem zD(w:World):(sizeOf (Tryz.prog.elem 23)).run Tryz.prog w= .ok 32 w:=by kernel_rfl
theorem z0b(A:Option Addr)(n c m:Nat)(hc:m<=c)(w:World):(Instr.sliceAt 23 (.slice A n c) none (some (.int .i64 (m:Int))) none).run Tryz.prog w= .ok (.slice A m c) w:=by rw[run_sliceAt_slice w _ _ _ _ _ sD,run_slice_h w _ A n c sD .i64 (m:Int) (by omega) (by omega),zD];cases A<;> simp[Result.andThen,sliced,zel]
theorem z0c(A:Option Addr)(n c k:Nat)(hk:k<=n)(w:World):(Instr.sliceAt 23 (.slice A n c) (some (.int .i64 (k:Int))) none none).run Tryz.prog w= .ok (.slice (if c=k then A else A.map (·.add (k*32))) (n-k) (c-k)) w:=by rw[run_sliceAt_slice w _ _ _ _ _ sD,run_slice_l w _ A n c sD .i64 (k:Int) (by omega) (by omega),zD];simp[Result.andThen,sliced]
theorem zjw{ops:Array Oper}{rest:List Oper}{o:Oper}{a:Act}{w:World}{Q:Exit->Act->World->Prop}(hgd:o.guard=none)(ty:TypeId)(x:Operand)(ho:o.op= .load ty x){ad:Addr}{cs:List Value}{d:TypeDesc}(hx:a.eval x= .pointer (some ad))(hc:∀j v,cs[j]? =some v->w.cell? (ad.add j)=some v)(hu:Tryz.prog.underlying ty=some d)(hd:d.isRow=true)(hi:(Tryz.prog.info? ty).map (·.size)=some cs.length)
 (h:wpList Tryz.prog ops Q rest (a.put o.dst (.agg cs.toArray)) w):wpList Tryz.prog ops Q (o::rest) a w:=by
 refine wpList_plain hgd fun K hK=>?_
 unfold Oper.wp execOp;simp only[ho,hx,Instr.loadAt,Instr.sureAddr,Sem.run_bind,Sem.run_pure,Result.andThen_ok,zjv w ad ty cs d hc hu hd hi];exact hK _ _ h
theorem z6p{d:List Nat}(h:d.length=32):(Tryz.prog.info? 35).map (·.size)=some (zan .u8 d).toArray.size:=by have:=qbx (l:=List.replicate 32 0) (by simp);rw[this];simp[za7,zan,h]
theorem zuv(d:List Nat):(zan .u8 d).toArray.all (·.oneCell')=true:=by rw[Array.all_eq_true_iff_forall_mem];intro v hv;exact zci .u8 d v (by simpa using hv)
set_option maxRecDepth 100000 in
theorem zso:∀(m:Nat) {L:List (List Nat)} {w:World} {base g:Nat} {V:Value} {F:List (List Nat)} {A:Option Addr} {c:Nat},L.length<m->LogOf tL w base g V F->base<=w.heap.size->F.length+L.length<=9000000->LeafIn w A L (g::zbi V)->L.length<=c->c<=9223372036854775807->(∀w',Turns (g::zbi V) w w'->ConstIn w')->
 Calls Tryz.prog 36 #[.pointer (some ⟨g,0,none⟩),.slice A L.length c] w (zev tL (dV (zb8 L).1) base g V (F++(zb8 L).2) w):=by
 intro m;induction m with
 |zero=>intro L w base g V F A c h;omega
 |succ m ih=>
  intro L w base g V F A c hm hL hbs hn hlv hc hcm hC;have c0:=zac w (.cells (za7 .u8 zat).toArray 35);have G0:=Blk.new w 35 (za7 .u8 zat).toArray;have hgl:g<w.heap.size:=hL.lt;obtain⟨W0,hW0⟩:∃W,W=w.alloc (.cells (za7 .u8 zat).toArray 35):=⟨_,rfl⟩;rw[<-hW0] at c0 G0;have L0:=hL.new c0;have V0:=hlv.turn (Turns.of_new (T:=g::zbi V) c0) (fun x _ h=>h)
  match L,hm,hn,hlv,hc,V0 with
  | [],_,hn,_,_,_=>
    have lh:=zku (s:=zbw) (D:=[]) (A:=none) (n:=0) (c:=0) L0 (qml hbs c0.size) (by simp at hn;omega) ⟨Reads.none_,(fun _ hd=>nomatch hd),qmt _⟩ (by omega) (by decide) (by decide) (by simp[bytesOf,zfl]) (by simp[bytesOf]) (fun w' k=>hC w' ((Turns.of_new c0).trans k));rw[show bytesOf []=[] from rfl,zl0] at lh;obtain⟨cs,hcs⟩:∃cs,cs=(zan .u8 (zb6 zbw [])).toArray:=⟨_,rfl⟩;have hdv:dV (zb6 zbw [])= .agg cs:=by rw[hcs];rfl
    have I32:=z6p (zb3 zbw []).1;have ONE:=zuv (zb6 zbw []);have ZS:(za7 .u8 zat).toArray.size=cs.size:=by rw[hcs];simp[za7,zan,zat,(zb3 zbw []).1]
    rw[zj6,hdv] at lh;rw[<-hcs] at I32 ONE;rw[zih];show Calls _ _ _ _ (zev tL (dV (zb6 zbw [])) base g V (F++[zcu zbw []]) w);rw[hdv];have LH:=Hz lh;have I32:=Hz I32;have ONE:=Hz ONE;have ZS:=Hz ZS;have HL:=Hz L0;have G0:=Hz G0;have C0:=Hz c0;have HW:=Hz hW0;clear hcs hdv lh L0 c0 hC hlv hL ih hW0 V0;go_enter Tryz.func36,Tryz.ntmps36
    go_wp2_with fail
    have F1:=LH.out;rw[HW.out] at F1;refine F1.mono ?_;rintro e w4 ⟨rfl,V',l4,a4,t4⟩;have t4:Turns (g::zbi V) W0 w4:=by rw[HW.out];exact t4
    have g4:=G0.out.touch t4 (HL.out.notT G0.out (by decide) (by decide));have a4:V'.ownBlock=V.ownBlock\/ ∃h,V'.ownBlock=some h/\w.heap.size<=h:=a4.imp id fun⟨h,h1,h2⟩=>⟨h,h1,qml (by simp) h2⟩
    have PS:=Hz (zde hgl l4 a4 ((Turns.of_new C0.out).trans t4) g4 cs);have H:=Hz (qo8 (zay g4) (za5 g4 cs));clear l4 a4 t4 g4 F1 LH HW;go_wp2_with (refine wpList_store_row rfl 35 (.tmp 4) (.tmp 12) rfl w.heap.size cs rfl rfl _ _ H.out.1 I32.out ZS.out ONE.out ?_)
    exact bodyPost_ret (results_cell_row rfl _ _ w.heap.size _ cs (0,0) _ rfl H.out.2 zcn rfl I32.out) rfl ⟨rfl,PS.out⟩
  | [x],_,_,hlv,_,V0=>
    have hx:zh4 x:=hlv.digs x (by simp);obtain⟨ad,rfl,hcell⟩:=V0.at_ (i:=0) (by simp);have hcell:=hcell W0 (Below.refl _ _);rw[qpj,zel] at hcell;obtain⟨cs,hcs⟩:∃cs,cs=(zan .u8 x).toArray:=⟨_,rfl⟩;have hdv:dV x= .agg cs:=by rw[hcs];rfl
    have I32:=z6p hx.1;have I32L:(Tryz.prog.info? 35).map (·.size)=some cs.toList.length:=by rw[hcs];simpa using z6p hx.1
    have ONE:=zuv x;have ZS:(za7 .u8 zat).toArray.size=cs.size:=by rw[hcs];simp[za7,zan,zat,hx.1]
    have hcell:∀j v,cs.toList[j]? =some v->W0.cell? (ad.add j)=some v:=by rw[hcs];simpa using hcell
    rw[<-hcs] at I32 ONE;rw[zii];show Calls _ _ _ _ (zev tL (dV x) base g V (F++[]) w);rw[hdv,qm3];have PS:=Hz (zde hgl L0 (.inl rfl) (Turns.of_new c0) G0 cs);have H:=Hz (qo8 (zay G0) (za5 G0 cs));rw[hW0] at hcell PS H;have HC:=Hz hcell;have I32:=Hz I32;have I32L:=Hz I32L;have ONE:=Hz ONE;have ZS:=Hz ZS;clear hcs hdv L0 c0 G0 hC hlv hL ih hW0 V0 hcell;show Calls _ _ #[_,.slice (some ad) 1 c] _ _;go_enter Tryz.func36,Tryz.ntmps36
    go_wp2_with (first
     |(refine zjw rfl 35 (.tmp 16) rfl rfl HC.out zcn rfl I32L.out ?_)
     |(refine wpList_store_row rfl 35 (.tmp 4) (.tmp 17) rfl w.heap.size cs rfl rfl _ _ H.out.1 I32.out ZS.out ONE.out ?_))
    exact bodyPost_ret (results_cell_row rfl _ _ w.heap.size _ cs (0,0) _ rfl H.out.2 zcn rfl I32.out) rfl ⟨rfl,PS.out⟩
  |x::y::r,hm,hn,hlv,hc,V0=>
   have h2:2<=(x::y::r).length:=by simp
   obtain⟨L,hLL⟩:∃L,L=x::y::r:=⟨_,rfl⟩;rw[<-hLL] at h2 hm hn hlv hc V0⊢;clear hLL;obtain⟨s1,s2,s3⟩:=zd5 h2;have SP:=zuj (L.length:Int) W0 (by omega) (by omega);rw[qng] at SP;rw[zi5 h2];have dg:=hlv.digs;have d1:=zdn _ (dg.take (zbf L.length));have d2:=zdn _ (dg.drop (zbf L.length));have tk:(L.take (zbf L.length)).length=zbf L.length:=by rw[qmq];omega
   have dr:(L.drop (zbf L.length)).length=L.length-zbf L.length:=by rw[qmp]
   have f1:=(zf6 _ (dg.take (zbf L.length)) (by omega)).1;have f2:=(zf6 _ (dg.drop (zbf L.length)) (by omega)).1;have ih1:=ih (L:=L.take (zbf L.length)) (c:=c) (by omega) L0 (qml hbs c0.size) (by omega) (V0.take (by omega)) (by omega) hcm (fun w' t=>hC w' ((Turns.of_new c0).trans t));have ih2:=fun(w:World) (V:Value) (F:List (List Nat)) (A:Option Addr) (h1:LogOf tL w base g V F) (h2:base<=w.heap.size) (h3:F.length+(L.length-zbf L.length)<=9000000) (h4:LeafIn w A (L.drop (zbf L.length)) (g::zbi V)) (h5:∀w',Turns (g::zbi V) w w'->ConstIn w')=>ih (L:=L.drop (zbf L.length)) (c:=c-zbf L.length) (by omega) h1 h2 (by omega) h4 (by omega) (by omega) h5
   rw[tk] at ih1 f1;rw[dr] at ih2 f2;have DROP:=fun(w:World) (A:Option Addr) (T:List Nat) (h:LeafIn w A L T)=>h.drop (k:=zbf L.length) (c:=c) (by omega) hc
   have SLh:=fun W=>z0b A L.length c (zbf L.length) (by omega) W
   have SLl:=fun W=>z0c A L.length c (zbf L.length) (by omega) W
   generalize zb8 (L.take (zbf L.length))=ra at*;generalize zb8 (L.drop (zbf L.length))=rb at*;generalize zbf L.length=k at*;obtain⟨a,fa⟩:=ra;obtain⟨b,fb⟩:=rb;simp only at d1 d2 f1 f2 ih1 ih2⊢;obtain⟨ca,hca⟩:∃cs,cs=(zan .u8 a).toArray:=⟨_,rfl⟩;have hva:dV a= .agg ca:=by rw[hca];rfl
   obtain⟨cb,hcb⟩:∃cs,cs=(zan .u8 b).toArray:=⟨_,rfl⟩;have hvb:dV b= .agg cb:=by rw[hcb];rfl
   obtain⟨cs,hcs⟩:∃cs,cs=(zan .u8 (zb6 zbs [a,b])).toArray:=⟨_,rfl⟩;have hdv:dV (zb6 zbs [a,b])= .agg cs:=by rw[hcs];rfl
   have I32a:(Tryz.prog.info? 35).map (·.size)=some ca.size:=by rw[hca];exact z6p d1.1
   have ZSa:(za7 .u8 zat).toArray.size=ca.size:=by rw[hca];simp[za7,zan,zat,d1.1]
   have ONEa:ca.all (·.oneCell')=true:=by rw[hca];exact zuv _
   have hdd:=zb3 zbs [a,b];have I32:(Tryz.prog.info? 35).map (·.size)=some cs.size:=by rw[hcs];exact z6p hdd.1
   have ZS:(za7 .u8 zat).toArray.size=cs.size:=by rw[hcs];simp[za7,zan,zat,hdd.1]
   have ONE:cs.all (·.oneCell')=true:=by rw[hcs];exact zuv _
   have ND:=fun(w:World) (V:Value) (F:List (List Nat)) (h1:LogOf tL w base g V F) (h2:base<=w.heap.size) (h3:F.length<=10000000) (h4:∀w',Turns (g::zbi V) w w'->ConstIn w')=>z0a h1 h2 h3 d1 d2 h4
   rw[hva] at ih1;rw[hvb] at ih2;rw[hva,hvb,hdv] at ND;rw[hdv];have IH1:=Hz ih1;have IH2:=Hz ih2;have ND2:=Hz ND;have DROPH:=Hz DROP;have SP:=Hz SP;have HL0:=Hz L0;have HLV:=Hz hlv;have HC:=Hz hC;have G0:=Hz G0;have C0:=Hz c0;have HW:=Hz hW0;have I32a:=Hz I32a;have ZSa:=Hz ZSa;have ONEa:=Hz ONEa;have I32:=Hz I32;have ZS:=Hz ZS;have ONE:=Hz ONE;have SLL:=Hz SLl;clear hca hcb hcs hva hvb hdv hdd ih ih1 ih2 ND L0 c0 hC hlv hL hW0 V0 DROP dg d1 d2 tk dr SLl;go_enter Tryz.func36,Tryz.ntmps36
   have q0:((L.length:Int)==0)=false:=by rw[beq_eq_false_iff_ne];omega
   have q1:((L.length:Int)==1)=false:=by rw[beq_eq_false_iff_ne];omega
   go_wp2_with fail
   have F1:=SP.out;rw[HW.out] at F1;refine F1.mono ?_;rintro e w' ⟨rfl,rfl⟩;clear F1 SP q0 q1;go_wp2_with fail
   have F2:=IH1.out;rw[HW.out] at F2;refine F2.mono ?_;rintro e w5 ⟨rfl,V1,l5,a5,t5⟩;have t5:Turns (g::zbi V) W0 w5:=by rw[HW.out];exact t5
   have a5:V1.ownBlock=V.ownBlock\/ ∃h,V1.ownBlock=some h/\w.heap.size<=h:=a5.imp id fun⟨h,h1,h2⟩=>⟨h,h1,qml (by simp) h2⟩
   have g5:=G0.out.touch t5 (HL0.out.notT G0.out (by decide) (by decide));have L5:=Hz l5;have A5:=Hz a5;have T5:=Hz ((Turns.of_new (T:=g::zbi V) C0.out).trans t5);have G5:=Hz g5;clear F2 IH1 l5 a5 t5 g5 G0 HL0 SLh HW C0;go_wp2_with (refine wpList_store_row rfl 35 (.tmp 6) (.tmp 25) rfl w5.heap.size ca rfl rfl _ _ (heap_alloc_new _ _) I32a.out ZSa.out ONEa.out ?_;rw[zck])
   obtain⟨w7,hw7⟩:∃W,W=w5.alloc (.cells ca 35):=⟨_,rfl⟩;have n57:New w5 w7:=by rw[hw7];exact zac _ _
   have g6:Blk w7 w5.heap.size 35 ca:=by rw[hw7];exact Blk.new _ _ _
   rw[<-hw7];have B6N:=Hz (show w5.heap.size≠w.heap.size by have:=G5.out.lt;omega);generalize w5.heap.size=b6 at*;clear hw7;have t7:=T5.out.trans (Turns.of_new n57);have l7:=L5.out.new n57;have nr:w.heap.size∉g::zbi V1:=L5.out.notT G5.out (by decide) (by decide);have g7:=G5.out.below n57 G5.out.lt;obtain⟨w0,hw0⟩:∃W,W=w7.drew:=⟨_,rfl⟩;have n70:New w7 w0:=by rw[hw0];exact New.drew w7
   have t0:=t7.trans (Turns.of_new n70);have l0:=l7.new n70;have lv0:=HLV.out.turn t0 (fun x hx hT=>zok hT hx A5.out);have R2:=IH2.out w0 V1 (F++fa) _ l0 (qml hbs t0.size) (by rw[qni,f1];omega) (DROPH.out w0 A _ lv0) (fun w' t=>HC.out w' (zbp t0 A5.out t));have LR:∀W,TurnsB w0.heap.size (w.heap.size::g::zbi V1) w0 W->W.heap[b6]? =some (.cells ca 35 (0,0)):=fun W hW=>by
    have g60:=g6.below n70 g6.lt;refine(hW.block b6 g60.lt (fun hx=>?_)).trans g60;rcases qof.1 hx with e|hx
    ·exact B6N.out e
    ·exact l0.notT g60 (by decide) (by decide) hx
   have R2:=Hz R2;have LR:=Hz LR;have HW0:=Hz hw0;have G70:=Hz (g7.below n70 g7.lt);have L00:=Hz l0;have T0:=Hz t0;have NR:=Hz nr;clear t7 l7 nr g7 n70 t0 l0 lv0 n57 g6 T5 L5 G5 HLV IH2 DROPH hw0;go_wp2
   refine zax (TurnsB w0.heap.size (w.heap.size::g::zbi V1)) [(true,0),(true,1),(true,2),(true,3),(true,4),(true,5),(false,6),(false,7),(false,8)]
    (TurnsB.refl _ _) TurnsB.trans (by kernel_rfl) (by kernel_rfl) (by kernel_rfl) (by kernel_rfl) ?_
   rw[<-HW0.out];iterate 1 (
    refine zar rfl rfl (v:=?_) (fun W hW=>?_) ?_;rotate_left
    ·skip
     go_simp<;> with_reducible rfl
    simp only[Act.put,qo6,qou,qo7])
   refine zar rfl rfl (v:= .agg ca) (fun W hW=>zc9 rfl (LR.out W hW) zcn rfl I32a.out) ?_;simp only[Act.put,qo6,qou,qo7];iterate 3 (
    refine zar rfl rfl (v:=?_) (fun W hW=>?_) ?_;rotate_left
    ·skip
     go_simp<;> with_reducible rfl
    simp only[Act.put,qo6,qou,qo7])
   refine zar rfl rfl (v:= .slice (if c=k then A else A.map (·.add (k*32))) (L.length-k) (c-k)) (fun W hW=>zg3 (SLL.out W)) ?_;simp only[Act.put,qo6,qou,qo7];refine zba rfl rfl (fun K hK=>?_);go_simp
   refine R2.out.mono ?_;rintro e w8 ⟨rfl,V2,l8,a8,t8⟩;refine hK _ _ (.of (t8.more (by intro x hx;simp at hx⊢;simp[hx])) (qmt _)) ?_;clear hK;have t08:=zbp T0.out A5.out t8;have a08:=zf7 T0.out.size A5.out a8;have g8:=G70.out.touch t8 NR.out;have nd:=ND2.out w8 V2 (F++fa++fb) l8 (qml hbs t08.size) (by rw[qni,qni,f1,f2];omega) (fun w' t=>HC.out w' (zbp t08 a08 t));have nr2:w.heap.size∉g::zbi V2:=l8.notT g8 (by decide) (by decide);refine zba rfl rfl (fun K hK=>?_);go_simp
   refine nd.mono ?_;rintro e w9 ⟨rfl,V3,l9,a9,t9⟩;refine hK _ _ (z2s (fun x hx=>qqf _ hx) t8.size a8 t9) ?_;clear hK;have t09:=zbp t08 a08 t9;have a09:=zf7 t08.size a08 a9;have g9:=g8.touch t9 nr2;refine zba rfl rfl (fun K hK=>?_);refine wp_store_row 35 (.tmp 4) (.tmp 33) rfl w.heap.size cs rfl rfl _ _ (zay g9) I32.out ZS.out ONE.out ?_;refine hK _ _ (.of (Turns.of_far (zbl (g:=w.heap.size) w9 cs) (by simp)) (qml t8.size t9.size)) ?_;clear hK;refine zdh ?_;have PS:=zde hgl l9 a09 t09 g9 cs;rw[qm5,qm5] at PS;have PS:=Hz PS;have H:=Hz (za5 g9 cs);clear t08 a08 g8 nd nr2 t09 a09 g9 l8 a8 t8 l9 a9 t9;go_wp2
   exact bodyPost_ret (results_cell_row rfl _ _ w.heap.size _ cs (0,0) _ rfl H.out zcn rfl I32.out) rfl ⟨rfl,by have:=PS.out;simpa only[qm5] using this⟩
end Go.Proofs.Y
namespace Go.Hm
open Go Go.RowKit
theorem z2t{ds:List (List Nat)}(h:Digs ds):((ds.map dV).flatMap fun v=>v.cells.toList)=recs zet ds:=by
 induction ds with
 |nil=>rfl
 |cons d ds ih=>
  rw[qnc,qp1,zg4,ih (fun x hx=>h x (by simp[hx])),zol (h d (by simp)).1];rfl
end Go.Hm
namespace Go.Proofs.Y
open Go.RowKit Go.Hm
theorem qlt:Tryz.prog.underlying 23=some (.slice 35):=by kernel_rfl
theorem qje:∃ie z,Tryz.prog.info? 35=some ie/\ie.zero=some z/\ie.size=32:=by
 have h:(Tryz.prog.info? 35).map (fun i=>(i.zero.isSome,i.size))=some (true,32):=by kernel_rfl
 cases hq:Tryz.prog.info? 35 with
 |none=>rw[hq] at h;cases h
 |some ie=>
  rw[hq] at h;simp only[qpr,qmj,qmi] at h;obtain⟨z,hz⟩:=Option.isSome_iff_exists.1 h.1;exact⟨ie,z,rfl,hz,h.2⟩
theorem zuw{ds:List (List Nat)}(hd:Digs ds)(z:Value):Instr.fill (fun i=>some (i*32,32)) ((Array.range (ds.length*32)).map (z.cells[· %z.cells.size]!)) (((ds.map dV).zipIdx 0).map fun x=>(x.2,x.1))=some (recs zet ds).toArray:=by
 rw[Great.fill_whole (s:=32) (by omega) (ds.map dV) _ (fun v hv=>by obtain⟨d,hm,rfl⟩:=qmn.1 hv;have:=(hd d hm).1;simp[dV,Value.cells,zan,this]) (by simp),z2t hd]
section
variable{ops:Array Oper}{rest:List Oper}{o:Oper}{a:Act}{w:World}{Q:Exit->Act->World->Prop}
theorem zom(hg:o.guard=none)(n:Nat)(parts:Array (Nat × Operand))(ho:o.op= .buildSlice 23 n parts)(ds:List (List Nat))(hd:Digs ds)(hn:ds.length=n)(h0:0<n)(hs:n<=1000)
 (hp:(parts.map fun(i,x)=>(i,a.eval x)).toList=((ds.map dV).zipIdx 0).map fun x=>(x.2,x.1))
 (h:wpList Tryz.prog ops Q rest (a.put o.dst (.slice (some ⟨w.heap.size,0,none⟩) n n)) (w.alloc (.cells (recs zet ds).toArray 35))):wpList Tryz.prog ops Q (o::rest) a w:=by
 obtain⟨ie,z,h1,h2,h3⟩:=qje;subst hn;refine wpList_buildSlice hg _ _ _ parts ho _ ie z qlt h1 h2 (by rw[h3];omega) (by rw[h3];omega) ?_ h;rw[hp,h3];exact zuw hd z
theorem zsp{K:Act->World->Prop}{Q:Exit->Act->World->Prop}(n:Nat)(parts:Array (Nat × Operand))(ho:o.op= .buildSlice 23 n parts)(ds:List (List Nat))(hd:Digs ds)(hn:ds.length=n)(h0:0<n)(hs:n<=1000)
 (hp:(parts.map fun(i,x)=>(i,a.eval x)).toList=((ds.map dV).zipIdx 0).map fun x=>(x.2,x.1))
 (h:K (a.put o.dst (.slice (some ⟨w.heap.size,0,none⟩) n n)) (w.alloc (.cells (recs zet ds).toArray 35))):o.wp Tryz.prog a w K Q:=by
 obtain⟨ie,z,h1,h2,h3⟩:=qje;subst hn;refine wp_buildSlice _ _ _ parts ho _ ie z qlt h1 h2 (by rw[h3];omega) (by rw[h3];omega) ?_ h;rw[hp,h3];exact zuw hd z
end
theorem zfy{w:World}{ds:List (List Nat)}(hd:Digs ds){T:List Nat}(hT:w.heap.size∉T):LeafIn (w.alloc (.cells (recs zet ds).toArray 35)) (some ⟨w.heap.size,0,none⟩) ds T:=by refine⟨⟨zau (sz:=32) zdi ds,fun _=>⟨_,rfl,by simp,?_⟩⟩,hd,fun _ ad ha=>by injection ha with ha;subst ha;exact hT⟩;have:=World.news_of_block (heap_alloc_new w (.cells (recs zet ds).toArray 35));simpa using this
open Go.RowKit Go.Hm Go.WideShapes Go.ChangeShapes
section
variable{H:Type}{enc:TypeId × Value->H}{W:World}{base:Nat}{v:Value}{d:DataW H}{ps:List MemPlace}
end
set_option maxRecDepth 100000 in
theorem z6r{w:World}{A:Option Addr}{L:List (List Nat)}(h:Reads w w.heap.size 32 A L.length (recs zet L))(hd:Digs L){w':World}(hb:New w w'){T:List Nat}(hT:∀x∈T,w.heap.size<=x):LeafIn w' A L T:=by refine⟨Reads.later h hb,hd,fun hn ad ha hm=>?_⟩;obtain⟨ad',e,hlt,_⟩:=h.2 hn;rw[ha] at e;injection e with e;subst e;have:=hT _ hm;omega
end Go.Proofs.Y
namespace Go.Hm
open Go Go.RowKit
abbrev zmg:=Option Addr × Nat × List ziz
def zwg(d:zmg):List Value:=[.slice d.1 d.2.2.length d.2.1]
def byP(d:ziy):List Nat:=d.2.2
def rwP(r:ziz):List (List Nat):=r.2.2.map byP
def gpP(g:zmg):List (List (List Nat)):=g.2.2.map rwP
def PieceIn(w:World)(d:ziy):Prop:=BytIn w d/\d.2.2.length<=d.2.1/\d.2.1<=9223372036854775807
theorem PieceIn.later{w w':World}{d:ziy}(h:PieceIn w d)(hb:New w w'):PieceIn w' d:=⟨h.1.later hb,h.2⟩
def PieceOf(A:Option Addr)(w:World)(d:ziy):Prop:=PieceIn w d/\ ∀ad,d.1=some ad-> ∃a0,A=some a0/\ad.block=a0.block
theorem PieceOf.later{A:Option Addr}{w w':World}{d:ziy}(h:PieceOf A w d)(hb:New w w'):PieceOf A w' d:=⟨h.1.later hb,h.2⟩
theorem z9g{A:Option Addr}{k:Nat}{p:Prop}[Decidable p]:∀ad,(if p then A else A.map (·.add k))=some ad-> ∃a0,A=some a0/\ad.block=a0.block:=by
 intro ad h;split at h
 ·exact⟨ad,h,rfl⟩
 ·cases A with
  |none=>cases h
  |some a0=>
   injection h with h;subst h;exact⟨a0,rfl,zai _ _⟩
theorem zpu{α:Type}{f:α->List Value}(hf:∀x,(f x).length=1)(X:List α)(x:α)(k m:Nat)(h:X.length=k){z v:Value}(hv:f x=[v]):
 (recs f X++List.replicate (m+1) z).toArray.setIfInBounds k v=(recs f (X++[x])++List.replicate m z).toArray:=by
 have h2:(recs f X).length=k:=by rw[zau (sz:=1) hf];omega
 rw[qo6,qor _ _ (by omega),h2,qos,qot,qou,za2,qm5];congr 2
 simp[recs,hv]
theorem zhh{α:Type}{f:α->List Value}(hf:∀x,(f x).length=1)(X:List α)(m:Nat)(z:Value):(recs f X++List.replicate m z).toArray.size=X.length+m:=by rw[qnm,qni,zau (sz:=1) hf,qo9,qm0]
end Go.Hm
namespace Go.Proofs.Y
open Go.RowKit Go.Hm
def RowBAt(W:World)(lo:Nat)(r:ziz):Prop:=∃k,lo<k/\r.1=some ⟨k,0,none⟩/\r.2.1=r.2.2.length/\Blk W k 24 (recs zie r.2.2).toArray
def RowRAt(W:World)(lo:Nat)(g:zmg):Prop:=∃k,lo<k/\g.1=some ⟨k,0,none⟩/\g.2.1=g.2.2.length/\Blk W k 22 (recs zpt g.2.2).toArray/\ ∀r∈g.2.2,RowBAt W k r
theorem RowBAt.below{W W':World}{lo B:Nat}{r:ziz}(h:RowBAt W lo r)(hb:Below B W W')(hB:W.heap.size<=B):RowBAt W' lo r:=by obtain⟨k,h1,h2,h3,h4⟩:=h;exact⟨k,h1,h2,h3,h4.below hb (by have:=h4.lt;omega)⟩
theorem RowRAt.below{W W':World}{lo B:Nat}{g:zmg}(h:RowRAt W lo g)(hb:Below B W W')(hB:W.heap.size<=B):RowRAt W' lo g:=by obtain⟨k,h1,h2,h3,h4,h5⟩:=h;exact⟨k,h1,h2,h3,h4.below hb (by have:=h4.lt;omega),fun r hr=>(h5 r hr).below hb hB⟩
theorem RowBAt.far{W W':World}{lo g:Nat}{r:ziz}(h:RowBAt W lo r)(hg:W.grownBy W' (some g))(hl:g<=lo):RowBAt W' lo r:=by obtain⟨k,h1,h2,h3,h4⟩:=h;exact⟨k,h1,h2,h3,h4.grown hg (by intro e;injection e with e;omega)⟩
theorem RowRAt.far{W W':World}{lo g:Nat}{r:zmg}(h:RowRAt W lo r)(hg:W.grownBy W' (some g))(hl:g<=lo):RowRAt W' lo r:=by obtain⟨k,h1,h2,h3,h4,h5⟩:=h;exact⟨k,h1,h2,h3,h4.grown hg (by intro e;injection e with e;omega),fun r hr=>(h5 r hr).far hg (by omega)⟩
theorem RowBAt.mv{W W':World}{lo hi:Nat}{r:ziz}(h:RowBAt W lo r)(hw:W.heap.size<=hi)(kp:∀k,lo<k->k<hi->W'.heap[k]? =W.heap[k]?):RowBAt W' lo r:=by obtain⟨k,h1,h2,h3,h4⟩:=h;exact⟨k,h1,h2,h3,(kp k h1 (by have:=h4.lt;omega)).trans h4⟩
theorem RowRAt.mv{W W':World}{lo hi:Nat}{g:zmg}(h:RowRAt W lo g)(hw:W.heap.size<=hi)(kp:∀k,lo<k->k<hi->W'.heap[k]? =W.heap[k]?):RowRAt W' lo g:=by obtain⟨k,h1,h2,h3,h4,h5⟩:=h;exact⟨k,h1,h2,h3,(kp k h1 (by have:=h4.lt;omega)).trans h4,fun r hr=>(h5 r hr).mv hw (fun j hj=>kp j (by omega))⟩
theorem zgz{W:World}{k:Nat}{t:TypeId}{cs:List Value}{n:Nat}(h:Blk W k t cs.toArray)(hn:n=cs.length):Reads W W.heap.size 1 (some ⟨k,0,none⟩) n cs:=by subst hn;refine⟨by simp,fun _=>⟨_,rfl,h.lt,fun j u hu=>?_⟩⟩;rw[Addr.add_mid,qnl,h.cell,List.getElem?_toArray,hu]
theorem RowBAt.inn{W:World}{lo:Nat}{r:ziz}(h:RowBAt W lo r):RowBIn W r:=by obtain⟨k,h1,h2,h3,h4⟩:=h;unfold RowBIn;rw[h2];exact zgz h4 (by rw[zau (sz:=1) (fun _=>rfl),qm0])
theorem RowRAt.inn{W:World}{lo:Nat}{g:zmg}(h:RowRAt W lo g):Reads W W.heap.size 1 g.1 g.2.2.length (recs zpt g.2.2)/\ ∀r∈g.2.2,RowBIn W r:=by obtain⟨k,h1,h2,h3,h4,h5⟩:=h;rw[h2];exact⟨zgz h4 (by rw[zau (sz:=1) (fun _=>rfl),qm0]),fun r hr=>(h5 r hr).inn⟩
def SheCutPostA(A0:Option Addr)(G:List za4)(b:List Nat)(w:World)(e:Ending)(w':World):Prop:=
 ∃A X,e= .returned (.slice A X.length X.length)/\New w w'/\(Reads w' w'.heap.size 1 A X.length (recs zwg X)/\ ∀ad,A=some ad->w.heap.size<=ad.block)/\(∀g∈X,g.2.1=g.2.2.length/\(Reads w' w'.heap.size 1 g.1 g.2.2.length (recs zpt g.2.2)/\ ∀ad,g.1=some ad->w.heap.size<=ad.block)/\ ∀r∈g.2.2,r.2.1=r.2.2.length/\(RowBIn w' r/\ ∀ad,r.1=some ad->w.heap.size<=ad.block)/\ ∀d∈r.2.2,PieceOf A0 w' d)/\X.map gpP=zfi G (b.drop 4)
def z39(G:List za4)(b:List Nat)(w:World)(e:Ending)(w':World):Prop:=
 ∃A X,e= .returned (.slice A X.length X.length)/\New w w'/\Reads w' w'.heap.size 1 A X.length (recs zwg X)/\(∀g∈X,g.2.1=g.2.2.length/\Reads w' w'.heap.size 1 g.1 g.2.2.length (recs zpt g.2.2)/\ ∀r∈g.2.2,r.2.1=r.2.2.length/\RowBIn w' r/\ ∀d∈r.2.2,PieceIn w' d)/\X.map gpP=zfi G (b.drop 4)
theorem SheCutPostA.post{A0:Option Addr}{G:List za4}{b:List Nat}{w:World}{e:Ending}{w':World}(h:SheCutPostA A0 G b w e w'):z39 G b w e w':=by obtain⟨A,X,h1,h2,h3,h4,h5⟩:=h;exact⟨A,X,h1,h2,h3.1,fun g hg=>⟨(h4 g hg).1,(h4 g hg).2.1.1,fun r hr=>⟨((h4 g hg).2.2 r hr).1,((h4 g hg).2.2 r hr).2.1.1,fun d hd=>(((h4 g hg).2.2 r hr).2.2 d hd).1⟩⟩,h5⟩
def znz(G:List za4)(k j q:Nat):Nat:=4+szG (G.take k)+szC ((G.getD k zak).2.take j)+szL ((zaw G k j).take q)
theorem z9h(G:List za4):znz G 0 0 0=4:=by simp[znz,szG,szC,szL]
theorem zwh{F:FootS}{b:List Nat}(hs:4+szG F.groups<=b.length){k j q:Nat}(hk:k<F.groups.length)(hj:j<(F.groups.getD k zak).2.length)(hq:q<(zaw F.groups k j).length):
 znz F.groups k j (q+1)=znz F.groups k j q+((zaw F.groups k j).getD q zbv).1.toNat/\znz F.groups k j (q+1)<=b.length
  /\(((zfi F.groups (b.drop 4)).getD k []).getD j []).getD q []=(b.drop (znz F.groups k j q)).take ((zaw F.groups k j).getD q zbv).1.toNat:=by
 have h1:=z1e hq;have h2:=qfv (zaw F.groups k j) (q+1);have h3:=ztv hj;have h4:=qfw (F.groups.getD k zak).2 (j+1);have h5:=ztw hk;have h6:=qfx F.groups (k+1);refine⟨by unfold znz;omega,?_,?_⟩
 ·unfold znz
  have e:szL ((F.groups.getD k zak).2.getD j [])=szL (zaw F.groups k j):=rfl;omega
 ·rw[ziw _ _ _ hk,cutC_at _ _ _ hj]
  have hq':q<((F.groups.getD k zak).2.getD j []).length:=hq;rw[zy1 _ _ _ hq',qpc,qpc,qpc];unfold znz zaw;congr 2
  omega
theorem z4a{G:List za4}{k j:Nat}(hj:j<(G.getD k zak).2.length):znz G k j (zaw G k j).length=znz G k (j+1) 0:=by have h3:=ztv hj;unfold znz;rw[qql,qnj,show szL []=0 from rfl,h3];unfold zaw;omega
theorem z4b{G:List za4}{k:Nat}(hk:k<G.length):znz G k (G.getD k zak).2.length 0=znz G (k+1) 0 0:=by have h5:=ztw hk;unfold znz;rw[qql,qnj,qnj,qnj,show szL []=0 from rfl,show szC []=0 from rfl,h5];omega
theorem z1j{F:FootS}(h:zbu F):F.groups.length<=65536/\F.cols.length<=64/\ ∀k,k<F.groups.length->(F.groups.getD k zak).2.length=F.cols.length/\ ∀j,j<F.cols.length->(zaw F.groups k j).length<=65536:=by obtain⟨r1,r2⟩:=znx h.2.1;have h3:=h.2.2.1;have h4:=h.2.2.2.1;refine⟨by omega,h.1.1,fun k hk=>⟨(zct h hk).2.1,fun j hj=>?_⟩⟩;obtain⟨hc,_⟩:=zji h hk hj;have a:=zfg hc.1;have b:=hc.2;have c:=r2 _ (zas zak hk);omega
open Go.RowKit Go.Hm
theorem RowsIn.touch{w w':World}{B base sz n:Nat}{e:TypeId}{v:Value}{xs:List Value}{D:List zex}(h:RowsIn w B D)(h2:w.ownsRow base e sz v n xs)(hne:75≠e)(k:Turns (zbi v) w w'):RowsIn w' B D:=fun d hd=>zil (h d hd) k (zj5 (h d hd) h2 hne)
end Go.Proofs.Y
namespace Go.Hm
open Go Go.RowKit
end Go.Hm
namespace Go.Proofs.Y
open Go.RowKit Go.Hm
structure TabOwn(w:World)(B:Nat)(Ac:Option Addr)(cc:Nat)(L:List zbb)(Ad:Option Addr)(cd:Nat)(D:List zex):Prop where
 cols:w.ownsRow B 71 3 (.slice Ac L.length cc) L.length (recs zly L)
 data:w.ownsRow B 76 1 (.slice Ad D.length cd) D.length (recs zk9 D)
 rows:RowsIn w B D
section
variable{w w':World}{B:Nat}{Ac:Option Addr}{cc:Nat}{L:List zbb}{Ad:Option Addr}{cd:Nat}{D:List zex}
theorem TabOwn.later(h:TabOwn w B Ac cc L Ad cd D)(hb:New w w'):TabOwn w' B Ac cc L Ad cd D:=⟨za1 h.cols hb,za1 h.data hb,h.rows.later hb⟩
theorem TabOwn.far{g:Nat}(h:TabOwn w B Ac cc L Ad cd D)(hg:w.grownBy w' (some g))(hB:g<B):TabOwn w' B Ac cc L Ad cd D:=
 ⟨World.ownsRow.kept h.cols hg (.inr (fun e=>by have:=(World.ownsRow.lt h.cols _ e).1;omega)),World.ownsRow.kept h.data hg (.inr (fun e=>by have:=(World.ownsRow.lt h.data _ e).1;omega)),
  fun d hd=>World.ownsRow.kept (h.rows d hd) hg (.inr (fun e=>by have:=(World.ownsRow.lt (h.rows d hd) _ e).1;omega))⟩
theorem TabPost.own{er:Int}{r:Int}{C:List (List zab)}{e:Ending}(h:TabPost er L r C w e w'):
 ∃(Ac Ad:Option Addr) (cc cd:Nat) (D:List zex),e= .returned (.tuple #[.agg #[.slice Ac L.length cc,.int .i64 r,.slice Ad D.length cd],.int .i64 er])/\TabOwn w' w.heap.size Ac cc L Ad cd D/\D.map (·.2.2)=C/\New w w':=by
 obtain⟨Ac,Ad,cc,cd,D,rfl,h1,h2,h3,h4,h5⟩:=h;exact⟨Ac,Ad,cc,cd,D,rfl,⟨h1,h2,h3⟩,h4,h5⟩
end
open Go Go.RowKit Go.Hm
def fz:FootS:=⟨[],0,[]⟩
theorem qkl:zbu fz:=⟨(zeh []).1 (by decide),by simp[fz],by simp[fz],by simp[fz],by simp[fz]⟩
end Go.Proofs.Y
