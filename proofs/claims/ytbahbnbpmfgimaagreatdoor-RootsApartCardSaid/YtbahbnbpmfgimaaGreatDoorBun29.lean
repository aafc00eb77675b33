/- Merged. -/
import Derived.Great.BuildSlice
import Derived.Test.YtbahbnbpmfgimaaGreatDoorBun28
set_option maxHeartbeats 4000000
namespace Go.Hm
open Go Go.RowKit
theorem z1x{T:List Nat}{w w1 w2:World}{g:Nat}{V1 V2:Value}(hT:∀x∈g::zbm V1,x∈T)(hw:w.heap.size<=w1.heap.size)(a2:V2.ownBlock=V1.ownBlock\/ ∃h,V2.ownBlock=some h/\w.heap.size<=h)(t2:Turns (g::zbm V2) w1 w2):TurnsB w.heap.size T w1 w2:=
 ⟨t2.os,t2.tape,t2.output,t2.size,fun k hk hm=>t2.block k (by omega) (zsh (fun h=>hm (hT k h)) hk a2)⟩
theorem LeafIn.at_{w:World}{A:Option Addr}{L:List (List Nat)}{T:List Nat}(h:LeafIn w A L T){i:Nat}(hi:i<L.length):
 ∃ad,A=some ad/\ ∀W,New w W-> ∀j v,(zao .u8 (L.getD i []))[j]? =some v->W.cell? ((ad.add (i*32)).add j)=some v:=by
 obtain⟨ad,e,hb,hl,hc⟩:=Reads.rec_ (f:=zh4) (sz:=32) ze8 [] h.row hi (by omega);have hd:zlr (L.getD i []):=by refine h.digs _ ?_;rw[List.getD_eq_getElem?_getD,List.getElem?_eq_getElem hl];exact List.getElem_mem hl
 refine⟨ad,e,fun W hW j v hv=>?_⟩;rw[za9];rw[<-zxb hd.1] at hv;exact(Below.cell hW (by rw[zaj];exact hb)).trans (hc j v hv)
end Go.Hm
namespace Go.Proofs.Y
open Go.RowKit Go.Hm
theorem sD:Tryz.prog.underlying 23=some (.slice (Tryz.prog.elem 23)):=by kernel_rfl
theorem zD(w:World):(sizeOf (Tryz.prog.elem 23)).run Tryz.prog w= .ok 32 w:=by kernel_rfl
theorem qa7(A:Option Addr)(n c m:Nat)(hc:m<=c)(w:World):(Instr.sliceAt 23 (.slice A n c) none (some (.int .i64 (m:Int))) none).run Tryz.prog w= .ok (.slice A m c) w:=by rw[run_sliceAt_slice w _ _ _ _ _ sD,run_slice_h w _ A n c sD .i64 (m:Int) (by omega) (by omega),zD];cases A<;> simp[Result.andThen,sliced,zfy]
theorem qa8(A:Option Addr)(n c k:Nat)(hk:k<=n)(w:World):(Instr.sliceAt 23 (.slice A n c) (some (.int .i64 (k:Int))) none none).run Tryz.prog w= .ok (.slice (if c=k then A else A.map (·.add (k*32))) (n-k) (c-k)) w:=by rw[run_sliceAt_slice w _ _ _ _ _ sD,run_slice_l w _ A n c sD .i64 (k:Int) (by omega) (by omega),zD];simp[Result.andThen,sliced]
theorem zqj{ops:Array Oper}{rest:List Oper}{o:Oper}{a:Act}{w:World}{Q:Exit->Act->World->Prop}(hgd:o.guard=none)(ty:TypeId)(x:Operand)(ho:o.op= .load ty x){ad:Addr}{cs:List Value}{d:TypeDesc}(hx:a.eval x= .pointer (some ad))(hc:∀j v,cs[j]? =some v->w.cell? (ad.add j)=some v)(hu:Tryz.prog.underlying ty=some d)(hd:d.isRow=true)(hi:(Tryz.prog.info? ty).map (·.size)=some cs.length)
 (h:wpList Tryz.prog ops Q rest (a.put o.dst (.agg cs.toArray)) w):wpList Tryz.prog ops Q (o::rest) a w:=by
 refine wpList_plain hgd fun K hK=>?_
 unfold Oper.wp execOp;simp only[ho,hx,Instr.loadAt,Instr.sureAddr,Sem.run_bind,Sem.run_pure,Result.andThen_ok,zju w ad ty cs d hc hu hd hi];exact hK _ _ h
theorem qfz{d:List Nat}(h:d.length=32):(Tryz.prog.info? 35).map (·.size)=some (zao .u8 d).toArray.size:=by have:=z99 (l:=List.replicate 32 0) (by simp);rw[this];simp[za0,zao,h]
theorem z1y(d:List Nat):(zao .u8 d).toArray.all (·.oneCell')=true:=by rw[Array.all_eq_true_iff_forall_mem];intro v hv;exact zch .u8 d v (by simpa using hv)
set_option maxRecDepth 100000 in
theorem zzl:∀(m:Nat) {L:List (List Nat)} {w:World} {base g:Nat} {V:Value} {F:List (List Nat)} {A:Option Addr} {c:Nat},L.length<m->LogOf tL w base g V F->base<=w.heap.size->F.length+L.length<=9000000->LeafIn w A L (g::zbm V)->L.length<=c->c<=9223372036854775807->(∀w',Turns (g::zbm V) w w'->ConstIn w')->
 Calls Tryz.prog 36 #[.pointer (some ⟨g,0,none⟩),.slice A L.length c] w (zfk tL (dV (zcw L).1) base g V (F++(zcw L).2) w):=by
 intro m;induction m with
 |zero=>intro L w base g V F A c h;omega
 |succ m ih=>
  intro L w base g V F A c hm hL hbs hn hlv hc hcm hC;have c0:=zah w (.cells (za0 .u8 zat).toArray 35);have G0:=Blk.new w 35 (za0 .u8 zat).toArray;have hgl:g<w.heap.size:=hL.lt;obtain⟨W0,hW0⟩:∃W,W=w.alloc (.cells (za0 .u8 zat).toArray 35):=⟨_,rfl⟩;rw[<-hW0] at c0 G0;have L0:=hL.new c0;have V0:=hlv.turn (Turns.of_new (T:=g::zbm V) c0) (fun x _ h=>h)
  match L,hm,hn,hlv,hc,V0 with
  | [],_,hn,_,_,_=>
    have lh:=zkn (s:=zbs) (D:=[]) (A:=none) (n:=0) (c:=0) L0 (Nat.le_trans hbs c0.size) (by simp at hn;omega) ⟨Reads.none_,(fun _ hd=>nomatch hd),Nat.le_refl _⟩ (by omega) (by decide) (by decide) (by simp[bytesOf,zhq]) (by simp[bytesOf]) (fun w' k=>hC w' ((Turns.of_new c0).trans k));rw[show bytesOf []=[] from rfl,zlz] at lh;obtain⟨cs,hcs⟩:∃cs,cs=(zao .u8 (zb2 zbs [])).toArray:=⟨_,rfl⟩;have hdv:dV (zb2 zbs [])= .agg cs:=by rw[hcs];rfl
    have I32:=qfz (zb7 zbs []).1;have ONE:=z1y (zb2 zbs []);have ZS:(za0 .u8 zat).toArray.size=cs.size:=by rw[hcs];simp[za0,zao,zat,(zb7 zbs []).1]
    rw[zj2,hdv] at lh;rw[<-hcs] at I32 ONE;rw[zih];show Calls _ _ _ _ (zfk tL (dV (zb2 zbs [])) base g V (F++[zbv zbs []]) w);rw[hdv];have LH:=Hz lh;have I32:=Hz I32;have ONE:=Hz ONE;have ZS:=Hz ZS;have HL:=Hz L0;have G0:=Hz G0;have C0:=Hz c0;have HW:=Hz hW0;clear hcs hdv lh L0 c0 hC hlv hL ih hW0 V0;go_enter Tryz.func36,Tryz.ntmps36
    go_wp2_with fail
    have F1:=LH.out;rw[HW.out] at F1;refine F1.mono ?_;rintro e w4 ⟨rfl,V',l4,a4,t4⟩;have t4:Turns (g::zbm V) W0 w4:=by rw[HW.out];exact t4
    have g4:=G0.out.touch t4 (HL.out.notT G0.out (by decide) (by decide));have a4:V'.ownBlock=V.ownBlock\/ ∃h,V'.ownBlock=some h/\w.heap.size<=h:=a4.imp id fun⟨h,h1,h2⟩=>⟨h,h1,Nat.le_trans (by simp) h2⟩
    have PS:=Hz (zde hgl l4 a4 ((Turns.of_new C0.out).trans t4) g4 cs);have H:=Hz (And.intro (zaz g4) (zbg g4 cs));clear l4 a4 t4 g4 F1 LH HW;go_wp2_with (refine wpList_store_row rfl 35 (.tmp 4) (.tmp 12) rfl w.heap.size cs rfl rfl _ _ H.out.1 I32.out ZS.out ONE.out ?_)
    exact bodyPost_ret (results_cell_row rfl _ _ w.heap.size _ cs (0,0) _ rfl H.out.2 zcd rfl I32.out) rfl ⟨rfl,PS.out⟩
  | [x],_,_,hlv,_,V0=>
    have hx:zlr x:=hlv.digs x (by simp);obtain⟨ad,rfl,hcell⟩:=V0.at_ (i:=0) (by simp);have hcell:=hcell W0 (Below.refl _ _);rw[Nat.zero_mul,zfy] at hcell;obtain⟨cs,hcs⟩:∃cs,cs=(zao .u8 x).toArray:=⟨_,rfl⟩;have hdv:dV x= .agg cs:=by rw[hcs];rfl
    have I32:=qfz hx.1;have I32L:(Tryz.prog.info? 35).map (·.size)=some cs.toList.length:=by rw[hcs];simpa using qfz hx.1
    have ONE:=z1y x;have ZS:(za0 .u8 zat).toArray.size=cs.size:=by rw[hcs];simp[za0,zao,zat,hx.1]
    have hcell:∀j v,cs.toList[j]? =some v->W0.cell? (ad.add j)=some v:=by rw[hcs];simpa using hcell
    rw[<-hcs] at I32 ONE;rw[zf4];show Calls _ _ _ _ (zfk tL (dV x) base g V (F++[]) w);rw[hdv,List.append_nil];have PS:=Hz (zde hgl L0 (.inl rfl) (Turns.of_new c0) G0 cs);have H:=Hz (And.intro (zaz G0) (zbg G0 cs));rw[hW0] at hcell PS H;have HC:=Hz hcell;have I32:=Hz I32;have I32L:=Hz I32L;have ONE:=Hz ONE;have ZS:=Hz ZS;clear hcs hdv L0 c0 G0 hC hlv hL ih hW0 V0 hcell;show Calls _ _ #[_,.slice (some ad) 1 c] _ _;go_enter Tryz.func36,Tryz.ntmps36
    go_wp2_with (first
     |(refine zqj rfl 35 (.tmp 16) rfl rfl HC.out zcd rfl I32L.out ?_)
     |(refine wpList_store_row rfl 35 (.tmp 4) (.tmp 17) rfl w.heap.size cs rfl rfl _ _ H.out.1 I32.out ZS.out ONE.out ?_))
    exact bodyPost_ret (results_cell_row rfl _ _ w.heap.size _ cs (0,0) _ rfl H.out.2 zcd rfl I32.out) rfl ⟨rfl,PS.out⟩
  |x::y::r,hm,hn,hlv,hc,V0=>
   have h2:2<=(x::y::r).length:=by simp
   obtain⟨L,hLL⟩:∃L,L=x::y::r:=⟨_,rfl⟩;rw[<-hLL] at h2 hm hn hlv hc V0⊢;clear hLL;obtain⟨s1,s2,s3⟩:=zgz h2;have SP:=z4v (L.length:Int) W0 (by omega) (by omega);rw[Int.toNat_natCast] at SP;rw[zg2 h2];have dg:=hlv.digs;have d1:=zdn _ (dg.take (za3 L.length));have d2:=zdn _ (dg.drop (za3 L.length));have tk:(L.take (za3 L.length)).length=za3 L.length:=by rw[List.length_take];omega
   have dr:(L.drop (za3 L.length)).length=L.length-za3 L.length:=by rw[List.length_drop]
   have f1:=(zhp _ (dg.take (za3 L.length)) (by omega)).1;have f2:=(zhp _ (dg.drop (za3 L.length)) (by omega)).1;have ih1:=ih (L:=L.take (za3 L.length)) (c:=c) (by omega) L0 (Nat.le_trans hbs c0.size) (by omega) (V0.take (by omega)) (by omega) hcm (fun w' t=>hC w' ((Turns.of_new c0).trans t));have ih2:=fun(w:World) (V:Value) (F:List (List Nat)) (A:Option Addr) (h1:LogOf tL w base g V F) (h2:base<=w.heap.size) (h3:F.length+(L.length-za3 L.length)<=9000000) (h4:LeafIn w A (L.drop (za3 L.length)) (g::zbm V)) (h5:∀w',Turns (g::zbm V) w w'->ConstIn w')=>ih (L:=L.drop (za3 L.length)) (c:=c-za3 L.length) (by omega) h1 h2 (by omega) h4 (by omega) (by omega) h5
   rw[tk] at ih1 f1;rw[dr] at ih2 f2;have DROP:=fun(w:World) (A:Option Addr) (T:List Nat) (h:LeafIn w A L T)=>h.drop (k:=za3 L.length) (c:=c) (by omega) hc
   have SLh:=fun W=>qa7 A L.length c (za3 L.length) (by omega) W
   have SLl:=fun W=>qa8 A L.length c (za3 L.length) (by omega) W
   generalize zcw (L.take (za3 L.length))=ra at*;generalize zcw (L.drop (za3 L.length))=rb at*;generalize za3 L.length=k at*;obtain⟨a,fa⟩:=ra;obtain⟨b,fb⟩:=rb;simp only at d1 d2 f1 f2 ih1 ih2⊢;obtain⟨ca,hca⟩:∃cs,cs=(zao .u8 a).toArray:=⟨_,rfl⟩;have hva:dV a= .agg ca:=by rw[hca];rfl
   obtain⟨cb,hcb⟩:∃cs,cs=(zao .u8 b).toArray:=⟨_,rfl⟩;have hvb:dV b= .agg cb:=by rw[hcb];rfl
   obtain⟨cs,hcs⟩:∃cs,cs=(zao .u8 (zb2 zcl [a,b])).toArray:=⟨_,rfl⟩;have hdv:dV (zb2 zcl [a,b])= .agg cs:=by rw[hcs];rfl
   have I32a:(Tryz.prog.info? 35).map (·.size)=some ca.size:=by rw[hca];exact qfz d1.1
   have ZSa:(za0 .u8 zat).toArray.size=ca.size:=by rw[hca];simp[za0,zao,zat,d1.1]
   have ONEa:ca.all (·.oneCell')=true:=by rw[hca];exact z1y _
   have hdd:=zb7 zcl [a,b];have I32:(Tryz.prog.info? 35).map (·.size)=some cs.size:=by rw[hcs];exact qfz hdd.1
   have ZS:(za0 .u8 zat).toArray.size=cs.size:=by rw[hcs];simp[za0,zao,zat,hdd.1]
   have ONE:cs.all (·.oneCell')=true:=by rw[hcs];exact z1y _
   have ND:=fun(w:World) (V:Value) (F:List (List Nat)) (h1:LogOf tL w base g V F) (h2:base<=w.heap.size) (h3:F.length<=10000000) (h4:∀w',Turns (g::zbm V) w w'->ConstIn w')=>qa6 h1 h2 h3 d1 d2 h4
   rw[hva] at ih1;rw[hvb] at ih2;rw[hva,hvb,hdv] at ND;rw[hdv];have IH1:=Hz ih1;have IH2:=Hz ih2;have ND2:=Hz ND;have DROPH:=Hz DROP;have SP:=Hz SP;have HL0:=Hz L0;have HLV:=Hz hlv;have HC:=Hz hC;have G0:=Hz G0;have C0:=Hz c0;have HW:=Hz hW0;have I32a:=Hz I32a;have ZSa:=Hz ZSa;have ONEa:=Hz ONEa;have I32:=Hz I32;have ZS:=Hz ZS;have ONE:=Hz ONE;have SLL:=Hz SLl;clear hca hcb hcs hva hvb hdv hdd ih ih1 ih2 ND L0 c0 hC hlv hL hW0 V0 DROP dg d1 d2 tk dr SLl;go_enter Tryz.func36,Tryz.ntmps36
   have q0:((L.length:Int)==0)=false:=by rw[beq_eq_false_iff_ne];omega
   have q1:((L.length:Int)==1)=false:=by rw[beq_eq_false_iff_ne];omega
   go_wp2_with fail
   have F1:=SP.out;rw[HW.out] at F1;refine F1.mono ?_;rintro e w' ⟨rfl,rfl⟩;clear F1 SP q0 q1;go_wp2_with fail
   have F2:=IH1.out;rw[HW.out] at F2;refine F2.mono ?_;rintro e w5 ⟨rfl,V1,l5,a5,t5⟩;have t5:Turns (g::zbm V) W0 w5:=by rw[HW.out];exact t5
   have a5:V1.ownBlock=V.ownBlock\/ ∃h,V1.ownBlock=some h/\w.heap.size<=h:=a5.imp id fun⟨h,h1,h2⟩=>⟨h,h1,Nat.le_trans (by simp) h2⟩
   have g5:=G0.out.touch t5 (HL0.out.notT G0.out (by decide) (by decide));have L5:=Hz l5;have A5:=Hz a5;have T5:=Hz ((Turns.of_new (T:=g::zbm V) C0.out).trans t5);have G5:=Hz g5;clear F2 IH1 l5 a5 t5 g5 G0 HL0 SLh HW C0;go_wp2_with (refine wpList_store_row rfl 35 (.tmp 6) (.tmp 25) rfl w5.heap.size ca rfl rfl _ _ (heap_alloc_new _ _) I32a.out ZSa.out ONEa.out ?_;rw[zbh])
   obtain⟨w7,hw7⟩:∃W,W=w5.alloc (.cells ca 35):=⟨_,rfl⟩;have n57:New w5 w7:=by rw[hw7];exact zah _ _
   have g6:Blk w7 w5.heap.size 35 ca:=by rw[hw7];exact Blk.new _ _ _
   rw[<-hw7];have B6N:=Hz (show w5.heap.size≠w.heap.size by have:=G5.out.lt;omega);generalize w5.heap.size=b6 at*;clear hw7;have t7:=T5.out.trans (Turns.of_new n57);have l7:=L5.out.new n57;have nr:w.heap.size∉g::zbm V1:=L5.out.notT G5.out (by decide) (by decide);have g7:=G5.out.below n57 G5.out.lt;obtain⟨w0,hw0⟩:∃W,W=w7.drew:=⟨_,rfl⟩;have n70:New w7 w0:=by rw[hw0];exact New.drew w7
   have t0:=t7.trans (Turns.of_new n70);have l0:=l7.new n70;have lv0:=HLV.out.turn t0 (fun x hx hT=>zsh hT hx A5.out);have R2:=IH2.out w0 V1 (F++fa) _ l0 (Nat.le_trans hbs t0.size) (by rw[List.length_append,f1];omega) (DROPH.out w0 A _ lv0) (fun w' t=>HC.out w' (zbp t0 A5.out t));have LR:∀W,TurnsB w0.heap.size (w.heap.size::g::zbm V1) w0 W->W.heap[b6]? =some (.cells ca 35 (0,0)):=fun W hW=>by
    have g60:=g6.below n70 g6.lt;refine(hW.block b6 g60.lt (fun hx=>?_)).trans g60;rcases List.mem_cons.1 hx with e|hx
    ·exact B6N.out e
    ·exact l0.notT g60 (by decide) (by decide) hx
   have R2:=Hz R2;have LR:=Hz LR;have HW0:=Hz hw0;have G70:=Hz (g7.below n70 g7.lt);have L00:=Hz l0;have T0:=Hz t0;have NR:=Hz nr;clear t7 l7 nr g7 n70 t0 l0 lv0 n57 g6 T5 L5 G5 HLV IH2 DROPH hw0;go_wp2
   refine zaw (TurnsB w0.heap.size (w.heap.size::g::zbm V1)) [(true,0),(true,1),(true,2),(true,3),(true,4),(true,5),(false,6),(false,7),(false,8)]
    (TurnsB.refl _ _) TurnsB.trans (by kernel_rfl) (by kernel_rfl) (by kernel_rfl) (by kernel_rfl) ?_
   rw[<-HW0.out];iterate 1 (
    refine zar rfl rfl (v:=?_) (fun W hW=>?_) ?_;rotate_left
    ·skip
     go_simp<;> with_reducible rfl
    simp only[Act.put,List.setIfInBounds_toArray,List.set_cons_zero,List.set_cons_succ])
   refine zar rfl rfl (v:= .agg ca) (fun W hW=>zdu rfl (LR.out W hW) zcd rfl I32a.out) ?_;simp only[Act.put,List.setIfInBounds_toArray,List.set_cons_zero,List.set_cons_succ];iterate 3 (
    refine zar rfl rfl (v:=?_) (fun W hW=>?_) ?_;rotate_left
    ·skip
     go_simp<;> with_reducible rfl
    simp only[Act.put,List.setIfInBounds_toArray,List.set_cons_zero,List.set_cons_succ])
   refine zar rfl rfl (v:= .slice (if c=k then A else A.map (·.add (k*32))) (L.length-k) (c-k)) (fun W hW=>zlv (SLL.out W)) ?_;simp only[Act.put,List.setIfInBounds_toArray,List.set_cons_zero,List.set_cons_succ];refine za7 rfl rfl (fun K hK=>?_);go_simp
   refine R2.out.mono ?_;rintro e w8 ⟨rfl,V2,l8,a8,t8⟩;refine hK _ _ (.of (t8.more (by intro x hx;simp at hx⊢;simp[hx])) (Nat.le_refl _)) ?_;clear hK;have t08:=zbp T0.out A5.out t8;have a08:=zf5 T0.out.size A5.out a8;have g8:=G70.out.touch t8 NR.out;have nd:=ND2.out w8 V2 (F++fa++fb) l8 (Nat.le_trans hbs t08.size) (by rw[List.length_append,List.length_append,f1,f2];omega) (fun w' t=>HC.out w' (zbp t08 a08 t));have nr2:w.heap.size∉g::zbm V2:=l8.notT g8 (by decide) (by decide);refine za7 rfl rfl (fun K hK=>?_);go_simp
   refine nd.mono ?_;rintro e w9 ⟨rfl,V3,l9,a9,t9⟩;refine hK _ _ (z1x (fun x hx=>List.mem_cons_of_mem _ hx) t8.size a8 t9) ?_;clear hK;have t09:=zbp t08 a08 t9;have a09:=zf5 t08.size a08 a9;have g9:=g8.touch t9 nr2;refine za7 rfl rfl (fun K hK=>?_);refine wp_store_row 35 (.tmp 4) (.tmp 33) rfl w.heap.size cs rfl rfl _ _ (zaz g9) I32.out ZS.out ONE.out ?_;refine hK _ _ (.of (Turns.of_far (zbo (g:=w.heap.size) w9 cs) (by simp)) (Nat.le_trans t8.size t9.size)) ?_;clear hK;refine zdh ?_;have PS:=zde hgl l9 a09 t09 g9 cs;rw[List.append_assoc,List.append_assoc] at PS;have PS:=Hz PS;have H:=Hz (zbg g9 cs);clear t08 a08 g8 nd nr2 t09 a09 g9 l8 a8 t8 l9 a9 t9;go_wp2
   exact bodyPost_ret (results_cell_row rfl _ _ w.heap.size _ cs (0,0) _ rfl H.out zcd rfl I32.out) rfl ⟨rfl,by have:=PS.out;simpa only[List.append_assoc] using this⟩
end Go.Proofs.Y
namespace Go.Hm
open Go Go.RowKit
theorem z1z{ds:List (List Nat)}(h:Digs ds):((ds.map dV).flatMap fun v=>v.cells.toList)=recs zh4 ds:=by
 induction ds with
 |nil=>rfl
 |cons d ds ih=>
  rw[List.map_cons,List.flatMap_cons,zid,ih (fun x hx=>h x (by simp[hx])),zxb (h d (by simp)).1];rfl
end Go.Hm
namespace Go.Proofs.Y
open Go.RowKit Go.Hm
theorem qki:Tryz.prog.underlying 23=some (.slice 35):=by kernel_rfl
theorem qjq:∃ie z,Tryz.prog.info? 35=some ie/\ie.zero=some z/\ie.size=32:=by
 have h:(Tryz.prog.info? 35).map (fun i=>(i.zero.isSome,i.size))=some (true,32):=by kernel_rfl
 cases hq:Tryz.prog.info? 35 with
 |none=>rw[hq] at h;cases h
 |some ie=>
  rw[hq] at h;simp only[Option.map_some,Option.some.injEq,Prod.mk.injEq] at h;obtain⟨z,hz⟩:=Option.isSome_iff_exists.1 h.1;exact⟨ie,z,rfl,hz,h.2⟩
theorem z5y{ds:List (List Nat)}(hd:Digs ds)(z:Value):Instr.fill (fun i=>some (i*32,32)) ((Array.range (ds.length*32)).map (z.cells[· %z.cells.size]!)) (((ds.map dV).zipIdx 0).map fun x=>(x.2,x.1))=some (recs zh4 ds).toArray:=by
 rw[Great.fill_whole (s:=32) (by omega) (ds.map dV) _ (fun v hv=>by obtain⟨d,hm,rfl⟩:=List.mem_map.1 hv;have:=(hd d hm).1;simp[dV,Value.cells,zao,this]) (by simp),z1z hd]
section
variable{ops:Array Oper}{rest:List Oper}{o:Oper}{a:Act}{w:World}{Q:Exit->Act->World->Prop}
theorem zol(hg:o.guard=none)(n:Nat)(parts:Array (Nat × Operand))(ho:o.op= .buildSlice 23 n parts)(ds:List (List Nat))(hd:Digs ds)(hn:ds.length=n)(h0:0<n)(hs:n<=1000)
 (hp:(parts.map fun(i,x)=>(i,a.eval x)).toList=((ds.map dV).zipIdx 0).map fun x=>(x.2,x.1))
 (h:wpList Tryz.prog ops Q rest (a.put o.dst (.slice (some ⟨w.heap.size,0,none⟩) n n)) (w.alloc (.cells (recs zh4 ds).toArray 35))):wpList Tryz.prog ops Q (o::rest) a w:=by
 obtain⟨ie,z,h1,h2,h3⟩:=qjq;subst hn;refine wpList_buildSlice hg _ _ _ parts ho _ ie z qki h1 h2 (by rw[h3];omega) (by rw[h3];omega) ?_ h;rw[hp,h3];exact z5y hd z
end
theorem zq1{w:World}{ds:List (List Nat)}(hd:Digs ds){T:List Nat}(hT:w.heap.size∉T):LeafIn (w.alloc (.cells (recs zh4 ds).toArray 35)) (some ⟨w.heap.size,0,none⟩) ds T:=by refine⟨⟨zau (sz:=32) ze8 ds,fun _=>⟨_,rfl,by simp,?_⟩⟩,hd,fun _ ad ha=>by injection ha with ha;subst ha;exact hT⟩;have:=World.news_of_block (heap_alloc_new w (.cells (recs zh4 ds).toArray 35));simpa using this
end Go.Proofs.Y
set_option maxRecDepth 100000
namespace Go.Hm
open Go Go.RowKit
abbrev qf0:=List Nat × Option Addr × Nat × List zdd
def qj8(r:qf0):List Value:=[.string (zad r.1),.slice r.2.1 r.2.2.2.length r.2.2.1]
def PartsFine(D:List zdd):Prop:=∀p∈bytesOf D,(∀x∈p,x<256)/\p.length<=140737488351232
set_option maxRecDepth 100000 in
theorem PartsFine.lt{D:List zdd}(h:PartsFine D):∀p∈bytesOf D,∀x∈p,x<256:=fun p hp=>(h p hp).1
structure RowIn(w:World)(r:qf0):Prop where
 tag:(∀x∈r.1,x<256)/\r.1.length<=140737488351232
 rows:RowsAt w r.2.1 r.2.2.2.length r.2.2.1 r.2.2.2
 fine:PartsFine r.2.2.2
 few:r.2.2.2.length<=4611686018427387903
set_option maxRecDepth 100000 in
theorem RowIn.later{w w':World}{r:qf0}(h:RowIn w r)(hb:New w w'):RowIn w' r:=⟨h.tag,h.rows.later hb,h.fine,h.few⟩
end Go.Hm
namespace Go.Proofs.Y
open Go.RowKit Go.Hm Go.WideShapes Go.ChangeShapes
section
variable{H:Type}{enc:TypeId × Value->H}{W:World}{base:Nat}{v:Value}{d:DataW H}{ps:List MemPlace}
end
end Go.Proofs.Y
namespace Go.Hm
open Go Go.RowKit
structure LogRows(w:World)(A:Option Addr)(L:List qf0):Prop where
 row:Reads w w.heap.size 2 A L.length (recs qj8 L)
 fine:∀r∈L,RowIn w r
theorem LogRows.later{w w':World}{A:Option Addr}{L:List qf0}(h:LogRows w A L)(hb:New w w'):LogRows w' A L:=⟨Reads.later h.row hb,fun r hr=>(h.fine r hr).later hb⟩
abbrev qhn:qf0:=([],none,0,[])
theorem LogRows.at_{w:World}{A:Option Addr}{L:List qf0}(h:LogRows w A L){i:Nat}(hi:i<L.length):
 ∃ad,A=some ad/\RowIn w (L.getD i qhn)/\ ∀W,New w W->W.cell? (ad.add (i*2))=some (.string (zad (L.getD i qhn).1))/\W.cell? ⟨(ad.add (i*2)).block,(ad.add (i*2)).off+1,none⟩=some (.slice (L.getD i qhn).2.1 (L.getD i qhn).2.2.2.length (L.getD i qhn).2.2.1):=by
 obtain⟨ad,e,hb,hl,hc⟩:=Reads.rec_ (f:=qj8) (sz:=2) (fun _=>rfl) qhn h.row hi (by omega);refine⟨ad,e,h.fine _ ?_,fun W hW=>?_⟩
 ·rw[List.getD_eq_getElem?_getD,List.getElem?_eq_getElem hi]
  exact List.getElem_mem hi
 ·have h0:=hc 0 _ rfl
  have h1:=hc 1 _ rfl;rw[<-za9] at h1;exact⟨(Below.cell hW (by rw[zaj];exact hb)).trans h0,(Below.cell hW (by rw[zaj];exact hb)).trans h1⟩
def GoodF(F:List (List Nat)):Prop:=∀p∈F,(∀x∈p,x<256)/\p.length<=10000000
theorem GoodF.add{F:List (List Nat)}{o:Option (List Nat)}(h:GoodF F)(ho:∀f,o=some f->(∀x∈f,x<256)/\f.length<=10000000):GoodF (F++o.toList):=by
 intro p hp;rcases List.mem_append.1 hp with hp|hp
 ·exact h p hp
 ·cases o with
  |none=>simp at hp
  |some f=>
   obtain rfl:p=f:=by simpa using hp
   exact ho p rfl
theorem zxd{A B:List (List Nat)}{x y:List Nat}(h:zcu A B=some (x,y)):x∈A/\y∈B/\x≠y/\sumI x=sumI y:=by
 unfold zcu at h;obtain⟨z,hz,h2⟩:=List.exists_of_findSome?_eq_some h;cases hf:(B.find? fun y=>decide (z≠y/\sumI z=sumI y)) with
 |none=>rw[hf] at h2;cases h2
 |some y2=>
  rw[hf] at h2;simp only[Option.map_some,Option.some.injEq,Prod.mk.injEq] at h2;obtain⟨rfl,rfl⟩:=h2;have:=List.find?_some hf;exact⟨hz,List.mem_of_find?_eq_some hf,of_decide_eq_true this⟩
end Go.Hm
namespace Go.Proofs.Y
open Go.RowKit Go.Hm
section
variable{P:Program}{w:World}{a:Act}{dst:Option Tmp}{tt:TypeId}{pos:String}{af:Array Edge}{gd:Option (Nat × Bool)}
end
theorem zxe{P:Program}{w:World}{t:TypeId}{xs ys:Array Value}{b:Bool}(h:(binOp .eql t (.agg xs) (.agg ys)).run P w= .ok (.bool b) w):(binOp .neq t (.agg xs) (.agg ys)).run P w= .ok (.bool !b) w:=by
 rw[run_eql_struct] at h;simp only[binOp];simp[Op.equal,Op.maxDepth];cases hq:(Op.equalIn 10000 t (.agg xs) (.agg ys)).run P w with
 |ok b' w'=>
  rw[hq] at h;simp[Result.andThen] at h⊢;exact h
 |_=>rw[hq] at h;simp[Result.andThen] at h
theorem LogAt.own{w:World}{base g B:Nat}{V:Value}{L:List (List Nat)}(h:LogAt w base g V L)(hb:B<=base)(hg:B<=g):∀x∈g::zbm V,B<=x:=by
 intro x hx;rcases List.mem_cons.1 hx with rfl|hx
 ·exact hg
 ·exact Nat.le_trans hb (h.ge x hx).1
theorem LogAt.noB{w:World}{base g:Nat}{V:Value}{L:List (List Nat)}(h:LogAt w base g V L):∀x∈g::zbm V,x<w.heap.size-> ∀cs,¬Blk w x 5 cs:=by
 obtain⟨A,n,c,D,rfl,h1,h2,_⟩:=h;intro x hx _ cs hB;rcases List.mem_cons.1 hx with rfl|hx
 ·exact Blk.ne_ h1 hB (by decide) rfl
 ·exact ze2 h2 hB (by decide) hx
theorem zzn{V:Value}{x:Nat}(h:V.ownBlock=some x):x∈zbm V:=by unfold zbm;rw[h];simp
open Go.RowKit Go.Hm
set_option maxRecDepth 100000 in
theorem zgc{w:World}{A:Option Addr}{n c:Nat}{D:List zix}(h:Reads w w.heap.size 1 A n (recs zib D))(hD:∀d∈D,BytIn w d)(hn:n<=140737488351232)(hl:(zc4 D).length<=140737488351232):
 Calls Tryz.prog 54 #[.slice A n c] w (zck (zc4 D) w):=by
 have hlen:n=D.length:=by have:=h.1;rw[zau (sz:=1) (fun _=>rfl)] at this;omega
 subst hlen;have HR:=Hz h;have HD:=Hz hD;clear h hD;go_enter Tryz.func54,Tryz.ntmps54
 go_wp2_with fail
 go_loopw [3,11] (fun s i wr=>∃k:Nat,k<=D.length/\i= .int .i64 (k:Int)/\s= .int .i64 ((zc4 (D.take k)).length:Int)/\wr=w) (fun _ i _=>D.length-(intOf i).toNat)
 case atStart=>exact⟨0,Nat.zero_le _,rfl,rfl,rfl⟩
 case round=>
  obtain⟨k,hk,rfl,rfl,rfl⟩:=hrel;by_cases hlt:k<D.length
  ·obtain⟨ad,rfl,_,hc⟩:=z8l HR.out hlt
   have e1:=zrv hlt;have e2:=zln D (k+1);have E1:=Hz e1;have e3:(zc4 (D.take (k+1))).length=(zc4 (D.take k)).length+(D.getD k (none,0,[])).2.2.length:=by rw[e1,List.length_append]
   clear e1;generalize D.getD k (none,0,[])=d at*;obtain⟨da,dc,dl⟩:=d;have i1:(k:Int)<(D.length:Int):=by omega
   have i2:wrap64 (((zc4 (D.take k)).length:Int)+(dl.length:Int))=((zc4 (D.take (k+1))).length:Int):=by rw[e3];dsimp only;unfold wrap64;dsimp only at e3;omega
   have i3: ¬(((zc4 (D.take (k+1))).length:Int)<0):=by omega
   have E3:=Hz e3;clear e3;generalize(zc4 (D.take k)).length=s0 at*;generalize hs1:(zc4 (D.take (k+1))).length=s1 at*;have HS:=Hz hs1;clear hs1;go_wp2_with fail
   go_roundw
   case rel=>exact⟨k+1,by omega,by go_num,by rw[HS.out,i2],by trivial⟩
   case measure=>simp[intOf];omega
  ·obtain rfl:k=D.length:=by omega
   rw[List.take_length];generalize wr=w0 at*;have G:=Hz (z8m (w:=w0) (n:=(zc4 D).length) hl);generalize hs1:(zc4 D).length=s1 at*;have HS:=Hz hs1;clear hs1;go_wp2_with fail
   refine G.out.mono ?_;rintro e W1 ⟨A1,c1,rfl,o1,b1⟩;clear G;go_wp2_with fail
   go_loopw [6,27] (fun s i wr=>∃(k:Nat) (A2:Option Addr) (c2:Nat),k<=D.length/\i= .int .i64 (k:Int)/\s= .slice A2 (zc4 (D.take k)).length c2/\Go.Hm.Own wr w0.heap.size 5 (.slice A2 (zc4 (D.take k)).length c2) (zao .u8 (zc4 (D.take k)))/\New w0 wr) (fun _ i _=>D.length-(intOf i).toNat)
   case atStart=>exact⟨0,A1,c1,Nat.zero_le _,rfl,rfl,o1,b1⟩
   case round=>
    clear o1 b1;obtain⟨k,A2,c2,hk,rfl,rfl,o,b⟩:=hrel;by_cases hlt:k<D.length
    ·obtain⟨ad,rfl,_,hc⟩:=z8l (Reads.later HR.out b) hlt
     have hrd:=BytIn.later (HD.out _ (zea (none,0,[]) hlt)) b;have e1:=zrv hlt;have e2:=zln D (k+1);rw[HS.out] at e2;have E1:=Hz e1;have e3:(zc4 (D.take (k+1))).length=(zc4 (D.take k)).length+(D.getD k (none,0,[])).2.2.length:=by rw[e1,List.length_append]
     have e4:(zc4 (D.take (k+1))).length<=140737488351232:=by omega
     clear e1;generalize D.getD k (none,0,[])=d at*;obtain⟨da,dc,dl⟩:=d;have i1:(k:Int)<(D.length:Int):=by omega
     have hrd:Reads _ _ 1 da dl.length (zao .u8 dl):=hrd;have hsz:=b.size;generalize zc4 (D.take k)=F at*;generalize hF1:zc4 (D.take (k+1))=F1 at*;have HF:=Hz hF1;have e5:F.length+dl.length<=140737488351232:=by have e6:F1.length=F.length+dl.length:=e3;omega
     clear e3;clear hF1
     go_wp2_with (refine zam elB rfl (.tmp 31) (.tmp 32) rfl (W:=w0) (B:=w0.heap.size) (k:= .u8) (l:=F) (l2:=dl) (c2:=dc) o hrd rfl rfl b (Nat.le_refl _) hsz (by omega) (by simp only[maxLen];omega) ?_
                  intro A3 c3 w3 hq1 hq2 o3 g3 b3 hq3)
     go_roundw
     case rel=>exact⟨k+1,A3,c3,by omega,by go_num,by rw[HF.out,E1.out,List.length_append],by rw[HF.out,E1.out,List.length_append];exact o3,b3⟩
     case measure=>simp[intOf];omega
    ·obtain rfl:k=D.length:=by omega
     rw[List.take_length] at o⊢;go_wp2_with fail
     go_ret
     exact⟨A2,_,c2,rfl,o,b⟩
end Go.Proofs.Y
namespace Go.Hm
open Go Go.RowKit
def sl{α:Type}(L:List α)(lo hi:Nat):List α:=(L.drop lo).take (hi-lo)
theorem qe3{α:Type}{L:List α}{lo hi:Nat}(h:hi<=L.length):(sl L lo hi).length=hi-lo:=by unfold sl;rw[List.length_take,List.length_drop];omega
theorem Digs.sl{L:List (List Nat)}(h:Digs L)(lo hi:Nat):Digs (sl L lo hi):=(h.drop lo).take _
def evIn(f t a b:Nat):Ev->Prop
 | .among lo hi=>a<=lo/\lo<=hi/\hi<=b/\(lo=hi->a=b)/\(lo=hi\/(f<=lo/\hi<=t))
 | .beside lo hi=>a<=lo/\lo<hi/\hi<=b
 | .node=>True
theorem evIn.more{f t a b a' b':Nat}(h1:a'<=a)(h2:b<=b')(h3:a<b){e:Ev}(h:evIn f t a b e):evIn f t a' b' e:=by
 cases e with
 |among lo hi=>obtain⟨x,y,z,u,r⟩:=h;exact⟨by omega,y,by omega,by omega,r⟩
 |beside lo hi=>obtain⟨x,y,z⟩:=h;exact⟨by omega,y,by omega⟩
 |node=>trivial
structure JS where
 made:List (List Nat)
 rest:List (List Nat)
 frames:List (List Nat)
end Go.Hm
