import Derived.Test.YtpffifpbpmlhdaaGreatDoorBsECount
set_option maxHeartbeats 32000000
set_option maxRecDepth 100000
namespace Go.Proofs.YtpffifpbpmlhdaaGreatDoor
open Go.RowKit
variable {w:World}{B mb db k:Nat}{s:ByteArray}{l r:Bs}
theorem BG{aF:Bs}(h:MS w B mb db s l false aF)(hs:s.size<=maxLen)(hB:B<=w.heap.size)(hl:aF.length<=900000000):
  Calls Tryz.prog 93 #[.pointer (some ⟨mb,0,none⟩)] w fun e w'=>EPost mb B db s aF 500 w l (bM l) (fun b=>aB b.length++b) e w':=by
 obtain⟨ov,hb,aP,ho⟩:=h;have aY:=hb.lt;have al:Hi (∀(w':World) (r:Bs) (bd:Bool),MB w' mb db s r bd ov->Fr (TX mb w) w w'->MS w' B mb db s r bd aF/\gD mb w w'/\BO w' B ov aF):=fun w' r bd kc hf'=>MS.EX hb aP ho kc hf'
 have ax:Hi (∀ k,ov.ownBlock=some k->k<w.heap.size):=fun k hk=>ho.lt hk
 have G:=ab aP;have aZ:=hs;unfold maxLen at aZ;clear ho aP
 have ay:Hi (∀(w':World) (r'':Bs) (E0:Value) (got':Bs),MT w w' mb db s ov r'' true E0 got'->bM l=(none,r'')->r''.length<=l.length->EPost mb B db s aF 500 w l (bM l) (fun b=>aB b.length++b) (.returned (.tuple #[])) w'):=fun w' r'' E0 got' hm hq hr=>by
  obtain⟨q1,q2,_⟩:=al.o w' r'' true hm.kb hm.fr;exact⟨q2,r'',true,aF,q1,rfl,by rw[hq],hr,fun h=>by simp at h,fun _=>⟨.inl (by rw[hq]),by omega⟩⟩
 go_enter Tryz.func93,Tryz.ntmps93;go_wp2_with fail;refine(mR hb hs 34 (by omega) (by omega)).mono ?_;rintro e w1 ⟨aV,aW,rfl⟩;have a0:Hi (MT w w1 mb db s ov (aA 34 l false).1 (aA 34 l false).2 (.slice none 0 0) []):=⟨aW,BO.nil _ _,aV.tx,aY⟩;clear aV aW hb
 have h1:Hi ((aA 34 l false).1.length<=l.length/\((aA 34 l false).2=false->bM l=fD 300 [] (aA 34 l false).1)/\((aA 34 l false).2=true->bM l=(none,(aA 34 l false).1))):=by
  rcases hq:bz 34 l with _|r1
  ·exact⟨by simp[aA,hq],by simp[aA,hq],by simp[aA,bM,hq]⟩
  ·obtain⟨b,rfl,_⟩:=bp hq;exact⟨by simp[aA,hq],by simp[aA,bM,hq],by simp[aA,hq]⟩
 go_wp2_with fail
 go_loopw [2] (fun sv wr=>∃(a r:Bs) (ak:Bool),a.length<=300/\r.length<=l.length/\Hi (MT w wr mb db s ov r ak sv a)/\Hi (ak=false->bM l=fD (300-a.length) a r)/\Hi (ak=true->bM l=(none,r))) (fun _ wr=>s.size+1-mP mb wr)
 case atStart=>exact⟨[],_,_,by simp,h1.o.1,a0,h1.o.2.1,h1.o.2.2⟩
 case round =>
  obtain⟨a,r,ak,aH,dK,J,a8,aX⟩:=hrel;generalize a1:u2=sv at *;clear a1
  by_cases aL:ak=true
  ·subst aL;have h4:=J.o.kb.gS;have E:Hi (bM l=(none,r)):=aX.o rfl;go_wp2_with fail;refine(mR J.o.kb hs 34 (by omega) (by omega)).mono ?_;rintro e w5 ⟨au,av,rfl⟩;have d:Hi (MT w w5 mb db s ov r true sv a):=J.o.one av au;have aM:=dK;clear au av h4;obtain⟨sa,sc,rfl⟩:=d.o.bo.len;obtain⟨q1,q2,q3⟩:=al.o w5 _ _ d.o.kb d.o.fr;obtain⟨oa,oc,rfl⟩:=q3.len;have k3:=d.o.kb.dw;have f3:=d.o.kb.free 3;have am:=ab q2;have an:=ab q3;have ao:B<=w5.heap.size:=Nat.le_trans hB q2.fr.size;have aR:=d.o.size;have R:(aB a.length).length<=2:=by unfold aB;split<;>simp
   have F:=ab R;clear q1 q2 q3 R;go_wp2_with fail;refine wp_region_held_drew (S:=fun _=>True) (by kernel_rfl) trivial (fun hT=>?_);refine wt 0 trivial ?_
   try simp only[sA]
   refine wt 1 trivial ?_
   try simp only[sA]
   refine wt 2 trivial ?_
   try simp only[sA]
   refine wt 3 trivial ?_
   try simp only[sA]
   refine wt 5 trivial ?_
   try simp only[sA]
   refine wt 6 trivial ?_
   try simp only[sA]
   refine wpAnyH_ready (rs:=[4,7]) (by kernel_rfl) (by simp) ?_;refine wc 4 (fun K hK=>?_) (wc 7 (fun K hK=>?_) AllReadyH.nil)
   ·go_simp
    refine hK.out _ _ trivial (fun _=>?_);clear hK K
    try simp only[sA]
    refine wpAnyH_ready (rs:=[7]) (by kernel_rfl) (by simp) ?_;refine wc 7 (fun K hK=>?_) AllReadyH.nil
    go_simp
    refine(eX a.length aH _).mono ?_;rintro e Q ⟨p,cv,rfl,L⟩;have i:Hi (Fr Zero w5 Q):=(Fr.drew Zero w5).trans p;have X:=ab L;have f:=ab (d.o.kb.ae i.o (fun h=>h));have e3:=f.o.dw;have q:Hi (BO Q B (.slice oa aF.length oc) aF):=an.o.ae i.o (fun _ _ h=>h);have z:Hi (BO Q w.heap.size (.slice sa a.length sc) a):=d.o.bo.ae i.o (fun _ _ h=>h);have x:B<=Q.heap.size:=Nat.le_trans ao i.o.size;clear p L;go_wp2_with fail;refine hK.out _ _ trivial (fun _=>?_);clear hK K
    try simp only[sA]
    refine wpAnyH_ready (rs:=[8]) (by kernel_rfl) (by simp) ?_;refine wc 8 (fun K hK=>?_) AllReadyH.nil;refine ia rfl (.tmp 66) (.tmp 69) 118 rfl (aB a.length) (by simp[Act.eval]) (by simp[Act.eval]) q.o X.o.src x (by have:=F.o;omega) ?_;intro v7 U C m M;obtain⟨va,vc,ah⟩:=BO.Co C;subst ah;have Y:=ab (MS.kX f.o G.o q.o C m M);have e4:=(f.o.ae m (fun e=>q.o.ne f.o.block (by decide) e)).dw;have e5:=(f.o.ae m (fun e=>q.o.ne f.o.block (by decide) e)).free 3;have Z:Hi (BO U w.heap.size (.slice sa a.length sc) a):=⟨ag z.o.own m (fun g hg e=>by have:=ax.o g e;have:=z.o.from_ g hg;omega),z.o.from_⟩;clear C m M;refine hK.out _ _ trivial (fun _=>?_);clear hK K
    try simp only[sA]
    refine wt 9 trivial ?_
    try simp only[sA]
    refine wt 10 trivial ?_
    try simp only[sA]
    refine wpAnyH_ready (rs:=[11]) (by kernel_rfl) (by simp) ?_;refine wc 11 (fun K hK=>?_) AllReadyH.nil
    go_simp
    refine hK.out _ _ trivial (fun _=>?_);clear hK K
    try simp only[sA]
    refine wpAnyH_done (by kernel_rfl) ?_ _;obtain⟨n,N,O⟩:=Y.o;have j:=ab n;have t:=ab N;have H:=ab ((am.o.trans (gD.quiet i.o d.o.kb.lt)).trans O);have aa:Hi (BO (U.setCell ⟨mb,3,none⟩ (.slice va (aF.length+(aB a.length).length) vc)) w.heap.size (.slice sa a.length sc) a):=Z.o.ae (Fr.setCell (One mb) _ _ _ rfl) (fun k hk e=>by have e':k=mb:=e;omega);have k8:=n.dw;have f8:=n.free 3;have ac:B<=(U.setCell ⟨mb,3,none⟩ (.slice va (aF.length+(aB a.length).length) vc)).heap.size:=Nat.le_trans hB H.o.fr.size;clear n N O e3 e4 e5 k3 f3;generalize U.setCell ⟨mb,3,none⟩ (.slice va (aF.length+(aB a.length).length) vc)=w8 at *
    go_wp2_with (at_builtin;refine gL rfl (.tmp 77) (.tmp 78) 118 rfl a rfl rfl t.o aa.o.src ?hb9 ?hl9 ?_)
    case hb9=>exact ac
    case hl9=>have:=F.o;simp only[List.length_append];omega
    intro v9 w9 D u P;obtain⟨vb,vn,vd,zo⟩:=BO.any D;subst zo;have ad:=ab (MS.kX j.o G.o t.o D u P);have e8:=(j.o.ae u (fun e=>t.o.ne j.o.block (by decide) e)).dw;have e9:=(j.o.ae u (fun e=>t.o.ne j.o.block (by decide) e)).free 3;clear D u P k8 f8;go_wp2_with fail
    go_end0
    obtain⟨hb9,ai,aj⟩:=ad.o;have R:=F.o;refine⟨H.o.trans aj,r,true,aF++(aB a.length++a),⟨_,hb9,G.o,ai⟩,rfl,?_,dK,fun hh=>?_,fun hh=>?_⟩
    ·rw[E.o]
    ·rw[E.o];exact absurd hh (by decide)
    ·rw[E.o];exact⟨.inl rfl,by simp only[List.length_append];omega⟩
   ·go_simp
    refine(eX a.length aH _).mono ?_;rintro e Q ⟨p,cv,rfl,L⟩;have i:Hi (Fr Zero w5 Q):=(Fr.drew Zero w5).trans p;have X:=ab L;have f:=ab (d.o.kb.ae i.o (fun h=>h));have e3:=f.o.dw;have q:Hi (BO Q B (.slice oa aF.length oc) aF):=an.o.ae i.o (fun _ _ h=>h);have z:Hi (BO Q w.heap.size (.slice sa a.length sc) a):=d.o.bo.ae i.o (fun _ _ h=>h);have x:B<=Q.heap.size:=Nat.le_trans ao i.o.size;clear p L;go_wp2_with fail;refine hK.out _ _ trivial (fun _=>?_);clear hK K
    try simp only[sA]
    refine wpAnyH_ready (rs:=[4]) (by kernel_rfl) (by simp) ?_;refine wc 4 (fun K hK=>?_) AllReadyH.nil
    go_simp
    refine hK.out _ _ trivial (fun _=>?_);clear hK K
    try simp only[sA]
    refine wpAnyH_ready (rs:=[8]) (by kernel_rfl) (by simp) ?_;refine wc 8 (fun K hK=>?_) AllReadyH.nil;refine ia rfl (.tmp 66) (.tmp 69) 118 rfl (aB a.length) (by simp[Act.eval]) (by simp[Act.eval]) q.o X.o.src x (by have:=F.o;omega) ?_;intro v7 U C m M;obtain⟨va,vc,ah⟩:=BO.Co C;subst ah;have Y:=ab (MS.kX f.o G.o q.o C m M);have e4:=(f.o.ae m (fun e=>q.o.ne f.o.block (by decide) e)).dw;have e5:=(f.o.ae m (fun e=>q.o.ne f.o.block (by decide) e)).free 3;have Z:Hi (BO U w.heap.size (.slice sa a.length sc) a):=⟨ag z.o.own m (fun g hg e=>by have:=ax.o g e;have:=z.o.from_ g hg;omega),z.o.from_⟩;clear C m M;refine hK.out _ _ trivial (fun _=>?_);clear hK K
    try simp only[sA]
    refine wt 9 trivial ?_
    try simp only[sA]
    refine wt 10 trivial ?_
    try simp only[sA]
    refine wpAnyH_ready (rs:=[11]) (by kernel_rfl) (by simp) ?_;refine wc 11 (fun K hK=>?_) AllReadyH.nil
    go_simp
    refine hK.out _ _ trivial (fun _=>?_);clear hK K
    try simp only[sA]
    refine wpAnyH_done (by kernel_rfl) ?_ _;obtain⟨n,N,O⟩:=Y.o;have j:=ab n;have t:=ab N;have H:=ab ((am.o.trans (gD.quiet i.o d.o.kb.lt)).trans O);have aa:Hi (BO (U.setCell ⟨mb,3,none⟩ (.slice va (aF.length+(aB a.length).length) vc)) w.heap.size (.slice sa a.length sc) a):=Z.o.ae (Fr.setCell (One mb) _ _ _ rfl) (fun k hk e=>by have e':k=mb:=e;omega);have k8:=n.dw;have f8:=n.free 3;have ac:B<=(U.setCell ⟨mb,3,none⟩ (.slice va (aF.length+(aB a.length).length) vc)).heap.size:=Nat.le_trans hB H.o.fr.size;clear n N O e3 e4 e5 k3 f3;generalize U.setCell ⟨mb,3,none⟩ (.slice va (aF.length+(aB a.length).length) vc)=w8 at *
    go_wp2_with (at_builtin;refine gL rfl (.tmp 77) (.tmp 78) 118 rfl a rfl rfl t.o aa.o.src ?hb9 ?hl9 ?_)
    case hb9=>exact ac
    case hl9=>have:=F.o;simp only[List.length_append];omega
    intro v9 w9 D u P;obtain⟨vb,vn,vd,zo⟩:=BO.any D;subst zo;have ad:=ab (MS.kX j.o G.o t.o D u P);have e8:=(j.o.ae u (fun e=>t.o.ne j.o.block (by decide) e)).dw;have e9:=(j.o.ae u (fun e=>t.o.ne j.o.block (by decide) e)).free 3;clear D u P k8 f8;go_wp2_with fail
    go_end0
    obtain⟨hb9,ai,aj⟩:=ad.o;have R:=F.o;refine⟨H.o.trans aj,r,true,aF++(aB a.length++a),⟨_,hb9,G.o,ai⟩,rfl,?_,dK,fun hh=>?_,fun hh=>?_⟩
    ·rw[E.o]
    ·rw[E.o];exact absurd hh (by decide)
    ·rw[E.o];exact⟨.inl rfl,by simp only[List.length_append];omega⟩
  ·obtain rfl:ak=false:=by simpa using aL
   have h4:=J.o.kb.gS;obtain⟨sa,sc,rfl⟩:=J.o.bo.len;have aN:=ab J.o.kb.place;have ap:=ab (a8.o rfl);clear aL aX;go_wp2_with fail;refine(dj J.o.kb hs).mono ?_;rintro e w2 ⟨rfl,n2,e2⟩;obtain rfl:=e2.symm;have y:=ab (J.o.drewN n2);generalize wr.drewN n2=w2 at *;have g2:=y.o.kb.fM;have aS:=y.o.kb.free 2;have aT:=y.o.kb.free 4;have g4:=y.o.kb.gS;have bc:=y.o.kb.gj;simp only[Bool.false_eq_true,if_false];clear h4;rcases r with _|⟨b,V⟩
   ·have HE:Hi (bM l=(none,[])):=ap.o.trans (by cases 300-a.length<;>rfl);simp only[hd];go_wp2_with fail;refine bodyPost_ret (v:=.tuple #[]) (by simp[results,Tryz.results93,go_sem]) rfl ?_;exact ay.o _ _ _ _ (y.o.one (y.o.kb.mark true) (Fr.setCell (One mb) _ _ _ rfl)) HE.o (by simp)
   ·simp only[hd];have n:=b.toNat_lt;obtain⟨hp,aQ,aw,_⟩:=y.o.kb.next
    by_cases T:b.toNat=34
    ·have a2:(((b.toNat:Nat):Int)==34)=true:=beq_iff_eq.2 (by omega);have E:Hi (bM l=(some a,V)):=ap.o.trans (by cases 300-a.length<;>simp[fD,T]);have a3:Hi (aA 34 (b::V) false=(V,false)):=ab (by simp[aA,bz,T]);clear T aw aQ;go_wp2_with fail;refine(mR y.o.kb hs 34 (by omega) (by omega)).mono ?_;rw[a3.o];rintro e w5 ⟨au,av,rfl⟩;have d:Hi (MT w w5 mb db s ov V false (.slice sa a.length sc) a):=y.o.one av au;have aM:V.length<=l.length:=by simp at dK;omega
     clear au av g2 aS aT g4;obtain⟨q1,q2,q3⟩:=al.o w5 _ _ d.o.kb d.o.fr;obtain⟨oa,oc,rfl⟩:=q3.len;have k3:=d.o.kb.dw;have f3:=d.o.kb.free 3;have am:=ab q2;have an:=ab q3;have ao:B<=w5.heap.size:=Nat.le_trans hB q2.fr.size;have aR:=d.o.size;have R:(aB a.length).length<=2:=by unfold aB;split<;>simp
     have F:=ab R;clear q1 q2 q3 R;go_wp2_with fail;refine wp_region_held_drew (S:=fun _=>True) (by kernel_rfl) trivial (fun hT=>?_);refine wt 0 trivial ?_
     try simp only[sA]
     refine wt 1 trivial ?_
     try simp only[sA]
     refine wt 2 trivial ?_
     try simp only[sA]
     refine wt 3 trivial ?_
     try simp only[sA]
     refine wt 5 trivial ?_
     try simp only[sA]
     refine wt 6 trivial ?_
     try simp only[sA]
     refine wpAnyH_ready (rs:=[4,7]) (by kernel_rfl) (by simp) ?_;refine wc 4 (fun K hK=>?_) (wc 7 (fun K hK=>?_) AllReadyH.nil)
     ·go_simp
      refine hK.out _ _ trivial (fun _=>?_);clear hK K
      try simp only[sA]
      refine wpAnyH_ready (rs:=[7]) (by kernel_rfl) (by simp) ?_;refine wc 7 (fun K hK=>?_) AllReadyH.nil
      go_simp
      refine(eX a.length aH _).mono ?_;rintro e Q ⟨p,cv,rfl,L⟩;have i:Hi (Fr Zero w5 Q):=(Fr.drew Zero w5).trans p;have X:=ab L;have f:=ab (d.o.kb.ae i.o (fun h=>h));have e3:=f.o.dw;have q:Hi (BO Q B (.slice oa aF.length oc) aF):=an.o.ae i.o (fun _ _ h=>h);have z:Hi (BO Q w.heap.size (.slice sa a.length sc) a):=d.o.bo.ae i.o (fun _ _ h=>h);have x:B<=Q.heap.size:=Nat.le_trans ao i.o.size;clear p L;go_wp2_with fail;refine hK.out _ _ trivial (fun _=>?_);clear hK K
      try simp only[sA]
      refine wpAnyH_ready (rs:=[8]) (by kernel_rfl) (by simp) ?_;refine wc 8 (fun K hK=>?_) AllReadyH.nil;refine ia rfl (.tmp 66) (.tmp 69) 118 rfl (aB a.length) (by simp[Act.eval]) (by simp[Act.eval]) q.o X.o.src x (by have:=F.o;omega) ?_;intro v7 U C m M;obtain⟨va,vc,ah⟩:=BO.Co C;subst ah;have Y:=ab (MS.kX f.o G.o q.o C m M);have e4:=(f.o.ae m (fun e=>q.o.ne f.o.block (by decide) e)).dw;have e5:=(f.o.ae m (fun e=>q.o.ne f.o.block (by decide) e)).free 3;have Z:Hi (BO U w.heap.size (.slice sa a.length sc) a):=⟨ag z.o.own m (fun g hg e=>by have:=ax.o g e;have:=z.o.from_ g hg;omega),z.o.from_⟩;clear C m M;refine hK.out _ _ trivial (fun _=>?_);clear hK K
      try simp only[sA]
      refine wt 9 trivial ?_
      try simp only[sA]
      refine wt 10 trivial ?_
      try simp only[sA]
      refine wpAnyH_ready (rs:=[11]) (by kernel_rfl) (by simp) ?_;refine wc 11 (fun K hK=>?_) AllReadyH.nil
      go_simp
      refine hK.out _ _ trivial (fun _=>?_);clear hK K
      try simp only[sA]
      refine wpAnyH_done (by kernel_rfl) ?_ _;obtain⟨n,N,O⟩:=Y.o;have j:=ab n;have t:=ab N;have H:=ab ((am.o.trans (gD.quiet i.o d.o.kb.lt)).trans O);have aa:Hi (BO (U.setCell ⟨mb,3,none⟩ (.slice va (aF.length+(aB a.length).length) vc)) w.heap.size (.slice sa a.length sc) a):=Z.o.ae (Fr.setCell (One mb) _ _ _ rfl) (fun k hk e=>by have e':k=mb:=e;omega);have k8:=n.dw;have f8:=n.free 3;have ac:B<=(U.setCell ⟨mb,3,none⟩ (.slice va (aF.length+(aB a.length).length) vc)).heap.size:=Nat.le_trans hB H.o.fr.size;clear n N O e3 e4 e5 k3 f3;generalize U.setCell ⟨mb,3,none⟩ (.slice va (aF.length+(aB a.length).length) vc)=w8 at *
      go_wp2_with (at_builtin;refine gL rfl (.tmp 77) (.tmp 78) 118 rfl a rfl rfl t.o aa.o.src ?hb9 ?hl9 ?_)
      case hb9=>exact ac
      case hl9=>have:=F.o;simp only[List.length_append];omega
      intro v9 w9 D u P;obtain⟨vb,vn,vd,zo⟩:=BO.any D;subst zo;have ad:=ab (MS.kX j.o G.o t.o D u P);have e8:=(j.o.ae u (fun e=>t.o.ne j.o.block (by decide) e)).dw;have e9:=(j.o.ae u (fun e=>t.o.ne j.o.block (by decide) e)).free 3;clear D u P k8 f8;go_wp2_with fail
      go_end0
      obtain⟨hb9,ai,aj⟩:=ad.o;have R:=F.o;refine⟨H.o.trans aj,V,false,aF++(aB a.length++a),⟨_,hb9,G.o,ai⟩,rfl,?_,aM,fun hh=>?_,fun hh=>?_⟩
      ·rw[E.o]
      ·rw[E.o];exact⟨a,rfl,rfl⟩
      ·rw[E.o];exact absurd hh (by decide)
     ·go_simp
      refine(eX a.length aH _).mono ?_;rintro e Q ⟨p,cv,rfl,L⟩;have i:Hi (Fr Zero w5 Q):=(Fr.drew Zero w5).trans p;have X:=ab L;have f:=ab (d.o.kb.ae i.o (fun h=>h));have e3:=f.o.dw;have q:Hi (BO Q B (.slice oa aF.length oc) aF):=an.o.ae i.o (fun _ _ h=>h);have z:Hi (BO Q w.heap.size (.slice sa a.length sc) a):=d.o.bo.ae i.o (fun _ _ h=>h);have x:B<=Q.heap.size:=Nat.le_trans ao i.o.size;clear p L;go_wp2_with fail;refine hK.out _ _ trivial (fun _=>?_);clear hK K
      try simp only[sA]
      refine wpAnyH_ready (rs:=[4]) (by kernel_rfl) (by simp) ?_;refine wc 4 (fun K hK=>?_) AllReadyH.nil
      go_simp
      refine hK.out _ _ trivial (fun _=>?_);clear hK K
      try simp only[sA]
      refine wpAnyH_ready (rs:=[8]) (by kernel_rfl) (by simp) ?_;refine wc 8 (fun K hK=>?_) AllReadyH.nil;refine ia rfl (.tmp 66) (.tmp 69) 118 rfl (aB a.length) (by simp[Act.eval]) (by simp[Act.eval]) q.o X.o.src x (by have:=F.o;omega) ?_;intro v7 U C m M;obtain⟨va,vc,ah⟩:=BO.Co C;subst ah;have Y:=ab (MS.kX f.o G.o q.o C m M);have e4:=(f.o.ae m (fun e=>q.o.ne f.o.block (by decide) e)).dw;have e5:=(f.o.ae m (fun e=>q.o.ne f.o.block (by decide) e)).free 3;have Z:Hi (BO U w.heap.size (.slice sa a.length sc) a):=⟨ag z.o.own m (fun g hg e=>by have:=ax.o g e;have:=z.o.from_ g hg;omega),z.o.from_⟩;clear C m M;refine hK.out _ _ trivial (fun _=>?_);clear hK K
      try simp only[sA]
      refine wt 9 trivial ?_
      try simp only[sA]
      refine wt 10 trivial ?_
      try simp only[sA]
      refine wpAnyH_ready (rs:=[11]) (by kernel_rfl) (by simp) ?_;refine wc 11 (fun K hK=>?_) AllReadyH.nil
      go_simp
      refine hK.out _ _ trivial (fun _=>?_);clear hK K
      try simp only[sA]
      refine wpAnyH_done (by kernel_rfl) ?_ _;obtain⟨n,N,O⟩:=Y.o;have j:=ab n;have t:=ab N;have H:=ab ((am.o.trans (gD.quiet i.o d.o.kb.lt)).trans O);have aa:Hi (BO (U.setCell ⟨mb,3,none⟩ (.slice va (aF.length+(aB a.length).length) vc)) w.heap.size (.slice sa a.length sc) a):=Z.o.ae (Fr.setCell (One mb) _ _ _ rfl) (fun k hk e=>by have e':k=mb:=e;omega);have k8:=n.dw;have f8:=n.free 3;have ac:B<=(U.setCell ⟨mb,3,none⟩ (.slice va (aF.length+(aB a.length).length) vc)).heap.size:=Nat.le_trans hB H.o.fr.size;clear n N O e3 e4 e5 k3 f3;generalize U.setCell ⟨mb,3,none⟩ (.slice va (aF.length+(aB a.length).length) vc)=w8 at *
      go_wp2_with (at_builtin;refine gL rfl (.tmp 77) (.tmp 78) 118 rfl a rfl rfl t.o aa.o.src ?hb9 ?hl9 ?_)
      case hb9=>exact ac
      case hl9=>have:=F.o;simp only[List.length_append];omega
      intro v9 w9 D u P;obtain⟨vb,vn,vd,zo⟩:=BO.any D;subst zo;have ad:=ab (MS.kX j.o G.o t.o D u P);have e8:=(j.o.ae u (fun e=>t.o.ne j.o.block (by decide) e)).dw;have e9:=(j.o.ae u (fun e=>t.o.ne j.o.block (by decide) e)).free 3;clear D u P k8 f8;go_wp2_with fail
      go_end0
      obtain⟨hb9,ai,aj⟩:=ad.o;have R:=F.o;refine⟨H.o.trans aj,V,false,aF++(aB a.length++a),⟨_,hb9,G.o,ai⟩,rfl,?_,aM,fun hh=>?_,fun hh=>?_⟩
      ·rw[E.o]
      ·rw[E.o];exact⟨a,rfl,rfl⟩
      ·rw[E.o];exact absurd hh (by decide)
    ·have a2:(((b.toNat:Nat):Int)==34)=false:=beq_eq_false_iff_ne.2 (by omega)
     by_cases aI:b.toNat<32\/126<b.toNat\/300<=a.length
     ·have HE:Hi (bM l=(none,b::V)):=ap.o.trans (by
       rcases hk:300-a.length with _|k
       ·simp[fD,T]
       ·simp only[fD]
        rw[if_neg T,if_neg (by omega),if_neg (by omega)])
      have az:(((b.toNat:Nat):Int)<32)\/(decide (((b.toNat:Nat):Int)<32)=false/\126<((b.toNat:Nat):Int))\/(decide (((b.toNat:Nat):Int)<32)=false/\decide (126<((b.toNat:Nat):Int))=false/\300<=((a.length:Nat):Int)):=by
       by_cases c1:b.toNat<32
       ·exact .inl (by omega)
       ·by_cases c2:126<b.toNat
        ·exact .inr (.inl ⟨decide_eq_false (by omega),by omega⟩)
        ·exact .inr (.inr ⟨decide_eq_false (by omega),decide_eq_false (by omega),by omega⟩)
      clear aI T aw aQ;rcases az with c1|⟨c1,c2⟩|⟨c1,c2,c3⟩
      all_goals
       go_wp2_with fail;refine bodyPost_ret (v:=.tuple #[]) (by simp[results,Tryz.results93,go_sem]) rfl ?_;exact ay.o _ _ _ _ (y.o.one (y.o.kb.mark true) (Fr.setCell (One mb) _ _ _ rfl)) HE.o dK
     ·have c1:decide (((b.toNat:Nat):Int)<32)=false:=decide_eq_false (by omega);have c2:decide (126<((b.toNat:Nat):Int))=false:=decide_eq_false (by omega);have c3:decide (300<=((a.length:Nat):Int))=false:=decide_eq_false (by omega);have be:decide (300<=a.length)=false:=decide_eq_false (by omega);have bf:a.length<300:=by omega
      have hk:300-a.length=(300-(a.length+1))+1:=by omega
      have a4:((pos s (b::V):Nat):Int)+1=((pos s V:Nat):Int):=by omega
      have a5:Hi (V.length<=s.size):=by show _<=_;have:=y.o.kb.len;simp at this;omega
      have aC:=ab (y.o.one (y.o.kb.move a5.o aw) (Fr.setCell (One mb) _ _ _ rfl));have a6:Hi (V.length<l.length):=by show _<_;simp at dK;omega
      have aq:32<=b.toNat/\b.toNat<=126:=by omega
      have bg:=ab aw;clear aI aw aQ
      by_cases aD:b.toNat=92
      ·have a7:(((b.toNat:Nat):Int)==92)=true:=beq_iff_eq.2 (by omega);have aO:Hi (bM l=zW (300-(a.length+1)) a V):=ap.o.trans (by rw[hk];exact Dg aD);clear T aD hk aq;go_wp2_with fail;generalize w2.setCell ⟨mb,2,none⟩ (.int .i64 (pos s V))=w3 at *;refine(dj aC.o.kb hs).mono ?_;rintro e w4 ⟨rfl,n4,e4⟩;obtain rfl:=e4.symm;have A:=ab (aC.o.drewN n4);generalize w3.drewN n4=w4 at *;have k2:=A.o.kb.fM;have bh:=A.o.kb.free 2;have bi:=A.o.kb.free 4;have k4:=A.o.kb.gS;have ba:=A.o.kb.gj;clear g2 aS aT g4;simp only[Bool.false_eq_true,if_false];rcases V with _|⟨c,r2⟩
       ·have HE:Hi (bM l=(none,[])):=aO.o.trans rfl;simp only[hd];go_wp2_with fail;refine bodyPost_ret (v:=.tuple #[]) (by simp[results,Tryz.results93,go_sem]) rfl ?_;exact ay.o _ _ _ _ (A.o.one (A.o.kb.mark true) (Fr.setCell (One mb) _ _ _ rfl)) HE.o (by simp)
       ·simp only[hd];have bj:=c.toNat_lt
        by_cases aE:c.toNat=34\/c.toNat=92
        ·have aG:Hi (bM l=fD (300-(a++[c]).length) (a++[c]) r2):=aO.o.trans (by simp only[zW];rw[if_pos aE];simp);obtain⟨bk,a9,aK,_⟩:=A.o.kb.next;have bb:((pos s (c::r2):Nat):Int)+1=((pos s r2:Nat):Int):=by omega
         have aU:Hi (r2.length<=s.size):=by show _<=_;have:=A.o.kb.len;simp at this;omega
         have d:=ab (A.o.one (A.o.kb.move aU.o aK) (Fr.setCell (One mb) _ _ _ rfl));clear aK a9 a4
         obtain rfl|rfl:c=34\/c=92:=by
          rcases aE with h|h
          ·exact .inl (fI h)
          ·exact .inr (fI h)
         ·have aJ:=A.o.size;have ar:Hi (Src Tryz.prog 1 118 (.slice (some ⟨w4.heap.size,0,none⟩) 1 1) [34].length (Lib.byteCells [34]) ((w4.setCell ⟨mb,2,none⟩ (.int .i64 (pos s r2))).alloc (.cells #[.int .u8 34] 5))):=kA (af (by simp[World.setCell]) _)
          go_wp2_with (at_builtin;refine bx rfl (.tmp 56) (.tmp 58) 118 rfl [34] rfl rfl (d.o.alloc (.cells #[.int .u8 34] 5)).bo ar.o ?hb6 ?hl6 ?_)
          case hb6=>first|omega|(simp;omega)|simp
          case hl6=>first|omega|(simp;omega)|simp
          intro v6 Q x p _;have I:=ab ((d.o.alloc (.cells #[.int .u8 34] 5)).more x p);clear x p;have W:=ab I.o.kb.place;go_wp2_with fail;refine⟨⟨a++[34],r2,false,by first|omega|(simp;omega),by first|omega|(simp only[List.length_cons] at dK;omega),I,fun _=>aG.o,fun h=>by simp at h⟩,?_⟩;have l6:=I.o.kb.len;have l7:=J.o.kb.len;rw[aN.o,W.o];simp only[pos,List.length_cons] at l6 l7 ⊢;omega
         ·have aJ:=A.o.size;have ar:Hi (Src Tryz.prog 1 118 (.slice (some ⟨w4.heap.size,0,none⟩) 1 1) [92].length (Lib.byteCells [92]) ((w4.setCell ⟨mb,2,none⟩ (.int .i64 (pos s r2))).alloc (.cells #[.int .u8 92] 5))):=kA (af (by simp[World.setCell]) _)
          go_wp2_with (at_builtin;refine bx rfl (.tmp 56) (.tmp 58) 118 rfl [92] rfl rfl (d.o.alloc (.cells #[.int .u8 92] 5)).bo ar.o ?hb6 ?hl6 ?_)
          case hb6=>first|omega|(simp;omega)|simp
          case hl6=>first|omega|(simp;omega)|simp
          intro v6 Q x p _;have I:=ab ((d.o.alloc (.cells #[.int .u8 92] 5)).more x p);clear x p;have W:=ab I.o.kb.place;go_wp2_with fail;refine⟨⟨a++[92],r2,false,by first|omega|(simp;omega),by first|omega|(simp only[List.length_cons] at dK;omega),I,fun _=>aG.o,fun h=>by simp at h⟩,?_⟩;have l6:=I.o.kb.len;have l7:=J.o.kb.len;rw[aN.o,W.o];simp only[pos,List.length_cons] at l6 l7 ⊢;omega
        ·have HE:Hi (bM l=(none,c::r2)):=aO.o.trans (by simp only[zW];rw[if_neg aE]);have q1:(((c.toNat:Nat):Int) != 34)=true:=bne_iff_ne.2 (by omega);have q2:(((c.toNat:Nat):Int) != 92)=true:=bne_iff_ne.2 (by omega);clear aE;go_wp2_with fail;refine bodyPost_ret (v:=.tuple #[]) (by simp[results,Tryz.results93,go_sem]) rfl ?_;exact ay.o _ _ _ _ (A.o.one (A.o.kb.mark true) (Fr.setCell (One mb) _ _ _ rfl)) HE.o (by have:=a6.o;omega)
      ·have a7:(((b.toNat:Nat):Int)==92)=false:=beq_eq_false_iff_ne.2 (by omega);have aG:Hi (bM l=fD (300-(a++[b]).length) (a++[b]) V):=ap.o.trans (by rw[hk];simp only[fD];rw[if_neg T,if_neg aD,if_pos aq];simp);clear T aD hk aq;have aJ:=y.o.size;have ar:Hi (Src Tryz.prog 1 118 (.slice (some ⟨w2.heap.size,0,none⟩) 1 1) [b].length (Lib.byteCells [b]) ((w2.setCell ⟨mb,2,none⟩ (.int .i64 (pos s V))).alloc (.cells #[.int .u8 b.toNat] 5))):=kA (af (by simp[World.setCell]) _)
       go_wp2_with (at_builtin;refine bx rfl (.tmp 56) (.tmp 58) 118 rfl [b] rfl rfl (aC.o.alloc (.cells #[.int .u8 b.toNat] 5)).bo ar.o ?hb6 ?hl6 ?_)
       case hb6=>first|omega|(simp;omega)|simp
       case hl6=>first|omega|(simp;omega)|simp
       intro v6 Q x p _;have I:=ab ((aC.o.alloc (.cells #[.int .u8 b.toNat] 5)).more x p);clear x p;have W:=ab I.o.kb.place;go_wp2_with fail;refine⟨⟨a++[b],V,false,by first|omega|(simp;omega),by first|omega|(simp only[List.length_cons] at dK;omega),I,fun _=>aG.o,fun h=>by simp at h⟩,?_⟩;have l6:=I.o.kb.len;have l7:=J.o.kb.len;rw[aN.o,W.o];simp only[pos,List.length_cons] at l6 l7 ⊢;omega
theorem th(h:gQ r=none):mj (hd r)=-1:=by
 rcases r with _|⟨b,r⟩
 ·rfl
 ·simp only[gQ] at h;show mj b.toNat=-1;unfold mj
  by_cases a:48<=b.toNat/\b.toNat<=57
  ·rw[if_pos a] at h;simp at h
  ·rw[if_neg a] at h;rw[if_neg a]
   by_cases c:97<=b.toNat/\b.toNat<=102
   ·rw[if_pos c] at h;simp at h
   ·rw[if_neg c]
theorem tg{l1:Bs}{h:Nat}(hh:gQ r=some (h,l1)):mj (hd r)=(h:Int)/\h<16/\∃ b,r=b::l1:=by
 rcases r with _|⟨b,r⟩
 ·simp[gQ] at hh
 ·simp only[gQ] at hh;show mj b.toNat=_/\_;unfold mj
  by_cases a:48<=b.toNat/\b.toNat<=57
  ·rw[if_pos a] at hh ⊢;simp at hh;obtain⟨rfl,rfl⟩:=hh;exact⟨by omega,by omega,b,rfl⟩
  ·rw[if_neg a] at hh ⊢
   by_cases c:97<=b.toNat/\b.toNat<=102
   ·rw[if_pos c] at hh ⊢;simp at hh;obtain⟨rfl,rfl⟩:=hh;exact⟨by omega,by omega,b,rfl⟩
   ·rw[if_neg c] at hh;simp at hh
theorem ze{aF:Bs}(h:MS w B mb db s l false aF)(hs:s.size<=maxLen)(hB:B<=w.heap.size)(hl:aF.length<=900000000):
  Calls Tryz.prog 94 #[.pointer (some ⟨mb,0,none⟩)] w fun e w'=>EPost mb B db s aF 500 w l (ep l) (fun b=>aB b.length++b) e w':=by
 obtain⟨ov,hb,Y,ho⟩:=h;have aD:=hb.lt;have O:Hi (∀(w':World) (r:Bs) (bd:Bool),MB w' mb db s r bd ov->Fr (TX mb w) w w'->MS w' B mb db s r bd aF/\gD mb w w'/\BO w' B ov aF):=fun w' r bd kc hf'=>MS.EX hb Y ho kc hf'
 have aE:Hi (∀ k,ov.ownBlock=some k->k<w.heap.size):=fun k hk=>ho.lt hk
 have T:=ab Y;have aG:=hs;unfold maxLen at aG;clear ho Y
 have aH:Hi (∀(w':World) (r'':Bs) (E0:Value) (got':Bs),MT w w' mb db s ov r'' true E0 got'->ep l=(none,r'')->r''.length<=l.length->EPost mb B db s aF 500 w l (ep l) (fun b=>aB b.length++b) (.returned (.tuple #[])) w'):=fun w' r'' E0 got' hm hq hr=>by
  obtain⟨q1,q2,_⟩:=O.o w' r'' true hm.kb hm.fr;exact⟨q2,r'',true,aF,q1,rfl,by rw[hq],hr,fun h=>by simp at h,fun _=>⟨.inl (by rw[hq]),by omega⟩⟩
 go_enter Tryz.func94,Tryz.ntmps94;go_wp2_with fail;refine(mR hb hs 120 (by omega) (by omega)).mono ?_;rintro e w1 ⟨aq,ar,rfl⟩;have aI:Hi (MT w w1 mb db s ov (aA 120 l false).1 (aA 120 l false).2 (.slice none 0 0) []):=⟨ar,BO.nil _ _,aq.tx,aD⟩;clear aq ar hb
 have h1:Hi ((aA 120 l false).1.length<=l.length/\((aA 120 l false).2=false->ep l=js 300 [] (aA 120 l false).1)/\((aA 120 l false).2=true->ep l=(none,(aA 120 l false).1))):=by
  rcases hq:bz 120 l with _|r1
  ·exact⟨by simp[aA,hq],by simp[aA,hq],by simp[aA,ep,hq]⟩
  ·obtain⟨b,rfl,_⟩:=bp hq;exact⟨by simp[aA,hq],by simp[aA,ep,hq],by simp[aA,hq]⟩
 go_wp2_with fail
 go_loopw [2] (fun sv wr=>∃(d r:Bs) (i:Bool),d.length<=300/\r.length<=l.length/\Hi (MT w wr mb db s ov r i sv d)/\Hi (i=false->ep l=js (300-d.length) d r)/\Hi (i=true->ep l=(none,r))) (fun _ wr=>s.size+1-mP mb wr)
 case atStart=>exact⟨[],_,_,by simp,h1.o.1,aI,h1.o.2.1,h1.o.2.2⟩
 case round =>
  obtain⟨d,r,i,au,dK,n,L,Z⟩:=hrel;generalize aJ:u2=sv at *;clear aJ;obtain⟨sa,sc,rfl⟩:=n.o.bo.len;have h4:=n.o.kb.gS
  by_cases m:i=true\/300<=d.length\/gQ r=none
  ·have U:Hi (ep l=(if i=true then none else some d,r)):=by
    show _=_;cases i with
    | true=>rw[Z.o rfl];rfl
    | false =>
     rw[L.o rfl];rcases m with m|m|m
     ·simp at m
     ·rw[show 300-d.length=0 by omega];rfl
     ·rcases 300-d.length with _|k
      ·rfl
      ·simp only[js,m];rfl
   have aK:i=true\/(i=false/\300<=d.length)\/(i=false/\d.length<300/\gQ r=none):=by
    cases i with
    | true=>exact .inl rfl
    | false =>
     rcases m with m|m|m
     ·simp at m
     ·exact .inr (.inl ⟨rfl,m⟩)
     ·rcases Nat.lt_or_ge d.length 300 with q|q
      ·exact .inr (.inr ⟨rfl,q,m⟩)
      ·exact .inr (.inl ⟨rfl,q⟩)
   clear m L Z;rcases aK with m|⟨m,aa⟩|⟨m,aa,av⟩
   case' inl =>
    subst m;have f:=n;generalize wr=N at *;go_wp2_with fail
   case' inr.inl =>
    subst m;have hI:¬((d.length:Nat):Int)<300:=by omega
    have f:=n;clear aa;generalize wr=N at *;go_wp2_with fail
   case' inr.inr =>
    subst m;have hI:((d.length:Nat):Int)<300:=by omega
    have aL:=ab (th av);clear aa av;go_wp2_with fail;refine(dj n.o.kb hs).mono ?_;rintro e w4 ⟨rfl,n4,e4⟩;obtain rfl:=e4.symm;have f:=ab (n.o.drewN n4);generalize wr.drewN n4=N at *;clear h4 n;simp only[Bool.false_eq_true,if_false];go_wp2_with fail;refine(uz (hd r) (nL r) _).mono ?_;rintro e E ⟨rfl,e6⟩;obtain rfl:=e6.symm;rw[aL.o];go_wp2_with fail
   all_goals
    have be:=dK;obtain⟨q1,q2,q3⟩:=O.o N _ _ f.o.kb f.o.fr;obtain⟨oa,oc,rfl⟩:=q3.len;have k3:=f.o.kb.dw;have f3:=f.o.kb.free 3;have aM:=ab q2;have ah:=ab q3;have ai:B<=N.heap.size:=Nat.le_trans hB q2.fr.size;have a7:=f.o.size;have V:(aB d.length).length<=2:=by unfold aB;split<;>simp
    have W:=ab V;clear q1 q2 q3 V;go_wp2_with fail;refine wp_region_held_drew (S:=fun _=>True) (by kernel_rfl) trivial (fun hT=>?_);refine wt 0 trivial ?_
    try simp only[sA]
    refine wt 1 trivial ?_
    try simp only[sA]
    refine wt 2 trivial ?_
    try simp only[sA]
    refine wt 3 trivial ?_
    try simp only[sA]
    refine wt 5 trivial ?_
    try simp only[sA]
    refine wt 6 trivial ?_
    try simp only[sA]
    refine wpAnyH_ready (rs:=[4,7]) (by kernel_rfl) (by simp) ?_;refine wc 4 (fun K hK=>?_) (wc 7 (fun K hK=>?_) AllReadyH.nil)
    focus
     go_simp
     refine hK.out _ _ trivial (fun _=>?_);clear hK K
     try simp only[sA]
     refine wpAnyH_ready (rs:=[7]) (by kernel_rfl) (by simp) ?_;refine wc 7 (fun K hK=>?_) AllReadyH.nil
     go_simp
     refine(eX d.length au _).mono ?_;rintro e E ⟨x,cv,rfl,F⟩;have t:Hi (Fr Zero N E):=(Fr.drew Zero N).trans x;have aj:=ab F;have u:=ab (f.o.kb.ae t.o (fun h=>h));have e3:=u.o.dw;have z:Hi (BO E B (.slice oa aF.length oc) aF):=ah.o.ae t.o (fun _ _ h=>h);have I:Hi (BO E w.heap.size (.slice sa d.length sc) d):=f.o.bo.ae t.o (fun _ _ h=>h);have A:B<=E.heap.size:=Nat.le_trans ai t.o.size;clear x F;go_wp2_with fail;refine hK.out _ _ trivial (fun _=>?_);clear hK K
     try simp only[sA]
    rotate_left
    focus
     go_simp
     refine(eX d.length au _).mono ?_;rintro e E ⟨x,cv,rfl,F⟩;have t:Hi (Fr Zero N E):=(Fr.drew Zero N).trans x;have aj:=ab F;have u:=ab (f.o.kb.ae t.o (fun h=>h));have e3:=u.o.dw;have z:Hi (BO E B (.slice oa aF.length oc) aF):=ah.o.ae t.o (fun _ _ h=>h);have I:Hi (BO E w.heap.size (.slice sa d.length sc) d):=f.o.bo.ae t.o (fun _ _ h=>h);have A:B<=E.heap.size:=Nat.le_trans ai t.o.size;clear x F;go_wp2_with fail;refine hK.out _ _ trivial (fun _=>?_);clear hK K
     try simp only[sA]
     refine wpAnyH_ready (rs:=[4]) (by kernel_rfl) (by simp) ?_;refine wc 4 (fun K hK=>?_) AllReadyH.nil
     go_simp
     refine hK.out _ _ trivial (fun _=>?_);clear hK K
     try simp only[sA]
    all_goals
     refine wpAnyH_ready (rs:=[8]) (by kernel_rfl) (by simp) ?_;refine wc 8 (fun K hK=>?_) AllReadyH.nil;refine ia rfl (.tmp 56) (.tmp 59) 118 rfl (aB d.length) (by simp[Act.eval]) (by simp[Act.eval]) z.o aj.o.src A (by have:=W.o;omega) ?_;intro v7 w7 ac G aw;obtain⟨va,vc,a2⟩:=BO.Co ac;subst a2;have aN:=ab (MS.kX u.o T.o z.o ac G aw);have e4:=(u.o.ae G (fun e=>z.o.ne u.o.block (by decide) e)).dw;have e5:=(u.o.ae G (fun e=>z.o.ne u.o.block (by decide) e)).free 3;have aO:Hi (BO w7 w.heap.size (.slice sa d.length sc) d):=⟨ag I.o.own G (fun g hg e=>by have:=aE.o g e;have:=I.o.from_ g hg;omega),I.o.from_⟩;clear ac G aw;refine hK.out _ _ trivial (fun _=>?_);clear hK K
     try simp only[sA]
     refine wt 9 trivial ?_
     try simp only[sA]
     refine wt 10 trivial ?_
     try simp only[sA]
     refine wpAnyH_ready (rs:=[11]) (by kernel_rfl) (by simp) ?_;refine wc 11 (fun K hK=>?_) AllReadyH.nil
     go_simp
     refine hK.out _ _ trivial (fun _=>?_);clear hK K
     try simp only[sA]
     refine wpAnyH_done (by kernel_rfl) ?_ _;obtain⟨D,ax,ay⟩:=aN.o;have C:=ab D;have J:=ab ax;have ak:=ab ((aM.o.trans (gD.quiet t.o f.o.kb.lt)).trans ay);have aP:Hi (BO (w7.setCell ⟨mb,3,none⟩ (.slice va (aF.length+(aB d.length).length) vc)) w.heap.size (.slice sa d.length sc) d):=aO.o.ae (Fr.setCell (One mb) _ _ _ rfl) (fun k hk e=>by have e':k=mb:=e;omega);have k8:=D.dw;have f8:=D.free 3;have aQ:B<=(w7.setCell ⟨mb,3,none⟩ (.slice va (aF.length+(aB d.length).length) vc)).heap.size:=Nat.le_trans hB ak.o.fr.size;clear D ax ay e3 e4 e5 k3 f3;generalize w7.setCell ⟨mb,3,none⟩ (.slice va (aF.length+(aB d.length).length) vc)=w8 at *
    all_goals
     go_wp2_with (at_builtin;refine gL rfl (.tmp 67) (.tmp 68) 118 rfl d rfl rfl J.o aP.o.src ?hb9 ?hl9 ?_)
     case hb9=>exact aQ
     case hl9=>have:=W.o;simp only[List.length_append];omega
     intro v9 w9 ad M az;obtain⟨vb,vn,vd,zo⟩:=BO.any ad;subst zo;have aR:=ab (MS.kX C.o T.o J.o ad M az);have e8:=(C.o.ae M (fun e=>J.o.ne C.o.block (by decide) e)).dw;have e9:=(C.o.ae M (fun e=>J.o.ne C.o.block (by decide) e)).free 3;clear ad M az k8 f8;go_wp2_with fail
     go_end0
     obtain⟨hb9,a3,a4⟩:=aR.o;have V:=W.o;refine⟨ak.o.trans a4,r,_,aF++(aB d.length++d),⟨_,hb9,T.o,by simpa using a3⟩,rfl,?_,dK,fun hh=>?_,fun hh=>?_⟩
     ·rw[U.o]
     ·rw[U.o];first|exact absurd hh (by decide)|exact⟨d,rfl,rfl⟩
     ·rw[U.o];first|exact absurd hh (by decide)|exact⟨.inl rfl,by simp only[List.length_append];omega⟩
  ·have aS:i=false:=by cases i with
    | true=>exact absurd (.inl rfl) m
    | false=>rfl
   subst aS
   have bf:d.length<300:=by
    rcases Nat.lt_or_ge d.length 300 with q|q
    ·exact q
    ·exact absurd (.inr (.inl q)) m
   obtain⟨⟨a,H⟩,hD⟩:∃ p,gQ r=some p:=by
    rcases hq:gQ r with _|p
    ·exact absurd (.inr (.inr hq)) m
    ·exact⟨p,rfl⟩
   obtain⟨ha,bb,b,rfl⟩:=tg hD;have hk:300-d.length=(300-(d.length+1))+1:=by omega
   have al:Hi (ep l=match gQ H with|none=>(none,H)|some (g,Q)=>js (300-(d.length+1)) (d++[UInt8.ofNat (16*a+g)]) Q):=by
    show _=_;rw[L.o rfl,hk];simp only[js,hD];rfl
   have aT:=ab ha;have hI:((d.length:Nat):Int)<300:=by omega
   clear m ha hk hD L Z;go_wp2_with fail;refine(dj n.o.kb hs).mono ?_;rintro e w2 ⟨rfl,n2,e2⟩;obtain rfl:=e2.symm;have y:=ab (n.o.drewN n2);have aU:=ab n.o.kb.place;generalize wr.drewN n2=w2 at *;clear h4;simp only[Bool.false_eq_true,if_false];go_wp2_with fail;refine(uz (hd (b::H)) (nL _) _).mono ?_;rintro e w3 ⟨rfl,e3⟩;obtain rfl:=e3.symm;rw[aT.o];have g2:=y.o.kb.fM;have aV:=y.o.kb.free 2;have aW:=y.o.kb.gj;obtain⟨hp,a5,aC,_⟩:=y.o.kb.next;have aX:((pos s (b::H):Nat):Int)+1=((pos s H:Nat):Int):=by omega
   have aY:Hi (H.length<=s.size):=by show _<=_;have:=y.o.kb.len;simp at this;omega
   have am:=ab (y.o.one (y.o.kb.move aY.o aC) (Fr.setCell (One mb) _ _ _ rfl));have an:Hi (H.length<l.length):=by show _<_;simp at dK;omega
   have bg:¬((a:Nat):Int)<0:=by omega
   clear aC a5;go_wp2_with fail;generalize w2.setCell ⟨mb,2,none⟩ (.int .i64 (pos s H))=w3 at *;refine(dj am.o.kb hs).mono ?_;rintro e w4 ⟨rfl,n4,e4⟩;obtain rfl:=e4.symm;have j:=ab (am.o.drewN n4);generalize w3.drewN n4=w4 at *;clear g2 aV aW aX;simp only[Bool.false_eq_true,if_false];go_wp2_with fail;refine(uz (hd H) (nL _) _).mono ?_;rintro e N ⟨rfl,e5⟩;obtain rfl:=e5.symm;rcases hD2:gQ H with _|⟨g,Q⟩
   ·have HE:Hi (ep l=(none,H)):=ab (by rw[al.o,hD2]);rw[th hD2];have bh:=j.o.kb.free 4;have k4:=j.o.kb.gS;clear hD2;go_wp2_with fail;refine bodyPost_ret (v:=.tuple #[]) (by simp[results,Tryz.results94,go_sem]) rfl ?_;exact aH.o _ _ _ _ (j.o.one (j.o.kb.mark true) (Fr.setCell (One mb) _ _ _ rfl)) HE.o (by have:=an.o;omega)
   ·obtain⟨hg,bc,c,rfl⟩:=tg hD2
    have HE:Hi (ep l=js (300-(d++[UInt8.ofNat (16*a+g)]).length) (d++[UInt8.ofNat (16*a+g)]) Q):=by
     show _=_;rw[al.o,hD2];simp
    rw[hg];have k2:=j.o.kb.fM;have bi:=j.o.kb.free 2;have a8:=j.o.kb.gj;obtain⟨bk,a6,R,_⟩:=j.o.kb.next;have a9:((pos s (c::Q):Nat):Int)+1=((pos s Q:Nat):Int):=by omega
    have ao:Hi (Q.length<=s.size):=by show _<=_;have:=j.o.kb.len;simp at this;omega
    have f:=ab (j.o.one (j.o.kb.move ao.o R) (Fr.setCell (One mb) _ _ _ rfl));have bj:¬((g:Nat):Int)<0:=by omega
    have aZ:(16*(a:Int)+(g:Int))%256=(((UInt8.ofNat (16*a+g)).toNat:Nat):Int):=by rw[toNat_ofNat (by omega)];omega
    have P:16*(a:Int)+(g:Int)=(((UInt8.ofNat (16*a+g)).toNat:Nat):Int):=by rw[toNat_ofNat (by omega)];omega
    have ba:=j.o.size;have a0:=ab P;generalize UInt8.ofNat (16*a+g)=B8 at *;have a1:Hi (Src Tryz.prog 1 118 (.slice (some ⟨w4.heap.size,0,none⟩) 1 1) [B8].length (Lib.byteCells [B8]) ((w4.setCell ⟨mb,2,none⟩ (.int .i64 (pos s Q))).alloc (.cells #[.int .u8 B8.toNat] 5))):=kA (af (by simp[World.setCell]) _);have D:=B8.toNat_lt;clear R a6 hD2 hg aZ P
    go_wp2_with (rw[a0.o];at_builtin;refine bx rfl (.tmp 44) (.tmp 50) 118 rfl [B8] rfl rfl (f.o.alloc (.cells #[.int .u8 B8.toNat] 5)).bo a1.o ?hb6 ?hl6 ?_)
    case hb6=>first|omega|(simp;omega)|simp
    case hl6=>first|omega|(simp;omega)|simp
    intro v6 E A x _;have X:=ab ((f.o.alloc (.cells #[.int .u8 B8.toNat] 5)).more A x);clear A x;have ap:=ab X.o.kb.place;go_wp2_with fail;refine⟨⟨d++[B8],Q,false,by first|omega|(simp;omega),by have:=an.o;simp only[List.length_cons] at this;omega,X,fun _=>HE.o,fun h=>by simp at h⟩,?_⟩;have l6:=X.o.kb.len;have l7:=n.o.kb.len;rw[aU.o,ap.o];simp only[pos,List.length_cons] at l6 l7 ⊢;omega
theorem DF.up{B':Nat}{tab:List RT}{roots:List Nat}(h:DF w B db tab roots)(hB:B<=B'):DF w B' db tab roots:=by
 obtain⟨c,X,s,n,d,f,g,i,a,b,B0,j,l,m,o⟩:=h;exact⟨c,X,s,n,d,f,g,i,a,b,B0,Nat.le_trans j hB,l.mono (fun k hk e=>by unfold bk at e ⊢;omega),m,o⟩
structure qY(w:World)(B mb db:Nat)(s:ByteArray)(l:Bs)(aF:Bs)(tab:List RT)(roots:List Nat):Prop where
 ms:MS w B mb db s l false aF
 df:DF w B db tab roots
 hs:s.size<=1048576
 tl:tab.length<=1000000
 hB:B<=w.heap.size
def qS(k:Nat):Prop:=∀(w:World) (B mb db:Nat) (s:ByteArray) (l aF:Bs) (tab:List RT) (roots:List Nat) (x:Nat) (t:PT),
 qY w B mb db s l aF tab roots->Is tab x t->c8 k t->aF.length+8*l.length+600*k<=800000000 ->
 Calls Tryz.prog 67 #[.pointer (some ⟨mb,0,none⟩),.int .i64 x] w fun e w'=>EPost mb B db s aF (8*l.length+600*k) w l (ay k t l) (aG k) e w'
theorem Fr.Jo{w0 w':World}(h:Fr (One mb) w w'):Fr (TX mb w0) w w':=h.mono (fun _ _ e=>.inl e)
theorem lW{c:Nat}(hc:0<c)(r:Bs):bz c r=if hd r=c then some r.tail else none:=by
 rcases r with _|⟨b,r⟩
 ·have e:¬hd []=c:=by
   show ¬(0=c);omega
  rw[if_neg e];rfl
 ·rfl
theorem kj.acc(h:kj r){c:Nat}(hc:c<48\/57<c):bz c r=none:=by
 obtain⟨b,d,rfl,a⟩:=h;unfold jl at a;exact ny (by omega)
theorem wW{t:PT}{v:PV}(hW:c8 k t)(h:ay k t l=(some v,r)):(aG k v).length+8*r.length<=8*l.length:=by
 obtain⟨b,c⟩:=oR k t l v r hW h;have d:=z8 k t v hW b;have a:=congrArg List.length c;simp only[List.length_append] at a;omega
def mG(k:Nat)(t0:PT)(l:Bs)(n:Nat)(more bad:Bool)(r pF:Bs):Prop :=
 n<=300/\r.length<=l.length/\(more=true->n<300) /\
 (bad=false->∃ vs:List PV,vs.length=n/\pF=vs.flatMap (aG k)/\pF.length+8*r.length<=8*l.length /\
   (more=true->dP (ay k t0) l=dS (ay k t0) (300-n) vs r) /\
   (more=false->dP (ay k t0) l=(match bz 93 r with|some l2=>(some vs,l2)|none=>(none,r)))) /\
 (bad=true->dP (ay k t0) l=(none,r)/\pF.length<=8*l.length+600*k)
theorem mG.start(k:Nat)(t0:PT)(l:Bs):mG k t0 l 0 (!decide ((if(aA 91 l false).2=true then 0 else hd (aA 91 l false).1)=93)) (aA 91 l false).2 (aA 91 l false).1 []:=by
 rcases hq:bz 91 l with _|a
 ·refine⟨by omega,by simp[aA,hq],fun _=>by omega,by simp[aA,hq],fun _=>⟨by simp[aA,hq,dP],by simp⟩⟩
 ·have c:aA 91 l false=(a,false):=by simp[aA,hq]
  obtain⟨b,rfl,_⟩:=bp hq;rw[c];refine⟨by omega,by simp,fun _=>by omega,fun _=>⟨[],rfl,rfl,by simp;omega,fun h=>?_,fun h=>?_⟩,fun h=>by simp at h⟩
  ·have cF:¬hd a=93:=by simpa using h
   have:bz 93 a=none:=by rw[lW (by omega),if_neg cF]
   simp only[dP,hq,this]
  ·have d:hd a=93:=by simpa using h
   have:bz 93 a=some a.tail:=by rw[lW (by omega),if_pos d]
   simp only[dP,hq,this]
theorem mG.good{t0:PT}{n:Nat}{pF:Bs}(h:mG k t0 l n true false r pF)(hW:c8 k t0){r' se:Bs}{bd:Bool}(hr:r'=(ay k t0 r).2)(dK:r'.length<=r.length)
  (hg:bd=false->∃ v,(ay k t0 r).1=some v/\se=pF++aG k v) (hb:bd=true->((ay k t0 r).1=none\/kj r')/\se.length<=pF.length+(8*r.length+600*k)) :
  ((bd=true\/hd r'≠44\/¬n+1<300)->mG k t0 l (n+1) false bd r' se)/\(bd=false->hd r'=44->n+1<300->mG k t0 l (n+1) true false r'.tail se):=by
 obtain⟨A,B,m,y,_⟩:=h;obtain⟨b,s,z,C,e,_⟩:=y rfl;have m:=m rfl;have e:=e rfl;rw[show 300-n=(300-(n+1))+1 by omega] at e;rcases hp:ay k t0 r with⟨o,D⟩;rw[hp] at hr hg hb;simp only at hr;subst hr;cases bd with
 | true =>
  obtain⟨d,E⟩:=hb rfl;refine⟨fun _=>⟨by omega,by omega,fun h=>by simp at h,fun h=>by simp at h,fun _=>⟨?_,by omega⟩⟩,fun h=>by simp at h⟩;rw[e];simp only[dS,hp];rcases o with _|v
  ·rfl
  ·rcases d with d|d
   ·simp at d
   ·simp only[d.acc (c:=93) (by omega),d.acc (c:=44) (by omega)]
    split<;>rfl
 | false =>
  obtain⟨v,t,u⟩:=hg rfl;simp only at t;subst t;have g:=wW hW hp;have p:se=(b++[v]).flatMap (aG k):=by rw[u,z];simp
  have i:se.length+8*r'.length<=8*l.length:=by rw[u,List.length_append];omega
  have q:dP (ay k t0) l=(match bz 93 r' with|some f=>(some (b++[v]),f)|none=>if b.length+1=300 then(none,r') else match bz 44 r' with|some f=>dS (ay k t0) (300-(n+1)) (b++[v]) f|none=>(none,r')):=by
   rw[e];simp only[dS,hp];rfl
  refine⟨fun a=>⟨by omega,by omega,fun h=>by simp at h,fun _=>⟨b++[v],by simp[s],p,i,fun h=>by simp at h,fun _=>?_⟩,fun h=>by simp at h⟩,fun _ a j=>⟨by omega,?_,fun _=>by omega,fun _=>⟨b++[v],by simp[s],p,?_,fun _=>?_,fun h=>by simp at h⟩,fun h=>by simp at h⟩⟩
  ·rw[q];rcases hq:bz 93 r' with _|f
   ·simp only
    by_cases j:b.length+1=300
    ·rw[if_pos j]
    ·rw[if_neg j]
     have:bz 44 r'=none:=by
      rw[lW (by omega),if_neg];rcases a with a|a|a
      ·simp at a
      ·exact a
      ·omega
     rw[this]
   ·rfl
  ·simp only[List.length_tail];omega
  ·simp only[List.length_tail];omega
  ·rw[q];have w:bz 93 r'=none:=by rw[lW (by omega),if_neg (by omega)]
   have x:bz 44 r'=some r'.tail:=by rw[lW (by omega),if_pos a]
   rw[w,x];simp only;rw[if_neg (by omega)]
theorem mG.fin{t0:PT}{n:Nat}{more bad:Bool}{pF:Bs}(h:mG k t0 l n more bad r pF)(hx:more=false\/bad=true):
  (aA 93 r bad).1.length<=l.length/\(aA 93 r bad).1=(dP (ay k t0) l).2/\((aA 93 r bad).2=false->∃ vs,(dP (ay k t0) l).1=some vs/\aB n++pF=aB vs.length++vs.flatMap (aG k))/\((aA 93 r bad).2=true->(dP (ay k t0) l).1=none)/\pF.length<=8*l.length+600*k:=by
 obtain⟨j,f,_,g,i⟩:=h;cases bad with
 | true =>
  obtain⟨c,d⟩:=i rfl;exact⟨by simp[aA];omega,by simp[aA,c],by simp[aA],by simp[c],d⟩
 | false =>
  have e:more=false:=by
   rcases hx with hx|hx
   ·exact hx
   ·simp at hx
  obtain⟨vs,c,d,m,_,a⟩:=g rfl;have a:=a e;rcases hq:bz 93 r with _|o
  ·rw[hq] at a;exact⟨by simp[aA,hq];omega,by simp[aA,hq,a],by simp[aA,hq],by simp[a],by omega⟩
  ·rw[hq] at a;obtain⟨b,rfl,_⟩:=bp hq;simp only[List.length_cons] at f;exact⟨by simp[aA,hq];omega,by simp[aA,hq,a],fun _=>⟨vs,by simp[a],by rw[c,d]⟩,by simp[aA,hq],by omega⟩
theorem BH{aF:Bs}{tab:List RT}{roots:List Nat}(hV:qS k)(h:qY w B mb db s l aF tab roots)(x:Nat)(t0:PT)(hI:Is tab x t0)(hW:c8 k t0)(hr:aF.length+8*l.length+600*k<=800000000):
  Calls Tryz.prog 95 #[.pointer (some ⟨mb,0,none⟩),.int .i64 x] w fun e w'=>EPost mb B db s aF (8*l.length+600*k+2) w l (dP (ay k t0) l) (fun vs=>aB vs.length++vs.flatMap (aG k)) e w':=by
 have HM:=ab h;obtain⟨ov,hb,ap,ho⟩:=h.ms;have a8:=hb.lt;have hB:=h.hB;have hs:s.size<=maxLen:=by unfold maxLen;have:=h.hs;omega
 have av:Hi (∀(w':World) (r:Bs) (bd:Bool),MB w' mb db s r bd ov->Fr (TX mb w) w w'->MS w' B mb db s r bd aF/\gD mb w w'/\BO w' B ov aF):=fun w' r bd kc hf'=>MS.EX hb ap ho kc hf'
 have a9:Hi (∀ k,ov.ownBlock=some k->k<w.heap.size):=fun k hk=>ho.lt hk
 have ad:=ab ap
 have ba:Hi (∀ w',Fr (TX mb w) w w'->DF w' B db tab roots):=fun w' hf=>h.df.ae (hf.mono (fun k hk e=>by
  rcases e with e|e
  ·unfold bk;omega
  ·unfold bk;omega))
 have bb:=ab hV;have bc:=ab hI;have HW:=ab hW;have be:=hs;unfold maxLen at be;clear ho ap h hV hI hW;go_enter Tryz.func95,Tryz.ntmps95;go_wp2_with fail;refine(mR hb hs 91 (by omega) (by omega)).mono ?_;rintro e d ⟨aR,v,rfl⟩;have ah:=ab (mG.start k t0 l);obtain⟨G,u,aS⟩:∃ G u,aA 91 l false=(G,u):=⟨_,_,rfl⟩;rw[aS] at v ah;have O:=ab v;have ai:Hi (Fr (TX mb w) w d):=aR.tx;have g0:=v.dM;have g1:=v.cE;have g2:=v.fM;have g4:=v.gS;clear aR v hb aS;go_wp2_with fail
 go_region
 have aw:Hi (MB ((d.alloc (.cells #[.pointer (some ⟨db,0,none⟩),.string s,.int .i64 (pos s G),.slice none 0 0,.bool u] 140)).drew) d.heap.size db s G u (.slice none 0 0)):=⟨O.o.len,O.o.tail,af rfl _⟩;have aj:Hi (Fr Zero d ((d.alloc (.cells #[.pointer (some ⟨db,0,none⟩),.string s,.int .i64 (pos s G),.slice none 0 0,.bool u] 140)).drew)):=(Fr.alloc _ _ _).trans (Fr.drew _ _);generalize (d.alloc (.cells #[.pointer (some ⟨db,0,none⟩),.string s,.int .i64 (pos s G),.slice none 0 0,.bool u] 140)).drew=w2 at *;clear g0 g1 g2 g4;go_wp2_with fail;refine(dj (O.o.ae aj.o (fun h=>h)) hs).mono ?_;rintro e w3 ⟨rfl,n3,e3⟩;obtain rfl:=e3.symm;have bf:=ab (aw.o.ae (Fr.drewN Zero w2 n3) (fun h=>h));have bg:=ab (aj.o.trans (Fr.drewN Zero w2 n3));generalize w2.drewN n3=w3 at *;clear aw aj;have qU:(if u=true then 0 else hd G)<256:=by have:=nL G;split<;>omega
 try simp only at ah
 have bh:Hi ((u=true->(if u=true then 0 else hd G)≠93)):=fun h=>by rw[if_pos h];omega
 generalize (if u=true then 0 else hd G)=c0 at *;have ax:=ai.o.size;go_wp2_with fail
 go_loopw [5,6,7] (fun nv _ mv wr=>∃(n:Nat) (c m:Bool) (r a:Bs) (xv:Value),nv=.int .i64 n/\mv=.bool c/\n<=300/\Hi (mG k t0 l n c m r a)/\Hi (MB wr d.heap.size db s r m xv)/\Hi (BO wr d.heap.size xv a)/\Hi (Fr Zero d wr)/\Hi ((u=true/\c=true/\m=true)\/(u=false/\(m=true->c=false)))) (fun nv _ _ _=>301-(intOf nv).toNat)
 case atStart =>
  have hm:(((c0:Nat):Int) != 93)=!decide (c0=93):=by
   rw[Bool.eq_iff_iff];simp;omega
  refine⟨0,!decide (c0=93),u,G,[],.slice none 0 0,rfl,by first|rw[hm]|rw[<-hm]|simp[hm],by omega,ah,bf,BO.nil _ _,bg,?_⟩;show _\/_;cases u with
  | true=>exact .inl ⟨rfl,by simpa using bh.o rfl,rfl⟩
  | false=>exact .inr ⟨rfl,fun h=>by simp at h⟩
 case round =>
  obtain⟨n,c,m,r,a,xv,rfl,rfl,aT,HL,HX,aq,H,aU⟩:=hrel;have x4:=HX.o.gS
  by_cases ak:c=true/\m=false
  ·obtain⟨rfl,rfl⟩:=ak;have hn:n<300:=HL.o.2.2.1 rfl
   have iQ:u=false:=by
    rcases aU.o with h|h
    ·simp at h
    ·exact h.1
   subst iQ
   have az:Hi (a.length+8*r.length<=8*l.length):=by
    obtain⟨vs,_,_,q,_⟩:=HL.o.2.2.2.1 rfl;exact q
   have bi:=az.o;have bj:Hi (DF wr d.heap.size db tab roots):=((ba.o d ai.o).ae H.o.dV).up (Nat.le_trans hB ax);have aC:Hi (MS wr d.heap.size d.heap.size db s r false a):=⟨xv,HX.o,Nat.le_refl _,aq.o⟩;clear bi;go_wp2_with fail;refine(bb.o wr d.heap.size d.heap.size db s r a tab roots x t0 ⟨aC.o,bj.o,HM.o.hs,HM.o.tl,H.o.size⟩ bc.o HW.o (by have:=az.o;omega)).mono ?_;rintro e w4 ⟨aV,V,aW,I,bF,rfl,aX,aa,aY,aZ⟩;have HG:=ab (HL.o.good HW.o aX aa aY aZ);have aD:Hi (Fr Zero d w4):=H.o.past (aC.o.mH aV);obtain⟨J,a0,_,ac⟩:=bF;have al:=ab a0;have Z:=ab ac;clear aV aX aa aY aZ a0 ac x4;go_wp2_with fail;refine(dj al.o hs).mono ?_;rintro e y ⟨rfl,n5,e5⟩;obtain rfl:=e5.symm;have f:=ab (al.o.ae (Fr.drewN Zero w4 n5) (fun h=>h));have i:=ab (Z.o.ae (Fr.drewN Zero w4 n5) (fun _ _ h=>h));have P:=ab (aD.o.trans (Fr.drewN Zero w4 n5));generalize w4.drewN n5=y at *;clear al Z aD;have y4:=f.o.gS;have hh:=nL V;cases aW with
   | true =>
    simp only[if_true];go_wp2_with fail
    go_roundw
    case rel=>exact⟨n+1,false,true,V,I,J,by go_num,by first|rfl|exact trivial|simp,by omega,HG.o.1 (.inl rfl),f,i,P,ab (by simp)⟩
    case measure=>simp[intOf];omega
   | false =>
    simp only[Bool.false_eq_true,if_false]
    by_cases hc:hd V=44
    ·by_cases eQ:n+1<300
     ·have bl:(n:Int)+1<300:=by omega
      obtain⟨b,L,rfl⟩:∃ b L,V=b::L:=by
       rcases V with _|⟨b,L⟩
       ·simp[hd] at hc
       ·exact⟨b,L,rfl⟩
      have C:=ab (HG.o.2 rfl hc eQ);have y2:=f.o.fM;have bM:=f.o.free 2;have bm:=f.o.gj;obtain⟨hp,bG,a1,_⟩:=f.o.next;have bN:((pos s (b::L):Nat):Int)+1=((pos s L:Nat):Int):=by omega
      have bn:Hi (L.length<=s.size):=by show _<=_;have:=f.o.len;simp at this;omega
      have D:=ab (f.o.move bn.o a1);have aE:Hi (Fr (One d.heap.size) y (y.setCell ⟨d.heap.size,2,none⟩ (.int .i64 (pos s L)))):=Fr.setCell _ _ _ _ rfl;have aH:Hi (BO (y.setCell ⟨d.heap.size,2,none⟩ (.int .i64 (pos s L))) d.heap.size J I):=⟨ag i.o.own aE.o (fun g hg e=>i.o.ne f.o.block (by decide) (by rw[hg];exact congrArg some e)),i.o.from_⟩;have j:Hi (Fr Zero d (y.setCell ⟨d.heap.size,2,none⟩ (.int .i64 (pos s L)))):=P.o.past (aE.o.mono (fun k _ e=>by have e':k=d.heap.size:=e;show _<=_;omega));rw[hc];clear a1 bG hc;go_wp2_with fail
      go_roundw
      case rel=>exact⟨n+1,true,false,L,I,J,by go_num,by first|rfl|exact trivial|simp,by omega,C,D,aH,j,ab (by simp)⟩
      case measure=>simp[intOf];omega
     ·have bl:¬(n:Int)+1<300:=by omega
      have C:=ab (HG.o.1 (.inr (.inr eQ)));rw[hc];clear hc eQ;go_wp2_with fail
      go_roundw
      case rel=>exact⟨n+1,false,false,V,I,J,by go_num,by first|rfl|exact trivial|simp,by omega,C,f,i,P,ab (by simp)⟩
      case measure=>simp[intOf];omega
    ·have hq:(((hd V:Nat):Int)==44)=false:=beq_eq_false_iff_ne.2 (by omega);have C:=ab (HG.o.1 (.inr (.inl hc)));generalize hd V=cc at *;clear hc;go_wp2_with fail
     go_roundw
     case rel=>exact⟨n+1,false,false,V,I,J,by go_num,by first|rfl|exact trivial|simp,by omega,C,f,i,P,ab (by simp)⟩
     case measure=>simp[intOf];omega
  ·have hx:c=false\/m=true:=by
    cases c with
    | false=>exact .inl rfl
    | true =>
     cases m with
     | true=>exact .inr rfl
     | false=>exact absurd ⟨rfl,rfl⟩ ak
   have E:=ab (HL.o.fin hx)
   have bp:(u=true/\c=true/\m=true)\/(u=false/\c=false):=by
    rcases aU.o with h|⟨h1,h2⟩
    ·exact .inl h
    ·right;refine⟨h1,?_⟩;rcases hx with hx|hx
     ·exact hx
     ·exact h2 hx
   have Q:=ab (O.o.ae H.o (fun h=>h));have x2:=HX.o.fM;have m2:=Q.o.fM;have bq:=Q.o.free 2;have R:=ab (Q.o.move HX.o.len HX.o.tail);have m4:=R.o.gS;have br:=R.o.free 4;have bO:mb<d.heap.size:=by omega
   have aI:Hi (MB (wr.setCell ⟨mb,2,none⟩ (.int .i64 (pos s r))) d.heap.size db s r m xv):=HX.o.ae (Fr.setCell (One mb) wr ⟨mb,2,none⟩ _ rfl) (fun e=>by have e':d.heap.size=mb:=e;omega);have bs:=aI.o.gS;have aJ:=ab (R.o.mark m);have aK:Hi (Fr (One mb) wr ((wr.setCell ⟨mb,2,none⟩ (.int .i64 (pos s r))).setCell ⟨mb,4,none⟩ (.bool m))):=(Fr.setCell (One mb) wr ⟨mb,2,none⟩ _ rfl).trans (Fr.setCell (One mb) _ ⟨mb,4,none⟩ _ rfl);have bm:=HX.o.gj;obtain⟨sa,sc,rfl⟩:=aq.o.len;clear ak hx;rcases bp with⟨h1,h2,h3⟩|⟨h1,h2⟩
   case' inl =>
    subst h1 h2 h3;go_wp2_with fail
   case' inr =>
    subst h1 h2;go_wp2_with fail
   all_goals
    refine(mR aJ.o hs 93 (by omega) (by omega)).mono ?_;rintro e y ⟨a2,a3,rfl⟩;have am:=ab (aK.o.trans a2);have f:Hi (MB y d.heap.size db s r _ (.slice sa a.length sc)):=HX.o.ae am.o (fun e=>by have e':d.heap.size=mb:=e;omega);have i:Hi (BO y d.heap.size (.slice sa a.length sc) a):=aq.o.ae am.o (fun k hk e=>by have e':k=mb:=e;omega);have p:Hi (MT w y mb db s ov _ _ (.slice sa a.length sc) a):=⟨a3,⟨i.o.own,fun g hg=>Nat.le_trans ax (i.o.from_ g hg)⟩,(ai.o.trans H.o.dV).trans am.o.Jo,a8⟩;clear a2 a3 x2 m2 bq m4 br x4 bs aK aJ aI R Q;have bP:=E.o.1;obtain⟨q1,q2,q3⟩:=av.o y _ _ p.o.kb p.o.fr;obtain⟨oa,oc,rfl⟩:=q3.len;have k3:=p.o.kb.dw;have f3:=p.o.kb.free 3;have bt:=ab q2;have aL:=ab q3;have aM:B<=y.heap.size:=Nat.le_trans hB q2.fr.size;have bL:=p.o.size;have an:(aB n).length<=2:=by unfold aB;split<;>simp
    have ao:=ab an;have bQ:=E.o.2.2.2.2;clear q1 q2 q3 an;go_wp2_with fail;refine wp_region_held_drew (S:=fun _=>True) (by kernel_rfl) trivial (fun hT=>?_);refine wt 0 trivial ?_
    try simp only[sA]
    refine wt 1 trivial ?_
    try simp only[sA]
    refine wt 2 trivial ?_
    try simp only[sA]
    refine wt 3 trivial ?_
    try simp only[sA]
    refine wt 5 trivial ?_
    try simp only[sA]
    refine wpAnyH_ready (rs:=[4,6]) (by kernel_rfl) (by simp) ?_;refine wc 4 (fun K hK=>?_) (wc 6 (fun K hK=>?_) AllReadyH.nil)
    focus
     go_simp
     refine hK.out _ _ trivial (fun _=>?_);clear hK K
     try simp only[sA]
     refine wpAnyH_ready (rs:=[6]) (by kernel_rfl) (by simp) ?_;refine wc 6 (fun K hK=>?_) AllReadyH.nil
     go_simp
     refine(eX n aT _).mono ?_;rintro e W ⟨M,cv,rfl,N⟩;have j:Hi (Fr Zero y W):=(Fr.drew Zero y).trans M;have aN:=ab N;have t:=ab (p.o.kb.ae j.o (fun h=>h));have e3:=t.o.dw;have z:Hi (BO W B (.slice oa aF.length oc) aF):=aL.o.ae j.o (fun _ _ h=>h);have T:Hi (BO W w.heap.size (.slice sa a.length sc) a):=p.o.bo.ae j.o (fun _ _ h=>h);have aO:B<=W.heap.size:=Nat.le_trans aM j.o.size;have D:=ab (f.o.ae j.o (fun h=>h));clear M N;go_wp2_with fail;refine hK.out _ _ trivial (fun _=>?_);clear hK K
     try simp only[sA]
    rotate_left
    focus
     go_simp
     refine(eX n aT _).mono ?_;rintro e W ⟨M,cv,rfl,N⟩;have j:Hi (Fr Zero y W):=(Fr.drew Zero y).trans M;have aN:=ab N;have t:=ab (p.o.kb.ae j.o (fun h=>h));have e3:=t.o.dw;have z:Hi (BO W B (.slice oa aF.length oc) aF):=aL.o.ae j.o (fun _ _ h=>h);have T:Hi (BO W w.heap.size (.slice sa a.length sc) a):=p.o.bo.ae j.o (fun _ _ h=>h);have aO:B<=W.heap.size:=Nat.le_trans aM j.o.size;have D:=ab (f.o.ae j.o (fun h=>h));clear M N;go_wp2_with fail;refine hK.out _ _ trivial (fun _=>?_);clear hK K
     try simp only[sA]
     refine wpAnyH_ready (rs:=[4]) (by kernel_rfl) (by simp) ?_;refine wc 4 (fun K hK=>?_) AllReadyH.nil
     go_simp
     refine hK.out _ _ trivial (fun _=>?_);clear hK K
     try simp only[sA]
    all_goals
     refine wpAnyH_ready (rs:=[7]) (by kernel_rfl) (by simp) ?_;refine wc 7 (fun K hK=>?_) AllReadyH.nil;refine ia rfl (.tmp 94) (.tmp 96) 118 rfl (aB n) (by simp[Act.eval]) (by simp[Act.eval]) z.o aN.o.src aO (by have:=ao.o;omega) ?_;intro v7 w7 ar A a4;obtain⟨va,vc,bH⟩:=BO.Co ar;subst bH;have bu:=ab (MS.kX t.o ad.o z.o ar A a4);have e4:=(t.o.ae A (fun e=>z.o.ne t.o.block (by decide) e)).dw;have e5:=(t.o.ae A (fun e=>z.o.ne t.o.block (by decide) e)).free 3;have bv:Hi (BO w7 w.heap.size (.slice sa a.length sc) a):=⟨ag T.o.own A (fun g hg e=>by have:=a9.o g e;have:=T.o.from_ g hg;omega),T.o.from_⟩;have bw:=ab (D.o.ae A (fun e=>z.o.ne D.o.block (by decide) e));clear ar A a4;refine hK.out _ _ trivial (fun _=>?_);clear hK K
     try simp only[sA]
     refine wt 8 trivial ?_
     try simp only[sA]
     refine wt 9 trivial ?_
     try simp only[sA]
     refine wpAnyH_ready (rs:=[10]) (by kernel_rfl) (by simp) ?_;refine wc 10 (fun K hK=>?_) AllReadyH.nil
     go_simp
     refine hK.out _ _ trivial (fun _=>?_);clear hK K
     try simp only[sA]
     refine wpAnyH_done (by kernel_rfl) ?_ _;obtain⟨X,a5,a6⟩:=bu.o;have aP:=ab X;have bx:=ab a5;have aQ:=ab ((bt.o.trans (gD.quiet j.o p.o.kb.lt)).trans a6);have bz:Hi (BO (w7.setCell ⟨mb,3,none⟩ (.slice va (aF.length+(aB n).length) vc)) w.heap.size (.slice sa a.length sc) a):=bv.o.ae (Fr.setCell (One mb) _ _ _ rfl) (fun k hk e=>by have e':k=mb:=e;omega);have k8:=X.dw;have f8:=X.free 3;have bA:B<=(w7.setCell ⟨mb,3,none⟩ (.slice va (aF.length+(aB n).length) vc)).heap.size:=Nat.le_trans hB aQ.o.fr.size;have bB:=ab (bw.o.ae (Fr.setCell (One mb) w7 ⟨mb,3,none⟩ (.slice va (aF.length+(aB n).length) vc) rfl) (fun e=>by have e':d.heap.size=mb:=e;omega));clear X a5 a6 e3 e4 e5 k3 f3;generalize w7.setCell ⟨mb,3,none⟩ (.slice va (aF.length+(aB n).length) vc)=w8 at *
    all_goals
     have x8:=bB.o.dw;have F:=ab (aP.o.ae (Fr.drew Zero w8) (fun h=>h));have U:=ab (bx.o.ae (Fr.drew Zero w8) (fun _ _ h=>h));have bC:=ab (bz.o.ae (Fr.drew Zero w8) (fun _ _ h=>h));have bD:B<=w8.drew.heap.size:=bA;go_wp2_with fail;refine wp_region_held_drew (S:=fun _=>True) (by kernel_rfl) trivial (fun hT=>?_);refine wt 0 trivial ?_
     try simp only[sA]
     refine wt 1 trivial ?_
     try simp only[sA]
     refine wt 2 trivial ?_
     try simp only[sA]
     refine wt 3 trivial ?_
     try simp only[sA]
     refine wt 5 trivial ?_
     try simp only[sA]
     refine wt 6 trivial ?_
     try simp only[sA]
     refine wt 7 trivial ?_
     try simp only[sA]
     refine wpAnyH_ready (rs:=[4,8]) (by kernel_rfl) (by simp) ?_;refine wc 4 (fun K hK=>?_) (wc 8 (fun K hK=>?_) AllReadyH.nil)
     focus
      go_simp
      refine hK.out _ _ trivial (fun _=>?_);clear hK K
      try simp only[sA]
      refine wpAnyH_ready (rs:=[8]) (by kernel_rfl) (by simp) ?_;refine wc 8 (fun K hK=>?_) AllReadyH.nil
      go_simp
      refine hK.out _ _ trivial (fun _=>?_);clear hK K
      try simp only[sA]
     rotate_left
     focus
      go_simp
      refine hK.out _ _ trivial (fun _=>?_);clear hK K
      try simp only[sA]
      refine wpAnyH_ready (rs:=[4]) (by kernel_rfl) (by simp) ?_;refine wc 4 (fun K hK=>?_) AllReadyH.nil
      go_simp
      refine hK.out _ _ trivial (fun _=>?_);clear hK K
      try simp only[sA]
     all_goals
      refine wpAnyH_ready (rs:=[9]) (by kernel_rfl) (by simp) ?_;refine wc 9 (fun K hK=>?_) AllReadyH.nil;refine ia rfl (.tmp 104) (.tmp 108) 118 rfl a (by simp[Act.eval]) (by simp[Act.eval]) U.o bC.o.src bD (by have:=ao.o;simp only[List.length_append];omega) ?_;intro v9 w9 au Y a7;obtain⟨vb,vn,vd,zo⟩:=BO.any au;subst zo;have bE:=ab (MS.kX F.o ad.o U.o au Y a7);have e8:=(F.o.ae Y (fun e=>U.o.ne F.o.block (by decide) e)).dw;have e9:=(F.o.ae Y (fun e=>U.o.ne F.o.block (by decide) e)).free 3;clear au Y a7 k8 f8;refine hK.out _ _ trivial (fun _=>?_);clear hK K
      try simp only[sA]
      refine wt 10 trivial ?_
      try simp only[sA]
      refine wt 11 trivial ?_
      try simp only[sA]
      refine wpAnyH_ready (rs:=[12]) (by kernel_rfl) (by simp) ?_;refine wc 12 (fun K hK=>?_) AllReadyH.nil
      go_simp
      refine hK.out _ _ trivial (fun _=>?_);clear hK K
      try simp only[sA]
      refine wpAnyH_done (by kernel_rfl) ?_ _;go_wp2_with fail
      go_end0
      obtain⟨bI,bJ,bK⟩:=bE.o;have an:=ao.o;obtain⟨z1,z2,z3,z4,z5⟩:=E.o;refine⟨(aQ.o.trans (gD.quiet (Fr.drew Zero w8) aP.o.lt)).trans bK,_,_,aF++(aB n++a),⟨_,bI,ad.o,by simpa using bJ⟩,rfl,z2,z1,fun hh=>?_,fun hh=>⟨.inl (z4 hh),by simp only[List.length_append];omega⟩⟩;obtain⟨vs,y1,y2⟩:=z3 hh;exact⟨vs,y1,by rw[y2]⟩
end Go.Proofs.YtpffifpbpmlhdaaGreatDoor
