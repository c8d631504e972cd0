import Derived.Test.YtpffifpbpmlhdaaGreatDoorBsVInt
import Derived.Test.YtpffifpbpmlhdaaGreatDoorBsVCase
set_option maxHeartbeats 32000000
set_option maxRecDepth 100000
namespace Go.Proofs.YtpffifpbpmlhdaaGreatDoor
open Go.RowKit
variable {w w2:World}{b rb n g k:Nat}{x0 x1 x2 x3:Value}{X:Nat->Prop}{a:Addr}{t:PT}{s:ByteArray}{l:Bs}{c:VC}
theorem b9:ba []=(⟨#[]⟩:ByteArray):=rfl
theorem dc{t:TypeId}(h:w.heap[b]?=some (.cells #[x0,x1,x2,x3] t (0,0))):w.cell? ⟨b,0,none⟩=some x0/\w.cell? ⟨b,1,none⟩=some x1/\w.cell? ⟨b,2,none⟩=some x2/\w.cell? ⟨b,3,none⟩=some x3 /\
  w.frozen? ⟨b,0,none⟩=false/\w.frozen? ⟨b,1,none⟩=false/\w.frozen? ⟨b,2,none⟩=false/\w.frozen? ⟨b,3,none⟩=false:=by
 refine⟨?_,?_,?_,?_,ak h,ak h,ak h,ak h⟩<;>rw[cell_of_heap h]<;>rfl
def ec(w:World)(b:Nat)(c:VC):World:=(((w.setCell ⟨b,0,none⟩ (.pointer (some c.a))).setCell ⟨b,1,none⟩ (.int .i64 c.n)).setCell ⟨b,2,none⟩ (.string (ba c.b))).setCell ⟨b,3,none⟩ c.sv
theorem Ft{t:TypeId}(h:w.heap[b]?=some (.cells #[x0,x1,x2,x3] t (0,0)))(c:VC):(ec w b c).heap[b]?=some (.cells #[.pointer (some c.a),.int .i64 c.n,.string (ba c.b),c.sv] t (0,0)):=by
 unfold ec;rw[heap_setCell_same (heap_setCell_same (heap_setCell_same (heap_setCell_same h)))];rfl
theorem Fr.set4(w:World)(b:Nat)(c:VC):Fr (One b) w (ec w b c) :=
 ((Fr.setCell (One b) _ ⟨b,0,none⟩ _ rfl).trans (Fr.setCell (One b) _ ⟨b,1,none⟩ _ rfl)).trans ((Fr.setCell (One b) _ ⟨b,2,none⟩ _ rfl).trans (Fr.setCell (One b) _ ⟨b,3,none⟩ _ rfl))
def X2(X:Nat->Prop)(n:Nat):Nat->Prop:=fun b=>X b\/b=n\/b=n+1
theorem TR.two{w':World}(h:TR w X a t)(hf:Fr Zero w w'):TR w' (X2 X w.heap.size) a t :=
 (h.aY (Y:=X2 X w.heap.size) (fun b hb hx=>by rcases hx with hx|hx;exact hx;omega)).ae hf.dV
def bC:Obj:=.cells #[.pointer none,.int .i64 0,.string ⟨#[]⟩,.slice none 0 0] 133
def aR(a:Addr):Obj:=.cells #[.pointer (some a),.int .i64 0,.string ⟨#[]⟩,.slice none 0 0] 133
theorem bS{ty:TypeId}{W:World}{lU:Option PV×Bs}{q:Bool}(c:VC)(dG:rb<w.heap.size)(_hXlt:∀ b,X b->b<w.heap.size)(ao:Fr (One rb) ((w.alloc bC).alloc (aR a)) w2)(Hf:RB ty w2 rb s lU.2)(hW:Fr (One (w.heap.size+1)) w2 W)
  (hc:∃ o n k,c.sv=.slice o n k) (hv:∀ v,lU.1=some v->VR w2 (X2 X w.heap.size) c v) (hq:lU.1.isSome=q):cJ ty w X rb s lU (.returned (.tuple #[c.val,.bool q])) (ec W w.heap.size c):=by
 subst hq;have d:Fr (fun b=>b=w.heap.size\/b=w.heap.size+1) w2 (ec W w.heap.size c):=(hW.mono (fun k _ e=>.inr e)).trans ((Fr.set4 W w.heap.size c).mono (fun k _ e=>.inl e));have f:Fr (One rb) w w2:=(((Fr.alloc _ _ _).trans (Fr.alloc _ _ _)).trans ao);refine⟨f.past (d.mono (fun k _ e=>by rcases e with e|e<;>omega)),Hf.ae d (by omega),c,hc,rfl,fun v hx=>?_⟩;exact((hv v hx).ae (d.mono (fun k _ e=>.inr e))).aY (fun b _ hb=>.inl hb)
theorem bA(dG:rb<w.heap.size)(ao:Fr (One rb) ((w.alloc bC).alloc (aR a)) w2):w2.heap[w.heap.size]?=some (.cells #[.pointer none,.int .i64 0,.string ⟨#[]⟩,.slice none 0 0] 133 (0,0))/\w2.heap[w.heap.size+1]?=some (.cells #[.pointer (some a),.int .i64 0,.string ⟨#[]⟩,.slice none 0 0] 133 (0,0)) :=
 ⟨ao.ae (by rw[Below.heap_alloc _ _ _ (by simp)];exact af rfl _) (fun e=>by have e':w.heap.size=rb:=e;omega),ao.ae (af (by simp) _) (fun e=>by have e':w.heap.size+1=rb:=e;omega)⟩
theorem aW{W:World}(hz:w2.heap[n]?=some (.cells #[x0,x1,x2,x3] 133 (0,0)))(hW:Fr (One (n+1)) w2 W)(c:VC):(ec W n c).cell? ⟨n,0,none⟩=some (.pointer (some c.a))/\(ec W n c).cell? ⟨n,1,none⟩=some (.int .i64 c.n)/\(ec W n c).cell? ⟨n,2,none⟩=some (.string (ba c.b))/\(ec W n c).cell? ⟨n,3,none⟩=some c.sv:=by
 obtain⟨d,f,g,h,_⟩:=dc (Ft (hW.ae hz (fun e=>by have i:n=n+1:=e;omega)) c);exact⟨d,f,g,h⟩
theorem Fg{ty:TypeId}(h:RB ty w rb s l)(hX:X rb)(aH:∀ b,X b->b<w.heap.size)(ht:TR w X a t)(hs:s.size<=maxLen)(hk:t.kind=0):
  Calls Tryz.prog 82 #[.pointer (some ⟨rb,0,none⟩),.pointer (some a)] w fun e w'=>cJ ty w X rb s ((c9 (bQ 0) l).1.map (fun(n:Nat)=>fY t n),(c9 (bQ 0) l).2) e w':=by
 have i:Hi (RB ty ((w.alloc bC).alloc (aR a)) rb s l):=h.ae ((Fr.alloc Zero _ _).trans (Fr.alloc _ _ _)) (fun h=>h);have dG:=h.lt;have J:=ab aH;have j:Hi (TR ((w.alloc bC).alloc (aR a)) (X2 X w.heap.size) a t):=ht.two ((Fr.alloc Zero _ _).trans (Fr.alloc _ _ _));obtain⟨g,R,B,rfl,c,p,aE,r,u,aX,f⟩:=ht.open;have K:=lt_of_heap c;have Q:w.cell? ⟨g,0,none⟩=some (.int .i64 0):=by rw[cell_of_heap c,hk];rfl
 clear h aH ht c p aE r u aX f hk;go_enter Tryz.func82,Tryz.ntmps82;go_wp2_with fail;refine(kz 0 (by omega) i hs).mono ?_;rintro e C ⟨ao,(x:Hi _),m,rfl,D⟩;obtain⟨y,E⟩:=bA dG ao;obtain⟨S,T,U,V,W,Y,Z,y3⟩:=dc y;obtain⟨v0,v1,v2,v3,x0,x1,x2,x3⟩:=dc E;have L:=ab y;have d:=ab ao;have M:=ab D;clear ao D y E;generalize z:(jB (bQ 0) l).1.isSome=q at *;have N:=ab z;clear z;go_wp2;have A:Fr (One (w.heap.size+1)) C (C.setCell ⟨w.heap.size+1,1,none⟩ (.int .i64 m)):=Fr.setCell _ _ _ _ rfl;obtain⟨F,G,H,I⟩:=aW L.o A (⟨⟨g,0,none⟩,m,[],.slice none 0 0⟩:VC);simp only[ec,b9] at F G H I;refine bodyPost_ret (v:=.tuple #[VC.val (⟨⟨g,0,none⟩,m,[],.slice none 0 0⟩:VC),.bool q]) (by simp[results,Tryz.results82,go_sem,F,G,H,I,VC.val,b9]) rfl ?_;exact bS (⟨⟨g,0,none⟩,m,[],.slice none 0 0⟩:VC) dG J d x A ⟨_,_,_,rfl⟩ (fun v hx=>by simp only[Option.map_eq_some_iff] at hx;obtain⟨n,P,rfl⟩:=hx;rw[M.o n (by rw[jB,P];rfl)];exact VR.leaf (j.o.ae (d.o.mono (fun k _ e=>.inl (by have O:k=rb:=e;rw[O];exact hX))))) (by rw[<-N.o];simp[jB])
theorem Ff{ty:TypeId}(h:RB ty w rb s l)(hX:X rb)(aH:∀ b,X b->b<w.heap.size)(ht:TR w X a t)(hs:s.size<=maxLen)(hk:t.kind=1):
  Calls Tryz.prog 82 #[.pointer (some ⟨rb,0,none⟩),.pointer (some a)] w fun e w'=>cJ ty w X rb s ((c9 (bQ 1) l).1.map (fun(n:Nat)=>fY t n),(c9 (bQ 1) l).2) e w':=by
 have i:Hi (RB ty ((w.alloc bC).alloc (aR a)) rb s l):=h.ae ((Fr.alloc Zero _ _).trans (Fr.alloc _ _ _)) (fun h=>h);have dG:=h.lt;have J:=ab aH;have j:Hi (TR ((w.alloc bC).alloc (aR a)) (X2 X w.heap.size) a t):=ht.two ((Fr.alloc Zero _ _).trans (Fr.alloc _ _ _));obtain⟨g,R,B,rfl,c,p,aE,r,u,aX,f⟩:=ht.open;have K:=lt_of_heap c;have Q:w.cell? ⟨g,0,none⟩=some (.int .i64 1):=by rw[cell_of_heap c,hk];rfl
 clear h aH ht c p aE r u aX f hk;go_enter Tryz.func82,Tryz.ntmps82;go_wp2_with fail;refine(kz 1 (by omega) i hs).mono ?_;rintro e C ⟨ao,(x:Hi _),m,rfl,D⟩;obtain⟨y,E⟩:=bA dG ao;obtain⟨S,T,U,V,W,Y,Z,y3⟩:=dc y;obtain⟨v0,v1,v2,v3,x0,x1,x2,x3⟩:=dc E;have L:=ab y;have d:=ab ao;have M:=ab D;clear ao D y E;generalize z:(jB (bQ 1) l).1.isSome=q at *;have N:=ab z;clear z;go_wp2;have A:Fr (One (w.heap.size+1)) C (C.setCell ⟨w.heap.size+1,1,none⟩ (.int .i64 m)):=Fr.setCell _ _ _ _ rfl;obtain⟨F,G,H,I⟩:=aW L.o A (⟨⟨g,0,none⟩,m,[],.slice none 0 0⟩:VC);simp only[ec,b9] at F G H I;refine bodyPost_ret (v:=.tuple #[VC.val (⟨⟨g,0,none⟩,m,[],.slice none 0 0⟩:VC),.bool q]) (by simp[results,Tryz.results82,go_sem,F,G,H,I,VC.val,b9]) rfl ?_;exact bS (⟨⟨g,0,none⟩,m,[],.slice none 0 0⟩:VC) dG J d x A ⟨_,_,_,rfl⟩ (fun v hx=>by simp only[Option.map_eq_some_iff] at hx;obtain⟨n,P,rfl⟩:=hx;rw[M.o n (by rw[jB,P];rfl)];exact VR.leaf (j.o.ae (d.o.mono (fun k _ e=>.inl (by have O:k=rb:=e;rw[O];exact hX))))) (by rw[<-N.o];simp[jB])
theorem Fe{ty:TypeId}(h:RB ty w rb s l)(hX:X rb)(aH:∀ b,X b->b<w.heap.size)(ht:TR w X a t)(hs:s.size<=maxLen)(hk:t.kind=2):
  Calls Tryz.prog 82 #[.pointer (some ⟨rb,0,none⟩),.pointer (some a)] w fun e w'=>cJ ty w X rb s ((c9 (bQ 2) l).1.map (fun(n:Nat)=>fY t n),(c9 (bQ 2) l).2) e w':=by
 have i:Hi (RB ty ((w.alloc bC).alloc (aR a)) rb s l):=h.ae ((Fr.alloc Zero _ _).trans (Fr.alloc _ _ _)) (fun h=>h);have dG:=h.lt;have J:=ab aH;have j:Hi (TR ((w.alloc bC).alloc (aR a)) (X2 X w.heap.size) a t):=ht.two ((Fr.alloc Zero _ _).trans (Fr.alloc _ _ _));obtain⟨g,R,B,rfl,c,p,aE,r,u,aX,f⟩:=ht.open;have K:=lt_of_heap c;have Q:w.cell? ⟨g,0,none⟩=some (.int .i64 2):=by rw[cell_of_heap c,hk];rfl
 clear h aH ht c p aE r u aX f hk;go_enter Tryz.func82,Tryz.ntmps82;go_wp2_with fail;refine(kz 2 (by omega) i hs).mono ?_;rintro e C ⟨ao,(x:Hi _),m,rfl,D⟩;obtain⟨y,E⟩:=bA dG ao;obtain⟨S,T,U,V,W,Y,Z,y3⟩:=dc y;obtain⟨v0,v1,v2,v3,x0,x1,x2,x3⟩:=dc E;have L:=ab y;have d:=ab ao;have M:=ab D;clear ao D y E;generalize z:(jB (bQ 2) l).1.isSome=q at *;have N:=ab z;clear z;go_wp2;have A:Fr (One (w.heap.size+1)) C (C.setCell ⟨w.heap.size+1,1,none⟩ (.int .i64 m)):=Fr.setCell _ _ _ _ rfl;obtain⟨F,G,H,I⟩:=aW L.o A (⟨⟨g,0,none⟩,m,[],.slice none 0 0⟩:VC);simp only[ec,b9] at F G H I;refine bodyPost_ret (v:=.tuple #[VC.val (⟨⟨g,0,none⟩,m,[],.slice none 0 0⟩:VC),.bool q]) (by simp[results,Tryz.results82,go_sem,F,G,H,I,VC.val,b9]) rfl ?_;exact bS (⟨⟨g,0,none⟩,m,[],.slice none 0 0⟩:VC) dG J d x A ⟨_,_,_,rfl⟩ (fun v hx=>by simp only[Option.map_eq_some_iff] at hx;obtain⟨n,P,rfl⟩:=hx;rw[M.o n (by rw[jB,P];rfl)];exact VR.leaf (j.o.ae (d.o.mono (fun k _ e=>.inl (by have O:k=rb:=e;rw[O];exact hX))))) (by rw[<-N.o];simp[jB])
theorem Fc{ty:TypeId}(h:RB ty w rb s l)(hX:X rb)(aH:∀ b,X b->b<w.heap.size)(ht:TR w X a t)(hs:s.size<=maxLen)(hk:t.kind=3):
  Calls Tryz.prog 82 #[.pointer (some ⟨rb,0,none⟩),.pointer (some a)] w fun e w'=>cJ ty w X rb s ((cg l).1.map (fY t),(cg l).2) e w':=by
 have i:Hi (RB ty ((w.alloc bC).alloc (aR a)) rb s l):=h.ae ((Fr.alloc Zero _ _).trans (Fr.alloc _ _ _)) (fun h=>h);have dG:=h.lt;have J:=ab aH;have j:Hi (TR ((w.alloc bC).alloc (aR a)) (X2 X w.heap.size) a t):=ht.two ((Fr.alloc Zero _ _).trans (Fr.alloc _ _ _));obtain⟨g,R,B,rfl,c,p,aE,r,u,aX,f⟩:=ht.open;have K:=lt_of_heap c;have Q:w.cell? ⟨g,0,none⟩=some (.int .i64 3):=by rw[cell_of_heap c,hk];rfl
 clear h aH ht c p aE r u aX f hk;go_enter Tryz.func82,Tryz.ntmps82;go_wp2_with fail;refine(yl i hs).mono ?_;rintro e C ⟨ao,(x:Hi _),m,rfl,D⟩;obtain⟨y,E⟩:=bA dG ao;obtain⟨S,T,U,V,W,Y,Z,y3⟩:=dc y;obtain⟨v0,v1,v2,v3,x0,x1,x2,x3⟩:=dc E;have L:=ab y;have d:=ab ao;have M:=ab D;clear ao D y E;generalize z:(cg l).1.isSome=q at *;have N:=ab z;clear z;go_wp2;have A:Fr (One (w.heap.size+1)) C (C.setCell ⟨w.heap.size+1,1,none⟩ (.int .i64 m)):=Fr.setCell _ _ _ _ rfl;obtain⟨F,G,H,I⟩:=aW L.o A (⟨⟨g,0,none⟩,m,[],.slice none 0 0⟩:VC);simp only[ec,b9] at F G H I;refine bodyPost_ret (v:=.tuple #[VC.val (⟨⟨g,0,none⟩,m,[],.slice none 0 0⟩:VC),.bool q]) (by simp[results,Tryz.results82,go_sem,F,G,H,I,VC.val,b9]) rfl ?_;exact bS (⟨⟨g,0,none⟩,m,[],.slice none 0 0⟩:VC) dG J d x A ⟨_,_,_,rfl⟩ (fun v hx=>by simp only[Option.map_eq_some_iff] at hx;obtain⟨n,P,rfl⟩:=hx;rw[M.o n P];exact VR.leaf (j.o.ae (d.o.mono (fun k _ e=>.inl (by have O:k=rb:=e;rw[O];exact hX))))) (by rw[<-N.o];simp)
theorem Fa{ty:TypeId}(h:RB ty w rb s l)(hX:X rb)(aH:∀ b,X b->b<w.heap.size)(ht:TR w X a t)(hs:s.size<=maxLen)(hk:t.kind=5):
  Calls Tryz.prog 82 #[.pointer (some ⟨rb,0,none⟩),.pointer (some a)] w fun e w'=>cJ ty w X rb s ((bM l).1.map (fC t),(bM l).2) e w':=by
 have i:Hi (RB ty ((w.alloc bC).alloc (aR a)) rb s l):=h.ae ((Fr.alloc Zero _ _).trans (Fr.alloc _ _ _)) (fun h=>h);have dG:=h.lt;have J:=ab aH;have j:Hi (TR ((w.alloc bC).alloc (aR a)) (X2 X w.heap.size) a t):=ht.two ((Fr.alloc Zero _ _).trans (Fr.alloc _ _ _));obtain⟨g,R,B,rfl,c,p,aE,r,u,aX,f⟩:=ht.open;have K:=lt_of_heap c;have Q:w.cell? ⟨g,0,none⟩=some (.int .i64 5):=by rw[cell_of_heap c,hk];rfl
 clear h aH ht c p aE r u aX f hk;go_enter Tryz.func82,Tryz.ntmps82;go_wp2_with fail;refine(yF i hs).mono ?_;rintro e C ⟨ao,(x:Hi _),m,rfl,D⟩;obtain⟨y,E⟩:=bA dG ao;obtain⟨S,T,U,V,W,Y,Z,y3⟩:=dc y;obtain⟨v0,v1,v2,v3,x0,x1,x2,x3⟩:=dc E;have L:=ab y;have d:=ab ao;have M:=ab D;clear ao D y E;generalize z:(bM l).1.isSome=q at *;have N:=ab z;clear z;go_wp2;have A:Fr (One (w.heap.size+1)) C (C.setCell ⟨w.heap.size+1,2,none⟩ (.string m)):=Fr.setCell _ _ _ _ rfl;obtain⟨F,G,H,I⟩:=aW L.o A (⟨⟨g,0,none⟩,0,m.data.toList,.slice none 0 0⟩:VC);simp only[ec,eC] at F G H I;refine bodyPost_ret (v:=.tuple #[VC.val (⟨⟨g,0,none⟩,0,m.data.toList,.slice none 0 0⟩:VC),.bool q]) (by simp[results,Tryz.results82,go_sem,F,G,H,I,VC.val,eC]) rfl ?_;exact bS (⟨⟨g,0,none⟩,0,m.data.toList,.slice none 0 0⟩:VC) dG J d x A ⟨_,_,_,rfl⟩ (fun v hx=>by simp only[Option.map_eq_some_iff] at hx;obtain⟨n,P,rfl⟩:=hx;rw[M.o n P,dk];exact VR.leaf (j.o.ae (d.o.mono (fun k _ e=>.inl (by have O:k=rb:=e;rw[O];exact hX))))) (by rw[<-N.o];simp)
theorem E9{ty:TypeId}(h:RB ty w rb s l)(hX:X rb)(aH:∀ b,X b->b<w.heap.size)(ht:TR w X a t)(hs:s.size<=maxLen)(hk:t.kind=6):
  Calls Tryz.prog 82 #[.pointer (some ⟨rb,0,none⟩),.pointer (some a)] w fun e w'=>cJ ty w X rb s ((ep l).1.map (fC t),(ep l).2) e w':=by
 have i:Hi (RB ty ((w.alloc bC).alloc (aR a)) rb s l):=h.ae ((Fr.alloc Zero _ _).trans (Fr.alloc _ _ _)) (fun h=>h);have dG:=h.lt;have J:=ab aH;have j:Hi (TR ((w.alloc bC).alloc (aR a)) (X2 X w.heap.size) a t):=ht.two ((Fr.alloc Zero _ _).trans (Fr.alloc _ _ _));obtain⟨g,R,B,rfl,c,p,aE,r,u,aX,f⟩:=ht.open;have K:=lt_of_heap c;have Q:w.cell? ⟨g,0,none⟩=some (.int .i64 6):=by rw[cell_of_heap c,hk];rfl
 clear h aH ht c p aE r u aX f hk;go_enter Tryz.func82,Tryz.ntmps82;go_wp2_with fail;refine(pj i hs).mono ?_;rintro e C ⟨ao,(x:Hi _),m,rfl,D⟩;obtain⟨y,E⟩:=bA dG ao;obtain⟨S,T,U,V,W,Y,Z,y3⟩:=dc y;obtain⟨v0,v1,v2,v3,x0,x1,x2,x3⟩:=dc E;have L:=ab y;have d:=ab ao;have M:=ab D;clear ao D y E;generalize z:(ep l).1.isSome=q at *;have N:=ab z;clear z;go_wp2;have A:Fr (One (w.heap.size+1)) C (C.setCell ⟨w.heap.size+1,2,none⟩ (.string m)):=Fr.setCell _ _ _ _ rfl;obtain⟨F,G,H,I⟩:=aW L.o A (⟨⟨g,0,none⟩,0,m.data.toList,.slice none 0 0⟩:VC);simp only[ec,eC] at F G H I;refine bodyPost_ret (v:=.tuple #[VC.val (⟨⟨g,0,none⟩,0,m.data.toList,.slice none 0 0⟩:VC),.bool q]) (by simp[results,Tryz.results82,go_sem,F,G,H,I,VC.val,eC]) rfl ?_;exact bS (⟨⟨g,0,none⟩,0,m.data.toList,.slice none 0 0⟩:VC) dG J d x A ⟨_,_,_,rfl⟩ (fun v hx=>by simp only[Option.map_eq_some_iff] at hx;obtain⟨n,P,rfl⟩:=hx;rw[M.o n P,dk];exact VR.leaf (j.o.ae (d.o.mono (fun k _ e=>.inl (by have O:k=rb:=e;rw[O];exact hX))))) (by rw[<-N.o];simp)
theorem X2.lt{w':World}(h:∀ b,X b->b<w.heap.size)(hs:w.heap.size+2<=w'.heap.size):∀ b,X2 X w.heap.size b->b<w'.heap.size:=fun b hb=>by
 rcases hb with hb|hb
 ·have:=h b hb;omega
 ·omega
theorem X2.no(h:∀ b,X b->b<n)(hg:n+2<=g):¬X2 X n g:=fun hb=>by
 rcases hb with hb|hb
 ·have:=h g hb;omega
 ·omega
theorem dz{e:TypeId}{size:Nat}{v:Value}{xs:List Value}(h:w.ownsRow 0 e size v n xs)(h0:0<n):∃ g au,v=.slice (some ⟨g,0,none⟩) n au:=by
 rcases h.2 with⟨_,b⟩|⟨g,au,a,rfl,_⟩
 ·omega
 ·exact⟨g,au,rfl⟩
theorem Bq(h:w.heap[g]?=some (.cells #[.string ⟨#[110,111]⟩,.string ⟨#[121,101,115]⟩] 9 (0,0))):w.ownsRow 0 9 1 (.slice (some ⟨g,0,none⟩) 2 2) 2 (ib [jx,dX]) :=
 ⟨rfl,.inr ⟨g,2,_,rfl,Nat.zero_le _,h,by omega,by decide,rfl,rfl⟩⟩
theorem Fb{ty:TypeId}(h:RB ty w rb s l)(hX:X rb)(aH:∀ b,X b->b<w.heap.size)(ht:TR w X a t)(hs:s.size<=maxLen)(hk:t.kind=4):
  Calls Tryz.prog 82 #[.pointer (some ⟨rb,0,none⟩),.pointer (some a)] w fun e w'=>cJ ty w X rb s ((cK [jx,dX] [] l).1.map (fun(n:Nat)=>fY t n),(cK [jx,dX] [] l).2) e w':=by
 have j:Hi (RB ty ((w.alloc bC).alloc (aR a)) rb s l):=h.ae ((Fr.alloc Zero _ _).trans (Fr.alloc _ _ _)) (fun h=>h);have dG:=h.lt;have L:=ab aH;have p:Hi (TR ((w.alloc bC).alloc (aR a)) (X2 X w.heap.size) a t):=ht.two ((Fr.alloc Zero _ _).trans (Fr.alloc _ _ _));obtain⟨d,T,E,rfl,c,u,aE,x,y,aX,g⟩:=ht.open;have M:=lt_of_heap c;have S:w.cell? ⟨d,0,none⟩=some (.int .i64 4):=by rw[cell_of_heap c,hk];rfl
 have r:Hi (RB ty (((w.alloc bC).alloc (aR ⟨d,0,none⟩)).alloc (.cells #[.string ⟨#[110,111]⟩,.string ⟨#[121,101,115]⟩] 9)) rb s l):=j.o.ae (Fr.alloc Zero _ _) (fun h=>h);clear h aH ht c u aE x y aX g hk;go_enter Tryz.func82,Tryz.ntmps82;go_wp2_with fail;refine(wR (w.heap.size+2) 2 2 [jx,dX] rfl (by decide) (by decide) (Bq (af (by simp) _)) (by omega) r hs).mono ?_;rintro e z ⟨i,(A:Hi _),m,rfl,F⟩;have ao:Fr (One rb) ((w.alloc bC).alloc (aR ⟨d,0,none⟩)) z:=(Fr.alloc _ _ _).trans i;clear i;obtain⟨B,G⟩:=bA dG ao;obtain⟨U,V,W,Y,Z,y1,y2,y3⟩:=dc B;obtain⟨v0,v1,v2,v3,x0,x1,x2,x3⟩:=dc G;have N:=ab B;have f:=ab ao;have O:=ab F;clear ao F B G;generalize C:(Option.map Int.ofNat (cK [jx,dX] [] l).1).isSome=q at *;have P:=ab C;clear C;go_wp2;have D:Fr (One (w.heap.size+1)) z (z.setCell ⟨w.heap.size+1,1,none⟩ (.int .i64 m)):=Fr.setCell _ _ _ _ rfl;obtain⟨H,I,J,K⟩:=aW N.o D (⟨⟨d,0,none⟩,m,[],.slice none 0 0⟩:VC);simp only[ec,b9] at H I J K;refine bodyPost_ret (v:=.tuple #[VC.val (⟨⟨d,0,none⟩,m,[],.slice none 0 0⟩:VC),.bool q]) (by simp[results,Tryz.results82,go_sem,H,I,J,K,VC.val,b9]) rfl ?_;exact bS (⟨⟨d,0,none⟩,m,[],.slice none 0 0⟩:VC) dG L f A D ⟨_,_,_,rfl⟩ (fun v hx=>by simp only[Option.map_eq_some_iff] at hx;obtain⟨n,R,rfl⟩:=hx;rw[O.o n (by rw[R];rfl)];exact VR.leaf (p.o.ae (f.o.mono (fun k _ e=>.inl (by have Q:k=rb:=e;rw[Q];exact hX))))) (by rw[<-P.o];simp)
theorem E8{ty:TypeId}(hW:c8 (k+1) t)(hT:∀ u∈t.subs,gW ty 82 (ay k) u s)(h:RB ty w rb s l)(hX:X rb)(aH:∀ b,X b->b<w.heap.size)(ht:TR w X a t)(hs:s.size<=maxLen)(hk:t.kind=7):
  Calls Tryz.prog 82 #[.pointer (some ⟨rb,0,none⟩),.pointer (some a)] w fun e w'=>cJ ty w X rb s ((dP (ay k (t.sub 0)) l).1.map (bE t 0),(dP (ay k (t.sub 0)) l).2) e w':=by
 have z:Hi (RB ty ((w.alloc bC).alloc (aR a)) rb s l):=h.ae ((Fr.alloc Zero _ _).trans (Fr.alloc _ _ _)) (fun h=>h);have dG:=h.lt;have A:=ab aH;have B:Hi (TR ((w.alloc bC).alloc (aR a)) (X2 X w.heap.size) a t):=ht.two ((Fr.alloc Zero _ _).trans (Fr.alloc _ _ _));obtain⟨i,sv,c,rfl,d,E,aE,F,G,aX,f⟩:=ht.open;have T:=lt_of_heap d;have k0:w.cell? ⟨i,0,none⟩=some (.int .i64 7):=by rw[cell_of_heap d,hk];rfl
 have U:t.subs.length=1:=hW.2.2.2.2.1 (by omega);obtain⟨y,fQ,rfl⟩:=dz aE (by omega);have r:c.length=1:=by omega
 rw[r] at d aE;have k1:w.cell? ⟨i,1,none⟩=some (.slice (some ⟨y,0,none⟩) 1 fQ):=by rw[cell_of_heap d];rfl
 obtain⟨p,H⟩:∃ p,c[0]?=some p:=⟨c[0]'(by omega),by simp⟩;have jq:y<w.heap.size:=(aE.lt y rfl).2;have kp:w.cell? ⟨y,1,none⟩=some (.pointer (some p.2)):=by rw[aE.cellAt 1 (by omega)];exact(a8 c 0 p H).2
 have C:Hi (TR ((w.alloc bC).alloc (aR ⟨i,0,none⟩)) (X2 X w.heap.size) p.2 (t.sub 0)):=(f 0 p _ H (PT.cO (by omega))).two ((Fr.alloc Zero _ _).trans (Fr.alloc _ _ _));have D:Hi (gW ty 82 (ay k) (t.sub 0) s):=hT _ (List.mem_of_getElem? (PT.cO (by omega)));clear h aH ht d E aE F G aX f hk hT hW U r H;go_enter Tryz.func82,Tryz.ntmps82;go_wp2_with fail;refine(DN D z (.inl hX) (X2.lt A (by simp)) C hs).mono ?_;rintro e M ⟨ao,(I:Hi _),m,⟨o,n,j,rfl⟩,rfl,N⟩;obtain⟨J,O⟩:=bA dG ao;obtain⟨z0,z1,z2,z3,y0,y1,y2,y3⟩:=dc J;obtain⟨v0,v1,v2,v3,x0,x1,x2,x3⟩:=dc O;have V:=ab J;have x:=ab ao;have W:=ab N;clear ao N J O;generalize L:(dP (ay k (t.sub 0)) l).1.isSome=q at *;have Y:=ab L;clear L;go_wp2;have hW:Fr (One (w.heap.size+1)) M (M.setCell ⟨w.heap.size+1,3,none⟩ (.slice o n j)):=Fr.setCell _ _ _ _ rfl;obtain⟨P,Q,R,S⟩:=aW V.o hW (⟨⟨i,0,none⟩,0,[],.slice o n j⟩:VC);simp only[ec,b9] at P Q R S;refine bodyPost_ret (v:=.tuple #[VC.val (⟨⟨i,0,none⟩,0,[],.slice o n j⟩:VC),.bool q]) (by simp[results,Tryz.results82,go_sem,P,Q,R,S,VC.val,b9]) rfl ?_;exact bS (⟨⟨i,0,none⟩,0,[],.slice o n j⟩:VC) dG A x I hW ⟨_,_,_,rfl⟩ (fun v hx=>by simp only[Option.map_eq_some_iff] at hx;obtain⟨vs,hn,rfl⟩:=hx;obtain⟨K,hO,hg,hL⟩:=W.o vs hn;exact VR.make (B.o.ae (x.o.mono (fun k _ e=>.inl (by have Z:k=rb:=e;rw[Z];exact hX)))) rfl rfl hO (fun g hg'=>X2.no A (by have:=hg g hg';simpa using this)) (hL.aY (fun b _ hb=>.inl hb))) (by rw[<-Y.o];simp)
theorem E7{ty:TypeId}(hW:c8 (k+1) t)(hT:∀ u∈t.subs,gW ty 82 (ay k) u s)(h:RB ty w rb s l)(hX:X rb)(aH:∀ b,X b->b<w.heap.size)(ht:TR w X a t)(hs:s.size<=maxLen)(hk:t.kind=8):
  Calls Tryz.prog 82 #[.pointer (some ⟨rb,0,none⟩),.pointer (some a)] w fun e w'=>cJ ty w X rb s ((iB (ay k (t.sub 0)) l).1.map (bE t 0),(iB (ay k (t.sub 0)) l).2) e w':=by
 have z:Hi (RB ty ((w.alloc bC).alloc (aR a)) rb s l):=h.ae ((Fr.alloc Zero _ _).trans (Fr.alloc _ _ _)) (fun h=>h);have dG:=h.lt;have A:=ab aH;have B:Hi (TR ((w.alloc bC).alloc (aR a)) (X2 X w.heap.size) a t):=ht.two ((Fr.alloc Zero _ _).trans (Fr.alloc _ _ _));obtain⟨i,sv,c,rfl,d,E,aE,F,G,aX,f⟩:=ht.open;have T:=lt_of_heap d;have k0:w.cell? ⟨i,0,none⟩=some (.int .i64 8):=by rw[cell_of_heap d,hk];rfl
 have U:t.subs.length=1:=hW.2.2.2.2.1 (by omega);obtain⟨y,fQ,rfl⟩:=dz aE (by omega);have r:c.length=1:=by omega
 rw[r] at d aE;have k1:w.cell? ⟨i,1,none⟩=some (.slice (some ⟨y,0,none⟩) 1 fQ):=by rw[cell_of_heap d];rfl
 obtain⟨p,H⟩:∃ p,c[0]?=some p:=⟨c[0]'(by omega),by simp⟩;have jq:y<w.heap.size:=(aE.lt y rfl).2;have kp:w.cell? ⟨y,1,none⟩=some (.pointer (some p.2)):=by rw[aE.cellAt 1 (by omega)];exact(a8 c 0 p H).2
 have C:Hi (TR ((w.alloc bC).alloc (aR ⟨i,0,none⟩)) (X2 X w.heap.size) p.2 (t.sub 0)):=(f 0 p _ H (PT.cO (by omega))).two ((Fr.alloc Zero _ _).trans (Fr.alloc _ _ _));have D:Hi (gW ty 82 (ay k) (t.sub 0) s):=hT _ (List.mem_of_getElem? (PT.cO (by omega)));clear h aH ht d E aE F G aX f hk hT hW U r H;go_enter Tryz.func82,Tryz.ntmps82;go_wp2_with fail;refine(yR D z (.inl hX) (X2.lt A (by simp)) C hs).mono ?_;rintro e M ⟨ao,(I:Hi _),m,⟨o,n,j,rfl⟩,rfl,N⟩;obtain⟨J,O⟩:=bA dG ao;obtain⟨z0,z1,z2,z3,y0,y1,y2,y3⟩:=dc J;obtain⟨v0,v1,v2,v3,x0,x1,x2,x3⟩:=dc O;have V:=ab J;have x:=ab ao;have W:=ab N;clear ao N J O;generalize L:(iB (ay k (t.sub 0)) l).1.isSome=q at *;have Y:=ab L;clear L;go_wp2;have hW:Fr (One (w.heap.size+1)) M (M.setCell ⟨w.heap.size+1,3,none⟩ (.slice o n j)):=Fr.setCell _ _ _ _ rfl;obtain⟨P,Q,R,S⟩:=aW V.o hW (⟨⟨i,0,none⟩,0,[],.slice o n j⟩:VC);simp only[ec,b9] at P Q R S;refine bodyPost_ret (v:=.tuple #[VC.val (⟨⟨i,0,none⟩,0,[],.slice o n j⟩:VC),.bool q]) (by simp[results,Tryz.results82,go_sem,P,Q,R,S,VC.val,b9]) rfl ?_;exact bS (⟨⟨i,0,none⟩,0,[],.slice o n j⟩:VC) dG A x I hW ⟨_,_,_,rfl⟩ (fun v hx=>by simp only[Option.map_eq_some_iff] at hx;obtain⟨vs,hn,rfl⟩:=hx;obtain⟨K,hO,hg,hL⟩:=W.o vs hn;exact VR.make (B.o.ae (x.o.mono (fun k _ e=>.inl (by have Z:k=rb:=e;rw[Z];exact hX)))) rfl rfl hO (fun g hg'=>X2.no A (by have:=hg g hg';simpa using this)) (hL.aY (fun b _ hb=>.inl hb))) (by rw[<-Y.o];simp)
theorem E6{ty:TypeId}(hW:c8 (k+1) t)(hT:∀ u∈t.subs,gW ty 82 (ay k) u s)(h:RB ty w rb s l)(hX:X rb)(aH:∀ b,X b->b<w.heap.size)(ht:TR w X a t)(hs:s.size<=maxLen)(hk:t.kind=9):
  Calls Tryz.prog 82 #[.pointer (some ⟨rb,0,none⟩),.pointer (some a)] w fun e w'=>cJ ty w X rb s ((bh (ay k) t.subs 123 [] l).1.map (bE t 0),(bh (ay k) t.subs 123 [] l).2) e w':=by
 have C:Hi (RB ty ((w.alloc bC).alloc (aR a)) rb s l):=h.ae ((Fr.alloc Zero _ _).trans (Fr.alloc _ _ _)) (fun h=>h);have dG:=h.lt;have D:=ab aH;have E:Hi (TR ((w.alloc bC).alloc (aR a)) (X2 X w.heap.size) a t):=ht.two ((Fr.alloc Zero _ _).trans (Fr.alloc _ _ _));obtain⟨i,sv,c,rfl,d,I,aE,B,J,aX,f⟩:=ht.open;have V:=lt_of_heap d;have k0:w.cell? ⟨i,0,none⟩=some (.int .i64 9):=by rw[cell_of_heap d,hk];rfl
 have W:0<t.subs.length:=hW.2.2.2.1 (by omega);have Y:=hW.2.2.2.2.2.1.1;obtain⟨r,fQ,rfl⟩:=dz aE (by omega);have k1:w.cell? ⟨i,1,none⟩=some (.slice (some ⟨r,0,none⟩) c.length fQ):=by rw[cell_of_heap d];rfl
 have jq:r<w.heap.size:=(aE.lt r rfl).2
 have y:¬X2 X w.heap.size r:=fun x=>by
  rcases x with x|x
  ·exact B r rfl x
  ·omega
 have F:=ab y;have G:Hi (((w.alloc bC).alloc (aR ⟨i,0,none⟩)).ownsRow 0 198 2 (.slice (some ⟨r,0,none⟩) c.length fQ) c.length (aU c)):=(aE.alloc _).alloc _;have H:Hi (∀(j:Nat) (p:ByteArray×Addr) (u:PT),c[j]?=some p->t.subs[j]?=some u->TR ((w.alloc bC).alloc (aR ⟨i,0,none⟩)) (X2 X w.heap.size) p.2 u):=fun j p u hp hu=>(f j p u hp hu).two ((Fr.alloc Zero _ _).trans (Fr.alloc _ _ _))
 have z:=ab aX;have Z:=ab hT;clear h aH ht d I aE B J aX f hk hT hW W y;go_enter Tryz.func82,Tryz.ntmps82;go_wp2_with fail;refine(yw r fQ c Z C (.inl hX) (X2.lt D (by simp)) G F z Y H hs).mono ?_;rintro e O ⟨ao,(K:Hi _),m,⟨o,n,j,rfl⟩,rfl,P⟩;obtain⟨L,Q⟩:=bA dG ao;obtain⟨z0,z1,z2,z3,y0,y1,y2,y3⟩:=dc L;obtain⟨v0,v1,v2,v3,x0,x1,x2,x3⟩:=dc Q;have HZ:=ab L;have A:=ab ao;have HM:=ab P;clear ao P L Q;generalize N:(bh (ay k) t.subs 123 [] l).1.isSome=q at *;have HQ:=ab N;clear N;go_wp2;have hW:Fr (One (w.heap.size+1)) O (O.setCell ⟨w.heap.size+1,3,none⟩ (.slice o n j)):=Fr.setCell _ _ _ _ rfl;obtain⟨R,S,T,U⟩:=aW HZ.o hW (⟨⟨i,0,none⟩,0,[],.slice o n j⟩:VC);simp only[ec,b9] at R S T U;refine bodyPost_ret (v:=.tuple #[VC.val (⟨⟨i,0,none⟩,0,[],.slice o n j⟩:VC),.bool q]) (by simp[results,Tryz.results82,go_sem,R,S,T,U,VC.val,b9]) rfl ?_;exact bS (⟨⟨i,0,none⟩,0,[],.slice o n j⟩:VC) dG D A K hW ⟨_,_,_,rfl⟩ (fun v hx=>by simp only[Option.map_eq_some_iff] at hx;obtain⟨vs,hn,rfl⟩:=hx;obtain⟨M,hO,hg,hL⟩:=HM.o vs hn;exact VR.make (E.o.ae (A.o.mono (fun k _ e=>.inl (by have e':k=rb:=e;rw[e'];exact hX)))) rfl rfl hO (fun g hg'=>X2.no D (by have:=hg g hg';simpa using this)) (hL.aY (fun b _ x=>.inl x))) (by rw[<-HQ.o];simp)
theorem CL{ty:TypeId}(hW:c8 (k+1) t)(hT:∀ u∈t.subs,gW ty 82 (ay k) u s)(h:RB ty w rb s l)(hX:X rb)(aH:∀ b,X b->b<w.heap.size)(ht:TR w X a t)(hs:s.size<=maxLen)(hk:t.kind=10):
  Calls Tryz.prog 82 #[.pointer (some ⟨rb,0,none⟩),.pointer (some a)] w fun e w'=>cJ ty w X rb s ((gZ (ay k) t l).1.map (fun p=>bE t p.1 [p.2]),(gZ (ay k) t l).2) e w':=by
 have E:Hi (RB ty ((w.alloc bC).alloc (aR a)) rb s l):=h.ae ((Fr.alloc Zero _ _).trans (Fr.alloc _ _ _)) (fun h=>h);have dG:=h.lt;have F:=ab aH;have G:Hi (TR ((w.alloc bC).alloc (aR a)) (X2 X w.heap.size) a t):=ht.two ((Fr.alloc Zero _ _).trans (Fr.alloc _ _ _));obtain⟨r,sv,c,rfl,d,O,aE,D,x,aX,f⟩:=ht.open;have aa:=lt_of_heap d;have k0:w.cell? ⟨r,0,none⟩=some (.int .i64 10):=by rw[cell_of_heap d,hk];rfl
 have h1:0<t.subs.length:=hW.2.2.2.1 (by omega);have h6:=hW.2.2.2.2.2.1.1;obtain⟨y,fQ,rfl⟩:=dz aE (by omega);have k1:w.cell? ⟨r,1,none⟩=some (.slice (some ⟨y,0,none⟩) c.length fQ):=by rw[cell_of_heap d];rfl
 have jq:y<w.heap.size:=(aE.lt y rfl).2
 have A:¬X2 X w.heap.size y:=fun z=>by
  rcases z with z|z
  ·exact D y rfl z
  ·omega
 have H:=ab A;have I:Hi (((w.alloc bC).alloc (aR ⟨r,0,none⟩)).ownsRow 0 198 2 (.slice (some ⟨y,0,none⟩) c.length fQ) c.length (aU c)):=(aE.alloc _).alloc _;have J:Hi (∀(j:Nat) (p:ByteArray×Addr) (u:PT),c[j]?=some p->t.subs[j]?=some u->TR ((w.alloc bC).alloc (aR ⟨r,0,none⟩)) (X2 X w.heap.size) p.2 u):=fun j p u hp hu=>(f j p u hp hu).two ((Fr.alloc Zero _ _).trans (Fr.alloc _ _ _))
 have B:=ab aX;have HT:=ab hT;have K:=ab x;have L:Hi (∀ p∈c,p.1.size<=400):=fun p hp=>hW.2.2.2.2.2.1.2 p.1 (by rw[<-x];exact List.mem_map_of_mem hp)
 have M:0<c.length:=by omega
 have N:c.length<=6:=by omega
 clear h aH ht d O aE D x aX f hk hT hW h1 A h6;go_enter Tryz.func82,Tryz.ntmps82;go_wp2_with fail;refine(zB y fQ c HT E (.inl hX) (X2.lt F (by simp)) I H B K M N L J hs).mono ?_;rintro e T ⟨ao,(P:Hi _),m,E0,⟨o,n,j,rfl⟩,rfl,U⟩;obtain⟨Q,V⟩:=bA dG ao;obtain⟨z0,z1,z2,z3,y0,y1,y2,y3⟩:=dc Q;obtain⟨v0,v1,v2,v3,x0,x1,x2,x3⟩:=dc V;have HZ:=ab Q;have C:=ab ao;have HM:=ab U;clear ao U Q V;generalize S:(gZ (ay k) t l).1.isSome=q at *;have HQ:=ab S;clear S;go_wp2;have hW:Fr (One (w.heap.size+1)) T ((T.setCell ⟨w.heap.size+1,1,none⟩ (.int .i64 m)).setCell ⟨w.heap.size+1,3,none⟩ (.slice o n j)):=(Fr.setCell (One (w.heap.size+1)) _ ⟨w.heap.size+1,1,none⟩ _ rfl).trans (Fr.setCell (One (w.heap.size+1)) _ ⟨w.heap.size+1,3,none⟩ _ rfl);obtain⟨W,Y,Z,c3⟩:=aW HZ.o hW (⟨⟨r,0,none⟩,m,[],.slice o n j⟩:VC);simp only[ec,b9] at W Y Z c3;refine bodyPost_ret (v:=.tuple #[VC.val (⟨⟨r,0,none⟩,m,[],.slice o n j⟩:VC),.bool q]) (by simp[results,Tryz.results82,go_sem,W,Y,Z,c3,VC.val,b9]) rfl ?_;exact bS (⟨⟨r,0,none⟩,m,[],.slice o n j⟩:VC) dG F C P hW ⟨_,_,_,rfl⟩ (fun v hx=>by simp only[Option.map_eq_some_iff] at hx;obtain⟨⟨i,v'⟩,hn,rfl⟩:=hx;obtain⟨rfl,R,hO,hg,hL⟩:=HM.o i v' hn;exact VR.make (G.o.ae (C.o.mono (fun k _ e=>.inl (by have e':k=rb:=e;rw[e'];exact hX)))) rfl rfl hO (fun g hg'=>X2.no F (by have:=hg g hg';simpa using this)) (hL.aY (fun b _ z=>.inl z))) (by rw[<-HQ.o];simp)
theorem AK{ty:TypeId}(hs:s.size<=maxLen):∀(k:Nat) (t:PT),c8 k t->gW ty 82 (ay k) t s:=by
 intro k
 induction k with
 | zero=>intro t h;exact h.elim
 | succ k ih =>
  intro t d w X g a l h b aH c;have e:∀ u∈t.subs,gW ty 82 (ay k) u s:=fun u hu=>ih u (d.2.2.1 u hu)
  have f:=d.1;simp only[ay];rcases hk:t.kind with _|_|_|_|_|_|_|_|_|_|_|m
  ·exact Fg h b aH c hs hk
  ·exact Ff h b aH c hs hk
  ·exact Fe h b aH c hs hk
  ·exact Fc h b aH c hs hk
  ·exact Fb h b aH c hs hk
  ·exact Fa h b aH c hs hk
  ·exact E9 h b aH c hs hk
  ·exact E8 d e h b aH c hs hk
  ·exact E7 d e h b aH c hs hk
  ·exact E6 d e h b aH c hs hk
  ·exact CL d e h b aH c hs hk
  ·omega
def xU(w:World)(gh:Int)(s:ByteArray)(lU:Option PV×Bs)(e:Ending)(w':World):Prop :=
 Fr Zero w w'/\((∃ v c,lU=(some v,[])/\(∃ o n k,c.sv=.slice o n k)/\e=.returned (.tuple #[VC.val c,.int .i64 0,.int .i64 0])/\VR w' Zero c v) \/
  (¬(∃ v,lU=(some v,[]))/\e=.returned (.tuple #[.agg #[.pointer none,.int .i64 0,.string ⟨#[]⟩,.slice none 0 0],.int .i64 gh,.int .i64 (pos s lU.2)])))
def mf(w:World)(b:Nat):World:=(((w.setCell ⟨b,0,none⟩ (.pointer none)).setCell ⟨b,1,none⟩ (.int .i64 0)).setCell ⟨b,2,none⟩ (.string ⟨#[]⟩)).setCell ⟨b,3,none⟩ (.slice none 0 0)
theorem kC{t:TypeId}(h:w.heap[b]?=some (.cells #[x0,x1,x2,x3] t (0,0))):(mf w b).cell? ⟨b,0,none⟩=some (.pointer none)/\(mf w b).cell? ⟨b,1,none⟩=some (.int .i64 0)/\(mf w b).cell? ⟨b,2,none⟩=some (.string ⟨#[]⟩)/\(mf w b).cell? ⟨b,3,none⟩=some (.slice none 0 0):=by
 have a:(mf w b).heap[b]?=some (.cells #[.pointer none,.int .i64 0,.string ⟨#[]⟩,.slice none 0 0] t (0,0)):=by
  unfold mf;rw[heap_setCell_same (heap_setCell_same (heap_setCell_same (heap_setCell_same h)))];rfl
 obtain⟨c,d,e,a,_⟩:=dc a;exact⟨c,d,e,a⟩
theorem Fr.setZ(w:World)(b:Nat):Fr (One b) w (mf w b) :=
 ((Fr.setCell (One b) _ ⟨b,0,none⟩ _ rfl).trans (Fr.setCell (One b) _ ⟨b,1,none⟩ _ rfl)).trans ((Fr.setCell (One b) _ ⟨b,2,none⟩ _ rfl).trans (Fr.setCell (One b) _ ⟨b,3,none⟩ _ rfl))
theorem RB.start(ty:TypeId)(w:World)(s:ByteArray):RB ty (w.alloc (.cells #[.int .i64 0,.string s] ty)) w.heap.size s s.data.toList:=by
 have b:s.data.toList.length=s.size:=by rw[Array.length_toList];rfl
 have a:pos s s.data.toList=0:=by unfold pos;omega
 refine⟨by omega,by rw[a];rfl,?_⟩;rw[a];exact af rfl _
theorem uB(w:World)(a:Addr)(t:PT)(s:ByteArray)(ht:TR w Zero a t)(hW:c8 12 t)(hs:s.size<=maxLen):
  Calls Tryz.prog 65 #[.pointer (some a),.string s] w fun e w'=>xU w 5 s (ay 12 t s.data.toList) e w':=by
 have HT:=ab (AK (ty:=172) hs 12 t hW);have R:=ab ht;clear ht hW;go_enter Tryz.func65,Tryz.ntmps65;go_wp2_with fail;refine(jP s _).mono ?_;rintro e c ⟨rfl,C⟩;have F:Hi (Fr Zero w c):=(Fr.alloc _ _ _).trans C;have x:c.heap[w.heap.size]?=some (.cells #[.pointer none,.int .i64 0,.string ⟨#[]⟩,.slice none 0 0] 133 (0,0)):=C.ae (af rfl _) (fun h=>h);have il:=lt_of_heap x;have S:=ab x;clear C x;go_wp2_with fail
 have G:Hi (TR (c.alloc (.cells #[.int .i64 0,.string s] 172)) (fun b=>b=w.heap.size\/b=c.heap.size) a t):=by
  have h1:TR w (fun b=>w.heap.size<=b) a t:=R.o.aY (fun b hb Q=>by omega);have h2:TR c (fun b=>w.heap.size<=b) a t:=h1.ae F.o.dV;exact(h2.ae (Fr.alloc _ _ _)).aY (fun b _ Q=>by rcases Q with Q|Q<;>omega)
 refine(HT.o _ (fun b=>b=w.heap.size\/b=c.heap.size) c.heap.size a s.data.toList (RB.start _ c s) (.inr rfl) (fun b hb=>by simp;omega) G).mono ?_;rcases hq:ay 12 t s.data.toList with⟨q,r⟩;have T:=ab hq;clear hq;rintro e j ⟨ao,(D:Hi _),⟨f,g,i,aa⟩,⟨o,n,k,P⟩,rfl,hv⟩;simp only at P;subst P;have cF:w.heap.size≠c.heap.size:=by omega
 have H:j.heap[w.heap.size]?=some (.cells #[.pointer none,.int .i64 0,.string ⟨#[]⟩,.slice none 0 0] 133 (0,0)):=ao.ae (by rw[Below.heap_alloc _ _ _ il];exact S) (fun e=>cF e);have I:=ab H;have y:Hi (Fr Zero w j):=(F.o.trans (Fr.alloc _ _ _)).past (ao.mono (fun k _ e=>by have J:k=c.heap.size:=e;omega));have U:=ab hv;clear ao hv H;have K:Hi (Fr Zero j (j.alloc (.cells #[.pointer (some f),.int .i64 g,.string (ba i),.slice o n k] 133))):=Fr.alloc _ _ _;have L:=ab (D.o.ae K (fun h=>h));have z:(j.alloc (.cells #[.pointer (some f),.int .i64 g,.string (ba i),.slice o n k] 133)).heap[w.heap.size]?=_:=K.o.ae I (fun h=>h);have A:=ab z;simp only[VC.val];rcases q with _|v
 ·clear z;go_wp2_with fail;have V:=ab (y.o.trans K.o);clear K U I D y;generalize j.alloc (.cells #[.pointer (some f),.int .i64 g,.string (ba i),.slice o n k] 133)=W at *;obtain⟨z0,z1,z2,z3,y0,y1,y2,y3⟩:=dc A.o;refine(AL L).mono ?_;rintro e E ⟨rfl,e4⟩;obtain rfl:=e4.symm;go_wp2;obtain⟨l,m,p,u⟩:=kC A.o;simp only[mf] at l m p u;refine bodyPost_ret (v:=.tuple #[.agg #[.pointer none,.int .i64 0,.string ⟨#[]⟩,.slice none 0 0],.int .i64 5,.int .i64 (pos s r)]) (by simp[results,Tryz.results65,go_sem,l,m,p,u]) rfl ?_;rw[T.o];refine⟨V.o.past ((Fr.setZ _ w.heap.size).mono (fun k _ e=>by have J:k=w.heap.size:=e;omega)),.inr ⟨(fun h=>by obtain⟨v,h⟩:=h;cases h),rfl⟩⟩
 ·have X:=ab (U.o v rfl);clear z U;go_wp2_with fail;refine(CO L hs).mono ?_;rintro e E ⟨rfl,(Z:Hi _),d⟩;have qE:¬One c.heap.size w.heap.size:=fun e=>cF e
  have B:=d.ae A.o qE;obtain⟨z0,z1,z2,z3,y0,y1,y2,y3⟩:=dc B;have M:=ab B;have N:E.heap[j.heap.size]?=some (.cells #[.pointer (some f),.int .i64 g,.string (ba i),.slice o n k] 133 (0,0)):=d.ae (af rfl _) (fun e=>by have J:j.heap.size=c.heap.size:=e;have:=D.o.lt;omega);obtain⟨v0,v1,v2,v3,x0,x1,x2,x3⟩:=dc N;have O:Hi (Fr Zero w E):=(y.o.trans (Fr.alloc _ _ _)).past (d.mono (fun k _ e=>by have J:k=c.heap.size:=e;omega));have Y:=ab ((X.o.ae K.o.dV).ae (d.mono (fun k _ e=>.inr e)));clear d B N;rcases r with _|⟨b,r⟩
  ·go_wp2;have hW:Fr (One (w.heap.size+1)) E E:=Fr.refl _ _;obtain⟨l,m,p,u⟩:=aW M.o hW (⟨f,g,i,.slice o n k⟩:VC);simp only[ec] at l m p u;refine bodyPost_ret (v:=.tuple #[VC.val (⟨f,g,i,.slice o n k⟩:VC),.int .i64 0,.int .i64 0]) (by simp[results,Tryz.results65,go_sem,l,m,p,u,VC.val]) rfl ?_;rw[T.o];refine⟨O.o.past ((Fr.set4 E w.heap.size ⟨f,g,i,.slice o n k⟩).mono (fun k _ e=>by have J:k=w.heap.size:=e;omega)),.inl ⟨v,⟨f,g,i,.slice o n k⟩,rfl,⟨_,_,_,rfl⟩,rfl,?_⟩⟩;exact(Y.o.ae ((Fr.set4 E w.heap.size ⟨f,g,i,.slice o n k⟩).mono (fun k _ e=>.inl e))).aY (fun b _ hb=>hb.elim)
  ·go_wp2_with fail;refine(AL Z).mono ?_;rintro e w5 ⟨rfl,e5⟩;obtain rfl:=e5.symm;go_wp2;obtain⟨l,m,p,u⟩:=kC M.o;simp only[mf] at l m p u;refine bodyPost_ret (v:=.tuple #[.agg #[.pointer none,.int .i64 0,.string ⟨#[]⟩,.slice none 0 0],.int .i64 5,.int .i64 (pos s (b::r))]) (by simp[results,Tryz.results65,go_sem,l,m,p,u]) rfl ?_;rw[T.o];refine⟨O.o.past ((Fr.setZ _ w.heap.size).mono (fun k _ e=>by have J:k=w.heap.size:=e;omega)),.inr ⟨fun h=>by obtain⟨v,h⟩:=h;simp at h,rfl⟩⟩
structure VB(w:World)(n tb:Nat)(c:VC)(kind:Nat):Prop where
 box:w.heap[n]?=some (.cells #[.pointer (some ⟨tb,0,none⟩),.int .i64 c.n,.string (ba c.b),c.sv] 133 (0,0))
 typ:w.cell? ⟨tb,0,none⟩=some (.int .i64 kind)
theorem VB.all{tb:Nat}{kind:Nat}(h:VB w n tb c kind):w.cell? ⟨n,0,none⟩=some (.pointer (some ⟨tb,0,none⟩))/\w.cell? ⟨n,1,none⟩=some (.int .i64 c.n)/\w.cell? ⟨n,2,none⟩=some (.string (ba c.b))/\w.cell? ⟨n,3,none⟩=some c.sv/\w.cell? ⟨tb,0,none⟩=some (.int .i64 kind):=by
 obtain⟨a,d,e,f,_⟩:=dc h.box;exact⟨a,d,e,f,h.typ⟩
def lL(k:Nat)(t:PT):Prop :=
 ∀(w:World) (wb:Nat) (c:VC) (v:PV) (l:Bs),WB w wb l->VR w (One wb) c v->Valid k t v->l.length+(aG k v).length<=100000000000000000->(∃ o n j,c.sv=.slice o n j) ->
  Calls Tryz.prog 85 #[.pointer (some ⟨wb,0,none⟩),c.val] w fun e w'=>cS w wb (l++aG k v) e w'
theorem vB{sv:Value}{rows:List VC}{au:Nat}(hO:w.ownsRow 0 133 4 sv rows.length (cP rows))(hv:sv=.slice (some ⟨g,0,none⟩) rows.length au){j:Nat}(hj:rows[j]?=some c):w.cell? ⟨g,j*4,none⟩=some (.pointer (some c.a))/\w.cell? ⟨g,j*4+1,none⟩=some (.int .i64 c.n)/\w.cell? ⟨g,j*4+2,none⟩=some (.string (ba c.b))/\w.cell? ⟨g,j*4+3,none⟩=some c.sv:=by
 subst hv;obtain⟨d,e,f,h⟩:=ye rows j c hj;have i:=(List.getElem?_eq_some_iff.1 hj).1;refine⟨?_,?_,?_,?_⟩
 ·rw[hO.cellAt (j*4) (by omega)];exact d
 ·rw[hO.cellAt (j*4+1) (by omega)];exact e
 ·rw[hO.cellAt (j*4+2) (by omega)];exact f
 ·rw[hO.cellAt (j*4+3) (by omega)];exact h
theorem VR.sliced{p:PV}(h:VR w X c p):∃ o n j,c.sv=.slice o n j:=by
 obtain⟨_,_,_,b,d,_,_⟩:=h.open;obtain⟨a,au,e⟩:=dF d;exact⟨_,_,_,e⟩
theorem jz(w:World)(wb:Nat)(sv:Value)(rows:List VC)(vs:List PV)(l:Bs)(hT:∀ v∈vs,∃ t,lL k t/\Valid k t v)(h:WB w wb l)(hO:w.ownsRow 0 133 4 sv rows.length (cP rows))(hx:∀ g,sv.ownBlock=some g->¬One wb g)(hL:VL w (One wb) rows vs)(oD:vs.length<=300)(hl:l.length+(vs.flatMap (aG k)).length<=100000000000000000):
  Calls Tryz.prog 125 #[.pointer (some ⟨wb,0,none⟩),sv] w fun e w'=>cS w wb (l++vs.flatMap (aG k)) e w':=by
 have dK:rows.length=vs.length:=hL.1;have A:rows.length<=300:=by omega
 have B:=ab hL;have W:=ab h;have X:=ab hT;have C:=ab hO;have D:=ab hx;have Y:=ab hl;obtain⟨ea,O,J⟩:=dF hO;have r:=ab dK;clear hL h hT hO hx hl dK;subst J;go_enter Tryz.func125,Tryz.ntmps125;go_wp2_with fail
 go_loopw [8] (fun i wr=>∃ j:Nat,j<=rows.length/\i=.int .i64 j/\Hi (WB wr wb (l++(vs.take j).flatMap (aG k)))/\Hi (Fr (One wb) w wr)) (fun i _=>rows.length-(intOf i).toNat)
 case atStart=>exact⟨0,by omega,rfl,by simpa using W,Fr.refl _ _⟩
 case round =>
  obtain⟨j,hj,rfl,P,p⟩:=hrel
  by_cases Z:j<rows.length
  ·obtain⟨g,au,q⟩:=dz C.o (by omega);simp at q;obtain⟨rfl,rfl⟩:=q;obtain⟨⟨ca,cn,cb,aa⟩,K⟩:∃ c,rows[j]?=some c:=⟨rows[j],by simp⟩;obtain⟨v,q⟩:∃ v,vs[j]?=some v:=⟨vs[j]'(by have:=r.o;omega),by simp⟩;have d:g<w.heap.size:=(C.o.lt g rfl).2;have b:¬One wb g:=D.o g rfl;obtain⟨Q,S,T,U⟩:=vB C.o rfl K;have d0:=(p.o.cell (a:=⟨g,j*4,none⟩) d b).trans Q;have d1:=(p.o.cell (a:=⟨g,j*4+1,none⟩) d b).trans S;have d2:=(p.o.cell (a:=⟨g,j*4+2,none⟩) d b).trans T;have d3:=(p.o.cell (a:=⟨g,j*4+3,none⟩) d b).trans U;have f:=B.o.2 j _ v K q;obtain⟨o,n,m,V⟩:=f.sliced;simp only at V;subst V;have E:=ab (f.ae p);obtain⟨t,y,bN⟩:=X.o v (List.mem_of_getElem? q);have F:=ab y;have s:=ab bN
   have u:Hi ((vs.take (j+1)).flatMap (aG k)=(vs.take j).flatMap (aG k)++aG k v):=by
    show _=_;obtain⟨hq,he⟩:=List.getElem?_eq_some_iff.1 q;rw[List.take_succ_eq_append_getElem hq,he];simp
   have x:Hi ((l++(vs.take j).flatMap (aG k)).length+(aG k v).length<=100000000000000000):=by
    show _<=_;have M:=Y.o;have h2:(vs.flatMap (aG k))=(vs.take (j+1)).flatMap (aG k)++(vs.drop (j+1)).flatMap (aG k):=by rw[<-List.flatMap_append,List.take_append_drop]
    rw[h2,u.o] at M;simp only[List.length_append] at M ⊢;omega
   have hI:(j:Int)<(rows.length:Int):=by omega
   clear Q S T U f y bN K q b;go_wp2_with fail;refine Calls.mono (R:=fun e w'=>cS wr wb ((l++(vs.take j).flatMap (aG k))++aG k v) e w') ?_ ?_
   ·refine(F.o _ wb ⟨ca,cn,cb,.slice o n m⟩ v (l++(vs.take j).flatMap (aG k)) (P.o.ae (Fr.alloc Zero _ _) (fun h=>h)) (E.o.ae (Fr.alloc _ _ _)) s x ⟨_,_,_,rfl⟩).mono ?_;rintro e w2 ⟨rfl,ao,L⟩;exact⟨rfl,(Fr.alloc _ _ _).trans ao,L⟩
   rintro e w1 ⟨rfl,z,ew⟩;have G:=ab (p.o.trans z);have H:=ab ew;clear z ew;go_wp2_with fail;refine⟨⟨j+1,by omega,by go_num,?_,G⟩,by simp[intOf];omega⟩;rw[u.o,<-List.append_assoc];exact H
  ·have I:j=rows.length:=by omega
   subst I;have hI:¬(rows.length:Int)<(rows.length:Int):=by omega
   go_wp2_with fail
   go_end0
   refine⟨rfl,p,?_⟩;have N:=P.o;rw[List.take_of_length_le (by have:=r.o;omega)] at N;exact N
theorem ji(w:World)(wb:Nat)(l:Bs)(z:Int)(n c:Nat)(hz:z=n)(h:WB w wb l)(hl:l.length<=100000000000000000)(hc:c<=4)(hn:n<9223372036854775808):
  Calls Tryz.prog 119 #[.pointer (some ⟨wb,0,none⟩),.int .i64 z,.int .i64 c] w fun e w'=>cS w wb (l++leBytes c n) e w':=by
 subst hz;exact pf w wb l n c h hl hc hn
theorem CC(w:World)(wb:Nat)(c:VC)(v:PV)(l:Bs)(h:WB w wb l)(hV:VR w (One wb) c v)(bN:Valid (k+1) t v)(hk:t.kind=0)(hl:l.length+(aG (k+1) v).length<=100000000000000000)(hc:∃ o n j,c.sv=.slice o n j):
  Calls Tryz.prog 85 #[.pointer (some ⟨wb,0,none⟩),c.val] w fun e w'=>cS w wb (l++aG (k+1) v) e w':=by
 have M:=h.lt;have N:=ab h;obtain⟨Z,cn,cb,V⟩:=c;obtain⟨o,n,j,hc⟩:=hc;simp only at hc;subst hc;obtain⟨d,I,J,K,W,X,hL⟩:=hV.open;simp only at d I J W X;subst I J;obtain⟨b,Y,B,rfl,f,q,_⟩:=d.open;obtain⟨g,r⟩:=bN;have u:=lt_of_heap f;have O:w.cell? ⟨b,0,none⟩=some (.int .i64 0):=by rw[cell_of_heap f,g,hk];rfl
 have cF:b≠wb:=fun e=>q e
 have i:w.heap.size≠wb:=by omega
 simp only[hk] at r;obtain⟨iQ,C,D,eQ⟩:=r;obtain⟨m,E⟩:∃ m:Nat,v.num=m:=⟨v.num.toNat,by omega⟩;have x:m<9223372036854775808:=by have:bQ 0<=4294967295:=(by decide);omega
 have p:Hi (l.length<=100000000000000000):=by show _<=_;omega
 have P:Hi (aG (k+1) v=leBytes (aT 0) m):=by
  show _=_;simp only[aG,g,hk,E];rfl
 have Q:=ab E;clear E;clear h hV d f q g hl hk D eQ iQ C;simp only[VC.val];have y:Hi (WB (w.alloc (.cells #[.pointer (some ⟨b,0,none⟩),.int .i64 v.num,.string (ba v.bytes),.slice o n j] 133)) wb l):=N.o.ae (Fr.alloc Zero _ _) (fun h=>h);have R:Hi (Fr (One wb) w (w.alloc (.cells #[.pointer (some ⟨b,0,none⟩),.int .i64 v.num,.string (ba v.bytes),.slice o n j] 133))):=Fr.alloc _ _ _;go_enter Tryz.func85,Tryz.ntmps85;go_wp2_with fail;have F:(w.alloc (.cells #[.pointer (some ⟨b,0,none⟩),.int .i64 v.num,.string (ba v.bytes),.slice o n j] 133)).cell? ⟨w.heap.size,0,none⟩=some (.pointer (some ⟨b,0,none⟩)):=by rw[cell_of_heap (af rfl _)];rfl
 have G:(w.alloc (.cells #[.pointer (some ⟨b,0,none⟩),.int .i64 v.num,.string (ba v.bytes),.slice o n j] 133)).cell? ⟨w.heap.size,1,none⟩=some (.int .i64 v.num):=by rw[cell_of_heap (af rfl _)];rfl
 have H:(w.alloc (.cells #[.pointer (some ⟨b,0,none⟩),.int .i64 v.num,.string (ba v.bytes),.slice o n j] 133)).cell? ⟨b,0,none⟩=some (.int .i64 0):=by rw[World.cell?_alloc_lt _ _ ⟨b,0,none⟩ u];exact O
 go_region_held3 (fun w'=>w'.cell? ⟨w.heap.size,0,none⟩=some (.pointer (some ⟨b,0,none⟩))/\w'.cell? ⟨w.heap.size,1,none⟩=some (.int .i64 v.num)/\w'.cell? ⟨b,0,none⟩=some (.int .i64 0))
  (first|assumption|exact⟨F,G,H⟩|exact⟨S,T,U⟩)
  (first
  |(go_at_call 120;refine(iM 0 (by omega) _).mono ?_;rintro e L ⟨rfl,rfl⟩)
  |(go_at_call 119;refine(ji _ wb l v.num m (aT 0) Q (by exact y.o.same rfl) p (by decide) x).mono ?_;rintro e L ⟨rfl,ao,s⟩
    have z:=ab s;have A:Hi (Fr (One wb) w L):=R.o.trans ((Fr.dr _ _).trans ao);have S:=(ao.cell (a:=⟨w.heap.size,0,none⟩) (by simp) (fun e=>i e)).trans F;have T:=(ao.cell (a:=⟨w.heap.size,1,none⟩) (by simp) (fun e=>i e)).trans G;have U:=(ao.cell (a:=⟨b,0,none⟩) (by simp;omega) (fun e=>cF e)).trans H
    clear ao s))
 go_wp2_with fail
 go_end0
 rw[P.o];exact⟨rfl,A,z⟩
theorem CB(w:World)(wb:Nat)(c:VC)(v:PV)(l:Bs)(h:WB w wb l)(hV:VR w (One wb) c v)(bN:Valid (k+1) t v)(hk:t.kind=1)(hl:l.length+(aG (k+1) v).length<=100000000000000000)(hc:∃ o n j,c.sv=.slice o n j):
  Calls Tryz.prog 85 #[.pointer (some ⟨wb,0,none⟩),c.val] w fun e w'=>cS w wb (l++aG (k+1) v) e w':=by
 have M:=h.lt;have N:=ab h;obtain⟨Z,cn,cb,V⟩:=c;obtain⟨o,n,j,hc⟩:=hc;simp only at hc;subst hc;obtain⟨d,I,J,K,W,X,hL⟩:=hV.open;simp only at d I J W X;subst I J;obtain⟨b,Y,B,rfl,f,q,_⟩:=d.open;obtain⟨g,r⟩:=bN;have u:=lt_of_heap f;have O:w.cell? ⟨b,0,none⟩=some (.int .i64 1):=by rw[cell_of_heap f,g,hk];rfl
 have cF:b≠wb:=fun e=>q e
 have i:w.heap.size≠wb:=by omega
 simp only[hk] at r;obtain⟨iQ,C,D,eQ⟩:=r;obtain⟨m,E⟩:∃ m:Nat,v.num=m:=⟨v.num.toNat,by omega⟩;have x:m<9223372036854775808:=by have:bQ 1<=4294967295:=(by decide);omega
 have p:Hi (l.length<=100000000000000000):=by show _<=_;omega
 have P:Hi (aG (k+1) v=leBytes (aT 1) m):=by
  show _=_;simp only[aG,g,hk,E];rfl
 have Q:=ab E;clear E;clear h hV d f q g hl hk D eQ iQ C;simp only[VC.val];have y:Hi (WB (w.alloc (.cells #[.pointer (some ⟨b,0,none⟩),.int .i64 v.num,.string (ba v.bytes),.slice o n j] 133)) wb l):=N.o.ae (Fr.alloc Zero _ _) (fun h=>h);have R:Hi (Fr (One wb) w (w.alloc (.cells #[.pointer (some ⟨b,0,none⟩),.int .i64 v.num,.string (ba v.bytes),.slice o n j] 133))):=Fr.alloc _ _ _;go_enter Tryz.func85,Tryz.ntmps85;go_wp2_with fail;have F:(w.alloc (.cells #[.pointer (some ⟨b,0,none⟩),.int .i64 v.num,.string (ba v.bytes),.slice o n j] 133)).cell? ⟨w.heap.size,0,none⟩=some (.pointer (some ⟨b,0,none⟩)):=by rw[cell_of_heap (af rfl _)];rfl
 have G:(w.alloc (.cells #[.pointer (some ⟨b,0,none⟩),.int .i64 v.num,.string (ba v.bytes),.slice o n j] 133)).cell? ⟨w.heap.size,1,none⟩=some (.int .i64 v.num):=by rw[cell_of_heap (af rfl _)];rfl
 have H:(w.alloc (.cells #[.pointer (some ⟨b,0,none⟩),.int .i64 v.num,.string (ba v.bytes),.slice o n j] 133)).cell? ⟨b,0,none⟩=some (.int .i64 1):=by rw[World.cell?_alloc_lt _ _ ⟨b,0,none⟩ u];exact O
 go_region_held3 (fun w'=>w'.cell? ⟨w.heap.size,0,none⟩=some (.pointer (some ⟨b,0,none⟩))/\w'.cell? ⟨w.heap.size,1,none⟩=some (.int .i64 v.num)/\w'.cell? ⟨b,0,none⟩=some (.int .i64 1))
  (first|assumption|exact⟨F,G,H⟩|exact⟨S,T,U⟩)
  (first
  |(go_at_call 120;refine(iM 1 (by omega) _).mono ?_;rintro e L ⟨rfl,rfl⟩)
  |(go_at_call 119;refine(ji _ wb l v.num m (aT 1) Q (by exact y.o.same rfl) p (by decide) x).mono ?_;rintro e L ⟨rfl,ao,s⟩
    have z:=ab s;have A:Hi (Fr (One wb) w L):=R.o.trans ((Fr.dr _ _).trans ao);have S:=(ao.cell (a:=⟨w.heap.size,0,none⟩) (by simp) (fun e=>i e)).trans F;have T:=(ao.cell (a:=⟨w.heap.size,1,none⟩) (by simp) (fun e=>i e)).trans G;have U:=(ao.cell (a:=⟨b,0,none⟩) (by simp;omega) (fun e=>cF e)).trans H
    clear ao s))
 go_wp2_with fail
 go_end0
 rw[P.o];exact⟨rfl,A,z⟩
theorem CA(w:World)(wb:Nat)(c:VC)(v:PV)(l:Bs)(h:WB w wb l)(hV:VR w (One wb) c v)(bN:Valid (k+1) t v)(hk:t.kind=2)(hl:l.length+(aG (k+1) v).length<=100000000000000000)(hc:∃ o n j,c.sv=.slice o n j):
  Calls Tryz.prog 85 #[.pointer (some ⟨wb,0,none⟩),c.val] w fun e w'=>cS w wb (l++aG (k+1) v) e w':=by
 have M:=h.lt;have N:=ab h;obtain⟨Z,cn,cb,V⟩:=c;obtain⟨o,n,j,hc⟩:=hc;simp only at hc;subst hc;obtain⟨d,I,J,K,W,X,hL⟩:=hV.open;simp only at d I J W X;subst I J;obtain⟨b,Y,B,rfl,f,q,_⟩:=d.open;obtain⟨g,r⟩:=bN;have u:=lt_of_heap f;have O:w.cell? ⟨b,0,none⟩=some (.int .i64 2):=by rw[cell_of_heap f,g,hk];rfl
 have cF:b≠wb:=fun e=>q e
 have i:w.heap.size≠wb:=by omega
 simp only[hk] at r;obtain⟨iQ,C,D,eQ⟩:=r;obtain⟨m,E⟩:∃ m:Nat,v.num=m:=⟨v.num.toNat,by omega⟩;have x:m<9223372036854775808:=by have:bQ 2<=4294967295:=(by decide);omega
 have p:Hi (l.length<=100000000000000000):=by show _<=_;omega
 have P:Hi (aG (k+1) v=leBytes (aT 2) m):=by
  show _=_;simp only[aG,g,hk,E];rfl
 have Q:=ab E;clear E;clear h hV d f q g hl hk D eQ iQ C;simp only[VC.val];have y:Hi (WB (w.alloc (.cells #[.pointer (some ⟨b,0,none⟩),.int .i64 v.num,.string (ba v.bytes),.slice o n j] 133)) wb l):=N.o.ae (Fr.alloc Zero _ _) (fun h=>h);have R:Hi (Fr (One wb) w (w.alloc (.cells #[.pointer (some ⟨b,0,none⟩),.int .i64 v.num,.string (ba v.bytes),.slice o n j] 133))):=Fr.alloc _ _ _;go_enter Tryz.func85,Tryz.ntmps85;go_wp2_with fail;have F:(w.alloc (.cells #[.pointer (some ⟨b,0,none⟩),.int .i64 v.num,.string (ba v.bytes),.slice o n j] 133)).cell? ⟨w.heap.size,0,none⟩=some (.pointer (some ⟨b,0,none⟩)):=by rw[cell_of_heap (af rfl _)];rfl
 have G:(w.alloc (.cells #[.pointer (some ⟨b,0,none⟩),.int .i64 v.num,.string (ba v.bytes),.slice o n j] 133)).cell? ⟨w.heap.size,1,none⟩=some (.int .i64 v.num):=by rw[cell_of_heap (af rfl _)];rfl
 have H:(w.alloc (.cells #[.pointer (some ⟨b,0,none⟩),.int .i64 v.num,.string (ba v.bytes),.slice o n j] 133)).cell? ⟨b,0,none⟩=some (.int .i64 2):=by rw[World.cell?_alloc_lt _ _ ⟨b,0,none⟩ u];exact O
 go_region_held3 (fun w'=>w'.cell? ⟨w.heap.size,0,none⟩=some (.pointer (some ⟨b,0,none⟩))/\w'.cell? ⟨w.heap.size,1,none⟩=some (.int .i64 v.num)/\w'.cell? ⟨b,0,none⟩=some (.int .i64 2))
  (first|assumption|exact⟨F,G,H⟩|exact⟨S,T,U⟩)
  (first
  |(go_at_call 120;refine(iM 2 (by omega) _).mono ?_;rintro e L ⟨rfl,rfl⟩)
  |(go_at_call 119;refine(ji _ wb l v.num m (aT 2) Q (by exact y.o.same rfl) p (by decide) x).mono ?_;rintro e L ⟨rfl,ao,s⟩
    have z:=ab s;have A:Hi (Fr (One wb) w L):=R.o.trans ((Fr.dr _ _).trans ao);have S:=(ao.cell (a:=⟨w.heap.size,0,none⟩) (by simp) (fun e=>i e)).trans F;have T:=(ao.cell (a:=⟨w.heap.size,1,none⟩) (by simp) (fun e=>i e)).trans G;have U:=(ao.cell (a:=⟨b,0,none⟩) (by simp;omega) (fun e=>cF e)).trans H
    clear ao s))
 go_wp2_with fail
 go_end0
 rw[P.o];exact⟨rfl,A,z⟩
theorem Cz(w:World)(wb:Nat)(c:VC)(v:PV)(l:Bs)(h:WB w wb l)(hV:VR w (One wb) c v)(bN:Valid (k+1) t v)(hk:t.kind=3)(hl:l.length+(aG (k+1) v).length<=100000000000000000)(hc:∃ o n j,c.sv=.slice o n j):
  Calls Tryz.prog 85 #[.pointer (some ⟨wb,0,none⟩),c.val] w fun e w'=>cS w wb (l++aG (k+1) v) e w':=by
 have C:=h.lt;have D:=ab h;obtain⟨M,N,O,H⟩:=c;obtain⟨o,n,j,hc⟩:=hc;simp only at hc;subst hc;obtain⟨a,z,A,B,I,J,P⟩:=hV.open;simp only at a z A I J;subst z A;obtain⟨r,K,s,rfl,b,u,_⟩:=a.open;obtain⟨d,f⟩:=bN;have E:=lt_of_heap b;have L:w.cell? ⟨r,0,none⟩=some (.int .i64 3):=by rw[cell_of_heap b,d,hk];rfl
 simp only[hk] at f;obtain⟨iQ,x,y,eQ⟩:=f
 have F:Hi (aG (k+1) v=aC 8 (ofInt64 v.num)):=by
  show _=_;simp only[aG,d,hk];rfl
 have i:=ab hl;clear h hV a b u d hl hk iQ x;simp only[VC.val];have m:Hi (WB (w.alloc (.cells #[.pointer (some ⟨r,0,none⟩),.int .i64 v.num,.string (ba v.bytes),.slice o n j] 133)) wb l):=D.o.ae (Fr.alloc Zero _ _) (fun h=>h);have G:Hi (Fr (One wb) w (w.alloc (.cells #[.pointer (some ⟨r,0,none⟩),.int .i64 v.num,.string (ba v.bytes),.slice o n j] 133))):=Fr.alloc _ _ _;go_enter Tryz.func85,Tryz.ntmps85;go_wp2_with fail;refine(oB _ wb l v.num m (by have:=i.o;omega) eQ y).mono ?_;rintro e Q ⟨rfl,ao,g⟩;have p:=ab g;have q:=ab (G.o.trans ao);clear ao g;go_wp2_with fail
 go_end0
 rw[F.o];exact⟨rfl,q,p⟩
theorem Cy(w:World)(wb:Nat)(c:VC)(v:PV)(l:Bs)(h:WB w wb l)(hV:VR w (One wb) c v)(bN:Valid (k+1) t v)(hk:t.kind=4)(hl:l.length+(aG (k+1) v).length<=100000000000000000)(hc:∃ o n j,c.sv=.slice o n j):
  Calls Tryz.prog 85 #[.pointer (some ⟨wb,0,none⟩),c.val] w fun e w'=>cS w wb (l++aG (k+1) v) e w':=by
 have E:=h.lt;have F:=ab h;obtain⟨R,S,T,K⟩:=c;obtain⟨o,n,j,hc⟩:=hc;simp only at hc;subst hc;obtain⟨b,B,C,D,L,M,U⟩:=hV.open;simp only at b B C L M;subst B C;obtain⟨m,N,x,rfl,d,y,_⟩:=b.open;obtain⟨f,g⟩:=bN;have G:=lt_of_heap d;have Q:w.cell? ⟨m,0,none⟩=some (.int .i64 4):=by rw[cell_of_heap d,f,hk];rfl
 have p:w.heap.size≠wb:=by omega
 simp only[hk] at g;obtain⟨iQ,z,O⟩:=g
 have H:Hi (aG (k+1) v=[UInt8.ofNat v.num.toNat]):=by
  show _=_;simp only[aG,f,hk];rfl
 have q:=ab hl;clear h hV b d y f hl hk iQ z;simp only[VC.val];have r:Hi (WB (w.alloc (.cells #[.pointer (some ⟨m,0,none⟩),.int .i64 v.num,.string (ba v.bytes),.slice o n j] 133)) wb l):=F.o.ae (Fr.alloc Zero _ _) (fun h=>h);have I:Hi (Fr (One wb) w (w.alloc (.cells #[.pointer (some ⟨m,0,none⟩),.int .i64 v.num,.string (ba v.bytes),.slice o n j] 133))):=Fr.alloc _ _ _;go_enter Tryz.func85,Tryz.ntmps85;go_wp2_with fail;have A:(w.alloc (.cells #[.pointer (some ⟨m,0,none⟩),.int .i64 v.num,.string (ba v.bytes),.slice o n j] 133)).cell? ⟨w.heap.size,1,none⟩=some (.int .i64 v.num):=by rw[cell_of_heap (af rfl _)];rfl
 go_region_held3 (fun w'=>w'.cell? ⟨w.heap.size,1,none⟩=some (.int .i64 v.num))
  (first|assumption|exact A|exact J)
  (first
  |(go_at_call 122;refine(fP _ wb l (UInt8.ofNat v.num.toNat) _ (jw _ _ (by omega)) (by exact r.o.same rfl) (by have:=q.o;omega)).mono ?_;rintro e P ⟨rfl,ao,i⟩
    have s:=ab i;have u:Hi (Fr (One wb) w P):=I.o.trans ((Fr.dr _ _).trans ao);have J:=(ao.cell (a:=⟨w.heap.size,1,none⟩) (by simp) (fun e=>p e)).trans A
    clear ao i))
 go_wp2_with fail
 go_end0
 rw[H.o];exact⟨rfl,u,s⟩
theorem Cx(w:World)(wb:Nat)(c:VC)(v:PV)(l:Bs)(h:WB w wb l)(hV:VR w (One wb) c v)(bN:Valid (k+1) t v)(hk:t.kind=5)(hl:l.length+(aG (k+1) v).length<=100000000000000000)(hc:∃ o n j,c.sv=.slice o n j):
  Calls Tryz.prog 85 #[.pointer (some ⟨wb,0,none⟩),c.val] w fun e w'=>cS w wb (l++aG (k+1) v) e w':=by
 have M:=h.lt;have N:=ab h;obtain⟨ca,cn,cb,S⟩:=c;obtain⟨o,n,j,hc⟩:=hc;simp only at hc;subst hc;obtain⟨b,I,J,K,T,U,hL⟩:=hV.open;simp only at b I J T U;subst I J;obtain⟨D,V,E,rfl,d,F,_⟩:=b.open;obtain⟨f,g⟩:=bN;have O:=lt_of_heap d;have X:w.cell? ⟨D,0,none⟩=some (.int .i64 5):=by rw[cell_of_heap d,f,hk];rfl
 have m:w.heap.size≠wb:=by omega
 simp only[hk] at g;have oD:v.bytes.length<=300:=g.2.2.1
 have G:Hi (aG (k+1) v=aB v.bytes.length++v.bytes):=by
  show _=_;simp only[aG,f,hk];rfl
 have r:Hi (l.length+v.bytes.length+2<=200000000000000000):=by
  show _<=_;rw[G.o,List.length_append] at hl;omega
 have s:Hi ((l++aB v.bytes.length).length+v.bytes.length<=1000000000000000000):=by
  show _<=_;have Y:(aB v.bytes.length).length<=2:=by unfold aB;split<;>simp
  have Z:=r.o;rw[List.length_append];omega
 have P:=aI v.bytes;have u:=ab hl;clear h hV b d F f hl hk g;simp only[VC.val];have x:Hi (WB (w.alloc (.cells #[.pointer (some ⟨D,0,none⟩),.int .i64 v.num,.string (ba v.bytes),.slice o n j] 133)) wb l):=N.o.ae (Fr.alloc Zero _ _) (fun h=>h);have Q:Hi (Fr (One wb) w (w.alloc (.cells #[.pointer (some ⟨D,0,none⟩),.int .i64 v.num,.string (ba v.bytes),.slice o n j] 133))):=Fr.alloc _ _ _;go_enter Tryz.func85,Tryz.ntmps85;go_wp2_with fail;refine(kt _ wb l v.bytes.length x (by have:=u.o;omega) oD).mono ?_;rintro e L ⟨rfl,ao,p⟩;have y:=ab p;have z:=ab (Q.o.trans ao)
 have A:L.cell? ⟨w.heap.size,2,none⟩=some (.string (ba v.bytes)):=by
  rw[cell_of_heap (ao.ae (af rfl _) (fun e=>m e))];rfl
 clear ao p;go_wp2_with fail
 go_region_held3 (fun w'=>w'.cell? ⟨w.heap.size,2,none⟩=some (.string (ba v.bytes)))
  (first|assumption|exact A|exact R)
  (first
  |(go_at_call 124;refine(qd _ wb (l++aB v.bytes.length) v.bytes (by exact y.o.same rfl) s).mono ?_;rintro e W ⟨rfl,i,q⟩
    have B:=ab q;have C:Hi (Fr (One wb) w W):=z.o.trans ((Fr.dr _ _).trans i);have R:=(i.cell (a:=⟨w.heap.size,2,none⟩) (World.block_lt_of_cell? L _ A) (fun e=>m e)).trans A
    clear i q))
 go_wp2_with fail
 go_end0
 rw[G.o];refine⟨rfl,C,?_⟩;have H:=B.o;rw[List.append_assoc] at H;exact H
theorem Cw(w:World)(wb:Nat)(c:VC)(v:PV)(l:Bs)(h:WB w wb l)(hV:VR w (One wb) c v)(bN:Valid (k+1) t v)(hk:t.kind=6)(hl:l.length+(aG (k+1) v).length<=100000000000000000)(hc:∃ o n j,c.sv=.slice o n j):
  Calls Tryz.prog 85 #[.pointer (some ⟨wb,0,none⟩),c.val] w fun e w'=>cS w wb (l++aG (k+1) v) e w':=by
 have M:=h.lt;have N:=ab h;obtain⟨ca,cn,cb,S⟩:=c;obtain⟨o,n,j,hc⟩:=hc;simp only at hc;subst hc;obtain⟨b,I,J,K,T,U,hL⟩:=hV.open;simp only at b I J T U;subst I J;obtain⟨D,V,E,rfl,d,F,_⟩:=b.open;obtain⟨f,g⟩:=bN;have O:=lt_of_heap d;have X:w.cell? ⟨D,0,none⟩=some (.int .i64 6):=by rw[cell_of_heap d,f,hk];rfl
 have m:w.heap.size≠wb:=by omega
 simp only[hk] at g;have oD:v.bytes.length<=300:=g.2.2
 have G:Hi (aG (k+1) v=aB v.bytes.length++v.bytes):=by
  show _=_;simp only[aG,f,hk];rfl
 have r:Hi (l.length+v.bytes.length+2<=200000000000000000):=by
  show _<=_;rw[G.o,List.length_append] at hl;omega
 have s:Hi ((l++aB v.bytes.length).length+v.bytes.length<=1000000000000000000):=by
  show _<=_;have Y:(aB v.bytes.length).length<=2:=by unfold aB;split<;>simp
  have Z:=r.o;rw[List.length_append];omega
 have P:=aI v.bytes;have u:=ab hl;clear h hV b d F f hl hk g;simp only[VC.val];have x:Hi (WB (w.alloc (.cells #[.pointer (some ⟨D,0,none⟩),.int .i64 v.num,.string (ba v.bytes),.slice o n j] 133)) wb l):=N.o.ae (Fr.alloc Zero _ _) (fun h=>h);have Q:Hi (Fr (One wb) w (w.alloc (.cells #[.pointer (some ⟨D,0,none⟩),.int .i64 v.num,.string (ba v.bytes),.slice o n j] 133))):=Fr.alloc _ _ _;go_enter Tryz.func85,Tryz.ntmps85;go_wp2_with fail;refine(kt _ wb l v.bytes.length x (by have:=u.o;omega) oD).mono ?_;rintro e L ⟨rfl,ao,p⟩;have y:=ab p;have z:=ab (Q.o.trans ao)
 have A:L.cell? ⟨w.heap.size,2,none⟩=some (.string (ba v.bytes)):=by
  rw[cell_of_heap (ao.ae (af rfl _) (fun e=>m e))];rfl
 clear ao p;go_wp2_with fail
 go_region_held3 (fun w'=>w'.cell? ⟨w.heap.size,2,none⟩=some (.string (ba v.bytes)))
  (first|assumption|exact A|exact R)
  (first
  |(go_at_call 124;refine(qd _ wb (l++aB v.bytes.length) v.bytes (by exact y.o.same rfl) s).mono ?_;rintro e W ⟨rfl,i,q⟩
    have B:=ab q;have C:Hi (Fr (One wb) w W):=z.o.trans ((Fr.dr _ _).trans i);have R:=(i.cell (a:=⟨w.heap.size,2,none⟩) (World.block_lt_of_cell? L _ A) (fun e=>m e)).trans A
    clear i q))
 go_wp2_with fail
 go_end0
 rw[G.o];refine⟨rfl,C,?_⟩;have H:=B.o;rw[List.append_assoc] at H;exact H
theorem Ct(hT:∀ u∈t.subs,lL k u)(hW:c8 (k+1) t)(w:World)(wb:Nat)(c:VC)(v:PV)(l:Bs)(h:WB w wb l)(hV:VR w (One wb) c v)(bN:Valid (k+1) t v)(hk:t.kind=9)(hl:l.length+(aG (k+1) v).length<=100000000000000000)(hc:∃ o n j,c.sv=.slice o n j):
  Calls Tryz.prog 85 #[.pointer (some ⟨wb,0,none⟩),c.val] w fun e w'=>cS w wb (l++aG (k+1) v) e w':=by
 have P:=h.lt;have Q:=ab h;obtain⟨Z,cn,cb,U⟩:=c;obtain⟨o,n,j,hc⟩:=hc;simp only at hc;subst hc;obtain⟨b,M,N,a,F,m,O⟩:=hV.open;simp only at b M N F m;subst M N;obtain⟨G,V,H,rfl,d,I,_⟩:=b.open;obtain⟨f,p⟩:=bN;have R:=lt_of_heap d;have Y:w.cell? ⟨G,0,none⟩=some (.int .i64 9):=by rw[cell_of_heap d,f,hk];rfl
 simp only[hk] at p;obtain⟨J,iQ,K,q⟩:=p
 have L:Hi (aG (k+1) v=v.parts.flatMap (aG k)):=by
  show _=_;simp only[aG,f,hk];rfl
 have oD:v.parts.length<=300:=by have:=hW.2.2.2.2.2.1.1;omega
 have y:Hi (∀ x∈v.parts,∃ u,lL k u/\Valid k u x):=fun x m=>by
  obtain⟨i,W,X⟩:=List.getElem_of_mem m;have S:i<t.subs.length:=by omega
  exact⟨t.sub i,hT _ (List.mem_of_getElem? (PT.cO S)),q i x (by rw[List.getElem?_eq_getElem W,X])⟩
 have z:Hi (l.length+(v.parts.flatMap (aG k)).length<=100000000000000000):=by
  show _<=_;rw[L.o] at hl;exact hl
 have A:Hi (VL w (One wb) a v.parts):=O;have T:=ab F;have g:=ab m;clear h hV b d I f hl hk hT hW J iQ K q O F m;simp only[VC.val];have B:Hi (WB (w.alloc (.cells #[.pointer (some ⟨G,0,none⟩),.int .i64 v.num,.string (ba v.bytes),.slice o n j] 133)) wb l):=Q.o.ae (Fr.alloc Zero _ _) (fun h=>h);have C:Hi (Fr (One wb) w (w.alloc (.cells #[.pointer (some ⟨G,0,none⟩),.int .i64 v.num,.string (ba v.bytes),.slice o n j] 133))):=Fr.alloc _ _ _;go_enter Tryz.func85,Tryz.ntmps85;go_wp2_with fail;refine(jz _ wb (.slice o n j) a v.parts l y B (ag T.o C.o g.o) g (A.o.ae C.o) oD z).mono ?_;rintro e w3 ⟨rfl,r,s⟩;have D:=ab s;have E:=ab (C.o.trans r);clear r s;go_wp2_with fail
 go_end0
 rw[L.o];exact⟨rfl,E,D⟩
theorem Cv(hT:∀ u∈t.subs,lL k u)(hW:c8 (k+1) t)(w:World)(wb:Nat)(c:VC)(v:PV)(l:Bs)(h:WB w wb l)(hV:VR w (One wb) c v)(bN:Valid (k+1) t v)(hk:t.kind=7)(hl:l.length+(aG (k+1) v).length<=100000000000000000)(hc:∃ o n j,c.sv=.slice o n j):
  Calls Tryz.prog 85 #[.pointer (some ⟨wb,0,none⟩),c.val] w fun e w'=>cS w wb (l++aG (k+1) v) e w':=by
 have W:=h.lt;have X:=ab h;obtain⟨ca,cn,cb,aa⟩:=c;obtain⟨o,n,j,hc⟩:=hc;simp only at hc;subst hc;obtain⟨f,T,U,a,B,q,M⟩:=hV.open;simp only at f T U B q;subst T U;obtain⟨N,ac,O,rfl,g,P,_⟩:=f.open;obtain⟨i,r⟩:=bN;have Y:=lt_of_heap g;have k0:w.cell? ⟨N,0,none⟩=some (.int .i64 7):=by rw[cell_of_heap g,i,hk];rfl
 have C:w.heap.size≠wb:=by omega
 simp only[hk] at r;obtain⟨Q,iQ,R,s⟩:=r
 have D:Hi (aG (k+1) v=aB v.parts.length++v.parts.flatMap (aG k)):=by
  show _=_;simp only[aG,i,hk];rfl
 have oD:v.parts.length<=300:=by omega
 have E:t.subs.length=1:=hW.2.2.2.2.1 (by omega);have F:Hi (∀ x∈v.parts,∃ u,lL k u/\Valid k u x):=fun x q=>⟨t.sub 0,hT _ (List.mem_of_getElem? (PT.cO (by omega))),s x q⟩
 have m:Hi ((l++aB v.parts.length).length+(v.parts.flatMap (aG k)).length<=100000000000000000):=by
  show _<=_;rw[D.o,List.length_append] at hl;rw[List.length_append];omega
 have il:n=v.parts.length:=by
  obtain⟨a',V,e⟩:=dF B;simp at e
  have:=M.1
  omega
 rw[<-il] at D m;have b:n<=300:=by omega
 clear il;have G:Hi (VL w (One wb) a v.parts):=M;have Z:=ab B;have p:=ab q;have H:=ab hl;clear h hV f g P i hl hk hT hW Q iQ R s M B q E;simp only[VC.val];have I:Hi (WB (w.alloc (.cells #[.pointer (some ⟨N,0,none⟩),.int .i64 v.num,.string (ba v.bytes),.slice o n j] 133)) wb l):=X.o.ae (Fr.alloc Zero _ _) (fun h=>h);have HA:Hi (Fr (One wb) w (w.alloc (.cells #[.pointer (some ⟨N,0,none⟩),.int .i64 v.num,.string (ba v.bytes),.slice o n j] 133))):=Fr.alloc _ _ _;go_enter Tryz.func85,Tryz.ntmps85;go_wp2_with fail;refine(kt _ wb l n I (by have:=H.o;omega) b).mono ?_;rintro e w2 ⟨rfl,ao,y⟩;have J:=ab y;have d:=ab (HA.o.trans ao)
 have b3:w2.cell? ⟨w.heap.size,3,none⟩=some (.slice o n j):=by
  rw[cell_of_heap (ao.ae (af rfl _) (fun e=>C e))];rfl
 clear ao y;go_wp2_with fail;refine(jz _ wb (.slice o n j) a v.parts (l++aB n) F J (ag Z.o d.o p.o) p (G.o.ae d.o) oD m).mono ?_;rintro e w3 ⟨rfl,z,A⟩;have K:=ab A;have L:=ab (d.o.trans z);clear z A;go_wp2_with fail
 go_end0
 rw[D.o];refine⟨rfl,L,?_⟩;have S:=K.o;rw[List.append_assoc] at S;exact S
theorem Cu(hT:∀ u∈t.subs,lL k u)(hW:c8 (k+1) t)(w:World)(wb:Nat)(c:VC)(v:PV)(l:Bs)(h:WB w wb l)(hV:VR w (One wb) c v)(bN:Valid (k+1) t v)(hk:t.kind=8)(hl:l.length+(aG (k+1) v).length<=100000000000000000)(hc:∃ o n j,c.sv=.slice o n j):
  Calls Tryz.prog 85 #[.pointer (some ⟨wb,0,none⟩),c.val] w fun e w'=>cS w wb (l++aG (k+1) v) e w':=by
 have W:=h.lt;have X:=ab h;obtain⟨ca,cn,cb,aa⟩:=c;obtain⟨o,n,j,hc⟩:=hc;simp only at hc;subst hc;obtain⟨f,T,U,a,B,q,M⟩:=hV.open;simp only at f T U B q;subst T U;obtain⟨N,ac,O,rfl,g,P,_⟩:=f.open;obtain⟨i,r⟩:=bN;have Y:=lt_of_heap g;have k0:w.cell? ⟨N,0,none⟩=some (.int .i64 8):=by rw[cell_of_heap g,i,hk];rfl
 have C:w.heap.size≠wb:=by omega
 simp only[hk] at r;obtain⟨Q,iQ,R,s⟩:=r
 have D:Hi (aG (k+1) v=aB v.parts.length++v.parts.flatMap (aG k)):=by
  show _=_;simp only[aG,i,hk];rfl
 have oD:v.parts.length<=300:=by omega
 have E:t.subs.length=1:=hW.2.2.2.2.1 (by omega);have F:Hi (∀ x∈v.parts,∃ u,lL k u/\Valid k u x):=fun x q=>⟨t.sub 0,hT _ (List.mem_of_getElem? (PT.cO (by omega))),s x q⟩
 have m:Hi ((l++aB v.parts.length).length+(v.parts.flatMap (aG k)).length<=100000000000000000):=by
  show _<=_;rw[D.o,List.length_append] at hl;rw[List.length_append];omega
 have il:n=v.parts.length:=by
  obtain⟨a',V,e⟩:=dF B;simp at e
  have:=M.1
  omega
 rw[<-il] at D m;have b:n<=300:=by omega
 clear il;have G:Hi (VL w (One wb) a v.parts):=M;have Z:=ab B;have p:=ab q;have H:=ab hl;clear h hV f g P i hl hk hT hW Q iQ R s M B q E;simp only[VC.val];have I:Hi (WB (w.alloc (.cells #[.pointer (some ⟨N,0,none⟩),.int .i64 v.num,.string (ba v.bytes),.slice o n j] 133)) wb l):=X.o.ae (Fr.alloc Zero _ _) (fun h=>h);have HA:Hi (Fr (One wb) w (w.alloc (.cells #[.pointer (some ⟨N,0,none⟩),.int .i64 v.num,.string (ba v.bytes),.slice o n j] 133))):=Fr.alloc _ _ _;go_enter Tryz.func85,Tryz.ntmps85;go_wp2_with fail;refine(kt _ wb l n I (by have:=H.o;omega) b).mono ?_;rintro e w2 ⟨rfl,ao,y⟩;have J:=ab y;have d:=ab (HA.o.trans ao)
 have b3:w2.cell? ⟨w.heap.size,3,none⟩=some (.slice o n j):=by
  rw[cell_of_heap (ao.ae (af rfl _) (fun e=>C e))];rfl
 clear ao y;go_wp2_with fail;refine(jz _ wb (.slice o n j) a v.parts (l++aB n) F J (ag Z.o d.o p.o) p (G.o.ae d.o) oD m).mono ?_;rintro e w3 ⟨rfl,z,A⟩;have K:=ab A;have L:=ab (d.o.trans z);clear z A;go_wp2_with fail
 go_end0
 rw[D.o];refine⟨rfl,L,?_⟩;have S:=K.o;rw[List.append_assoc] at S;exact S
theorem Az(hT:∀ u∈t.subs,lL k u)(hW:c8 (k+1) t)(w:World)(wb:Nat)(c:VC)(v:PV)(l:Bs)(h:WB w wb l)(hV:VR w (One wb) c v)(bN:Valid (k+1) t v)(hk:t.kind=10)(hl:l.length+(aG (k+1) v).length<=100000000000000000)(hc:∃ o n j,c.sv=.slice o n j):
  Calls Tryz.prog 85 #[.pointer (some ⟨wb,0,none⟩),c.val] w fun e w'=>cS w wb (l++aG (k+1) v) e w':=by
 have aa:=h.lt;have HW:=ab h;obtain⟨ca,cn,cb,ad⟩:=c;obtain⟨o,n,j,hc⟩:=hc;simp only at hc;subst hc;obtain⟨g,Y,Z,d,Q,R,hL⟩:=hV.open;simp only at g Y Z Q R;subst Y Z;obtain⟨z,ah,S,rfl,m,T,_⟩:=g.open;obtain⟨p,A⟩:=bN;have ac:=lt_of_heap m;have k0:w.cell? ⟨z,0,none⟩=some (.int .i64 10):=by rw[cell_of_heap m,p,hk];rfl
 have r:w.heap.size≠wb:=by omega
 simp only[hk] at A;obtain⟨iQ,i,x,U,hi,q,B⟩:=A
 have V:Hi (aG (k+1) v=[UInt8.ofNat v.num.toNat]++v.parts.flatMap (aG k)):=by
  show _=_;simp only[aG,p,hk];rfl
 have oD:v.parts.length<=300:=by rw[q];simp
 have F:=hW.2.2.2.2.2.1.1;have G:0<=v.num:=by omega
 have H:v.num<6:=by omega
 have I:Hi (∀ x∈v.parts,∃ u,lL k u/\Valid k u x):=fun y hy=>by
  rw[q] at hy;simp at hy;subst hy;exact⟨t.sub i,hT _ (List.mem_of_getElem? (PT.cO hi)),B⟩
 have J:Hi ((l++[UInt8.ofNat v.num.toNat]).length+(v.parts.flatMap (aG k)).length<=100000000000000000):=by
  show _<=_;rw[V.o,List.length_append] at hl;rw[List.length_append];omega
 have K:Hi (VL w (One wb) d v.parts):=hL;have HO:=ab Q;have s:=ab R;have L:=ab hl;clear h hV g m T p hl hk hT hW iQ U hi q B hL Q R F;simp only[VC.val];have M:Hi (WB (w.alloc (.cells #[.pointer (some ⟨z,0,none⟩),.int .i64 v.num,.string (ba v.bytes),.slice o n j] 133)) wb l):=HW.o.ae (Fr.alloc Zero _ _) (fun h=>h);have HA:Hi (Fr (One wb) w (w.alloc (.cells #[.pointer (some ⟨z,0,none⟩),.int .i64 v.num,.string (ba v.bytes),.slice o n j] 133))):=Fr.alloc _ _ _;go_enter Tryz.func85,Tryz.ntmps85;go_wp2_with fail;have W:(w.alloc (.cells #[.pointer (some ⟨z,0,none⟩),.int .i64 v.num,.string (ba v.bytes),.slice o n j] 133)).cell? ⟨w.heap.size,1,none⟩=some (.int .i64 v.num):=by rw[cell_of_heap (af rfl _)];rfl
 go_region_held3 (fun w'=>w'.cell? ⟨w.heap.size,1,none⟩=some (.int .i64 v.num))
  (first|assumption|exact W|exact q1)
  (first
  |(go_at_call 122;refine(fP _ wb l (UInt8.ofNat v.num.toNat) _ (jw _ _ (by omega)) (by exact M.o.same rfl) (by have:=L.o;omega)).mono ?_;rintro e w2 ⟨rfl,ao,C⟩
    have N:=ab C;have f:Hi (Fr (One wb) w w2):=HA.o.trans ((Fr.dr _ _).trans ao);have q1:=(ao.cell (a:=⟨w.heap.size,1,none⟩) (by simp) (fun e=>r e)).trans W;have b3:w2.cell? ⟨w.heap.size,3,none⟩=some (.slice o n j):=by rw[cell_of_heap (ao.ae (b:=w.heap.size) (af (w:=w) rfl (.cells #[.pointer (some ⟨z,0,none⟩),.int .i64 v.num,.string (ba v.bytes),.slice o n j] 133)) (fun e=>r e))];rfl
    clear ao C))
 go_wp2_with fail;refine(jz _ wb (.slice o n j) d v.parts (l++[UInt8.ofNat v.num.toNat]) I N (ag HO.o f.o s.o) s (K.o.ae f.o) oD J).mono ?_;rintro e w3 ⟨rfl,D,E⟩;have O:=ab E;have P:=ab (f.o.trans D);clear D E;go_wp2_with fail
 go_end0
 rw[V.o];refine⟨rfl,P,?_⟩;have X:=O.o;rw[List.append_assoc] at X;exact X
theorem x7:∀(k:Nat) (t:PT),c8 k t->lL k t:=by
 intro k
 induction k with
 | zero=>intro t h;exact h.elim
 | succ k ih =>
  intro t f w a c v l h b bN d e;have g:∀ u∈t.subs,lL k u:=fun u hu=>ih u (f.2.2.1 u hu)
  have i:=f.1;rcases hk:t.kind with _|_|_|_|_|_|_|_|_|_|_|m
  ·exact CC w a c v l h b bN hk d e
  ·exact CB w a c v l h b bN hk d e
  ·exact CA w a c v l h b bN hk d e
  ·exact Cz w a c v l h b bN hk d e
  ·exact Cy w a c v l h b bN hk d e
  ·exact Cx w a c v l h b bN hk d e
  ·exact Cw w a c v l h b bN hk d e
  ·exact Cv g f w a c v l h b bN hk d e
  ·exact Cu g f w a c v l h b bN hk d e
  ·exact Ct g f w a c v l h b bN hk d e
  ·exact Az g f w a c v l h b bN hk d e
  ·omega
end Go.Proofs.YtpffifpbpmlhdaaGreatDoor
