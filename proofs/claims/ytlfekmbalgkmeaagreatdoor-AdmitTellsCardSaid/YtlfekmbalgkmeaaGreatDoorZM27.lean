import Derived.Test.YtlfekmbalgkmeaaGreatDoorZM2
import Derived.Test.YtlfekmbalgkmeaaGreatDoorZM7
import Derived.Test.YtlfekmbalgkmeaaGreatDoorZM26
import Derived.Test.YtlfekmbalgkmeaaGreatDoorZM1
import Derived.Laws.ResultCell
set_option linter.unusedSimpArgs false
set_option linter.unnecessarySimpa false
set_option linter.unusedVariables false
set_option maxRecDepth 100000
set_option maxHeartbeats 4000000
namespace Go.Proofs.YtlfekmbalgkmeaaGreatDoor
open Go.RowKit
section
variable {w0: World} {A F: Option Addr} {n c m d: Nat} {W: List Int} {E: List (Int × Int)} {s3 s4 s5 s6 s7 s8 s9 s10 s11: Value} {l: Array Bool} {w w': World}
theorem own_from{base:Nat}{e:TypeId}{s k:Nat}{v:Value}{xs:List Value}(h:w.ownsRow base e s v k xs)(hk: ∀g,base<=g->w'.heap[g]? =w.heap[g]?):w'.ownsRow base e s v k xs:=by
 refine⟨h.1,?_⟩
 rcases h.2 with hn|⟨g,cap,cur,rfl,hg,hgg,rest⟩
 ·exact .inl hn
 ·exact .inr ⟨g,cap,cur,rfl,hg,by rw[hk g hg];exact hgg,rest⟩
end
structure IsG(w:World)(A:Option Addr)(n c:Nat)(F:Option Addr)(m d:Nat)(W:List Int)(E:List (Int×Int)):Prop where
 hn:W.length=n
 hm:E.length=m
 ln:n<=400
 lm:m<=400
 ints:Ints w w.heap.size A W
 pairs:Pairs w w.heap.size F E
 hA:A=none->n=0/\c=0
 hF:F=none->m=0/\d=0
 tab:Tab64 w
theorem IsG.below{w w':World}{A:Option Addr}{n c:Nat}{F:Option Addr}{m d:Nat}{W:List Int}{E:List (Int×Int)}(h:IsG w A n c F m d W E)(hb:Below w.heap.size w w'):IsG w' A n c F m d W E:=
 ⟨h.hn,h.hm,h.ln,h.lm,(h.ints.below hb).more hb.size,(h.pairs.below hb).more hb.size,h.hA,h.hF,h.tab.via hb⟩
theorem OwnI.none_nil{w:World}{b:Nat}{n c:Nat}{zs:List Int}(h:OwnI w b (.slice none n c) zs):n=0/\c=0:=by
 rcases h.2 with⟨hv,hn⟩|⟨g,cap,cur,hv,_⟩
 ·injection hv with _ h1 h2
  exact⟨h1,h2⟩
 ·injection hv with h1
  cases h1
theorem OwnE.none_nil{w:World}{b:Nat}{n c:Nat}{es:List (Int×Int)}(h:OwnE w b (.slice none n c) es):n=0/\c=0:=by
 rcases h.2 with⟨hv,hn⟩|⟨g,cap,cur,hv,_⟩
 ·injection hv with _ h1 h2
  exact⟨h1,h2⟩
 ·injection hv with h1
  cases h1
theorem own_isG{w:World}{b:Nat}{u v:Value}{W:List Int}{E:List (Int×Int)}(ht:Tab64 w)(hu:OwnI w b u W)(hv:OwnE w b v E)(hW:W.length<=400)(hE:E.length<=400):
  ∃A c F d,u= .slice A W.length c/\v= .slice F E.length d/\IsG w A W.length c F E.length d W E:=by
 obtain⟨A,c,rfl,h1⟩:=hu.slice;obtain⟨F,d,rfl,h2⟩:=hv.slice;refine⟨A,c,F,d,rfl,rfl,⟨rfl,rfl,hW,hE,h1,h2,?_,?_,ht⟩⟩
 ·rintro rfl;exact hu.none_nil
 ·rintro rfl;exact hv.none_nil
open Classical in
noncomputable def totalV (W:List Int) (E:List (Int×Int)):Int:=if May W E then W.sum else 0
open Classical in
noncomputable def longV (W:List Int) (E:List (Int×Int)):Int:=if May W E then most (farK W E W.length)else 0
theorem acyc_of{n:Nat}{E:List (Int×Int)}(hF:Fits n E)(h: ∀a,a<n->(reach n E a).getD a false=false):Acyc E:=fun a ha=>by
 have h1:=(reach_iff hF a a).mpr ha;rw[h a (ha.lt hF).1]at h1;cases h1
section
variable {A: Option Addr} {n c: Nat} {F: Option Addr} {m d: Nat} {W: List Int} {E: List (Int × Int)}
structure IsR(w:World)(g n:Nat)(A:Option Addr)(c:Nat)(E:List (Int×Int))(w':World):Prop where
 bel:Below w.heap.size w w'
 ints:Ints w' w'.heap.size A (nums (ord n E))
 row: ∃ps,RowN g ps w'/\PredsOf n E ps
 low: ∀b o s,A=some ⟨b,o,s⟩->w.heap.size<=b
theorem link_yes(n:Nat)(w:World)(hl:n<=64)(hm:E.length=m)(hk:m<=1000)(hP:Pairs w w.heap.size F E)(h:EdgesOk n E):
  Calls Tryz.prog 115 #[.int .i64 n,.slice F m d] w fun e w'=> ∃g,e= .returned (.tuple #[.slice (some ⟨g,0,none⟩) n n,.bool true])/\Below w.heap.size w w'/\w.heap.size<=g/\ ∃ps,RowN g ps w'/\PredsOf n E ps:=by
 refine(link_any F n m d E w hl hm hk hP).mono ?_
 rintro e w' ⟨b,⟨_,g,ps,he,hg,h1,h2⟩|⟨hn,_⟩⟩
 ·exact⟨g,he,b,hg,ps,h1,h2⟩
 ·exact absurd h hn
theorem link_not(n:Nat)(w:World)(hl:n<=64)(hm:E.length=m)(hk:m<=1000)(hP:Pairs w w.heap.size F E)(h: ¬EdgesOk n E):
  Calls Tryz.prog 115 #[.int .i64 n,.slice F m d] w fun e w'=>e= .returned (.tuple #[.slice none 0 0,.bool false])/\Below w.heap.size w w':=by
 refine(link_any F n m d E w hl hm hk hP).mono ?_
 rintro e w' ⟨b,⟨hy,_⟩|⟨_,he⟩⟩
 ·exact absurd hy h
 ·exact⟨he,b⟩
theorem arrange_yes(g n:Nat)(w:World)(hl:n<=64)(hF:Fits n E)(hR: ∃ps,RowN g ps w/\PredsOf n E ps)(h:Acyc E):
  Calls Tryz.prog 116 #[.slice (some ⟨g,0,none⟩) n n] w fun e w'=> ∃A c,e= .returned (.tuple #[.slice A n c,.bool true])/\Below w.heap.size w w'/\OwnI w' w.heap.size (.slice A n c) (nums (ord n E)):=by
 obtain⟨ps,hV,hPS⟩:=hR;refine(arrange_any g n E ps w hl hF hPS hV).mono ?_
 rintro e w' ⟨b,⟨_,A,c,he,hI⟩|⟨hn,_⟩⟩
 ·exact⟨A,c,he,b,hI⟩
 ·exact absurd h hn
theorem arrange_not(g n:Nat)(w:World)(hl:n<=64)(hF:Fits n E)(hR: ∃ps,RowN g ps w/\PredsOf n E ps)(h: ¬Acyc E):
  Calls Tryz.prog 116 #[.slice (some ⟨g,0,none⟩) n n] w fun e w'=>e= .returned (.tuple #[.slice none 0 0,.bool false])/\Below w.heap.size w w':=by
 obtain⟨ps,hV,hPS⟩:=hR;refine(arrange_any g n E ps w hl hF hPS hV).mono ?_
 rintro e w' ⟨b,⟨hy,_⟩|⟨_,he⟩⟩
 ·exact absurd hy h
 ·exact⟨he,b⟩
structure StR(w:World)(A:Option Addr)(n c:Nat)(F:Option Addr)(m d:Nat)(W:List Int)(E:List (Int×Int))(w':World):Prop where
 bel:Below w.heap.size w w'
 p0:w'.cell? ⟨w.heap.size,0,none⟩=some (.slice A n c)
 p1:w'.cell? ⟨w.heap.size,1,none⟩=some (.slice F m d)
 q:w'.heap[w.heap.size+1]? =some (.cells #[.slice none 0 0,.slice none 0 0] 122 (0,0))
 g:IsG w' A n c F m d W E
theorem StR.lt{w w':World}(h:StR w A n c F m d W E w'):w.heap.size+1<w'.heap.size:=(Array.getElem?_eq_some_iff.1 h.q).1
theorem StR.next{w w1 w2:World}(h:StR w A n c F m d W E w1)(hb:Below w1.heap.size w1 w2):StR w A n c F m d W E w2:=
 ⟨h.bel.trans (hb.mono h.bel.size),(hb.cell (World.block_lt_of_cell? _ _ h.p0)).trans h.p0,(hb.cell (World.block_lt_of_cell? _ _ h.p1)).trans h.p1,by rw[hb.block _ h.lt];exact h.q,h.g.below hb⟩
theorem StR.start{w:World}(h:IsG w A n c F m d W E):StR w A n c F m d W E ((w.alloc (.cells #[.slice A n c,.slice F m d] 88)).alloc (.cells #[.slice none 0 0,.slice none 0 0] 122)):=by
 obtain⟨w1,h1⟩: ∃w1,w1=w.alloc (.cells #[.slice A n c,.slice F m d] 88):=⟨_,rfl⟩;rw[<-h1];have s1:w1.heap.size=w.heap.size+1:=by rw[h1];simp
 have b1:Below w.heap.size w w1:=by rw[h1];exact below_alloc _
 have b2:=below_alloc (w:=w1) (.cells #[.slice none 0 0,.slice none 0 0] 122);refine⟨b1.trans (b2.mono (by omega)),?_,?_,?_,(h.below b1).below b2⟩
 ·refine (b2.cell (by show w.heap.size < _; omega)).trans ?_
  rw[h1,World.cell?_alloc_at _ _ _ _ rfl];rfl
 ·refine (b2.cell (by show w.heap.size < _; omega)).trans ?_
  rw[h1,World.cell?_alloc_at _ _ _ _ rfl];rfl
 ·rw[<-s1];exact heap_alloc_new w1 _
theorem StR.cells{w w':World}(h:StR w A n c F m d W E w'):w'.cell? ⟨w.heap.size,0,none⟩=some (.slice A n c)/\w'.cell? ⟨w.heap.size,1,none⟩=some (.slice F m d)/\
  w'.cell? ⟨w.heap.size+1,0,none⟩=some (.slice none 0 0)/\w'.cell? ⟨w.heap.size+1,1,none⟩=some (.slice none 0 0)/\w'.frozen? ⟨w.heap.size+1,0,none⟩=false/\w'.frozen? ⟨w.heap.size+1,1,none⟩=false:=
 ⟨h.p0,h.p1,by rw[cell_of_row _ _ _ _ _ _ h.q];rfl,by rw[cell_of_row _ _ _ _ _ _ h.q];rfl,frozen_of_row _ _ _ _ _ h.q,frozen_of_row _ _ _ _ _ h.q⟩
theorem read_not(w:World)(h:IsG w A n c F m d W E)(hM: ¬May W E):
  Calls Tryz.prog 91 #[.agg #[.slice A n c,.slice F m d]] w fun e w'=>e= .returned (.tuple #[.agg #[.slice none 0 0,.slice none 0 0],.int .i64 (chkE W E)])/\Below w.heap.size w w':=by
 have B0:=Lib.hid (StR.start h);have ln:=h.ln;have lm:=h.lm;have HN:=Lib.hid h.hn;have HEM:=Lib.hid h.hm;have CR:=Lib.hid (fun(W':World) (h:IsG W' A n c F m d W E) (r:Bool) (hr:r=true↔WorkOk W)=>right_any A c n W W' h.hn (by have:=h.ln;omega) h.ints r hr)
 obtain⟨r,hr⟩: ∃r,r=chkE W E:=⟨_,rfl⟩;rw[<-hr];have HR:=Lib.hid hr;clear hr h
 by_cases hmany:64<n\/256<m
 ·have HX:=Lib.hid (show chkE W E = 40 by
   have e:=plainE_many (W:=W) (E:=E) (by rw[HN.out,HEM.out];exact hmany)
   rw[chkE_plain (by rw[e];decide),e])
  rcases(show 64<n\/(n<=64/\256<m) by omega)with h1|⟨h1,h2⟩
  ·clear hmany
   go_enter Tryz.func91,Tryz.ntmps91;go_wp2
   (try simp only[Exit.inBlock,Exit.then])
   refine bodyPost_ret (v:=.tuple #[.agg #[.slice none 0 0,.slice none 0 0],.int .i64 r]) ?_ rfl ⟨rfl,?_⟩
   ·rw [results_cell_tmp rfl,HR.out,HX.out]
    go_simp
   ·exact B0.out.bel
  ·clear hmany
   go_enter Tryz.func91,Tryz.ntmps91;go_wp2
   (try simp only[Exit.inBlock,Exit.then])
   refine bodyPost_ret (v:=.tuple #[.agg #[.slice none 0 0,.slice none 0 0],.int .i64 r]) ?_ rfl ⟨rfl,?_⟩
   ·rw [results_cell_tmp rfl,HR.out,HX.out]
    go_simp
   ·exact B0.out.bel
 ·have HMANY: Hid (¬ (64 < W.length \/ 256 < E.length)):=Lib.hid (by rw [HN.out,HEM.out]; exact hmany)
  have hn64:n<=64:=by omega
  have hm256:m<=256:=by omega
  clear hmany
  by_cases hW:WorkOk W
  ·have C1:=Lib.hid (fun W' h => CR.out W' h true ⟨fun _ => hW,fun _ => rfl⟩)
   by_cases hE:EdgesOk n E
   ·have C2:=Lib.hid (fun (w': World) (h: IsG w' A n c F m d W E) => link_yes (d:=d) n w' hn64 h.hm (by omega) h.pairs hE)
    have hp0:plainE W E=0:=plainE_zero.mpr ⟨by have:=HMANY.out;omega,hW,by rw[HN.out];exact hE⟩
    have hA: ¬Acyc E:=fun hA=>hM (chkE_zero.mp (chkE_ok hp0 hA))
    have HX:=Lib.hid (chkE_round hp0 hA);have C3:=Lib.hid (fun g w' hR=>arrange_not g n w' hn64 hE.1 hR hA)
    clear hW hE hp0 hA hM;go_enter Tryz.func91,Tryz.ntmps91;go_wp2_with fail;refine(C1.out _ B0.out.g).mono ?_
    rintro e w1 ⟨rfl,rfl⟩;go_wp2_with fail;refine(C2.out _ B0.out.g).mono ?_
    rintro e w2 ⟨g,rfl,b,hgg,hR⟩;have HGG:=Lib.hid hgg;have B2:=Lib.hid (B0.out.next b);have HRR:=Lib.hid hR;clear b hR hgg;obtain⟨c1,c2,c3,c4,c5,c6⟩:=B2.out.cells;go_wp2_with fail;refine(C3.out _ _ HRR.out).mono ?_
    rintro e w3 ⟨rfl,b⟩;have B3:=Lib.hid (B2.out.next b);clear b c1 c2 c3 c4 c5 c6;obtain⟨c1,c2,c3,c4,c5,c6⟩:=B3.out.cells;have hlt:=B3.out.lt;go_wp2
    (try simp only[Exit.inBlock,Exit.then])
    refine bodyPost_ret (v:=.tuple #[.agg #[.slice none 0 0,.slice none 0 0],.int .i64 r]) ?_ rfl ⟨rfl,?_⟩
    ·rw [results_cell_tmp rfl,HR.out,HX.out]
     go_simp
    ·refine (B3.out.bel.setCell ?_ _).setCell ?_ _
     ·show w.heap.size<=w.heap.size+1;omega
     ·show w.heap.size<=w.heap.size+1;omega
   ·have C2:=Lib.hid (fun (w': World) (h: IsG w' A n c F m d W E) => link_not (d:=d) n w' hn64 h.hm (by omega) h.pairs hE)
    have HX:=Lib.hid (show chkE W E=42 by
     have e:=plainE_edge HMANY.out hW (by rw[HN.out];exact hE)
     rw[chkE_plain (by rw[e];decide),e])
    clear hW hE hM;go_enter Tryz.func91,Tryz.ntmps91;go_wp2_with fail;refine(C1.out _ B0.out.g).mono ?_
    rintro e w1 ⟨rfl,rfl⟩;go_wp2_with fail;refine(C2.out _ B0.out.g).mono ?_
    rintro e w2 ⟨rfl,b⟩;have B2:=Lib.hid (B0.out.next b);clear b;obtain⟨c1,c2,c3,c4,c5,c6⟩:=B2.out.cells;have hlt:=B2.out.lt;go_wp2
    (try simp only[Exit.inBlock,Exit.then])
    refine bodyPost_ret (v:=.tuple #[.agg #[.slice none 0 0,.slice none 0 0],.int .i64 r]) ?_ rfl ⟨rfl,?_⟩
    ·rw [results_cell_tmp rfl,HR.out,HX.out]
     go_simp
    ·refine (B2.out.bel.setCell ?_ _).setCell ?_ _
     ·show w.heap.size<=w.heap.size+1;omega
     ·show w.heap.size<=w.heap.size+1;omega
  ·have C1:=Lib.hid (fun W' h => CR.out W' h false ⟨fun q => Bool.noConfusion q,fun q => absurd q hW⟩)
   have HX:=Lib.hid (show chkE W E=41 by
    have e:=plainE_work HMANY.out hW;rw[chkE_plain (by rw[e];decide),e])
   clear hW hM;go_enter Tryz.func91,Tryz.ntmps91;go_wp2_with fail;refine(C1.out _ B0.out.g).mono ?_
   rintro e w1 ⟨rfl,rfl⟩;go_wp2
   (try simp only[Exit.inBlock,Exit.then])
   refine bodyPost_ret (v:=.tuple #[.agg #[.slice none 0 0,.slice none 0 0],.int .i64 r]) ?_ rfl ⟨rfl,?_⟩
   ·rw [results_cell_tmp rfl,HR.out,HX.out]
    go_simp
   ·exact B0.out.bel
theorem read_ok(w:World)(h:IsG w A n c F m d W E)(hM:May W E):
  Calls Tryz.prog 91 #[.agg #[.slice A n c,.slice F m d]] w fun e w'=> ∃g A' c',e= .returned (.tuple #[.agg #[.slice (some ⟨g,0,none⟩) n n,.slice A' n c'],.int .i64 0])/\IsR w g n A' c' E w':=by
 have B0:=Lib.hid (StR.start h);have hn64:n<=64:=by rw[<-h.hn];exact hM.nodes
 have hm256:m<=256:=by rw[<-h.hm];exact hM.edges
 have hF:Fits n E:=by rw[<-h.hn];exact hM.fits
 have C1:=Lib.hid (fun(W':World) (h:IsG W' A n c F m d W E)=>right_any A c n W W' h.hn (by have:=h.ln;omega) h.ints true ⟨fun _=>hM.work,fun _=>rfl⟩)
 have C2:=Lib.hid (fun(w':World) (h:IsG w' A n c F m d W E)=>link_yes (d:=d) n w' hn64 h.hm (by omega) h.pairs ⟨hF,hM.apart,hM.once⟩)
 have C3:=Lib.hid (fun g w' hR=>arrange_yes g n w' hn64 hF hR hM.acyc)
 clear h hM hF;go_enter Tryz.func91,Tryz.ntmps91;go_wp2_with fail;refine(C1.out _ B0.out.g).mono ?_
 rintro e w1 ⟨rfl,rfl⟩;go_wp2_with fail;refine(C2.out _ B0.out.g).mono ?_
 rintro e w2 ⟨g,rfl,b,hgg,hR⟩;have HGG:=Lib.hid hgg;have B2:=Lib.hid (B0.out.next b);have HRR:=Lib.hid hR;clear b hR hgg;obtain⟨c1,c2,c3,c4,c5,c6⟩:=B2.out.cells;go_wp2_with fail;refine(C3.out _ _ HRR.out).mono ?_
 rintro e w3 ⟨A',c',rfl,b,hI⟩;have B3:=Lib.hid (B2.out.next b);have HIN:=Lib.hid hI;have HR3:Hid (∃ps,RowN g ps w3/\PredsOf n E ps):=Lib.hid (by
  obtain⟨ps,h1,h2⟩:=HRR.out;exact⟨ps,h1.below b h1.lt,h2⟩)
 clear b c1 c2 c3 c4 c5 c6 hI;obtain⟨c1,c2,c3,c4,c5,c6⟩:=B3.out.cells;have hlt:=B3.out.lt;go_wp2
 (try simp only[Exit.inBlock,Exit.then])
 refine bodyPost_ret (v:=.tuple #[.agg #[.slice (some ⟨g,0,none⟩) n n,.slice A' n c'],.int .i64 0]) ?_ rfl ⟨g,A',c',rfl,?_⟩
 ·rw [results_cell_tmp rfl]
  go_simp
 ·have hs2:=B2.out.lt
  have hg0:w.heap.size+1<g:=by
   have:=HGG.out;have:=B0.out.lt;omega
  have hs: ∀k,w.heap.size+1<k->((w3.setCell ⟨w.heap.size+1,0,none⟩ (.slice (some ⟨g,0,none⟩) n n)).setCell ⟨w.heap.size+1,1,none⟩ (.slice A' n c')).heap[k]? =w3.heap[k]?:=fun k hk=>by
   have hne: ¬w.heap.size+1=k:=by omega
   simp[World.setCell,Array.getElem?_modify,hne]
  have hO:=own_from (w':=((w3.setCell ⟨w.heap.size+1,0,none⟩ (.slice (some ⟨g,0,none⟩) n n)).setCell ⟨w.heap.size+1,1,none⟩ (.slice A' n c'))) HIN.out (fun k hk=>hs k (by omega))
  refine⟨(B3.out.bel.setCell ?_ _).setCell ?_ _,?_,?_,fun b o s e=> ?_⟩
  ·show w.heap.size<=w.heap.size+1;omega
  ·show w.heap.size<=w.heap.size+1;omega
  ·obtain ⟨A2,c2,he,hI⟩:=OwnI.slice hO
   injection he with e1 e2 e3;subst e1;exact hI
  ·obtain ⟨ps,h1,h2⟩:=HR3.out
   exact⟨ps,(hs g hg0).trans h1,h2⟩
  ·have hI:=HIN.out
   subst e;rcases hI.2 with⟨h,_⟩|⟨g',cap,cur,h,hg',_⟩
   ·injection h with h
    cases h
   ·injection h with h
    have:b=g':=by
     injection h with h;injection h
    omega
end
section
variable {A: Option Addr} {n c: Nat} {F: Option Addr} {m d: Nat} {W: List Int} {E: List (Int × Int)}
theorem IsR.next{w w1 w2:World}{g:Nat}{A':Option Addr}{c':Nat}(h:IsR w g n A' c' E w1)(hb:Below w1.heap.size w1 w2):IsR w g n A' c' E w2:=
 ⟨h.bel.trans (hb.mono h.bel.size),(h.ints.below hb).more hb.size,by
  obtain⟨ps,h1,h2⟩:=h.row;exact⟨ps,h1.below hb h1.lt,h2⟩,h.low⟩
theorem check_done(w:World)(h:IsG w A n c F m d W E):
  Calls Tryz.prog 89 #[.agg #[.slice A n c,.slice F m d]] w fun e w'=>e= .returned (.int .i64 (chkE W E))/\Below w.heap.size w w':=by
 have H:=Lib.hid h
 by_cases hM:May W E
 ·have C:=Lib.hid (fun w' (h: IsG w' A n c F m d W E) => read_ok w' h hM)
  rw[chkE_zero.mpr hM];clear h hM;go_enter Tryz.func89,Tryz.ntmps89;go_wp2_with fail;refine(C.out _ (H.out.below (below_alloc _))).mono ?_
  rintro e w1 ⟨g,A',c',rfl,hR⟩;have HB:=Lib.hid ((below_alloc _).trans (hR.bel.mono (by simp)))
  clear hR;go_wp2;go_ret;exact⟨rfl,HB.out.alloc HB.out.size _⟩
 ·have C:=Lib.hid (fun w' (h: IsG w' A n c F m d W E) => read_not w' h hM)
  obtain⟨r,hr⟩: ∃r,r=chkE W E:=⟨_,rfl⟩;rw[<-hr]at C⊢;clear h hM hr;go_enter Tryz.func89,Tryz.ntmps89;go_wp2_with fail;refine(C.out _ (H.out.below (below_alloc _))).mono ?_
  rintro e w1 ⟨rfl,b⟩;have HB:=Lib.hid ((below_alloc _).trans (b.mono (by simp)))
  clear b;go_wp2;go_ret;exact⟨rfl,HB.out.alloc HB.out.size _⟩
end
section
variable {A: Option Addr} {n c: Nat} {F: Option Addr} {m d: Nat} {W: List Int} {E: List (Int × Int)}
theorem GotInts.up{w w1:World}{zs:List Int}{e:Ending}{w':World}(h:GotInts zs w1 e w')(hb:Below w.heap.size w w1):GotInts zs w e w':=by
 obtain⟨A,c,he,hI,b⟩:=h;exact⟨A,c,he,hI,hb.trans (b.mono hb.size)⟩
end
section
variable {A: Option Addr} {n c: Nat} {F: Option Addr} {m d: Nat} {W: List Int} {E: List (Int × Int)}
end
theorem nums_get{l:List Nat}{j:Nat}{z:Int}(h:(nums l)[j]? =some z): ∃x:Nat,z=(x:Int)/\l[j]? =some x:=by
  unfold nums at h;rw[List.getElem?_map]at h
  cases hx:l[j]? with
  |none=>rw[hx]at h;cases h
  | some x =>
    rw[hx]at h;exact⟨x,(Option.some.inj h).symm,rfl⟩
def Behind(E:List (Int×Int))(a:Nat)(met:List Nat)(T:Nat):Prop:=∀ x,T.testBit x=true↔x∈met/\Way E a x
section
variable {A: Option Addr} {n c: Nat} {F: Option Addr} {m d: Nat} {W: List Int} {E: List (Int × Int)}
end
end Go.Proofs.YtlfekmbalgkmeaaGreatDoor
