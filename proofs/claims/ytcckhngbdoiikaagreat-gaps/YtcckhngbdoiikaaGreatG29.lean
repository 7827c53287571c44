import Derived.Test.YtcckhngbdoiikaaGreatG28
import Derived.Deep.RegionWith
import Derived.Deep.RegionHeld3
import Derived.Test.YtcckhngbdoiikaaGreatG23

namespace Go.Proofs.YtcckhngbdoiikaaGreat
open Go.RowKit Go.Deep
set_option linter.unusedVariables false
structure PlT where
 b:Nat
 t:ByteArray
 A:Nat→Bool
structure PlsAt (w:World) (xb:Nat) (pls:List PlT):Prop where
 blk:∃ c pv,Blk w xb c 78∧c[2]? = some pv∧w.ownsRow 0 80 1 pv pls.length (ptrs (pls.map PlT.b))
 pl:∀ p ∈ pls,∃ c,Blk w p.b c 129∧c[3]? = some (.string p.t)
 al:∀ p ∈ pls,AllC p.t p.A
theorem PlsAt.below {w w':World} {xb:Nat} {pls:List PlT} (h:PlsAt w xb pls) (k:Below w.heap.size w w'):PlsAt w' xb pls:=by
 obtain ⟨c,pv,h1,h2,h3⟩:=h.blk
 refine ⟨⟨c,pv,h1.below k,h2,ownsRow_kept (ex:=fun _=>False) h3 (Kept.ofBelow k) (fun _ _ e=>e)⟩,fun p hp=>?_,h.al⟩
 obtain ⟨c,h1,h2⟩:=h.pl p hp
 exact ⟨c,h1.below k,h2⟩
def twF (pls:List PlT) (a b:Nat):Bool:=pls.all (fun p=>p.A a == p.A b)
theorem twF_iff {pls:List PlT} {a b:Nat}:twF pls a b = true↔∀ p ∈ pls,p.A a = p.A b:=by simp [twF]
theorem twF_refl (pls:List PlT) (a:Nat):twF pls a a = true:=twF_iff.2 fun _ _=>rfl
theorem twF_trans {pls:List PlT} {a b c:Nat} (h:twF pls a b = true) (g:twF pls b c = true):twF pls a c = true:=twF_iff.2 fun p hp=>(twF_iff.1 h p hp).trans (twF_iff.1 g p hp)
theorem twF_drop {pls:List PlT} {a b i:Nat} (h:i < pls.length):twF (pls.drop i) a b = ((pls[i].A a == pls[i].A b) && twF (pls.drop (i + 1)) a b):=by
 rw [List.drop_eq_getElem_cons h]; rfl
theorem Below_drew' (w:World):Below w.heap.size w w.drew:=⟨rfl,rfl,rfl,Nat.le_refl _,fun _ _=>rfl⟩
set_option maxRecDepth 20000 in
set_option maxHeartbeats 3200000 in
theorem twin_any (pls:List PlT) (xb a b:Nat) (w:World) (h:PlsAt w xb pls) (ha:a < 256) (hb:b < 256) (hn:pls.length ≤ 1000) :
  Calls Tryz.prog 54 #[.pointer (some ⟨xb,0,none⟩),.int .i64 (a:Int),.int .i64 (b:Int)] w fun e w'=>e = .returned (.bool (twF pls a b))∧Below w.heap.size w w':=by
 obtain ⟨TW,hTW⟩:∃ TW,twF pls a b = TW:=⟨_,rfl⟩
 rw [hTW]
 have HTW:=hide hTW
 have HP:=hide h
 clear hTW h
 go_enter Tryz.func54,Tryz.ntmps54
 go_wp2_with fail
 go_loopg [7] pls.length (fun G iv wr=>∃ i:Nat,iv = .int .i64 (i:Int)∧i ≤ pls.length∧G = pls.length - i∧twF (pls.drop i) a b = TW∧Below w.heap.size w wr)
 case atStart=>exact ⟨0,rfl,by omega,rfl,by simpa using HTW.out,Below.refl _ _⟩
 case round =>
  obtain ⟨i,rfl,hi,rfl,hinv,hbl⟩:=hrel
  have hz:=hbl.size
  have hP:=HP.out.below hbl
  obtain ⟨cx,pv,hx1,hx2,hx3⟩:=hP.blk
  have c2:wr.cell? ⟨xb,2,none⟩ = some pv:=by rw [hx1.cell]; exact hx2
  obtain ⟨_,pd,pcap,rfl,hprow⟩:=ownsRow_form hx3
  by_cases hlt:i < pls.length
  ·have e0:decide ((i:Int) < (pls.length:Int)) = true:=by simp; omega
   rcases hprow with ⟨_,e⟩ | ⟨pg,pc,rfl,hpb,_⟩
   ·omega
   have cg:wr.cell? ⟨pg,i,none⟩ = some (.pointer (some ⟨pls[i].b,0,none⟩)):=by rw [ownsRow_cell hx3 i (by omega)]; simp [ptrs,hlt]
   obtain ⟨cp,hp1,hp2⟩:=hP.pl pls[i] (List.getElem_mem hlt)
   have c3:wr.cell? ⟨pls[i].b,3,none⟩ = some (.string pls[i].t):=by rw [hp1.cell]; exact hp2
   have HA:=hide (hP.al pls[i] (List.getElem_mem hlt))
   unfold AllC at HA
   have hdr:=twF_drop (a:=a) (b:=b) hlt
   rw [hdr] at hinv
   generalize pls[i].A = A at HA hinv
   generalize pls[i].b = pb at cg c3 hp1
   generalize pls[i].t = pt at c3 HA
   have i0:(0:Int) ≤ (i:Int):=by omega
   have i1:(i:Int) < (pls.length:Int):=by omega
   have z1:=hx1.lt
   have z2:=hpb.lt
   have z3:=hp1.lt
   have HI:=hide (And.intro hinv hbl)
   clear hinv hbl hP hx1 hx2 hx3 hpb hp1 hp2 hdr
   go_upto_region 4 with fail
   go_cut [41] (fun bv wx=>bv = .bool (A a != A b)∧Below wr.heap.size wr wx)
   case first =>
    have S0:wr.drew.cell? ⟨xb,2,none⟩ = some (.slice (some ⟨pg,0,none⟩) pls.length pcap)∧wr.drew.cell? ⟨pg,i,none⟩ = some (.pointer (some ⟨pb,0,none⟩))∧wr.drew.cell? ⟨pb,3,none⟩ = some (.string pt):=⟨c2,cg,c3⟩
    go_region_held3 (fun W=>W.cell? ⟨xb,2,none⟩ = some (.slice (some ⟨pg,0,none⟩) pls.length pcap)∧W.cell? ⟨pg,i,none⟩ = some (.pointer (some ⟨pb,0,none⟩))∧W.cell? ⟨pb,3,none⟩ = some (.string pt))
     (first | with_reducible exact S0 | with_reducible exact S1 | with_reducible exact S2)
     (first
      |(go_at_call_of 97 (Value.int IntKind.i64 (a:Int)); with_reducible refine (HA.out a _ ha).mono ?_; rintro e w1 ⟨rfl,hb1⟩; have hb1':=(Below_drew' wr).trans (hb1.mono (Nat.le_refl _)); have g0:=(hb1'.cell (p:=⟨xb,2,none⟩) z1).trans c2; have g1:=(hb1'.cell (p:=⟨pg,i,none⟩) z2).trans cg; have g2:=(hb1'.cell (p:=⟨pb,3,none⟩) z3).trans c3; have S1:=And.intro g0 (And.intro g1 g2); clear hb1)
      |(go_at_call_of 97 (Value.int IntKind.i64 (b:Int)); with_reducible refine (HA.out b _ hb).mono ?_; rintro e w2 ⟨rfl,hb2⟩; have hb2':=hb1'.trans (hb2.mono hb1'.size); have k0:=(hb2'.cell (p:=⟨xb,2,none⟩) z1).trans c2; have k1:=(hb2'.cell (p:=⟨pg,i,none⟩) z2).trans cg; have k2:=(hb2'.cell (p:=⟨pb,3,none⟩) z3).trans c3; have S2:=And.intro k0 (And.intro k1 k2); clear hb2))
    all_goals
     go_wp2_with fail
     go_meet
     exact ⟨rfl,hb2'⟩
   case rest =>
    obtain ⟨rfl,hbc⟩:=hcut
    have HB:=hide hbc
    clear hbc c2 cg c3
    generalize hxx:(A a != A b) = xx
    have hx2:(A a == A b) = !xx:=by rw [← hxx]; simp [bne]
    have HX:=hide hx2
    clear hxx hx2
    cases xx with
    |true =>
     go_wp2_with fail
     go_ret
     obtain ⟨a1,a2⟩:=HI.out
     rw [HX.out] at a1
     simp only [Bool.not_true,Bool.false_and] at a1
     refine ⟨by rw [← a1]; rfl,a2.trans (HB.out.mono hz)⟩
    |false =>
     go_wp2_with fail
     go_roundg (pls.length - (i + 1))
     case measure=>omega
     case rel =>
      obtain ⟨a1,a2⟩:=HI.out
      rw [HX.out] at a1
      simp only [Bool.not_false,Bool.true_and] at a1
      exact ⟨i + 1,by go_num,by omega,rfl,a1,a2.trans (HB.out.mono hz)⟩
  ·obtain rfl:i = pls.length:=by omega
   have e0:decide ((pls.length:Int) < (pls.length:Int)) = false:=by simp
   have HI:=hide (And.intro hinv hbl)
   clear hinv hbl hP hx1 hx2 hx3 hprow
   go_wp2_with fail
   go_ret
   obtain ⟨a1,a2⟩:=HI.out
   rw [List.drop_length] at a1
   exact ⟨by rw [← a1]; rfl,a2⟩
def LowB (pls:List PlT) (b k:Nat):Prop:=k ≤ b∧twF pls k b = true∧∀ j,j < k→twF pls j b = false
theorem LowB.step {pls:List PlT} {low:List Int} {b:Nat} (h:∀ c,c < b→∃ k:Nat,low.getD c 0 = (k:Int)∧LowB pls c k) {k:Nat} (hk:k ≤ b) (hn:∀ j,j < k→¬ (low.getD j 0 = (j:Int)∧twF pls j b = true)):∀ j,j < k→twF pls j b = false:=by
 intro j hj
 cases hh:twF pls j b with
 |false=>rfl
 |true =>
  exfalso
  obtain ⟨m,h1,h2,h3,h4⟩:=h j (by omega)
  obtain ⟨m',g1,g2,g3,g4⟩:=h m (by omega)
  have:m' = m:=by
   rcases Nat.lt_or_ge m' m with e | e
   ·have:=h4 m' e
    rw [twF_trans g3 h3] at this; cases this
   ·omega
  subst this
  exact hn m' (by omega) ⟨g1,twF_trans h3 hh⟩
set_option maxRecDepth 20000 in
set_option maxHeartbeats 3200000 in
theorem lowest_any (pls:List PlT) (xb:Nat) (w:World) (h:PlsAt w xb pls) (hn:pls.length ≤ 1000) :
  Calls Tryz.prog 29 #[.pointer (some ⟨xb,0,none⟩)] w fun e w'=>∃ v low,e = .returned v∧IRow w' v low∧low.length = 256∧(∀ b,b < 256→∃ k:Nat,low.getD b 0 = (k:Int)∧LowB pls b k)∧(∀ b,v.ownBlock = some b→w.heap.size ≤ b)∧Below w.heap.size w w':=by
 have HP:=hide h
 clear h
 go_enter Tryz.func29,Tryz.ntmps29
 go_wp2_with fail
 go_loopg [3,4] 256 (fun G lv bv wr=>∃ (b:Nat) (low:List Int),bv = .int .i64 (b:Int)∧b ≤ 256∧G = 256 - b∧IRow wr lv low∧low.length = b∧(∀ c,c < b→∃ k:Nat,low.getD c 0 = (k:Int)∧LowB pls c k)∧(∀ x,lv.ownBlock = some x→w.heap.size ≤ x)∧Below w.heap.size w wr)
 case atStart=>exact ⟨0,[],rfl,by omega,rfl,World.ownsRow_nil _ _ _ _,rfl,fun c hc=>by omega,fun x hx=>by simp [Value.ownBlock] at hx,Below.refl _ _⟩
 case round =>
  obtain ⟨b,low,rfl,hb,rfl,hrow,hlen,hlow,hlo,hbl⟩:=hrel
  have hz:=hbl.size
  obtain ⟨ld,lcap,rfl,hlrow⟩:=hrow.form
  rw [hlen] at hlrow
  by_cases hlt:b < 256
  ·have e0:decide ((b:Int) < 256) = true:=by simp; omega
   have HI:=hide (And.intro hrow (And.intro hlen (And.intro hlow (And.intro hlo hbl))))
   have HL:Hid (low.length = b):=hide hlen
   have hsz:(intsV low).length + 1 ≤ 4000000:=by rw [intsV_len]; omega
   obtain ⟨n,hnn⟩:∃ n,low.length = n:=⟨_,rfl⟩
   rw [hnn]
   have HN:=hide hnn
   clear hrow hlen hlow hlo hbl hnn
   obtain ⟨wo,rfl⟩:∃ wo:World,wo = wr:=⟨_,rfl⟩
   go_wp2_with fail
   go_loopg [5] b (fun G kv wi=>∃ k:Nat,kv = .int .i64 (k:Int)∧k ≤ b∧G = b - k∧(∀ j,j < k→¬ (low.getD j 0 = (j:Int)∧twF pls j b = true))∧Below wo.heap.size wo wi)
   case atStart=>exact ⟨0,rfl,by omega,rfl,fun j hj=>by omega,Below.refl _ _⟩
   case round =>
    obtain ⟨k,rfl,hk,rfl,hnot,hbi⟩:=hrel
    by_cases hkb:k < b
    ·have e1:decide ((k:Int) < (b:Int)) = true:=by simp; omega
     rcases hlrow with e | ⟨lg,rfl⟩
     ·omega
     have hnb:n = b:=HN.out.symm.trans HL.out
     have k0:(0:Int) ≤ (k:Int):=by omega
     have k1:(k:Int) < (n:Int):=by omega
     have cl:wr.cell? ⟨lg,k,none⟩ = some (.int .i64 (low.getD k 0)):=(HI.out.1.below hbi).getD k (by rw [HL.out]; exact hkb)
     generalize hlk:low.getD k 0 = lk at cl
     have HTW:=hide (fun W (hb:Below wr.heap.size wr W)=>twin_any pls xb k b W (((HP.out.below HI.out.2.2.2.2).below hbi).below hb) (by omega) hlt hn)
     by_cases hkk:lk = (k:Int)
     ·subst hkk
      have e2:((k:Int) == (k:Int)) = true:=by simp
      have HT1:=hide (HTW.out wr (Below.refl _ _))
      have HLK:=hide hlk
      have HNB:=hide hnb
      have HB:=hide (And.intro hnot hbi)
      clear HTW hlk hnb hnot hbi
      generalize htw:twF pls k b = tw at HT1
      have HTT:=hide htw
      clear htw
      cases tw with
      |true =>
       go_wp2_with fail
       refine HT1.out.mono ?_
       rintro e w1 ⟨rfl,hb1⟩
       obtain ⟨hnot,hbi0⟩:=HB.out
       have hbi:Below wo.heap.size wo w1:=hbi0.trans (hb1.mono hbi0.size)
       obtain ⟨wr,rfl⟩:∃ wr:World,wr = w1:=⟨_,rfl⟩
       obtain ⟨q1,q2,q3,q4,q5⟩:=HI.out
       have hb9:Below w.heap.size w wr:=q5.trans (hbi.mono hz)
       have hr9:IRow wr (.slice (some ⟨lg,0,none⟩) n lcap) low:=by have h9:=q1.below hbi; rw [HN.out] at h9; exact h9
       have hzi:=hbi.size
       have HR:=hide hr9.val
       have hlo9:Hid (∀ x,(Value.slice (some ⟨lg,0,none⟩) n lcap).ownBlock = some x→w.heap.size ≤ x):=by have h9:=q4; rw [HN.out] at h9; exact hide h9
       have HLB:Hid (LowB pls b k):=hide ⟨hk,HTT.out,LowB.step q3 hk hnot⟩
       have HB9:=hide hb9
       clear q1 q2 q3 q4 q5 hb9 hr9 hbi hnot hb1 hbi0 HB
       go_wp2_with (at_builtin; (refine append1 Tryz.underlying60 Tryz.infoI3 rfl (by omega) (la:=intsV low) (ll:=[.int .i64 (k:Int)]) (va:=.slice (some ⟨lg,0,none⟩) n lcap) (vl:=.slice (some ⟨wr.heap.size,0,none⟩) 1 1) (by rfl) _ _ (by rfl) (by rfl) (by rfl) (rowAl HR.out _) (one_row wr 3 (.int .i64 (k:Int))) (fun u hu=>by rw [List.mem_singleton] at hu; rw [hu]; rfl) w.heap.size (by simp; omega) hlo9.out hsz ?_))
       intro v6 w6 r1 r2 r3
       have HK:Hid (IRow w6 v6 (low ++ [(k:Int)])∧(∀ x,v6.ownBlock = some x→w.heap.size ≤ x)∧Below w.heap.size w w6):=by
        refine hide ⟨IRow.ofVal ?_,r2,?_⟩
        ·have e9:intsV (low ++ [(k:Int)]) = intsV low ++ [.int .i64 (k:Int)]:=by simp [intsV]
         rw [e9,List.length_append]; exact r1
        ·exact Below_kept (HB9.out.alloc (by omega) _) r3 (by simp; omega) (fun x hx e=>by have:=hlo9.out x e; omega)
       clear r1 r2 r3 HR hlo9 HB9 hsz
       go_wp2_with fail
       go_roundg (256 - (b + 1))
       case measure=>omega
       case rel =>
        obtain ⟨q1,q2,q3,q4,q5⟩:=HI.out
        obtain ⟨k1,k2,k3⟩:=HK.out
        refine ⟨b + 1,low ++ [(k:Int)],by go_num,by omega,rfl,k1,by rw [List.length_append,q2]; rfl,fun c hc=>?_,k2,k3⟩
        by_cases hcb:c < b
        ·obtain ⟨m,m1,m2⟩:=q3 c hcb
         exact ⟨m,by rw [List.getD_eq_getElem?_getD,List.getElem?_append_left (by omega),← List.getD_eq_getElem?_getD]; exact m1,m2⟩
        ·have hcb2:c = b:=by omega
         subst hcb2
         exact ⟨k,by rw [List.getD_eq_getElem?_getD,List.getElem?_append_right (by omega),q2]; simp,HLB.out⟩
      |false =>
       go_wp2_with fail
       refine HT1.out.mono ?_
       rintro e w1 ⟨rfl,hb1⟩
       have HB1:=hide hb1
       clear hb1 HT1
       go_wp2_with fail
       go_roundg (b - (k + 1))
       case measure=>omega
       case rel =>
        obtain ⟨hnot,hbi0⟩:=HB.out
        refine ⟨k + 1,by go_num,by omega,rfl,fun j hj=>?_,hbi0.trans (HB1.out.mono hbi0.size)⟩
        by_cases hjk:j < k
        ·exact hnot j hjk
        ·have:j = k:=by omega
         subst this
         rw [HTT.out]; simp
     ·have e2:(lk == (k:Int)) = false:=by simp; exact hkk
      have HB:=hide (And.intro hnot (And.intro hbi (And.intro hlk hkk)))
      clear HTW hlk hnb hnot hbi hkk
      go_wp2_with fail
      go_roundg (b - (k + 1))
      case measure=>omega
      case rel =>
       obtain ⟨hnot,hbi0,hlk,hkk⟩:=HB.out
       refine ⟨k + 1,by go_num,by omega,rfl,fun j hj=>?_,hbi0⟩
       by_cases hjk:j < k
       ·exact hnot j hjk
       ·have:j = k:=by omega
        subst this
        exact fun e=>hkk (hlk.symm.trans e.1)
    ·obtain rfl:k = b:=by omega
     have e1:decide ((k:Int) < (k:Int)) = false:=by simp
     obtain ⟨q1,q2,q3,q4,q5⟩:=HI.out
     have hb9:Below w.heap.size w wr:=q5.trans (hbi.mono hz)
     have hr9:IRow wr (.slice ld n lcap) low:=by have h9:=q1.below hbi; rw [HN.out] at h9; exact h9
     have hzi:=hbi.size
     have HR:=hide hr9.val
     have hlo9:Hid (∀ x,(Value.slice ld n lcap).ownBlock = some x→w.heap.size ≤ x):=by have h9:=q4; rw [HN.out] at h9; exact hide h9
     have HLB:Hid (LowB pls k k):=hide ⟨hk,twF_refl _ _,LowB.step q3 hk hnot⟩
     have HB9:=hide hb9
     clear q1 q2 q3 q4 q5 hb9 hr9 hbi hnot
     go_wp2_with (at_builtin; (refine append1 Tryz.underlying60 Tryz.infoI3 rfl (by omega) (la:=intsV low) (ll:=[.int .i64 (k:Int)]) (va:=.slice ld n lcap) (vl:=.slice (some ⟨wr.heap.size,0,none⟩) 1 1) (by rfl) _ _ (by rfl) (by rfl) (by rfl) (rowAl HR.out _) (one_row wr 3 (.int .i64 (k:Int))) (fun u hu=>by rw [List.mem_singleton] at hu; rw [hu]; rfl) w.heap.size (by simp; omega) hlo9.out hsz ?_))
     intro v6 w6 r1 r2 r3
     have HK:Hid (IRow w6 v6 (low ++ [(k:Int)])∧(∀ x,v6.ownBlock = some x→w.heap.size ≤ x)∧Below w.heap.size w w6):=by
      refine hide ⟨IRow.ofVal ?_,r2,?_⟩
      ·have e9:intsV (low ++ [(k:Int)]) = intsV low ++ [.int .i64 (k:Int)]:=by simp [intsV]
       rw [e9,List.length_append]; exact r1
      ·exact Below_kept (HB9.out.alloc (by omega) _) r3 (by simp; omega) (fun x hx e=>by have:=hlo9.out x e; omega)
     clear r1 r2 r3 HR hlo9 HB9 hsz
     go_wp2_with fail
     go_roundg (256 - (k + 1))
     case measure=>omega
     case rel =>
      obtain ⟨q1,q2,q3,q4,q5⟩:=HI.out
      obtain ⟨k1,k2,k3⟩:=HK.out
      refine ⟨k + 1,low ++ [(k:Int)],by go_num,by omega,rfl,k1,by rw [List.length_append,q2]; rfl,fun c hc=>?_,k2,k3⟩
      by_cases hcb:c < k
      ·obtain ⟨m,m1,m2⟩:=q3 c hcb
       exact ⟨m,by rw [List.getD_eq_getElem?_getD,List.getElem?_append_left (by omega),← List.getD_eq_getElem?_getD]; exact m1,m2⟩
      ·have hcb2:c = k:=by omega
       subst hcb2
       exact ⟨c,by rw [List.getD_eq_getElem?_getD,List.getElem?_append_right (by omega),q2]; simp,HLB.out⟩
  ·obtain rfl:b = 256:=by omega
   have e0:decide (((256:Nat):Int) < 256) = false:=by simp
   have HI:=hide (And.intro hrow (And.intro hlen (And.intro hlow (And.intro hlo hbl))))
   clear hrow hlow hlo hbl hlen
   go_wp2_with fail
   go_ret
   obtain ⟨q1,q2,q3,q4,q5⟩:=HI.out
   exact ⟨_,low,rfl,q1,q2,q3,q4,q5⟩
def onlyL (i n:Nat):List Bool:=(List.replicate n false).set i true
theorem onlyL_len (i n:Nat):(onlyL i n).length = n:=by simp [onlyL]
theorem onlyL_getD {i n q:Nat} (hi:i < n) (hq:q < n):(onlyL i n).getD q false = decide (q = i):=by
 unfold onlyL
 rw [getD_setB _ _ _ _ (by simp; exact hi)]
 by_cases h:q = i
 ·simp [h]
 ·simp [h,hq]
set_option maxHeartbeats 1600000 in
theorem refOnly_any (i n:Nat) (w:World) (hi:i < n) (hn:n ≤ 50000):Calls Tryz.prog 126 #[.int .i64 (i:Int),.int .i64 (n:Int)] w fun e w'=>e = .returned (.slice (some ⟨w.heap.size,0,none⟩) n n)∧Blk w' w.heap.size (boolsA (onlyL i n)) 4∧Below w.heap.size w w':=by
 have hmk:=makeBools n (by omega)
 have hB:=Blk.new w (boolsA (List.replicate n false)) 4
 have c0:=boolsA_cellD hB i (by simp; exact hi)
 have f0:=hB.frozen i
 have i0:(0:Int) ≤ (i:Int):=by omega
 have i1:(i:Int) < (n:Int):=by omega
 have HB:=hide hB
 clear hB
 go_enter Tryz.func126,Tryz.ntmps126
 go_wp2_with fail
 go_ret
 refine ⟨rfl,?_,Below1 _ _⟩
 rw [boolsA_set]
 exact Blk.new _ _ _
def orL:List Bool→List Bool→List Bool
 |a :: l,b :: m=>(a || b) :: orL l m
 |l,_=>l
theorem orL_len:∀ l m:List Bool,(orL l m).length = l.length
 | [],m=>by cases m <;> simp [orL]
 |a :: l,[]=>by simp [orL]
 |a :: l,b :: m=>by simp [orL,orL_len l m]
theorem orL_getD:∀ (l m:List Bool) (i:Nat),i < l.length→i < m.length→(orL l m).getD i false = (l.getD i false || m.getD i false)
 | [],m,i,h,_=>by simp at h
 |a :: l,[],i,_,h=>by simp at h
 |a :: l,b :: m,0,_,_=>by simp [orL]
 |a :: l,b :: m,i + 1,h,g=>by
  have:=orL_getD l m i (by simpa using h) (by simpa using g)
  simpa [orL] using this
set_option maxRecDepth 20000 in
set_option maxHeartbeats 3200000 in
theorem refAdd_any (g n cap:Nat) (l m:List Bool) (v:Value) (w:World) (hl:Blk w g (boolsA l) 4) (hm:BRow w v m) (hln:l.length = n) (hmn:m.length = n) (hg:v.ownBlock ≠ some g) (hn:n ≤ 50000) :
  Calls Tryz.prog 140 #[.slice (some ⟨g,0,none⟩) n cap,v] w fun e w'=>e = .returned (.tuple #[])∧Blk w' g (boolsA (orL l m)) 4∧Kept (fun x=>x = g) w w':=by
 obtain ⟨md,mcap,rfl,hmr⟩:=hm.form
 rw [hmn] at hmr
 have HL:=hide (And.intro hl (And.intro hm (And.intro hln (And.intro hmn hg))))
 obtain ⟨k,hk⟩:∃ k,m.length = k:=⟨_,rfl⟩
 rw [hk]
 have hkn:k = n:=hk.symm.trans hmn
 have HK:=hide hk
 clear hl hm hln hmn hg hk
 go_enter Tryz.func140,Tryz.ntmps140
 go_wp2_with fail
 go_loopg [4] n (fun G iv wr=>∃ (i:Nat) (l':List Bool),iv = .int .i64 (i:Int)∧i ≤ n∧G = n - i∧l'.length = n∧(∀ q,q < n→l'.getD q false = if q < i then (orL l m).getD q false else l.getD q false)∧Blk wr g (boolsA l') 4∧Kept (fun x=>x = g) w wr)
 case atStart=>exact ⟨0,l,rfl,by omega,rfl,HL.out.2.2.1,fun q hq=>by simp,HL.out.1,Kept.refl _ _⟩
 case round =>
  obtain ⟨i,l',rfl,hi,rfl,hll,hsp,hB,hkp⟩:=hrel
  by_cases hlt:i < n
  ·have e0:decide ((i:Int) < (n:Int)) = true:=by simp; omega
   rcases hmr with e | ⟨mg,rfl⟩
   ·omega
   have hne:mg ≠ g:=fun e=>HL.out.2.2.2.2 (by rw [e]; rfl)
   have cO:=boolsA_cellD hB i (by rw [hll]; exact hlt)
   have fO:=hB.frozen i
   have hmw:BRow wr (.slice (some ⟨mg,0,none⟩) m.length mcap) m:=HL.out.2.1.kept hkp (fun b' hb' e=>by cases (Option.some.inj hb':mg = b'); exact hne e)
   have cE:=hmw.cellD i (by rw [HL.out.2.2.2.1]; exact hlt)
   have hso:=hsp i hlt
   rw [if_neg (by omega)] at hso
   have hor:=orL_getD l m i (by rw [HL.out.2.2.1]; exact hlt) (by rw [HL.out.2.2.2.1]; exact hlt)
   rw [← hso] at hor
   generalize hx:l'.getD i false = x at cO hor
   generalize m.getD i false = y at cE hor
   have i0:(0:Int) ≤ (i:Int):=by omega
   have i1:(i:Int) < (n:Int):=by omega
   have i2:(i:Int) < (k:Int):=by omega
   have HI:=hide (And.intro hll (And.intro hsp (And.intro hB (And.intro hkp hor))))
   clear hll hsp hB hkp hor hmw hso hx
   cases x <;> cases y
   all_goals
    go_wp2_with fail
    go_roundg (n - (i + 1))
    case measure=>omega
    case rel =>
     obtain ⟨a1,a2,a3,a4,a5⟩:=HI.out
     refine ⟨i + 1,l'.set i _,by go_num,by omega,rfl,by simp [a1],fun q hq=>?_,by rw [← boolsA_set]; exact a3.set i _,a4.setCell (p:=⟨g,i,none⟩) (fun _=>rfl) _⟩
     rw [getD_setB _ _ _ _ (by omega)]
     by_cases hqi:q = i
     ·subst hqi
      rw [if_pos rfl,if_pos (by omega),a5]; rfl
     ·rw [if_neg hqi,a2 q hq]
      by_cases hq2:q < i
      ·rw [if_pos hq2,if_pos (by omega)]
      ·rw [if_neg hq2,if_neg (by omega)]
  ·obtain rfl:i = n:=by omega
   have e0:decide ((i:Int) < (i:Int)) = false:=by simp
   have HI:=hide (And.intro hll (And.intro hsp (And.intro hB hkp)))
   clear hll hsp hB hkp
   go_wp2_with fail
   go_end0
   obtain ⟨a1,a2,a3,a4⟩:=HI.out
   have:l' = orL l m:=by
    refine bools_ext (by rw [a1,orL_len,HL.out.2.2.1]) fun q=>?_
    by_cases hq:q < i
    ·rw [a2 q hq,if_pos hq]
    ·rw [List.getD_eq_getElem?_getD,List.getElem?_eq_none (by omega),List.getD_eq_getElem?_getD,List.getElem?_eq_none (by rw [orL_len,HL.out.2.2.1]; omega)]
   rw [← this]
   exact ⟨rfl,a3,a4⟩
mutual
def MT.subs:MT→List MT
 | .place b i e A=>[.place b i e A]
 | .node b v k l=>.node b v k l :: subsL l
def subsL:List MT→List MT
 | []=>[]
 |y :: l=>y.subs ++ subsL l
end
theorem MT.sub_self (T:MT):T ∈ T.subs:=by cases T <;> simp [MT.subs]
theorem subsL_mem {l:List MT} {y T:MT} (hy:y ∈ l) (h:T ∈ y.subs):T ∈ subsL l:=by
 induction l with
 |nil=>simp at hy
 |cons x l ih =>
  rw [List.mem_cons] at hy
  simp only [subsL,List.mem_append]
  rcases hy with rfl | hy
  ·exact .inl h
  ·exact .inr (ih hy)
mutual
theorem MT.subs_kid:∀ (U T:MT),T ∈ U.subs→∀ b v k l,T = .node b v k l→∀ y ∈ l,y ∈ U.subs
 | .place b i e A,T,h,b',v,k,l,hT,y,hy=>by
  simp only [MT.subs,List.mem_singleton] at h
  rw [h] at hT; cases hT
 | .node b0 v0 k0 l0,T,h,b',v,k,l,hT,y,hy=>by
  simp only [MT.subs,List.mem_cons] at h ⊢
  rcases h with h | h
  ·rw [h] at hT
   injection hT with e1 e2 e3 e4
   subst e4
   exact .inr (subsL_mem hy (MT.sub_self y))
  ·exact .inr (subsL_kid l0 T h b' v k l hT y hy)
theorem subsL_kid:∀ (L:List MT) (T:MT),T ∈ subsL L→∀ b v k l,T = .node b v k l→∀ y ∈ l,y ∈ subsL L
 | [],T,h,_,_,_,_,_,_,_=>by simp [subsL] at h
 |x :: L,T,h,b',v,k,l,hT,y,hy=>by
  simp only [subsL,List.mem_append] at h ⊢
  rcases h with h | h
  ·exact .inl (MT.subs_kid x T h b' v k l hT y hy)
  ·exact .inr (subsL_kid L T h b' v k l hT y hy)
end
mutual
theorem MT.At.sub {w:World} {s:ByteArray} {f:Nat→Int}:∀ (U T:MT),U.At w s f→T ∈ U.subs→T.At w s f
 | .place b i e A,T,h,hT=>by
  simp only [MT.subs,List.mem_singleton] at hT
  rw [hT]; exact h
 | .node b v k l,T,h,hT=>by
  simp only [MT.subs,List.mem_cons] at hT
  rcases hT with hT | hT
  ·rw [hT]; exact h
  ·simp only [MT.At] at h
   exact AtL.sub l T h.2.2 hT
theorem AtL.sub {w:World} {s:ByteArray} {f:Nat→Int}:∀ (l:List MT) (T:MT),AtL w s f l→T ∈ subsL l→T.At w s f
 | [],T,h,hT=>by simp [subsL] at hT
 |y :: l,T,h,hT=>by
  simp only [AtL] at h
  simp only [subsL,List.mem_append] at hT
  rcases hT with hT | hT
  ·exact MT.At.sub y T h.1 hT
  ·exact AtL.sub l T h.2 hT
end
mutual
theorem MT.Numd.sub {f:Nat→Int}:∀ (U T:MT) (n:Nat),U.Numd f n→T ∈ U.subs→∃ m,n ≤ m∧m + T.nt.parts ≤ n + U.nt.parts∧T.Numd f m
 | .place b i e A,T,n,h,hT=>by
  simp only [MT.subs,List.mem_singleton] at hT
  subst hT
  exact ⟨n,Nat.le_refl _,Nat.le_refl _,h⟩
 | .node b v k l,T,n,h,hT=>by
  simp only [MT.subs,List.mem_cons] at hT
  rcases hT with hT | hT
  ·subst hT; exact ⟨n,Nat.le_refl _,Nat.le_refl _,h⟩
  ·simp only [MT.Numd] at h
   obtain ⟨m,h1,h2,h3⟩:=NumdL.sub l T (n + 1) h.2 hT
   simp only [MT.nt,NT.parts]
   exact ⟨m,by omega,by omega,h3⟩
theorem NumdL.sub {f:Nat→Int}:∀ (l:List MT) (T:MT) (n:Nat),NumdL f l n→T ∈ subsL l→∃ m,n ≤ m∧m + T.nt.parts ≤ n + partsL (ntL l)∧T.Numd f m
 | [],T,n,h,hT=>by simp [subsL] at hT
 |y :: l,T,n,h,hT=>by
  simp only [NumdL] at h
  simp only [subsL,List.mem_append] at hT
  simp only [ntL,partsL]
  rcases hT with hT | hT
  ·obtain ⟨m,h1,h2,h3⟩:=MT.Numd.sub y T n h.1 hT
   exact ⟨m,h1,by omega,h3⟩
  ·obtain ⟨m,h1,h2,h3⟩:=NumdL.sub l T _ h.2 hT
   exact ⟨m,by omega,by omega,h3⟩
end
theorem MT.Numd.root {f:Nat→Int} {T:MT} {n:Nat} (h:T.Numd f n):f T.root = (n:Int):=by
 cases T with
 |place=>simpa [MT.Numd,MT.root] using h
 |node=>simp only [MT.Numd] at h; exact h.1
mutual
theorem MT.Numd.one {f:Nat→Int}:∀ (U:MT) (n:Nat),U.Numd f n→∀ T T',T ∈ U.subs→T' ∈ U.subs→f T.root = f T'.root→T = T'
 | .place b i e A,n,h,T,T',hT,hT',_=>by
  simp only [MT.subs,List.mem_singleton] at hT hT'
  rw [hT,hT']
 | .node b v k l,n,h,T,T',hT,hT',he=>by
  have h0:=h
  simp only [MT.Numd] at h
  simp only [MT.subs,List.mem_cons] at hT hT'
  have key:∀ S,S ∈ subsL l→f S.root ≠ f (MT.node b v k l).root:=fun S hS e=>by
   obtain ⟨m,h1,h2,h3⟩:=NumdL.sub l S (n + 1) h.2 hS
   rw [h3.root,h0.root] at e; omega
  rcases hT with hT | hT
  ·rcases hT' with hT' | hT'
   ·rw [hT,hT']
   ·exact absurd (by rw [← he,hT]) (key T' hT')
  ·rcases hT' with hT' | hT'
   ·exact absurd (by rw [he,hT']) (key T hT)
   ·exact NumdL.one l (n + 1) h.2 T T' hT hT' he
theorem NumdL.one {f:Nat→Int}:∀ (l:List MT) (n:Nat),NumdL f l n→∀ T T',T ∈ subsL l→T' ∈ subsL l→f T.root = f T'.root→T = T'
 | [],n,h,T,T',hT,_,_=>by simp [subsL] at hT
 |y :: l,n,h,T,T',hT,hT',he=>by
  simp only [NumdL] at h
  simp only [subsL,List.mem_append] at hT hT'
  have key:∀ S S',S ∈ y.subs→S' ∈ subsL l→f S.root ≠ f S'.root:=fun S S' hS hS' e=>by
   obtain ⟨m,h1,h2,h3⟩:=MT.Numd.sub y S n h.1 hS
   obtain ⟨m',g1,g2,g3⟩:=NumdL.sub l S' _ h.2 hS'
   have:=S.nt.parts_pos
   rw [h3.root,g3.root] at e; omega
  rcases hT with hT | hT
  ·rcases hT' with hT' | hT'
   ·exact MT.Numd.one y n h.1 T T' hT hT' he
   ·exact absurd he (key T T' hT hT')
  ·rcases hT' with hT' | hT'
   ·exact absurd he.symm (key T' T hT' hT)
   ·exact NumdL.one l _ h.2 T T' hT hT' he
end
structure AlC where
 ab:Nat
 bg:Nat
 bcap:Nat
 wg:Nat
 wcap:Nat
 R:Nat→Nat
 U:Nat→Nat
 s:ByteArray
 rs:ByteArray
 f:Nat→Int
 rules:List MT
def AlC.N (c:AlC):Nat:=c.s.size + 1
def AlC.parts (c:AlC):Nat:=partsL (ntL c.rules)
def AlC.lang (c:AlC) (n:Nat) (w:List Nat):Prop:=∃ T ∈ subsL c.rules,c.f T.root = (n:Int)∧T.nt.Word w
theorem AlC.ltN {c:AlC} {p:Nat}:p < c.N↔p ≤ c.s.size:=by unfold AlC.N; omega
theorem rowA_len (c:AlC) (P:List Nat→Prop) (p:Nat):(rowW (bytesN c.s) P p).length = c.N:=by rw [rowW_len,bytesN_len]; rfl
def AlC.M (c:AlC) (b:Nat):Prop:=∃ n,n < c.parts∧b = c.R n
def AFound (c:AlC) (A:Nat→Prop) (w:World) (n:Nat):Prop:=∃ cs:Array Value,Blk w (c.R n) cs 130∧cs.size = c.N∧∀ p,p ≤ c.s.size→cs[p]? = some (.slice none 0 0)∨∃ b,cs[p]? = some (.slice (some ⟨b,0,none⟩) c.N c.N)∧¬ A b∧BRow w (.slice (some ⟨b,0,none⟩) c.N c.N) (rowW (bytesN c.s) (c.lang n) p)
structure AMemo (c:AlC) (A:Nat→Prop) (w:World):Prop where
 blk:Blk w c.ab #[.string c.s,.slice (some ⟨c.bg,0,none⟩) c.parts c.bcap,.slice (some ⟨c.wg,0,none⟩) c.parts c.wcap] 216
 by':∃ cs:Array Value,Blk w c.bg cs 131∧∀ n,n < c.parts→cs[n]? = some (.slice (some ⟨c.R n,0,none⟩) c.N c.N)
 was:∃ cs:Array Value,Blk w c.wg cs 130∧∀ n,n < c.parts→cs[n]? = some (.slice (some ⟨c.U n,0,none⟩) c.N c.N)
 rows:∀ n,n < c.parts→AFound c A w n
 wrow:∀ n,n < c.parts→A (c.U n)∧∃ l:List Bool,l.length = c.N∧Blk w (c.U n) (boolsA l) 4
 inj:∀ m n,m < c.parts→n < c.parts→c.R m = c.R n→m = n
 injU:∀ m n,m < c.parts→n < c.parts→c.U m = c.U n→m = n
 nwg:∀ n,n < c.parts→c.R n ≠ c.wg
 prt:AtL w c.rs c.f c.rules
 num:NumdL c.f c.rules 0
theorem AMemo.lang {c:AlC} {A:Nat→Prop} {w:World} (h:AMemo c A w) {T:MT} (hT:T ∈ subsL c.rules) {n:Nat} (hn:c.f T.root = (n:Int)):c.lang n = T.nt.Word:=by
 funext u
 refine propext ⟨?_,fun hu=>⟨T,hT,hn,hu⟩⟩
 rintro ⟨T',h1,h2,h3⟩
 rw [NumdL.one c.rules 0 h.num T T' hT h1 (by rw [hn,h2])]
 exact h3
theorem AMemo.id {c:AlC} {A:Nat→Prop} {w:World} (h:AMemo c A w) {T:MT} (hT:T ∈ subsL c.rules):∃ n,n < c.parts∧c.f T.root = (n:Int):=by
 obtain ⟨m,h1,h2,h3⟩:=NumdL.sub c.rules T 0 h.num hT
 have:=T.nt.parts_pos
 exact ⟨m,by unfold AlC.parts; omega,h3.root⟩
theorem AMemo.weak {c:AlC} {A B:Nat→Prop} {w:World} (h:AMemo c A w) (hb:∀ b,B b→A b) (hU:∀ n,n < c.parts→B (c.U n)):AMemo c B w:=by
 refine ⟨h.blk,h.by',h.was,fun n hn=>?_,fun n hn=>⟨hU n hn,(h.wrow n hn).2⟩,h.inj,h.injU,h.nwg,h.prt,h.num⟩
 obtain ⟨cs,h1,h2,h3⟩:=h.rows n hn
 refine ⟨cs,h1,h2,fun p hp=>?_⟩
 rcases h3 p hp with e | ⟨b,e1,e2,e3⟩
 ·exact .inl e
 ·exact .inr ⟨b,e1,fun e=>e2 (hb b e),e3⟩
theorem AMemo.type {c:AlC} {A:Nat→Prop} {w:World} (h:AMemo c A w) {b:Nat} (hb:c.M b):∃ cs,Blk w b cs 130:=by
 obtain ⟨n,hn,rfl⟩:=hb
 obtain ⟨cs,h1,_⟩:=h.rows n hn
 exact ⟨cs,h1⟩
theorem AMemo.not {c:AlC} {A:Nat→Prop} {w:World} (h:AMemo c A w) {b:Nat} {cs:Array Value} {t:TypeId} (hb:Blk w b cs t) (ht:t ≠ 130):¬ c.M b:=fun e=>by
 obtain ⟨cs',h'⟩:=h.type e
 exact ht (hb.one h').2
theorem AMemo.brow {c:AlC} {A:Nat→Prop} {w w':World} (h:AMemo c A w) (k:Kept c.M w w') {v:Value} {l:List Bool} (hr:BRow w v l):BRow w' v l :=
 hr.kept k (fun b hb e=>by
  obtain ⟨cs,h1⟩:=h.type e
  exact ownsRow_ne hr h1 (by decide) hb)
mutual
theorem MT.At.type {w:World} {s:ByteArray} {f:Nat→Int} {b:Nat} {cs:Array Value} {t:TypeId} (hb:Blk w b cs t) (h1:t ≠ 129) (h2:t ≠ 80):∀ (T:MT),T.At w s f→¬ T.has b
 | .place b' i e A,h,hx=>by
  simp only [MT.At] at h
  simp only [MT.has] at hx
  subst hx
  exact h1 (hb.one h).2
 | .node b' v k l,h,hx=>by
  simp only [MT.At] at h
  simp only [MT.has] at hx
  rcases hx with hx | hx | hx
  ·subst hx; exact h1 (hb.one h.1).2
  ·exact ownsRow_ne h.2.1 hb h2 hx
  ·exact AtL.type hb h1 h2 l h.2.2 hx
theorem AtL.type {w:World} {s:ByteArray} {f:Nat→Int} {b:Nat} {cs:Array Value} {t:TypeId} (hb:Blk w b cs t) (h1:t ≠ 129) (h2:t ≠ 80):∀ (l:List MT),AtL w s f l→¬ hasL l b
 | [],h,hx=>by simp [hasL] at hx
 |y :: l,h,hx=>by
  simp only [AtL] at h
  simp only [hasL] at hx
  rcases hx with hx | hx
  ·exact MT.At.type hb h1 h2 y h.1 hx
  ·exact AtL.type hb h1 h2 l h.2 hx
end
theorem AMemo.below {c:AlC} {A:Nat→Prop} {w w':World} (h:AMemo c A w) (hb:Below w.heap.size w w'):AMemo c A w':=by
 refine ⟨h.blk.below hb,?_,?_,fun n hn=>?_,fun n hn=>?_,h.inj,h.injU,h.nwg,AtL.kept (ex:=fun _=>False) (Kept.ofBelow hb) _ h.prt (fun _ _ e=>e),h.num⟩
 ·obtain ⟨cs,h1,h2⟩:=h.by'
  exact ⟨cs,h1.below hb,h2⟩
 ·obtain ⟨cs,h1,h2⟩:=h.was
  exact ⟨cs,h1.below hb,h2⟩
 ·obtain ⟨cs,h1,h2,h3⟩:=h.rows n hn
  refine ⟨cs,h1.below hb,h2,fun p hp=>?_⟩
  rcases h3 p hp with e | ⟨b,e1,e2,e3⟩
  ·exact .inl e
  ·exact .inr ⟨b,e1,e2,e3.below hb⟩
 ·obtain ⟨h0,l,h1,h2⟩:=h.wrow n hn
  exact ⟨h0,l,h1,h2.below hb⟩
theorem AMemo.keptA {c:AlC} {A:Nat→Prop} {w w':World} {g:Nat} {cs0:Array Value} (h:AMemo c A w) (k:Kept (fun b=>b = g) w w') (hg:A g) (hgU:∀ n,n < c.parts→c.U n ≠ g) (hb:Blk w g cs0 4):AMemo c A w':=by
 refine ⟨h.blk.kept k (fun e=>?_),?_,?_,fun n hn=>?_,fun n hn=>?_,h.inj,h.injU,h.nwg,AtL.kept k _ h.prt (fun x hx e=>AtL.type hb (by decide) (by decide) _ h.prt (e ▸ hx)),h.num⟩
 ·have:=(h.blk.one (e ▸ hb)).2; revert this; decide
 ·obtain ⟨cs,h1,h2⟩:=h.by'
  exact ⟨cs,h1.kept k (fun e=>by have:=(h1.one (e ▸ hb)).2; revert this; decide),h2⟩
 ·obtain ⟨cs,h1,h2⟩:=h.was
  exact ⟨cs,h1.kept k (fun e=>by have:=(h1.one (e ▸ hb)).2; revert this; decide),h2⟩
 ·obtain ⟨cs,h1,h2,h3⟩:=h.rows n hn
  refine ⟨cs,h1.kept k (fun e=>by have:=(h1.one (e ▸ hb)).2; revert this; decide),h2,fun p hp=>?_⟩
  rcases h3 p hp with e | ⟨b,e1,e2,e3⟩
  ·exact .inl e
  ·exact .inr ⟨b,e1,e2,e3.kept k (fun b' hb' e=>by cases (Option.some.inj hb':b = b'); exact e2 (e ▸ hg))⟩
 ·obtain ⟨h0,l,h1,h2⟩:=h.wrow n hn
  exact ⟨h0,l,h1,h2.kept k (hgU n hn)⟩
theorem AMemo.setU {c:AlC} {A:Nat→Prop} {w:World} (h:AMemo c A w) {n p:Nat} (hn:n < c.parts):AMemo c A (w.setCell ⟨c.U n,p,none⟩ (.bool true)):=by
 have k:Kept (fun b=>b = c.U n) w (w.setCell ⟨c.U n,p,none⟩ (.bool true)):=(Kept.refl (fun b=>b = c.U n) _).setCell (p:=⟨c.U n,p,none⟩) (fun _=>rfl) _
 obtain ⟨hg,l0,hl0,hb⟩:=h.wrow n hn
 refine ⟨h.blk.kept k (fun e=>?_),?_,?_,fun m hm=>?_,fun m hm=>?_,h.inj,h.injU,h.nwg,AtL.kept k _ h.prt (fun x hx e=>AtL.type hb (by decide) (by decide) _ h.prt (e ▸ hx)),h.num⟩
 ·have:=(h.blk.one (e ▸ hb)).2; revert this; decide
 ·obtain ⟨cs,h1,h2⟩:=h.by'
  exact ⟨cs,h1.kept k (fun e=>by have:=(h1.one (e ▸ hb)).2; revert this; decide),h2⟩
 ·obtain ⟨cs,h1,h2⟩:=h.was
  exact ⟨cs,h1.kept k (fun e=>by have:=(h1.one (e ▸ hb)).2; revert this; decide),h2⟩
 ·obtain ⟨cs,h1,h2,h3⟩:=h.rows m hm
  refine ⟨cs,h1.kept k (fun e=>by have:=(h1.one (e ▸ hb)).2; revert this; decide),h2,fun q hq=>?_⟩
  rcases h3 q hq with e | ⟨b,e1,e2,e3⟩
  ·exact .inl e
  ·exact .inr ⟨b,e1,e2,e3.kept k (fun b' hb' e=>by cases (Option.some.inj hb':b = b'); exact e2 (e ▸ hg))⟩
 ·by_cases e:m = n
  ·subst e
   refine ⟨hg,l0.set p true,by simp [hl0],?_⟩
   rw [← boolsA_set]; exact hb.set p _
  ·obtain ⟨h0,l,h1,h2⟩:=h.wrow m hm
   exact ⟨h0,l,h1,h2.kept k (fun e'=>e (h.injU m n hm hn e'))⟩
theorem AMemo.found {c:AlC} {A:Nat→Prop} {w:World} (h:AMemo c A w) {n p b:Nat} (hn:n < c.parts) (hp:p ≤ c.s.size) (hA:¬ A b) (hr:BRow w (.slice (some ⟨b,0,none⟩) c.N c.N) (rowW (bytesN c.s) (c.lang n) p)) :
  AMemo c A (w.setCell ⟨c.R n,p,none⟩ (.slice (some ⟨b,0,none⟩) c.N c.N))∧Kept c.M w (w.setCell ⟨c.R n,p,none⟩ (.slice (some ⟨b,0,none⟩) c.N c.N)):=by
 have hk:Kept c.M w (w.setCell ⟨c.R n,p,none⟩ (.slice (some ⟨b,0,none⟩) c.N c.N)):=(Kept.refl _ _).setCell (p:=⟨c.R n,p,none⟩) (fun _=>⟨n,hn,rfl⟩) _
 refine ⟨⟨h.blk.kept hk (h.not h.blk (by decide)),?_,?_,fun m hm=>?_,fun m hm=>?_,h.inj,h.injU,h.nwg,AtL.kept hk _ h.prt (fun x hx e=>?_),h.num⟩,hk⟩
 ·obtain ⟨cs,h1,h2⟩:=h.by'
  exact ⟨cs,h1.kept hk (h.not h1 (by decide)),h2⟩
 ·obtain ⟨cs,h1,h2⟩:=h.was
  exact ⟨cs,h1.kept hk (fun e=>by obtain ⟨m,hm,e⟩:=e; exact h.nwg m hm e.symm),h2⟩
 ·obtain ⟨cs,h1,h2,h3⟩:=h.rows m hm
  by_cases e:m = n
  ·subst e
   refine ⟨_,h1.set p _,by simp [h2],fun q hq=>?_⟩
   by_cases e:p = q
   ·subst e
    exact .inr ⟨b,by rw [Array.getElem?_setIfInBounds,if_pos rfl,if_pos (by rw [h2]; exact AlC.ltN.2 hp)],hA,h.brow hk hr⟩
   ·rcases h3 q hq with e1 | ⟨b',e1,e2,e3⟩
    ·exact .inl (by rw [Array.getElem?_setIfInBounds,if_neg e]; exact e1)
    ·exact .inr ⟨b',by rw [Array.getElem?_setIfInBounds,if_neg e]; exact e1,e2,h.brow hk e3⟩
  ·have hne:c.R m ≠ c.R n:=fun e'=>e (h.inj m n hm hn e')
   refine ⟨cs,h1.setOther (p:=⟨c.R n,p,none⟩) (fun e'=>hne e') _,h2,fun q hq=>?_⟩
   rcases h3 q hq with e1 | ⟨b',e1,e2,e3⟩
   ·exact .inl e1
   ·exact .inr ⟨b',e1,e2,h.brow hk e3⟩
 ·obtain ⟨h0,l,h1,h2⟩:=h.wrow m hm
  exact ⟨h0,l,h1,h2.kept hk (h.not h2 (by decide))⟩
 ·obtain ⟨cs,h1⟩:=h.type e
  exact AtL.type h1 (by decide) (by decide) _ h.prt hx
theorem AMemo.fresh {c:AlC} {A:Nat→Prop} {w:World} (h:AMemo c A w):AMemo c (fun b=>A b∨b = w.heap.size) w:=by
 refine ⟨h.blk,h.by',h.was,fun n hn=>?_,fun n hn=>⟨.inl (h.wrow n hn).1,(h.wrow n hn).2⟩,h.inj,h.injU,h.nwg,h.prt,h.num⟩
 obtain ⟨cs,h1,h2,h3⟩:=h.rows n hn
 refine ⟨cs,h1,h2,fun p hp=>?_⟩
 rcases h3 p hp with e | ⟨b,e1,e2,e3⟩
 ·exact .inl e
 ·refine .inr ⟨b,e1,fun e=>?_,e3⟩
  rcases e with e | e
  ·exact e2 e
  ·have:=ownsRow_lt e3 b rfl; omega
def ROut (c:AlC) (A:Nat→Prop) (w:World) (l:List Bool) (e:Ending) (w':World):Prop :=
 ∃ b,e = .returned (.slice (some ⟨b,0,none⟩) c.N c.N)∧¬ A b∧BRow w' (.slice (some ⟨b,0,none⟩) c.N c.N) l∧AMemo c A w'∧Kept c.M w w'
def EndsC (c:AlC) (T:MT):Prop:=∀ (A:Nat→Prop) (w:World) (p:Nat),(∀ b,A b→b < w.heap.size)→AMemo c A w→p ≤ c.s.size →
 Calls Tryz.prog 99 #[.pointer (some ⟨c.ab,0,none⟩),.pointer (some ⟨T.root,0,none⟩),.int .i64 (p:Int)] w (ROut c A w (rowW (bytesN c.s) T.nt.Word p))
def FindRC (c:AlC) (T:MT):Prop:=∀ (A:Nat→Prop) (w:World) (p:Nat),(∀ b,A b→b < w.heap.size)→AMemo c A w→p ≤ c.s.size →
 Calls Tryz.prog 131 #[.pointer (some ⟨c.ab,0,none⟩),.pointer (some ⟨T.root,0,none⟩),.int .i64 (p:Int)] w (ROut c A w (rowW (bytesN c.s) T.nt.Word p))
end Go.Proofs.YtcckhngbdoiikaaGreat
