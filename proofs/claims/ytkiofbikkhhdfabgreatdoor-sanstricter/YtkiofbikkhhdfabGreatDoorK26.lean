import Derived.Test.YtkiofbikkhhdfabGreatDoorK18
import Derived.Test.YtkiofbikkhhdfabGreatDoorRaw
import Derived.Test.YtkiofbikkhhdfabGreatDoorK04
import Derived.Test.YtkiofbikkhhdfabGreatDoorK14
import Derived.Deep.RegionHeld3
import Derived.Laws.EntriesVeiled
import Derived.Test.YtkiofbikkhhdfabGreatDoorK12
namespace Go.Proofs.YtkiofbikkhhdfabGreatDoor
open Go.RowKit
open Utf1 Pol8
set_option maxRecDepth 100000 in
set_option maxHeartbeats 8000000 in
theorem pdropped_any (n:ByteArray) (w:World) :
  Calls Tryz.prog 68 #[.string n] w fun e w'=>e=.returned (.bool (San.dropB (bl n)))/\w'=w:=by
 have C0:=hide (Dm.raw_any n)
 obtain⟨R,hR⟩:∃ R,R=San.dropB (bl n):=⟨_,rfl⟩
 rw[<-hR]
 unfold San.dropB at hR
 have g0:=eq_lit n [101,109,98,101,100]
 by_cases h0:bl n=[101,109,98,101,100]
 ·rw[decide_eq_true h0] at g0
  have HR:Hid (R=true):=hide (by rw[hR,decide_eq_true (show bl n∈San.dropL by rw[h0];decide),Bool.or_true])
  clear hR C0 h0
  go_enter Tryz.func68,Tryz.ntmps68
  go_wp2_with fail
  go_ret
  rw[HR.out]
  exact⟨rfl,rfl⟩
 rw[decide_eq_false h0] at g0
 have g1:=eq_lit n [102,111,114,109]
 by_cases h1:bl n=[102,111,114,109]
 ·rw[decide_eq_true h1] at g1
  have HR:Hid (R=true):=hide (by rw[hR,decide_eq_true (show bl n∈San.dropL by rw[h1];decide),Bool.or_true])
  clear hR C0 h0 h1
  go_enter Tryz.func68,Tryz.ntmps68
  go_wp2_with fail
  go_ret
  rw[HR.out]
  exact⟨rfl,rfl⟩
 rw[decide_eq_false h1] at g1
 have g2:=eq_lit n [109,97,116,104]
 by_cases h2:bl n=[109,97,116,104]
 ·rw[decide_eq_true h2] at g2
  have HR:Hid (R=true):=hide (by rw[hR,decide_eq_true (show bl n∈San.dropL by rw[h2];decide),Bool.or_true])
  clear hR C0 h0 h1 h2
  go_enter Tryz.func68,Tryz.ntmps68
  go_wp2_with fail
  go_ret
  rw[HR.out]
  exact⟨rfl,rfl⟩
 rw[decide_eq_false h2] at g2
 have g3:=eq_lit n [111,98,106,101,99,116]
 by_cases h3:bl n=[111,98,106,101,99,116]
 ·rw[decide_eq_true h3] at g3
  have HR:Hid (R=true):=hide (by rw[hR,decide_eq_true (show bl n∈San.dropL by rw[h3];decide),Bool.or_true])
  clear hR C0 h0 h1 h2 h3
  go_enter Tryz.func68,Tryz.ntmps68
  go_wp2_with fail
  go_ret
  rw[HR.out]
  exact⟨rfl,rfl⟩
 rw[decide_eq_false h3] at g3
 have g4:=eq_lit n [115,101,108,101,99,116]
 by_cases h4:bl n=[115,101,108,101,99,116]
 ·rw[decide_eq_true h4] at g4
  have HR:Hid (R=true):=hide (by rw[hR,decide_eq_true (show bl n∈San.dropL by rw[h4];decide),Bool.or_true])
  clear hR C0 h0 h1 h2 h3 h4
  go_enter Tryz.func68,Tryz.ntmps68
  go_wp2_with fail
  go_ret
  rw[HR.out]
  exact⟨rfl,rfl⟩
 rw[decide_eq_false h4] at g4
 have g5:=eq_lit n [115,118,103]
 by_cases h5:bl n=[115,118,103]
 ·rw[decide_eq_true h5] at g5
  have HR:Hid (R=true):=hide (by rw[hR,decide_eq_true (show bl n∈San.dropL by rw[h5];decide),Bool.or_true])
  clear hR C0 h0 h1 h2 h3 h4 h5
  go_enter Tryz.func68,Tryz.ntmps68
  go_wp2_with fail
  go_ret
  rw[HR.out]
  exact⟨rfl,rfl⟩
 rw[decide_eq_false h5] at g5
 have g6:=eq_lit n [116,101,109,112,108,97,116,101]
 by_cases h6:bl n=[116,101,109,112,108,97,116,101]
 ·rw[decide_eq_true h6] at g6
  have HR:Hid (R=true):=hide (by rw[hR,decide_eq_true (show bl n∈San.dropL by rw[h6];decide),Bool.or_true])
  clear hR C0 h0 h1 h2 h3 h4 h5 h6
  go_enter Tryz.func68,Tryz.ntmps68
  go_wp2_with fail
  go_ret
  rw[HR.out]
  exact⟨rfl,rfl⟩
 rw[decide_eq_false h6] at g6
 have g7:=eq_lit n [110,111,115,99,114,105,112,116]
 by_cases h7:bl n=[110,111,115,99,114,105,112,116]
 ·rw[decide_eq_true h7] at g7
  have HR:Hid (R=true):=hide (by rw[hR,decide_eq_true (show bl n∈San.dropL by rw[h7];decide),Bool.or_true])
  clear hR C0 h0 h1 h2 h3 h4 h5 h6 h7
  go_enter Tryz.func68,Tryz.ntmps68
  go_wp2_with fail
  go_ret
  rw[HR.out]
  exact⟨rfl,rfl⟩
 rw[decide_eq_false h7] at g7
 have g8:=eq_lit n [102,114,97,109,101,115,101,116]
 by_cases h8:bl n=[102,114,97,109,101,115,101,116]
 ·rw[decide_eq_true h8] at g8
  have HR:Hid (R=true):=hide (by rw[hR,decide_eq_true (show bl n∈San.dropL by rw[h8];decide),Bool.or_true])
  clear hR C0 h0 h1 h2 h3 h4 h5 h6 h7 h8
  go_enter Tryz.func68,Tryz.ntmps68
  go_wp2_with fail
  go_ret
  rw[HR.out]
  exact⟨rfl,rfl⟩
 rw[decide_eq_false h8] at g8
 have HR:Hid (R=(rawOf (bl n)).isSome):=hide (by
  rw[hR,decide_eq_false,Bool.or_false]
  simp only[San.dropL,List.mem_cons,List.not_mem_nil,or_false,not_or]
  exact⟨h0,h1,h2,h3,h4,h5,h6,h7,h8⟩)
 clear h0 h1 h2 h3 h4 h5 h6 h7 h8 hR
 generalize (rawOf (bl n)).getD false=g at C0
 generalize (rawOf (bl n)).isSome=r1 at C0 HR
 go_enter Tryz.func68,Tryz.ntmps68
 go_wp2_with fail
 refine (C0.out _).mono ?_
 rintro e w1 ⟨rfl,rfl⟩
 clear C0
 go_wp2_with fail
 go_ret
 rw[HR.out]
 exact⟨rfl,rfl⟩
end Go.Proofs.YtkiofbikkhhdfabGreatDoor
namespace Go.Proofs.YtkiofbikkhhdfabGreatDoor
open Go.RowKit
open Utf1 Pol8
def BoxQ (w:World) (A B:Array Value) (wx:World):Prop:=wx.heap[w.heap.size]?=some (.cells A 24 (0,0))/\wx.heap[w.heap.size+1]?=some (.cells B 24 (0,0))/\Below w.heap.size w wx
theorem BoxQ.keep {w wx wy:World}{A B:Array Value}(h:BoxQ w A B wx)(hb:Below wx.heap.size wx wy):BoxQ w A B wy :=
 ⟨(hb.block _ (Array.getElem?_eq_some_iff.1 h.1).1).trans h.1,(hb.block _ (Array.getElem?_eq_some_iff.1 h.2.1).1).trans h.2.1,h.2.2.trans (hb.mono h.2.2.size)⟩
theorem BoxQ.a {w wx:World}{A B:Array Value}(h:BoxQ w A B wx) (i:Nat) (v:Value)(hv:A[i]?=some v):wx.cell? ⟨w.heap.size,i,none⟩=some v:=tag_cell h.1 i v hv
theorem BoxQ.b {w wx:World}{A B:Array Value}(h:BoxQ w A B wx) (i:Nat) (v:Value)(hv:B[i]?=some v):wx.cell? ⟨w.heap.size+1,i,none⟩=some v:=tag_cell h.2.1 i v hv
theorem BoxQ.new (w:World) (A B:Array Value):BoxQ w A B ((w.alloc (.cells A 24)).alloc (.cells B 24)):=by
 have s1:(w.alloc (.cells A 24)).heap.size=w.heap.size+1:=by simp
 have k2:=new_block (w.alloc (.cells A 24)) B 24
 rw[s1] at k2
 refine⟨?_,k2,bel_alloc (bel_alloc (Below.refl _ _) _) _⟩
 rw[Below.heap_alloc _ _ _ (by rw[s1];omega)]
 exact new_block _ _ _
end Go.Proofs.YtkiofbikkhhdfabGreatDoor
namespace Go.Proofs.YtkiofbikkhhdfabGreatDoor
open Go.RowKit
open Utf1 Pol8
theorem wpAnyH_to {P:Program}{ops:Array Oper}{Q:Exit->Act->World->Prop}{md:Region.Mode}{S:World->Prop}{i:Nat}{oi:Oper}{v:Value}{fuel:Nat}{listed:Array Bool}{a a1:Act}{w:World}(hi:ops[i]?=some oi)
  (hs:Region.noSelect ops=true)(hf:Region.free md ops listed i=true)(hr:(Region.ready md ops listed).contains i=true)
  (hQ:∀ c a w,Q (.panic c) (a.put oi.dst v) w->Q (.panic c) a w)(hy:YieldsIf P ops S oi v a)(hS:S w)(ha:a.put oi.dst v=a1)
  (h:wpAnyH P md ops Q S fuel (listed.setIfInBounds i true) a1 w):wpAnyH P md ops Q S (fuel+1) listed a w:=by
 subst ha
 exact wpAnyH_take hi hs hf hr hQ hy hS h
def stF (l:List L) (x:L):Bool:=inL l x || inL l (star x)
set_option maxRecDepth 100000 in
set_option maxHeartbeats 8000000 in
theorem pstays_any (Bv B:Nat) (l:List L) (x:ByteArray)(hx:x.size<=100000) (w:World)(hb:w.heap[Bv]?=some (.cells #[inV B] 49 (0,0)))(hq:InQ B l w) :
  Calls Tryz.prog 39 #[.string x,.pointer (some ⟨Bv,0,none⟩)] w fun e w'=>e=.returned (.bool (stF l (bl x)))/\Below w.heap.size w w':=by
 obtain⟨X2,hX2⟩:∃ X2:ByteArray,X2=⟨(star (bl x)).toArray⟩:=⟨_,rfl⟩
 obtain⟨t1,ht1⟩:∃ t,t=inL l (bl x):=⟨_,rfl⟩
 obtain⟨t2,ht2⟩:∃ t,t=inL l (bl X2):=⟨_,rfl⟩
 obtain⟨R,hR⟩:∃ R,R=stF l (bl x):=⟨_,rfl⟩
 rw[<-hR]
 have HAL:Hid (R=(t1 || t2)):=hide (by rw[hR,ht1,ht2,hX2];rfl)
 have C1:Hid (∀ wx,Below w.heap.size w wx->Calls Tryz.prog 76 #[.string x,.pointer (some ⟨B,0,none⟩)] wx fun e w'=>e=.returned (.bool t1)/\Below w.heap.size w w'):=hide (fun wx h=>by rw[ht1];exact (hq wx x h).mono fun _ _ ⟨h1,h2⟩=>⟨h1,h2 ▸ h⟩)
 have C2:Hid (∀ wx,Below w.heap.size w wx->Calls Tryz.prog 76 #[.string X2,.pointer (some ⟨B,0,none⟩)] wx fun e w'=>e=.returned (.bool t2)/\Below w.heap.size w w'):=hide (fun wx h=>by rw[ht2];exact (hq wx X2 h).mono fun _ _ ⟨h1,h2⟩=>⟨h1,h2 ▸ h⟩)
 have C3:Hid (∀ wx,Below w.heap.size w wx->Calls Tryz.prog 40 #[.string x] wx fun e w'=>e=.returned (.string X2)/\Below w.heap.size w w'):=hide (fun wx h=>by rw[hX2];exact (pofAll_any x hx wx).mono fun _ _ ⟨h1,h2⟩=>⟨h1,bel2 h h2⟩)
 have SK:Hid (∀ wx,Below w.heap.size w wx->wx.cell? ⟨Bv,0,none⟩=some (inV B)/\Hid (Below w.heap.size w wx)):=hide (fun wx h=>⟨tag_cell ((h.block _ (Array.getElem?_eq_some_iff.1 hb).1).trans hb) 0 _ rfl,hide h⟩)
 have SB:Hid (∀ wx,(wx.cell? ⟨Bv,0,none⟩=some (inV B)/\Hid (Below w.heap.size w wx))->Below w.heap.size w wx):=hide (fun wx h=>h.2.out)
 clear hb hq hR ht1 ht2 hX2 hx
 cases t1 with
 | true =>
  have HR:Hid (R=true):=hide (by rw[HAL.out];rfl)
  clear HAL C2 C3
  go_enter Tryz.func39,Tryz.ntmps39
  go_wp2_with fail
  refine wp_region_held_drew (S:=(fun wx=>wx.cell? ⟨Bv,0,none⟩=some (inV B)/\Hid (Below w.heap.size w wx))) (by kernel_rfl) (SK.out _ ((Below.refl _ _).drew)) (fun hHeld=>?_)
  refine wpAnyH_to (i:=0) (v:=?vq0) (a1:=?xq0) rfl (by kernel_rfl) (by kernel_rfl) (by kernel_rfl) (fun _ _ _ h=>h) (Or.inl ⟨by rfl,?yq0⟩) (by assumption) ?hq0 ?zq0
  case yq0=>(intro w hSw;(try dsimp only at hSw);go_simp;try (with_reducible rfl))
  case hq0=>(go_simp;exact rfl)
  case zq0 =>
  refine wpAnyH_to (i:=1) (v:=?vq1) (a1:=?xq1) rfl (by kernel_rfl) (by kernel_rfl) (by kernel_rfl) (fun _ _ _ h=>h) (Or.inl ⟨by rfl,?yq1⟩) (by assumption) ?hq1 ?zq1
  case yq1=>(intro w hSw;(try dsimp only at hSw);go_simp;try (with_reducible rfl))
  case hq1=>(go_simp;exact rfl)
  case zq1 =>
  refine wpAnyH_ready (rs:=[2]) (by kernel_rfl) (by simp) ?_
  refine AllReadyH.cons rfl (fun K hK=>?_) AllReadyH.nil
  go_simp
  refine (C1.out _ (SB.out _ (by assumption))).mono ?_
  rintro e w6 ⟨rfl,h6⟩
  try go_wp2_with fail
  refine hK.out _ _ (SK.out _ (by assumption)) (fun hHeld2=>?_)
  clear hK K hHeld
  have hHeld:=hHeld2
  clear hHeld2
  refine wpAnyH_to (i:=3) (v:=?vq3) (a1:=?xq3) rfl (by kernel_rfl) (by kernel_rfl) (by kernel_rfl) (fun _ _ _ h=>h) (Or.inl ⟨by rfl,?yq3⟩) (by assumption) ?hq3 ?zq3
  case yq3=>(intro w hSw;(try dsimp only at hSw);go_simp;try (with_reducible rfl))
  case hq3=>(go_simp;exact rfl)
  case zq3 =>
  refine wpAnyH_to (i:=4) (v:=undef) (a1:=?xq4) rfl (by kernel_rfl) (by kernel_rfl) (by kernel_rfl) (fun _ _ _ h=>h) (Or.inr ⟨by rfl,rfl⟩) (by assumption) ?hq4 ?zq4
  case hq4=>(go_simp;exact rfl)
  case zq4 =>
  refine wpAnyH_to (i:=5) (v:=undef) (a1:=?xq5) rfl (by kernel_rfl) (by kernel_rfl) (by kernel_rfl) (fun _ _ _ h=>h) (Or.inr ⟨by rfl,rfl⟩) (by assumption) ?hq5 ?zq5
  case hq5=>(go_simp;exact rfl)
  case zq5 =>
  refine wpAnyH_to (i:=6) (v:=undef) (a1:=?xq6) rfl (by kernel_rfl) (by kernel_rfl) (by kernel_rfl) (fun _ _ _ h=>h) (Or.inr ⟨by rfl,rfl⟩) (by assumption) ?hq6 ?zq6
  case hq6=>(go_simp;exact rfl)
  case zq6 =>
  refine wpAnyH_to (i:=7) (v:=undef) (a1:=?xq7) rfl (by kernel_rfl) (by kernel_rfl) (by kernel_rfl) (fun _ _ _ h=>h) (Or.inr ⟨by rfl,rfl⟩) (by assumption) ?hq7 ?zq7
  case hq7=>(go_simp;exact rfl)
  case zq7 =>
  refine wpAnyH_to (i:=8) (v:=?vq8) (a1:=?xq8) rfl (by kernel_rfl) (by kernel_rfl) (by kernel_rfl) (fun _ _ _ h=>h) (Or.inl ⟨by rfl,?yq8⟩) (by assumption) ?hq8 ?zq8
  case yq8=>(intro w hSw;(try dsimp only at hSw);go_simp;try (with_reducible rfl))
  case hq8=>(go_simp;exact rfl)
  case zq8 =>
  refine wpAnyH_to (i:=9) (v:=?vq9) (a1:=?xq9) rfl (by kernel_rfl) (by kernel_rfl) (by kernel_rfl) (fun _ _ _ h=>h) (Or.inl ⟨by rfl,?yq9⟩) (by assumption) ?hq9 ?zq9
  case yq9=>(intro w hSw;(try dsimp only at hSw);go_simp;try (with_reducible rfl))
  case hq9=>(go_simp;exact rfl)
  case zq9 =>
  refine wpAnyH_done (by kernel_rfl) ?_ _
  have H7:=hide (SB.out _ (by assumption))
  clear C1 SK SB
  go_wp2_with fail
  go_ret
  rw[HR.out]
  exact⟨rfl,H7.out⟩
 | false =>
  have HR:Hid (R=t2):=hide (by rw[HAL.out];rfl)
  clear HAL
  cases t2
  all_goals
   go_enter Tryz.func39,Tryz.ntmps39
   go_wp2_with fail
   go_region_held3 (fun wx=>wx.cell? ⟨Bv,0,none⟩=some (inV B)/\Hid (Below w.heap.size w wx))
    (first | exact SK.out _ ((Below.refl _ _).drew) | exact SK.out _ (by assumption))
    (first
     | (go_at_call 76;first | (refine (C1.out _ (SB.out _ (by assumption))).mono ?_;rintro e w6 ⟨rfl,h6⟩) | (refine (C2.out _ (SB.out _ (by assumption))).mono ?_;rintro e w6 ⟨rfl,h6⟩))
     | (go_at_call 40;refine (C3.out _ (SB.out _ (by assumption))).mono ?_;rintro e w6 ⟨rfl,h6⟩))
   all_goals
    have H7:=hide (SB.out _ (by assumption))
    clear C1 C2 C3 SK SB
    go_wp2_with fail
    go_ret
    rw[HR.out]
    exact⟨rfl,H7.out⟩
theorem tells_st (Bv B:Nat) (l:List L) (w:World)(hb:w.heap[Bv]?=some (.cells #[inV B] 49 (0,0)))(hq:InQ B l w):Tells 39 #[.pointer (some ⟨Bv,0,none⟩)] (stF l) w:=by
 intro W x hx hbb
 rw[show (#[.string x]++#[.pointer (some ⟨Bv,0,none⟩)]:Array Value)=#[.string x,.pointer (some ⟨Bv,0,none⟩)] by simp]
 exact pstays_any Bv B l x hx W ((hbb.block _ (Array.getElem?_eq_some_iff.1 hb).1).trans hb) (hq.later hbb)
theorem ent_st:∀ args w,(callFunc 39 args).run Tryz.prog w=.ok (.enter 39 args) w:=enters_of Tryz.func39 (by kernel_rfl) rfl
end Go.Proofs.YtkiofbikkhhdfabGreatDoor
namespace Go.Proofs.YtkiofbikkhhdfabGreatDoor
open Go.RowKit
open Utf1 Pol8

/-- Two policies' blocks,and the variable that holds the closure over the second one's attributes. -/
def BoxS (w:World) (A B:Array Value) (N B0:Nat) (l:List L) (wx:World):Prop:=BoxQ w A B wx/\wx.heap[N]?=some (.cells #[inV B0] 49 (0,0))/\InQ B0 l wx
theorem BoxS.keep {w wx wy:World}{A B:Array Value}{N B0:Nat}{l:List L}(h:BoxS w A B N B0 l wx)(hb:Below wx.heap.size wx wy):BoxS w A B N B0 l wy :=
 ⟨h.1.keep hb,(hb.block _ (Array.getElem?_eq_some_iff.1 h.2.1).1).trans h.2.1,h.2.2.later hb⟩
theorem hto {P:Program}{ops:Array Oper}{Q:Exit->Act->World->Prop}{md:Region.Mode}{S:World->Prop}(i:Nat) {oi:Oper}{v:Value}{fuel:Nat}{listed:Array Bool}{a a1:Act}{w:World}(hi:ops[i]?=some oi)(hy:∀ w,S w->(execOp a.eval oi).run P w=.ok (.value v) w)(ha:a.put oi.dst v=a1)
  (h:wpAnyH P md ops Q S fuel (listed.setIfInBounds i true) a1 w)(hwd:Region.wanted oi (yielded ops a.tmps)=true:=by rfl)(hs:Region.noSelect ops=true:=by kernel_rfl)(hf:Region.free md ops listed i=true:=by kernel_rfl)(hr:(Region.ready md ops listed).contains i=true:=by kernel_rfl)
  (hQ:∀ c a w,Q (.panic c) (a.put oi.dst v) w->Q (.panic c) a w:=by exact fun _ _ _ h=>h)(hS:S w:=by assumption):wpAnyH P md ops Q S (fuel+1) listed a w:=wpAnyH_to hi hs hf hr hQ (Or.inl ⟨hwd,hy⟩) hS ha h
theorem hno {P:Program}{ops:Array Oper}{Q:Exit->Act->World->Prop}{md:Region.Mode}{S:World->Prop}(i:Nat) {oi:Oper}{fuel:Nat}{listed:Array Bool}{a a1:Act}{w:World}(hi:ops[i]?=some oi)(ha:a.put oi.dst undef=a1)
  (h:wpAnyH P md ops Q S fuel (listed.setIfInBounds i true) a1 w)(hwd:Region.wanted oi (yielded ops a.tmps)=false:=by rfl)(hs:Region.noSelect ops=true:=by kernel_rfl)(hf:Region.free md ops listed i=true:=by kernel_rfl)(hr:(Region.ready md ops listed).contains i=true:=by kernel_rfl)
  (hQ:∀ c a w,Q (.panic c) (a.put oi.dst undef) w->Q (.panic c) a w:=by exact fun _ _ _ h=>h)(hS:S w:=by assumption):wpAnyH P md ops Q S (fuel+1) listed a w:=wpAnyH_to hi hs hf hr hQ (Or.inr ⟨hwd,rfl⟩) hS ha h
theorem if3 {β:Type}(f:Bool->β) (a6 c6 a7 c7 a8 c8:Int):(if a6=c6 then (if a7=c7 then (if a8=c8 then f true else f false) else f false) else f false)=f ((a6==c6) && ((a7==c7) && (a8==c8))):=by
 by_cases h6:a6=c6
 ·by_cases h7:a7=c7
  ·by_cases h8:a8=c8
   ·rw[if_pos h6,if_pos h7,if_pos h8,h6,h7,h8]
    simp
   ·rw[if_pos h6,if_pos h7,if_neg h8,beq_eq_false_iff_ne.2 h8]
    simp
  ·rw[if_pos h6,if_neg h7,beq_eq_false_iff_ne.2 h7]
   simp
 ·rw[if_neg h6,beq_eq_false_iff_ne.2 h6]
  simp
def capLe (a6 a7 a8 b6 b7 b8:Int):Bool:=decide (a6<=b6/\a7<=b7/\a8<=b8)
theorem capLe_is (a6 a7 a8 b6 b7 b8:Int):capLe a6 a7 a8 b6 b7 b8=((a6==min a6 b6) && ((a7==min a7 b7) && (a8==min a8 b8))):=by
 unfold capLe
 apply Bool.eq_iff_iff.2
 simp only[decide_eq_true_eq,Bool.and_eq_true,beq_iff_eq]
 omega
def allF (f:L->Bool) (l:List L):Bool:=l.all f
theorem strict_prog (p q:Pol):stricter p q=(allF (inL q.el) p.el && (allF (stF q.at_) p.at_ && (allF (inL q.sc) p.sc && (allF (inL q.cl) p.cl && (allF (inL q.pr) p.pr && capLe p.dp p.nd p.bt q.dp q.nd q.bt))))):=by
 apply Bool.eq_iff_iff.2
 unfold stricter sub allF stF inL capLe
 simp only[Bool.and_eq_true,decide_eq_true_eq,List.all_eq_true,Bool.or_eq_true]
 constructor
 ·rintro ⟨h1,h2,h3⟩
  exact⟨h2,h1,h3⟩
 ·rintro ⟨h2,h1,h3⟩
  exact⟨h1,h2,h3⟩

set_option maxRecDepth 100000 in
set_option maxHeartbeats 64000000 in
theorem pstrict_any:StricterC:=by
 intro v1 v2 v3 v4 v5 u1 u2 u3 u4 u5 p q l1 l2 l3 l4 l5 m1 m2 m3 m4 m5 w hv hu hf hg
 obtain⟨f1,z1⟩:=fits_of hf (by simp) hv.e1
 obtain⟨g1,-⟩:=fits_of hg (by simp) hu.e1
 obtain⟨f2,z2⟩:=fits_of hf (by simp) hv.e2
 obtain⟨g2,-⟩:=fits_of hg (by simp) hu.e2
 obtain⟨f3,z3⟩:=fits_of hf (by simp) hv.e3
 obtain⟨g3,-⟩:=fits_of hg (by simp) hu.e3
 obtain⟨f4,z4⟩:=fits_of hf (by simp) hv.e4
 obtain⟨g4,-⟩:=fits_of hg (by simp) hu.e4
 obtain⟨f5,z5⟩:=fits_of hf (by simp) hv.e5
 obtain⟨g5,-⟩:=fits_of hg (by simp) hu.e5
 obtain⟨R,hR⟩:∃ R,R=stricter p q:=⟨_,rfl⟩
 rw[<-hR]
 have HAL:Hid (R=(allF (inL (m1.map bl)) (l1.map bl) && (allF (stF (m2.map bl)) (l2.map bl) && (allF (inL (m3.map bl)) (l3.map bl) && (allF (inL (m4.map bl)) (l4.map bl) && (allF (inL (m5.map bl)) (l5.map bl) && ((p.dp==min p.dp q.dp) && ((p.nd==min p.nd q.nd) && (p.bt==min p.bt q.bt))))))))):=hide (by
  rw[<-capLe_is,hv.e1,hv.e2,hv.e3,hv.e4,hv.e5,hu.e1,hu.e2,hu.e3,hu.e4,hu.e5,hR]
  exact strict_prog p q)
 show Calls Tryz.prog 12 #[pvalL p.ep v1 v2 v3 v4 v5 p.dp p.nd p.bt,pvalL q.ep u1 u2 u3 u4 u5 q.dp q.nd q.bt] w _
 generalize p.ep=a0
 generalize p.dp=a6 at HAL ⊢
 generalize p.nd=a7 at HAL ⊢
 generalize p.bt=a8 at HAL ⊢
 generalize q.ep=b0
 generalize q.dp=b6 at HAL ⊢
 generalize q.nd=b7 at HAL ⊢
 generalize q.bt=b8 at HAL ⊢
 obtain⟨w1,hw1⟩:∃ w1,w1=(w.alloc (.cells #[.int .i64 a0,v1,v2,v3,v4,v5,.int .i64 a6,.int .i64 a7,.int .i64 a8] 24)).alloc (.cells #[.int .i64 b0,u1,u2,u3,u4,u5,.int .i64 b6,.int .i64 b7,.int .i64 b8] 24):=⟨_,rfl⟩
 have HN:Hid (BoxQ w #[.int .i64 a0,v1,v2,v3,v4,v5,.int .i64 a6,.int .i64 a7,.int .i64 a8] #[.int .i64 b0,u1,u2,u3,u4,u5,.int .i64 b6,.int .i64 b7,.int .i64 b8] w1):=hide (by rw[hw1];exact BoxQ.new w _ _)
 have CO:=hide (poneOf_any u2 m2 g2 w1 (hu.s2.below HN.out.2.2))
 have hmf:∀ (fn:Fn) (first cap:Array Value) (w:World),(Instr.makeFunc fn first cap).run Tryz.prog w=.ok (.func fn first cap) w:=fun _ _ _ _=>rfl
 have y2:w1.cell? ⟨w.heap.size+1,2,none⟩=some u2:=HN.out.b 2 _ rfl
 go_enter Tryz.func12,Tryz.ntmps12
 go_upto_region 1 with fail
 rw[<-hw1]
 clear hw1
 go_wp2_with fail
 refine CO.out.mono ?_
 rintro e w2 ⟨⟨B0,rfl,hq⟩,hb2⟩
 obtain⟨N,hN⟩:∃ N,N=w2.heap.size:=⟨_,rfl⟩
 obtain⟨w3,hw3⟩:∃ w3,w3=w2.alloc (.cells #[inV B0] 49):=⟨_,rfl⟩
 have hb3:Below w2.heap.size w2 w3:=by rw[hw3];exact bel_alloc (Below.refl _ _) _
 have HS:Hid (BoxS w #[.int .i64 a0,v1,v2,v3,v4,v5,.int .i64 a6,.int .i64 a7,.int .i64 a8] #[.int .i64 b0,u1,u2,u3,u4,u5,.int .i64 b6,.int .i64 b7,.int .i64 b8] N B0 (m2.map bl) w3):=hide ⟨HN.out.keep (bel2 hb2 hb3),by rw[hw3,hN];exact new_block _ _ _,hq.later hb3⟩
 have HW:=hide hw3
 clear hq hb2 hb3 y2 CO HN
 go_upto_region 3 with fail
 rw[<-hN,<-HW.out]
 clear HW hw3 hN hmf
 have SK:Hid (∀ wx,BoxS w #[.int .i64 a0,v1,v2,v3,v4,v5,.int .i64 a6,.int .i64 a7,.int .i64 a8] #[.int .i64 b0,u1,u2,u3,u4,u5,.int .i64 b6,.int .i64 b7,.int .i64 b8] N B0 (m2.map bl) wx->wx.cell? ⟨w.heap.size,0,none⟩=some (.int .i64 a0)/\wx.cell? ⟨w.heap.size,1,none⟩=some v1/\wx.cell? ⟨w.heap.size,2,none⟩=some v2/\wx.cell? ⟨w.heap.size,3,none⟩=some v3/\wx.cell? ⟨w.heap.size,4,none⟩=some v4/\wx.cell? ⟨w.heap.size,5,none⟩=some v5/\wx.cell? ⟨w.heap.size,6,none⟩=some (.int .i64 a6)/\wx.cell? ⟨w.heap.size,7,none⟩=some (.int .i64 a7)/\wx.cell? ⟨w.heap.size,8,none⟩=some (.int .i64 a8)/\wx.cell? ⟨w.heap.size+1,0,none⟩=some (.int .i64 b0)/\wx.cell? ⟨w.heap.size+1,1,none⟩=some u1/\wx.cell? ⟨w.heap.size+1,2,none⟩=some u2/\wx.cell? ⟨w.heap.size+1,3,none⟩=some u3/\wx.cell? ⟨w.heap.size+1,4,none⟩=some u4/\wx.cell? ⟨w.heap.size+1,5,none⟩=some u5/\wx.cell? ⟨w.heap.size+1,6,none⟩=some (.int .i64 b6)/\wx.cell? ⟨w.heap.size+1,7,none⟩=some (.int .i64 b7)/\wx.cell? ⟨w.heap.size+1,8,none⟩=some (.int .i64 b8)/\Hid (BoxS w #[.int .i64 a0,v1,v2,v3,v4,v5,.int .i64 a6,.int .i64 a7,.int .i64 a8] #[.int .i64 b0,u1,u2,u3,u4,u5,.int .i64 b6,.int .i64 b7,.int .i64 b8] N B0 (m2.map bl) wx)):=hide (fun wx h=>⟨h.1.a 0 _ rfl,h.1.a 1 _ rfl,h.1.a 2 _ rfl,h.1.a 3 _ rfl,h.1.a 4 _ rfl,h.1.a 5 _ rfl,h.1.a 6 _ rfl,h.1.a 7 _ rfl,h.1.a 8 _ rfl,h.1.b 0 _ rfl,h.1.b 1 _ rfl,h.1.b 2 _ rfl,h.1.b 3 _ rfl,h.1.b 4 _ rfl,h.1.b 5 _ rfl,h.1.b 6 _ rfl,h.1.b 7 _ rfl,h.1.b 8 _ rfl,hide h⟩)
 have SB:Hid (∀ wx,(wx.cell? ⟨w.heap.size,0,none⟩=some (.int .i64 a0)/\wx.cell? ⟨w.heap.size,1,none⟩=some v1/\wx.cell? ⟨w.heap.size,2,none⟩=some v2/\wx.cell? ⟨w.heap.size,3,none⟩=some v3/\wx.cell? ⟨w.heap.size,4,none⟩=some v4/\wx.cell? ⟨w.heap.size,5,none⟩=some v5/\wx.cell? ⟨w.heap.size,6,none⟩=some (.int .i64 a6)/\wx.cell? ⟨w.heap.size,7,none⟩=some (.int .i64 a7)/\wx.cell? ⟨w.heap.size,8,none⟩=some (.int .i64 a8)/\wx.cell? ⟨w.heap.size+1,0,none⟩=some (.int .i64 b0)/\wx.cell? ⟨w.heap.size+1,1,none⟩=some u1/\wx.cell? ⟨w.heap.size+1,2,none⟩=some u2/\wx.cell? ⟨w.heap.size+1,3,none⟩=some u3/\wx.cell? ⟨w.heap.size+1,4,none⟩=some u4/\wx.cell? ⟨w.heap.size+1,5,none⟩=some u5/\wx.cell? ⟨w.heap.size+1,6,none⟩=some (.int .i64 b6)/\wx.cell? ⟨w.heap.size+1,7,none⟩=some (.int .i64 b7)/\wx.cell? ⟨w.heap.size+1,8,none⟩=some (.int .i64 b8)/\Hid (BoxS w #[.int .i64 a0,v1,v2,v3,v4,v5,.int .i64 a6,.int .i64 a7,.int .i64 a8] #[.int .i64 b0,u1,u2,u3,u4,u5,.int .i64 b6,.int .i64 b7,.int .i64 b8] N B0 (m2.map bl) wx))->BoxS w #[.int .i64 a0,v1,v2,v3,v4,v5,.int .i64 a6,.int .i64 a7,.int .i64 a8] #[.int .i64 b0,u1,u2,u3,u4,u5,.int .i64 b6,.int .i64 b7,.int .i64 b8] N B0 (m2.map bl) wx):=hide (fun wx h=>h.2.2.2.2.2.2.2.2.2.2.2.2.2.2.2.2.2.2.out)
 have O1:Hid (∀ wx,BoxS w #[.int .i64 a0,v1,v2,v3,v4,v5,.int .i64 a6,.int .i64 a7,.int .i64 a8] #[.int .i64 b0,u1,u2,u3,u4,u5,.int .i64 b6,.int .i64 b7,.int .i64 b8] N B0 (m2.map bl) wx->Calls Tryz.prog 38 #[u1] wx fun e w'=>∃ B,e=.returned (inV B)/\Hid (InQ B (m1.map bl) w')/\BoxS w #[.int .i64 a0,v1,v2,v3,v4,v5,.int .i64 a6,.int .i64 a7,.int .i64 a8] #[.int .i64 b0,u1,u2,u3,u4,u5,.int .i64 b6,.int .i64 b7,.int .i64 b8] N B0 (m2.map bl) w'):=hide (fun wx h=>(poneOf_any u1 m1 g1 wx (hu.s1.below h.1.2.2)).mono fun e w' ⟨⟨B,h1,h2⟩,h3⟩=>⟨B,h1,hide h2,h.keep h3⟩)
 have E1:Hid (∀ B wx,BoxS w #[.int .i64 a0,v1,v2,v3,v4,v5,.int .i64 a6,.int .i64 a7,.int .i64 a8] #[.int .i64 b0,u1,u2,u3,u4,u5,.int .i64 b6,.int .i64 b7,.int .i64 b8] N B0 (m2.map bl) wx->Hid (InQ B (m1.map bl) wx)->Calls Tryz.prog 41 #[v1,inV B] wx fun e w'=>e=.returned (.bool (allF (inL (m1.map bl)) (l1.map bl)))/\BoxS w #[.int .i64 a0,v1,v2,v3,v4,v5,.int .i64 a6,.int .i64 a7,.int .i64 a8] #[.int .i64 b0,u1,u2,u3,u4,u5,.int .i64 b6,.int .i64 b7,.int .i64 b8] N B0 (m2.map bl) w'):=hide (fun B wx h hq=>(peach_any _ _ ent_in (inL (m1.map bl)) v1 l1 f1 z1 wx (hv.s1.below h.1.2.2) hq.out.tells).mono fun e w' ⟨h1,h2⟩=>⟨h1,h.keep h2⟩)
 have O3:Hid (∀ wx,BoxS w #[.int .i64 a0,v1,v2,v3,v4,v5,.int .i64 a6,.int .i64 a7,.int .i64 a8] #[.int .i64 b0,u1,u2,u3,u4,u5,.int .i64 b6,.int .i64 b7,.int .i64 b8] N B0 (m2.map bl) wx->Calls Tryz.prog 38 #[u3] wx fun e w'=>∃ B,e=.returned (inV B)/\Hid (InQ B (m3.map bl) w')/\BoxS w #[.int .i64 a0,v1,v2,v3,v4,v5,.int .i64 a6,.int .i64 a7,.int .i64 a8] #[.int .i64 b0,u1,u2,u3,u4,u5,.int .i64 b6,.int .i64 b7,.int .i64 b8] N B0 (m2.map bl) w'):=hide (fun wx h=>(poneOf_any u3 m3 g3 wx (hu.s3.below h.1.2.2)).mono fun e w' ⟨⟨B,h1,h2⟩,h3⟩=>⟨B,h1,hide h2,h.keep h3⟩)
 have E3:Hid (∀ B wx,BoxS w #[.int .i64 a0,v1,v2,v3,v4,v5,.int .i64 a6,.int .i64 a7,.int .i64 a8] #[.int .i64 b0,u1,u2,u3,u4,u5,.int .i64 b6,.int .i64 b7,.int .i64 b8] N B0 (m2.map bl) wx->Hid (InQ B (m3.map bl) wx)->Calls Tryz.prog 41 #[v3,inV B] wx fun e w'=>e=.returned (.bool (allF (inL (m3.map bl)) (l3.map bl)))/\BoxS w #[.int .i64 a0,v1,v2,v3,v4,v5,.int .i64 a6,.int .i64 a7,.int .i64 a8] #[.int .i64 b0,u1,u2,u3,u4,u5,.int .i64 b6,.int .i64 b7,.int .i64 b8] N B0 (m2.map bl) w'):=hide (fun B wx h hq=>(peach_any _ _ ent_in (inL (m3.map bl)) v3 l3 f3 z3 wx (hv.s3.below h.1.2.2) hq.out.tells).mono fun e w' ⟨h1,h2⟩=>⟨h1,h.keep h2⟩)
 have O4:Hid (∀ wx,BoxS w #[.int .i64 a0,v1,v2,v3,v4,v5,.int .i64 a6,.int .i64 a7,.int .i64 a8] #[.int .i64 b0,u1,u2,u3,u4,u5,.int .i64 b6,.int .i64 b7,.int .i64 b8] N B0 (m2.map bl) wx->Calls Tryz.prog 38 #[u4] wx fun e w'=>∃ B,e=.returned (inV B)/\Hid (InQ B (m4.map bl) w')/\BoxS w #[.int .i64 a0,v1,v2,v3,v4,v5,.int .i64 a6,.int .i64 a7,.int .i64 a8] #[.int .i64 b0,u1,u2,u3,u4,u5,.int .i64 b6,.int .i64 b7,.int .i64 b8] N B0 (m2.map bl) w'):=hide (fun wx h=>(poneOf_any u4 m4 g4 wx (hu.s4.below h.1.2.2)).mono fun e w' ⟨⟨B,h1,h2⟩,h3⟩=>⟨B,h1,hide h2,h.keep h3⟩)
 have E4:Hid (∀ B wx,BoxS w #[.int .i64 a0,v1,v2,v3,v4,v5,.int .i64 a6,.int .i64 a7,.int .i64 a8] #[.int .i64 b0,u1,u2,u3,u4,u5,.int .i64 b6,.int .i64 b7,.int .i64 b8] N B0 (m2.map bl) wx->Hid (InQ B (m4.map bl) wx)->Calls Tryz.prog 41 #[v4,inV B] wx fun e w'=>e=.returned (.bool (allF (inL (m4.map bl)) (l4.map bl)))/\BoxS w #[.int .i64 a0,v1,v2,v3,v4,v5,.int .i64 a6,.int .i64 a7,.int .i64 a8] #[.int .i64 b0,u1,u2,u3,u4,u5,.int .i64 b6,.int .i64 b7,.int .i64 b8] N B0 (m2.map bl) w'):=hide (fun B wx h hq=>(peach_any _ _ ent_in (inL (m4.map bl)) v4 l4 f4 z4 wx (hv.s4.below h.1.2.2) hq.out.tells).mono fun e w' ⟨h1,h2⟩=>⟨h1,h.keep h2⟩)
 have O5:Hid (∀ wx,BoxS w #[.int .i64 a0,v1,v2,v3,v4,v5,.int .i64 a6,.int .i64 a7,.int .i64 a8] #[.int .i64 b0,u1,u2,u3,u4,u5,.int .i64 b6,.int .i64 b7,.int .i64 b8] N B0 (m2.map bl) wx->Calls Tryz.prog 38 #[u5] wx fun e w'=>∃ B,e=.returned (inV B)/\Hid (InQ B (m5.map bl) w')/\BoxS w #[.int .i64 a0,v1,v2,v3,v4,v5,.int .i64 a6,.int .i64 a7,.int .i64 a8] #[.int .i64 b0,u1,u2,u3,u4,u5,.int .i64 b6,.int .i64 b7,.int .i64 b8] N B0 (m2.map bl) w'):=hide (fun wx h=>(poneOf_any u5 m5 g5 wx (hu.s5.below h.1.2.2)).mono fun e w' ⟨⟨B,h1,h2⟩,h3⟩=>⟨B,h1,hide h2,h.keep h3⟩)
 have E5:Hid (∀ B wx,BoxS w #[.int .i64 a0,v1,v2,v3,v4,v5,.int .i64 a6,.int .i64 a7,.int .i64 a8] #[.int .i64 b0,u1,u2,u3,u4,u5,.int .i64 b6,.int .i64 b7,.int .i64 b8] N B0 (m2.map bl) wx->Hid (InQ B (m5.map bl) wx)->Calls Tryz.prog 41 #[v5,inV B] wx fun e w'=>e=.returned (.bool (allF (inL (m5.map bl)) (l5.map bl)))/\BoxS w #[.int .i64 a0,v1,v2,v3,v4,v5,.int .i64 a6,.int .i64 a7,.int .i64 a8] #[.int .i64 b0,u1,u2,u3,u4,u5,.int .i64 b6,.int .i64 b7,.int .i64 b8] N B0 (m2.map bl) w'):=hide (fun B wx h hq=>(peach_any _ _ ent_in (inL (m5.map bl)) v5 l5 f5 z5 wx (hv.s5.below h.1.2.2) hq.out.tells).mono fun e w' ⟨h1,h2⟩=>⟨h1,h.keep h2⟩)
 have E2:Hid (∀ wx,BoxS w #[.int .i64 a0,v1,v2,v3,v4,v5,.int .i64 a6,.int .i64 a7,.int .i64 a8] #[.int .i64 b0,u1,u2,u3,u4,u5,.int .i64 b6,.int .i64 b7,.int .i64 b8] N B0 (m2.map bl) wx->Calls Tryz.prog 41 #[v2,.func (.func 39) #[] #[.pointer (some ⟨N,0,none⟩)]] wx fun e w'=>e=.returned (.bool (allF (stF (m2.map bl)) (l2.map bl)))/\BoxS w #[.int .i64 a0,v1,v2,v3,v4,v5,.int .i64 a6,.int .i64 a7,.int .i64 a8] #[.int .i64 b0,u1,u2,u3,u4,u5,.int .i64 b6,.int .i64 b7,.int .i64 b8] N B0 (m2.map bl) w'):=hide (fun wx h=>(peach_any _ _ ent_st (stF (m2.map bl)) v2 l2 f2 z2 wx (hv.s2.below h.1.2.2) (tells_st N B0 _ wx h.2.1 h.2.2)).mono fun e w' ⟨h1,h2⟩=>⟨h1,h.keep h2⟩)
 have K1:Hid (∀ wx,BoxS w #[.int .i64 a0,v1,v2,v3,v4,v5,.int .i64 a6,.int .i64 a7,.int .i64 a8] #[.int .i64 b0,u1,u2,u3,u4,u5,.int .i64 b6,.int .i64 b7,.int .i64 b8] N B0 (m2.map bl) wx->Calls Tryz.prog 32 #[pvalL a0 v1 v2 v3 v4 v5 a6 a7 a8] wx fun e w'=>e=.returned (capV a6 a7 a8)/\BoxS w #[.int .i64 a0,v1,v2,v3,v4,v5,.int .i64 a6,.int .i64 a7,.int .i64 a8] #[.int .i64 b0,u1,u2,u3,u4,u5,.int .i64 b6,.int .i64 b7,.int .i64 b8] N B0 (m2.map bl) w'):=hide (fun wx h=>(pcaps_any a0 v1 v2 v3 v4 v5 a6 a7 a8 wx).mono fun e w' ⟨h1,h2⟩=>⟨h1,h.keep h2⟩)
 have K2:Hid (∀ wx,BoxS w #[.int .i64 a0,v1,v2,v3,v4,v5,.int .i64 a6,.int .i64 a7,.int .i64 a8] #[.int .i64 b0,u1,u2,u3,u4,u5,.int .i64 b6,.int .i64 b7,.int .i64 b8] N B0 (m2.map bl) wx->Calls Tryz.prog 32 #[pvalL b0 u1 u2 u3 u4 u5 b6 b7 b8] wx fun e w'=>e=.returned (capV b6 b7 b8)/\BoxS w #[.int .i64 a0,v1,v2,v3,v4,v5,.int .i64 a6,.int .i64 a7,.int .i64 a8] #[.int .i64 b0,u1,u2,u3,u4,u5,.int .i64 b6,.int .i64 b7,.int .i64 b8] N B0 (m2.map bl) w'):=hide (fun wx h=>(pcaps_any b0 u1 u2 u3 u4 u5 b6 b7 b8 wx).mono fun e w' ⟨h1,h2⟩=>⟨h1,h.keep h2⟩)
 have K3:Hid (∀ wx,BoxS w #[.int .i64 a0,v1,v2,v3,v4,v5,.int .i64 a6,.int .i64 a7,.int .i64 a8] #[.int .i64 b0,u1,u2,u3,u4,u5,.int .i64 b6,.int .i64 b7,.int .i64 b8] N B0 (m2.map bl) wx->Calls Tryz.prog 42 #[capV a6 a7 a8,capV b6 b7 b8] wx fun e w'=>e=.returned (capV (min a6 b6) (min a7 b7) (min a8 b8))/\BoxS w #[.int .i64 a0,v1,v2,v3,v4,v5,.int .i64 a6,.int .i64 a7,.int .i64 a8] #[.int .i64 b0,u1,u2,u3,u4,u5,.int .i64 b6,.int .i64 b7,.int .i64 b8] N B0 (m2.map bl) w'):=hide (fun wx h=>(pmost_any a6 a7 a8 b6 b7 b8 wx).mono fun e w' ⟨h1,h2⟩=>⟨h1,h.keep h2⟩)
 clear hv hu hf hg hR f1 f2 f3 f4 f5 z1 z2 z3 z4 z5 g1 g2 g3 g4 g5
 generalize allF (inL (m1.map bl)) (l1.map bl)=t1 at E1 HAL
 generalize allF (stF (m2.map bl)) (l2.map bl)=t2 at E2 HAL
 generalize allF (inL (m3.map bl)) (l3.map bl)=t3 at E3 HAL
 generalize allF (inL (m4.map bl)) (l4.map bl)=t4 at E4 HAL
 generalize allF (inL (m5.map bl)) (l5.map bl)=t5 at E5 HAL
 generalize min a6 b6=c6 at K3 HAL
 generalize min a7 b7=c7 at K3 HAL
 generalize min a8 b8=c8 at K3 HAL
 cases t1 with
 | false =>
  have HR:Hid (R=false):=hide (by rw[HAL.out];simp)
  clear HAL
  refine wp_region_held_drew (S:=(fun wx=>wx.cell? ⟨w.heap.size,0,none⟩=some (.int .i64 a0)/\wx.cell? ⟨w.heap.size,1,none⟩=some v1/\wx.cell? ⟨w.heap.size,2,none⟩=some v2/\wx.cell? ⟨w.heap.size,3,none⟩=some v3/\wx.cell? ⟨w.heap.size,4,none⟩=some v4/\wx.cell? ⟨w.heap.size,5,none⟩=some v5/\wx.cell? ⟨w.heap.size,6,none⟩=some (.int .i64 a6)/\wx.cell? ⟨w.heap.size,7,none⟩=some (.int .i64 a7)/\wx.cell? ⟨w.heap.size,8,none⟩=some (.int .i64 a8)/\wx.cell? ⟨w.heap.size+1,0,none⟩=some (.int .i64 b0)/\wx.cell? ⟨w.heap.size+1,1,none⟩=some u1/\wx.cell? ⟨w.heap.size+1,2,none⟩=some u2/\wx.cell? ⟨w.heap.size+1,3,none⟩=some u3/\wx.cell? ⟨w.heap.size+1,4,none⟩=some u4/\wx.cell? ⟨w.heap.size+1,5,none⟩=some u5/\wx.cell? ⟨w.heap.size+1,6,none⟩=some (.int .i64 b6)/\wx.cell? ⟨w.heap.size+1,7,none⟩=some (.int .i64 b7)/\wx.cell? ⟨w.heap.size+1,8,none⟩=some (.int .i64 b8)/\Hid (BoxS w #[.int .i64 a0,v1,v2,v3,v4,v5,.int .i64 a6,.int .i64 a7,.int .i64 a8] #[.int .i64 b0,u1,u2,u3,u4,u5,.int .i64 b6,.int .i64 b7,.int .i64 b8] N B0 (m2.map bl) wx))) (by kernel_rfl) (SK.out _ (HS.out.keep ((Below.refl _ _).drew))) (fun hHeld=>?_)
  refine hto 0 (v:=?vb0) (a1:=?xb0) rfl ?yb0 ?hb0 ?zb0
  case yb0=>(intro w hSw;(try dsimp only at hSw);go_simp;try (with_reducible rfl))
  case hb0=>(go_simp;exact rfl)
  case zb0 =>
  refine hto 1 (v:=?vb1) (a1:=?xb1) rfl ?yb1 ?hb1 ?zb1
  case yb1=>(intro w hSw;(try dsimp only at hSw);go_simp;try (with_reducible rfl))
  case hb1=>(go_simp;exact rfl)
  case zb1 =>
  refine hto 2 (v:=?vb2) (a1:=?xb2) rfl ?yb2 ?hb2 ?zb2
  case yb2=>(intro w hSw;(try dsimp only at hSw);go_simp;try (with_reducible rfl))
  case hb2=>(go_simp;exact rfl)
  case zb2 =>
  refine hto 3 (v:=?vb3) (a1:=?xb3) rfl ?yb3 ?hb3 ?zb3
  case yb3=>(intro w hSw;(try dsimp only at hSw);go_simp;try (with_reducible rfl))
  case hb3=>(go_simp;exact rfl)
  case zb3 =>
  refine wpAnyH_ready (rs:=[4]) (by kernel_rfl) (by simp) ?_
  refine AllReadyH.cons rfl (fun K hK=>?_) AllReadyH.nil
  go_simp
  refine (O1.out _ (SB.out _ (by assumption))).mono ?_
  rintro e w6 ⟨Bq,rfl,HQ,h6⟩
  try go_wp2_with fail
  refine hK.out _ _ (SK.out _ (by assumption)) (fun hHeld2=>?_)
  clear hK K hHeld
  have hHeld:=hHeld2
  clear hHeld2
  refine wpAnyH_ready (rs:=[5]) (by kernel_rfl) (by simp) ?_
  refine AllReadyH.cons rfl (fun K hK=>?_) AllReadyH.nil
  go_simp
  refine (E1.out _ _ (SB.out _ (by assumption)) (by assumption)).mono ?_
  rintro e w6 ⟨rfl,h6⟩
  try go_wp2_with fail
  refine hK.out _ _ (SK.out _ (by assumption)) (fun hHeld2=>?_)
  clear hK K hHeld
  have hHeld:=hHeld2
  clear hHeld2
  refine hto 6 (v:=?vb6) (a1:=?xb6) rfl ?yb6 ?hb6 ?zb6
  case yb6=>(intro w hSw;(try dsimp only at hSw);go_simp;try (with_reducible rfl))
  case hb6=>(go_simp;exact rfl)
  case zb6 =>
  refine hno 7 (a1:=?xb7) rfl ?hb7 ?zb7
  case hb7=>(go_simp;exact rfl)
  case zb7 =>
  refine hno 8 (a1:=?xb8) rfl ?hb8 ?zb8
  case hb8=>(go_simp;exact rfl)
  case zb8 =>
  refine hno 9 (a1:=?xb9) rfl ?hb9 ?zb9
  case hb9=>(go_simp;exact rfl)
  case zb9 =>
  refine hno 10 (a1:=?xb10) rfl ?hb10 ?zb10
  case hb10=>(go_simp;exact rfl)
  case zb10 =>
  refine hto 11 (v:=?vb11) (a1:=?xb11) rfl ?yb11 ?hb11 ?zb11
  case yb11=>(intro w hSw;(try dsimp only at hSw);go_simp;try (with_reducible rfl))
  case hb11=>(go_simp;exact rfl)
  case zb11 =>
  refine hto 12 (v:=?vb12) (a1:=?xb12) rfl ?yb12 ?hb12 ?zb12
  case yb12=>(intro w hSw;(try dsimp only at hSw);go_simp;try (with_reducible rfl))
  case hb12=>(go_simp;exact rfl)
  case zb12 =>
  refine hno 13 (a1:=?xb13) rfl ?hb13 ?zb13
  case hb13=>(go_simp;exact rfl)
  case zb13 =>
  refine hno 14 (a1:=?xb14) rfl ?hb14 ?zb14
  case hb14=>(go_simp;exact rfl)
  case zb14 =>
  refine hno 15 (a1:=?xb15) rfl ?hb15 ?zb15
  case hb15=>(go_simp;exact rfl)
  case zb15 =>
  refine hno 16 (a1:=?xb16) rfl ?hb16 ?zb16
  case hb16=>(go_simp;exact rfl)
  case zb16 =>
  refine hno 17 (a1:=?xb17) rfl ?hb17 ?zb17
  case hb17=>(go_simp;exact rfl)
  case zb17 =>
  refine hno 18 (a1:=?xb18) rfl ?hb18 ?zb18
  case hb18=>(go_simp;exact rfl)
  case zb18 =>
  refine hto 19 (v:=?vb19) (a1:=?xb19) rfl ?yb19 ?hb19 ?zb19
  case yb19=>(intro w hSw;(try dsimp only at hSw);go_simp;try (with_reducible rfl))
  case hb19=>(go_simp;exact rfl)
  case zb19 =>
  refine hto 20 (v:=?vb20) (a1:=?xb20) rfl ?yb20 ?hb20 ?zb20
  case yb20=>(intro w hSw;(try dsimp only at hSw);go_simp;try (with_reducible rfl))
  case hb20=>(go_simp;exact rfl)
  case zb20 =>
  refine hno 21 (a1:=?xb21) rfl ?hb21 ?zb21
  case hb21=>(go_simp;exact rfl)
  case zb21 =>
  refine hno 22 (a1:=?xb22) rfl ?hb22 ?zb22
  case hb22=>(go_simp;exact rfl)
  case zb22 =>
  refine hno 23 (a1:=?xb23) rfl ?hb23 ?zb23
  case hb23=>(go_simp;exact rfl)
  case zb23 =>
  refine hno 24 (a1:=?xb24) rfl ?hb24 ?zb24
  case hb24=>(go_simp;exact rfl)
  case zb24 =>
  refine hno 25 (a1:=?xb25) rfl ?hb25 ?zb25
  case hb25=>(go_simp;exact rfl)
  case zb25 =>
  refine hno 26 (a1:=?xb26) rfl ?hb26 ?zb26
  case hb26=>(go_simp;exact rfl)
  case zb26 =>
  refine hto 27 (v:=?vb27) (a1:=?xb27) rfl ?yb27 ?hb27 ?zb27
  case yb27=>(intro w hSw;(try dsimp only at hSw);go_simp;try (with_reducible rfl))
  case hb27=>(go_simp;exact rfl)
  case zb27 =>
  refine hto 28 (v:=?vb28) (a1:=?xb28) rfl ?yb28 ?hb28 ?zb28
  case yb28=>(intro w hSw;(try dsimp only at hSw);go_simp;try (with_reducible rfl))
  case hb28=>(go_simp;exact rfl)
  case zb28 =>
  refine hno 29 (a1:=?xb29) rfl ?hb29 ?zb29
  case hb29=>(go_simp;exact rfl)
  case zb29 =>
  refine hno 30 (a1:=?xb30) rfl ?hb30 ?zb30
  case hb30=>(go_simp;exact rfl)
  case zb30 =>
  refine hno 31 (a1:=?xb31) rfl ?hb31 ?zb31
  case hb31=>(go_simp;exact rfl)
  case zb31 =>
  refine hno 32 (a1:=?xb32) rfl ?hb32 ?zb32
  case hb32=>(go_simp;exact rfl)
  case zb32 =>
  refine hno 33 (a1:=?xb33) rfl ?hb33 ?zb33
  case hb33=>(go_simp;exact rfl)
  case zb33 =>
  refine hno 34 (a1:=?xb34) rfl ?hb34 ?zb34
  case hb34=>(go_simp;exact rfl)
  case zb34 =>
  refine hto 35 (v:=?vb35) (a1:=?xb35) rfl ?yb35 ?hb35 ?zb35
  case yb35=>(intro w hSw;(try dsimp only at hSw);go_simp;try (with_reducible rfl))
  case hb35=>(go_simp;exact rfl)
  case zb35 =>
  refine hto 36 (v:=?vb36) (a1:=?xb36) rfl ?yb36 ?hb36 ?zb36
  case yb36=>(intro w hSw;(try dsimp only at hSw);go_simp;try (with_reducible rfl))
  case hb36=>(go_simp;exact rfl)
  case zb36 =>
  refine hno 37 (a1:=?xb37) rfl ?hb37 ?zb37
  case hb37=>(go_simp;exact rfl)
  case zb37 =>
  refine hno 38 (a1:=?xb38) rfl ?hb38 ?zb38
  case hb38=>(go_simp;exact rfl)
  case zb38 =>
  refine hno 39 (a1:=?xb39) rfl ?hb39 ?zb39
  case hb39=>(go_simp;exact rfl)
  case zb39 =>
  refine hno 40 (a1:=?xb40) rfl ?hb40 ?zb40
  case hb40=>(go_simp;exact rfl)
  case zb40 =>
  refine hno 41 (a1:=?xb41) rfl ?hb41 ?zb41
  case hb41=>(go_simp;exact rfl)
  case zb41 =>
  refine hno 42 (a1:=?xb42) rfl ?hb42 ?zb42
  case hb42=>(go_simp;exact rfl)
  case zb42 =>
  refine hno 43 (a1:=?xb43) rfl ?hb43 ?zb43
  case hb43=>(go_simp;exact rfl)
  case zb43 =>
  refine hno 44 (a1:=?xb44) rfl ?hb44 ?zb44
  case hb44=>(go_simp;exact rfl)
  case zb44 =>
  refine hto 45 (v:=?vb45) (a1:=?xb45) rfl ?yb45 ?hb45 ?zb45
  case yb45=>(intro w hSw;(try dsimp only at hSw);go_simp;try (with_reducible rfl))
  case hb45=>(go_simp;exact rfl)
  case zb45 =>
  refine hto 46 (v:=?vb46) (a1:=?xb46) rfl ?yb46 ?hb46 ?zb46
  case yb46=>(intro w hSw;(try dsimp only at hSw);go_simp;try (with_reducible rfl))
  case hb46=>(go_simp;exact rfl)
  case zb46 =>
  refine wpAnyH_done (by kernel_rfl) ?_ _
  have H7:=hide (SB.out _ (by assumption))
  clear O1 O3 O4 O5 E1 E2 E3 E4 E5 K1 K2 K3 SK SB
  go_wp2_with fail
  go_ret
  rw[HR.out]
  exact⟨rfl,H7.out.1.2.2⟩
 | true =>
  cases t2 with
  | false =>
   have HR:Hid (R=false):=hide (by rw[HAL.out];simp)
   clear HAL
   refine wp_region_held_drew (S:=(fun wx=>wx.cell? ⟨w.heap.size,0,none⟩=some (.int .i64 a0)/\wx.cell? ⟨w.heap.size,1,none⟩=some v1/\wx.cell? ⟨w.heap.size,2,none⟩=some v2/\wx.cell? ⟨w.heap.size,3,none⟩=some v3/\wx.cell? ⟨w.heap.size,4,none⟩=some v4/\wx.cell? ⟨w.heap.size,5,none⟩=some v5/\wx.cell? ⟨w.heap.size,6,none⟩=some (.int .i64 a6)/\wx.cell? ⟨w.heap.size,7,none⟩=some (.int .i64 a7)/\wx.cell? ⟨w.heap.size,8,none⟩=some (.int .i64 a8)/\wx.cell? ⟨w.heap.size+1,0,none⟩=some (.int .i64 b0)/\wx.cell? ⟨w.heap.size+1,1,none⟩=some u1/\wx.cell? ⟨w.heap.size+1,2,none⟩=some u2/\wx.cell? ⟨w.heap.size+1,3,none⟩=some u3/\wx.cell? ⟨w.heap.size+1,4,none⟩=some u4/\wx.cell? ⟨w.heap.size+1,5,none⟩=some u5/\wx.cell? ⟨w.heap.size+1,6,none⟩=some (.int .i64 b6)/\wx.cell? ⟨w.heap.size+1,7,none⟩=some (.int .i64 b7)/\wx.cell? ⟨w.heap.size+1,8,none⟩=some (.int .i64 b8)/\Hid (BoxS w #[.int .i64 a0,v1,v2,v3,v4,v5,.int .i64 a6,.int .i64 a7,.int .i64 a8] #[.int .i64 b0,u1,u2,u3,u4,u5,.int .i64 b6,.int .i64 b7,.int .i64 b8] N B0 (m2.map bl) wx))) (by kernel_rfl) (SK.out _ (HS.out.keep ((Below.refl _ _).drew))) (fun hHeld=>?_)
   refine hto 0 (v:=?vc0) (a1:=?xc0) rfl ?yc0 ?hc0 ?zc0
   case yc0=>(intro w hSw;(try dsimp only at hSw);go_simp;try (with_reducible rfl))
   case hc0=>(go_simp;exact rfl)
   case zc0 =>
   refine hto 1 (v:=?vc1) (a1:=?xc1) rfl ?yc1 ?hc1 ?zc1
   case yc1=>(intro w hSw;(try dsimp only at hSw);go_simp;try (with_reducible rfl))
   case hc1=>(go_simp;exact rfl)
   case zc1 =>
   refine hto 2 (v:=?vc2) (a1:=?xc2) rfl ?yc2 ?hc2 ?zc2
   case yc2=>(intro w hSw;(try dsimp only at hSw);go_simp;try (with_reducible rfl))
   case hc2=>(go_simp;exact rfl)
   case zc2 =>
   refine hto 3 (v:=?vc3) (a1:=?xc3) rfl ?yc3 ?hc3 ?zc3
   case yc3=>(intro w hSw;(try dsimp only at hSw);go_simp;try (with_reducible rfl))
   case hc3=>(go_simp;exact rfl)
   case zc3 =>
   refine wpAnyH_ready (rs:=[4]) (by kernel_rfl) (by simp) ?_
   refine AllReadyH.cons rfl (fun K hK=>?_) AllReadyH.nil
   go_simp
   refine (O1.out _ (SB.out _ (by assumption))).mono ?_
   rintro e w6 ⟨Bq,rfl,HQ,h6⟩
   try go_wp2_with fail
   refine hK.out _ _ (SK.out _ (by assumption)) (fun hHeld2=>?_)
   clear hK K hHeld
   have hHeld:=hHeld2
   clear hHeld2
   refine wpAnyH_ready (rs:=[5]) (by kernel_rfl) (by simp) ?_
   refine AllReadyH.cons rfl (fun K hK=>?_) AllReadyH.nil
   go_simp
   refine (E1.out _ _ (SB.out _ (by assumption)) (by assumption)).mono ?_
   rintro e w6 ⟨rfl,h6⟩
   try go_wp2_with fail
   refine hK.out _ _ (SK.out _ (by assumption)) (fun hHeld2=>?_)
   clear hK K hHeld
   have hHeld:=hHeld2
   clear hHeld2
   refine hto 6 (v:=?vc6) (a1:=?xc6) rfl ?yc6 ?hc6 ?zc6
   case yc6=>(intro w hSw;(try dsimp only at hSw);go_simp;try (with_reducible rfl))
   case hc6=>(go_simp;exact rfl)
   case zc6 =>
   refine hto 7 (v:=?vc7) (a1:=?xc7) rfl ?yc7 ?hc7 ?zc7
   case yc7=>(intro w hSw;(try dsimp only at hSw);go_simp;try (with_reducible rfl))
   case hc7=>(go_simp;exact rfl)
   case zc7 =>
   refine hto 8 (v:=?vc8) (a1:=?xc8) rfl ?yc8 ?hc8 ?zc8
   case yc8=>(intro w hSw;(try dsimp only at hSw);go_simp;try (with_reducible rfl))
   case hc8=>(go_simp;exact rfl)
   case zc8 =>
   refine hto 9 (v:=?vc9) (a1:=?xc9) rfl ?yc9 ?hc9 ?zc9
   case yc9=>(intro w hSw;(try dsimp only at hSw);go_simp;try (with_reducible rfl))
   case hc9=>(go_simp;exact rfl)
   case zc9 =>
   refine wpAnyH_ready (rs:=[10]) (by kernel_rfl) (by simp) ?_
   refine AllReadyH.cons rfl (fun K hK=>?_) AllReadyH.nil
   go_simp
   refine (E2.out _ (SB.out _ (by assumption))).mono ?_
   rintro e w6 ⟨rfl,h6⟩
   try go_wp2_with fail
   refine hK.out _ _ (SK.out _ (by assumption)) (fun hHeld2=>?_)
   clear hK K hHeld
   have hHeld:=hHeld2
   clear hHeld2
   refine hto 11 (v:=?vc11) (a1:=?xc11) rfl ?yc11 ?hc11 ?zc11
   case yc11=>(intro w hSw;(try dsimp only at hSw);go_simp;try (with_reducible rfl))
   case hc11=>(go_simp;exact rfl)
   case zc11 =>
   refine hto 12 (v:=?vc12) (a1:=?xc12) rfl ?yc12 ?hc12 ?zc12
   case yc12=>(intro w hSw;(try dsimp only at hSw);go_simp;try (with_reducible rfl))
   case hc12=>(go_simp;exact rfl)
   case zc12 =>
   refine hno 13 (a1:=?xc13) rfl ?hc13 ?zc13
   case hc13=>(go_simp;exact rfl)
   case zc13 =>
   refine hno 14 (a1:=?xc14) rfl ?hc14 ?zc14
   case hc14=>(go_simp;exact rfl)
   case zc14 =>
   refine hno 15 (a1:=?xc15) rfl ?hc15 ?zc15
   case hc15=>(go_simp;exact rfl)
   case zc15 =>
   refine hno 16 (a1:=?xc16) rfl ?hc16 ?zc16
   case hc16=>(go_simp;exact rfl)
   case zc16 =>
   refine hno 17 (a1:=?xc17) rfl ?hc17 ?zc17
   case hc17=>(go_simp;exact rfl)
   case zc17 =>
   refine hno 18 (a1:=?xc18) rfl ?hc18 ?zc18
   case hc18=>(go_simp;exact rfl)
   case zc18 =>
   refine hto 19 (v:=?vc19) (a1:=?xc19) rfl ?yc19 ?hc19 ?zc19
   case yc19=>(intro w hSw;(try dsimp only at hSw);go_simp;try (with_reducible rfl))
   case hc19=>(go_simp;exact rfl)
   case zc19 =>
   refine hto 20 (v:=?vc20) (a1:=?xc20) rfl ?yc20 ?hc20 ?zc20
   case yc20=>(intro w hSw;(try dsimp only at hSw);go_simp;try (with_reducible rfl))
   case hc20=>(go_simp;exact rfl)
   case zc20 =>
   refine hno 21 (a1:=?xc21) rfl ?hc21 ?zc21
   case hc21=>(go_simp;exact rfl)
   case zc21 =>
   refine hno 22 (a1:=?xc22) rfl ?hc22 ?zc22
   case hc22=>(go_simp;exact rfl)
   case zc22 =>
   refine hno 23 (a1:=?xc23) rfl ?hc23 ?zc23
   case hc23=>(go_simp;exact rfl)
   case zc23 =>
   refine hno 24 (a1:=?xc24) rfl ?hc24 ?zc24
   case hc24=>(go_simp;exact rfl)
   case zc24 =>
   refine hno 25 (a1:=?xc25) rfl ?hc25 ?zc25
   case hc25=>(go_simp;exact rfl)
   case zc25 =>
   refine hno 26 (a1:=?xc26) rfl ?hc26 ?zc26
   case hc26=>(go_simp;exact rfl)
   case zc26 =>
   refine hto 27 (v:=?vc27) (a1:=?xc27) rfl ?yc27 ?hc27 ?zc27
   case yc27=>(intro w hSw;(try dsimp only at hSw);go_simp;try (with_reducible rfl))
   case hc27=>(go_simp;exact rfl)
   case zc27 =>
   refine hto 28 (v:=?vc28) (a1:=?xc28) rfl ?yc28 ?hc28 ?zc28
   case yc28=>(intro w hSw;(try dsimp only at hSw);go_simp;try (with_reducible rfl))
   case hc28=>(go_simp;exact rfl)
   case zc28 =>
   refine hno 29 (a1:=?xc29) rfl ?hc29 ?zc29
   case hc29=>(go_simp;exact rfl)
   case zc29 =>
   refine hno 30 (a1:=?xc30) rfl ?hc30 ?zc30
   case hc30=>(go_simp;exact rfl)
   case zc30 =>
   refine hno 31 (a1:=?xc31) rfl ?hc31 ?zc31
   case hc31=>(go_simp;exact rfl)
   case zc31 =>
   refine hno 32 (a1:=?xc32) rfl ?hc32 ?zc32
   case hc32=>(go_simp;exact rfl)
   case zc32 =>
   refine hno 33 (a1:=?xc33) rfl ?hc33 ?zc33
   case hc33=>(go_simp;exact rfl)
   case zc33 =>
   refine hno 34 (a1:=?xc34) rfl ?hc34 ?zc34
   case hc34=>(go_simp;exact rfl)
   case zc34 =>
   refine hto 35 (v:=?vc35) (a1:=?xc35) rfl ?yc35 ?hc35 ?zc35
   case yc35=>(intro w hSw;(try dsimp only at hSw);go_simp;try (with_reducible rfl))
   case hc35=>(go_simp;exact rfl)
   case zc35 =>
   refine hto 36 (v:=?vc36) (a1:=?xc36) rfl ?yc36 ?hc36 ?zc36
   case yc36=>(intro w hSw;(try dsimp only at hSw);go_simp;try (with_reducible rfl))
   case hc36=>(go_simp;exact rfl)
   case zc36 =>
   refine hno 37 (a1:=?xc37) rfl ?hc37 ?zc37
   case hc37=>(go_simp;exact rfl)
   case zc37 =>
   refine hno 38 (a1:=?xc38) rfl ?hc38 ?zc38
   case hc38=>(go_simp;exact rfl)
   case zc38 =>
   refine hno 39 (a1:=?xc39) rfl ?hc39 ?zc39
   case hc39=>(go_simp;exact rfl)
   case zc39 =>
   refine hno 40 (a1:=?xc40) rfl ?hc40 ?zc40
   case hc40=>(go_simp;exact rfl)
   case zc40 =>
   refine hno 41 (a1:=?xc41) rfl ?hc41 ?zc41
   case hc41=>(go_simp;exact rfl)
   case zc41 =>
   refine hno 42 (a1:=?xc42) rfl ?hc42 ?zc42
   case hc42=>(go_simp;exact rfl)
   case zc42 =>
   refine hno 43 (a1:=?xc43) rfl ?hc43 ?zc43
   case hc43=>(go_simp;exact rfl)
   case zc43 =>
   refine hno 44 (a1:=?xc44) rfl ?hc44 ?zc44
   case hc44=>(go_simp;exact rfl)
   case zc44 =>
   refine hto 45 (v:=?vc45) (a1:=?xc45) rfl ?yc45 ?hc45 ?zc45
   case yc45=>(intro w hSw;(try dsimp only at hSw);go_simp;try (with_reducible rfl))
   case hc45=>(go_simp;exact rfl)
   case zc45 =>
   refine hto 46 (v:=?vc46) (a1:=?xc46) rfl ?yc46 ?hc46 ?zc46
   case yc46=>(intro w hSw;(try dsimp only at hSw);go_simp;try (with_reducible rfl))
   case hc46=>(go_simp;exact rfl)
   case zc46 =>
   refine wpAnyH_done (by kernel_rfl) ?_ _
   have H7:=hide (SB.out _ (by assumption))
   clear O1 O3 O4 O5 E1 E2 E3 E4 E5 K1 K2 K3 SK SB
   go_wp2_with fail
   go_ret
   rw[HR.out]
   exact⟨rfl,H7.out.1.2.2⟩
  | true =>
   cases t3 with
   | false =>
    have HR:Hid (R=false):=hide (by rw[HAL.out];simp)
    clear HAL
    refine wp_region_held_drew (S:=(fun wx=>wx.cell? ⟨w.heap.size,0,none⟩=some (.int .i64 a0)/\wx.cell? ⟨w.heap.size,1,none⟩=some v1/\wx.cell? ⟨w.heap.size,2,none⟩=some v2/\wx.cell? ⟨w.heap.size,3,none⟩=some v3/\wx.cell? ⟨w.heap.size,4,none⟩=some v4/\wx.cell? ⟨w.heap.size,5,none⟩=some v5/\wx.cell? ⟨w.heap.size,6,none⟩=some (.int .i64 a6)/\wx.cell? ⟨w.heap.size,7,none⟩=some (.int .i64 a7)/\wx.cell? ⟨w.heap.size,8,none⟩=some (.int .i64 a8)/\wx.cell? ⟨w.heap.size+1,0,none⟩=some (.int .i64 b0)/\wx.cell? ⟨w.heap.size+1,1,none⟩=some u1/\wx.cell? ⟨w.heap.size+1,2,none⟩=some u2/\wx.cell? ⟨w.heap.size+1,3,none⟩=some u3/\wx.cell? ⟨w.heap.size+1,4,none⟩=some u4/\wx.cell? ⟨w.heap.size+1,5,none⟩=some u5/\wx.cell? ⟨w.heap.size+1,6,none⟩=some (.int .i64 b6)/\wx.cell? ⟨w.heap.size+1,7,none⟩=some (.int .i64 b7)/\wx.cell? ⟨w.heap.size+1,8,none⟩=some (.int .i64 b8)/\Hid (BoxS w #[.int .i64 a0,v1,v2,v3,v4,v5,.int .i64 a6,.int .i64 a7,.int .i64 a8] #[.int .i64 b0,u1,u2,u3,u4,u5,.int .i64 b6,.int .i64 b7,.int .i64 b8] N B0 (m2.map bl) wx))) (by kernel_rfl) (SK.out _ (HS.out.keep ((Below.refl _ _).drew))) (fun hHeld=>?_)
    refine hto 0 (v:=?vd0) (a1:=?xd0) rfl ?yd0 ?hd0 ?zd0
    case yd0=>(intro w hSw;(try dsimp only at hSw);go_simp;try (with_reducible rfl))
    case hd0=>(go_simp;exact rfl)
    case zd0 =>
    refine hto 1 (v:=?vd1) (a1:=?xd1) rfl ?yd1 ?hd1 ?zd1
    case yd1=>(intro w hSw;(try dsimp only at hSw);go_simp;try (with_reducible rfl))
    case hd1=>(go_simp;exact rfl)
    case zd1 =>
    refine hto 2 (v:=?vd2) (a1:=?xd2) rfl ?yd2 ?hd2 ?zd2
    case yd2=>(intro w hSw;(try dsimp only at hSw);go_simp;try (with_reducible rfl))
    case hd2=>(go_simp;exact rfl)
    case zd2 =>
    refine hto 3 (v:=?vd3) (a1:=?xd3) rfl ?yd3 ?hd3 ?zd3
    case yd3=>(intro w hSw;(try dsimp only at hSw);go_simp;try (with_reducible rfl))
    case hd3=>(go_simp;exact rfl)
    case zd3 =>
    refine wpAnyH_ready (rs:=[4]) (by kernel_rfl) (by simp) ?_
    refine AllReadyH.cons rfl (fun K hK=>?_) AllReadyH.nil
    go_simp
    refine (O1.out _ (SB.out _ (by assumption))).mono ?_
    rintro e w6 ⟨Bq,rfl,HQ,h6⟩
    try go_wp2_with fail
    refine hK.out _ _ (SK.out _ (by assumption)) (fun hHeld2=>?_)
    clear hK K hHeld
    have hHeld:=hHeld2
    clear hHeld2
    refine wpAnyH_ready (rs:=[5]) (by kernel_rfl) (by simp) ?_
    refine AllReadyH.cons rfl (fun K hK=>?_) AllReadyH.nil
    go_simp
    refine (E1.out _ _ (SB.out _ (by assumption)) (by assumption)).mono ?_
    rintro e w6 ⟨rfl,h6⟩
    try go_wp2_with fail
    refine hK.out _ _ (SK.out _ (by assumption)) (fun hHeld2=>?_)
    clear hK K hHeld
    have hHeld:=hHeld2
    clear hHeld2
    refine hto 6 (v:=?vd6) (a1:=?xd6) rfl ?yd6 ?hd6 ?zd6
    case yd6=>(intro w hSw;(try dsimp only at hSw);go_simp;try (with_reducible rfl))
    case hd6=>(go_simp;exact rfl)
    case zd6 =>
    refine hto 7 (v:=?vd7) (a1:=?xd7) rfl ?yd7 ?hd7 ?zd7
    case yd7=>(intro w hSw;(try dsimp only at hSw);go_simp;try (with_reducible rfl))
    case hd7=>(go_simp;exact rfl)
    case zd7 =>
    refine hto 8 (v:=?vd8) (a1:=?xd8) rfl ?yd8 ?hd8 ?zd8
    case yd8=>(intro w hSw;(try dsimp only at hSw);go_simp;try (with_reducible rfl))
    case hd8=>(go_simp;exact rfl)
    case zd8 =>
    refine hto 9 (v:=?vd9) (a1:=?xd9) rfl ?yd9 ?hd9 ?zd9
    case yd9=>(intro w hSw;(try dsimp only at hSw);go_simp;try (with_reducible rfl))
    case hd9=>(go_simp;exact rfl)
    case zd9 =>
    refine wpAnyH_ready (rs:=[10]) (by kernel_rfl) (by simp) ?_
    refine AllReadyH.cons rfl (fun K hK=>?_) AllReadyH.nil
    go_simp
    refine (E2.out _ (SB.out _ (by assumption))).mono ?_
    rintro e w6 ⟨rfl,h6⟩
    try go_wp2_with fail
    refine hK.out _ _ (SK.out _ (by assumption)) (fun hHeld2=>?_)
    clear hK K hHeld
    have hHeld:=hHeld2
    clear hHeld2
    refine hto 11 (v:=?vd11) (a1:=?xd11) rfl ?yd11 ?hd11 ?zd11
    case yd11=>(intro w hSw;(try dsimp only at hSw);go_simp;try (with_reducible rfl))
    case hd11=>(go_simp;exact rfl)
    case zd11 =>
    refine hto 12 (v:=?vd12) (a1:=?xd12) rfl ?yd12 ?hd12 ?zd12
    case yd12=>(intro w hSw;(try dsimp only at hSw);go_simp;try (with_reducible rfl))
    case hd12=>(go_simp;exact rfl)
    case zd12 =>
    refine hto 13 (v:=?vd13) (a1:=?xd13) rfl ?yd13 ?hd13 ?zd13
    case yd13=>(intro w hSw;(try dsimp only at hSw);go_simp;try (with_reducible rfl))
    case hd13=>(go_simp;exact rfl)
    case zd13 =>
    refine hto 14 (v:=?vd14) (a1:=?xd14) rfl ?yd14 ?hd14 ?zd14
    case yd14=>(intro w hSw;(try dsimp only at hSw);go_simp;try (with_reducible rfl))
    case hd14=>(go_simp;exact rfl)
    case zd14 =>
    refine hto 15 (v:=?vd15) (a1:=?xd15) rfl ?yd15 ?hd15 ?zd15
    case yd15=>(intro w hSw;(try dsimp only at hSw);go_simp;try (with_reducible rfl))
    case hd15=>(go_simp;exact rfl)
    case zd15 =>
    refine hto 16 (v:=?vd16) (a1:=?xd16) rfl ?yd16 ?hd16 ?zd16
    case yd16=>(intro w hSw;(try dsimp only at hSw);go_simp;try (with_reducible rfl))
    case hd16=>(go_simp;exact rfl)
    case zd16 =>
    refine wpAnyH_ready (rs:=[17]) (by kernel_rfl) (by simp) ?_
    refine AllReadyH.cons rfl (fun K hK=>?_) AllReadyH.nil
    go_simp
    refine (O3.out _ (SB.out _ (by assumption))).mono ?_
    rintro e w6 ⟨Bq,rfl,HQ,h6⟩
    try go_wp2_with fail
    refine hK.out _ _ (SK.out _ (by assumption)) (fun hHeld2=>?_)
    clear hK K hHeld
    have hHeld:=hHeld2
    clear hHeld2
    refine wpAnyH_ready (rs:=[18]) (by kernel_rfl) (by simp) ?_
    refine AllReadyH.cons rfl (fun K hK=>?_) AllReadyH.nil
    go_simp
    refine (E3.out _ _ (SB.out _ (by assumption)) (by assumption)).mono ?_
    rintro e w6 ⟨rfl,h6⟩
    try go_wp2_with fail
    refine hK.out _ _ (SK.out _ (by assumption)) (fun hHeld2=>?_)
    clear hK K hHeld
    have hHeld:=hHeld2
    clear hHeld2
    refine hto 19 (v:=?vd19) (a1:=?xd19) rfl ?yd19 ?hd19 ?zd19
    case yd19=>(intro w hSw;(try dsimp only at hSw);go_simp;try (with_reducible rfl))
    case hd19=>(go_simp;exact rfl)
    case zd19 =>
    refine hto 20 (v:=?vd20) (a1:=?xd20) rfl ?yd20 ?hd20 ?zd20
    case yd20=>(intro w hSw;(try dsimp only at hSw);go_simp;try (with_reducible rfl))
    case hd20=>(go_simp;exact rfl)
    case zd20 =>
    refine hno 21 (a1:=?xd21) rfl ?hd21 ?zd21
    case hd21=>(go_simp;exact rfl)
    case zd21 =>
    refine hno 22 (a1:=?xd22) rfl ?hd22 ?zd22
    case hd22=>(go_simp;exact rfl)
    case zd22 =>
    refine hno 23 (a1:=?xd23) rfl ?hd23 ?zd23
    case hd23=>(go_simp;exact rfl)
    case zd23 =>
    refine hno 24 (a1:=?xd24) rfl ?hd24 ?zd24
    case hd24=>(go_simp;exact rfl)
    case zd24 =>
    refine hno 25 (a1:=?xd25) rfl ?hd25 ?zd25
    case hd25=>(go_simp;exact rfl)
    case zd25 =>
    refine hno 26 (a1:=?xd26) rfl ?hd26 ?zd26
    case hd26=>(go_simp;exact rfl)
    case zd26 =>
    refine hto 27 (v:=?vd27) (a1:=?xd27) rfl ?yd27 ?hd27 ?zd27
    case yd27=>(intro w hSw;(try dsimp only at hSw);go_simp;try (with_reducible rfl))
    case hd27=>(go_simp;exact rfl)
    case zd27 =>
    refine hto 28 (v:=?vd28) (a1:=?xd28) rfl ?yd28 ?hd28 ?zd28
    case yd28=>(intro w hSw;(try dsimp only at hSw);go_simp;try (with_reducible rfl))
    case hd28=>(go_simp;exact rfl)
    case zd28 =>
    refine hno 29 (a1:=?xd29) rfl ?hd29 ?zd29
    case hd29=>(go_simp;exact rfl)
    case zd29 =>
    refine hno 30 (a1:=?xd30) rfl ?hd30 ?zd30
    case hd30=>(go_simp;exact rfl)
    case zd30 =>
    refine hno 31 (a1:=?xd31) rfl ?hd31 ?zd31
    case hd31=>(go_simp;exact rfl)
    case zd31 =>
    refine hno 32 (a1:=?xd32) rfl ?hd32 ?zd32
    case hd32=>(go_simp;exact rfl)
    case zd32 =>
    refine hno 33 (a1:=?xd33) rfl ?hd33 ?zd33
    case hd33=>(go_simp;exact rfl)
    case zd33 =>
    refine hno 34 (a1:=?xd34) rfl ?hd34 ?zd34
    case hd34=>(go_simp;exact rfl)
    case zd34 =>
    refine hto 35 (v:=?vd35) (a1:=?xd35) rfl ?yd35 ?hd35 ?zd35
    case yd35=>(intro w hSw;(try dsimp only at hSw);go_simp;try (with_reducible rfl))
    case hd35=>(go_simp;exact rfl)
    case zd35 =>
    refine hto 36 (v:=?vd36) (a1:=?xd36) rfl ?yd36 ?hd36 ?zd36
    case yd36=>(intro w hSw;(try dsimp only at hSw);go_simp;try (with_reducible rfl))
    case hd36=>(go_simp;exact rfl)
    case zd36 =>
    refine hno 37 (a1:=?xd37) rfl ?hd37 ?zd37
    case hd37=>(go_simp;exact rfl)
    case zd37 =>
    refine hno 38 (a1:=?xd38) rfl ?hd38 ?zd38
    case hd38=>(go_simp;exact rfl)
    case zd38 =>
    refine hno 39 (a1:=?xd39) rfl ?hd39 ?zd39
    case hd39=>(go_simp;exact rfl)
    case zd39 =>
    refine hno 40 (a1:=?xd40) rfl ?hd40 ?zd40
    case hd40=>(go_simp;exact rfl)
    case zd40 =>
    refine hno 41 (a1:=?xd41) rfl ?hd41 ?zd41
    case hd41=>(go_simp;exact rfl)
    case zd41 =>
    refine hno 42 (a1:=?xd42) rfl ?hd42 ?zd42
    case hd42=>(go_simp;exact rfl)
    case zd42 =>
    refine hno 43 (a1:=?xd43) rfl ?hd43 ?zd43
    case hd43=>(go_simp;exact rfl)
    case zd43 =>
    refine hno 44 (a1:=?xd44) rfl ?hd44 ?zd44
    case hd44=>(go_simp;exact rfl)
    case zd44 =>
    refine hto 45 (v:=?vd45) (a1:=?xd45) rfl ?yd45 ?hd45 ?zd45
    case yd45=>(intro w hSw;(try dsimp only at hSw);go_simp;try (with_reducible rfl))
    case hd45=>(go_simp;exact rfl)
    case zd45 =>
    refine hto 46 (v:=?vd46) (a1:=?xd46) rfl ?yd46 ?hd46 ?zd46
    case yd46=>(intro w hSw;(try dsimp only at hSw);go_simp;try (with_reducible rfl))
    case hd46=>(go_simp;exact rfl)
    case zd46 =>
    refine wpAnyH_done (by kernel_rfl) ?_ _
    have H7:=hide (SB.out _ (by assumption))
    clear O1 O3 O4 O5 E1 E2 E3 E4 E5 K1 K2 K3 SK SB
    go_wp2_with fail
    go_ret
    rw[HR.out]
    exact⟨rfl,H7.out.1.2.2⟩
   | true =>
    cases t4 with
    | false =>
     have HR:Hid (R=false):=hide (by rw[HAL.out];simp)
     clear HAL
     refine wp_region_held_drew (S:=(fun wx=>wx.cell? ⟨w.heap.size,0,none⟩=some (.int .i64 a0)/\wx.cell? ⟨w.heap.size,1,none⟩=some v1/\wx.cell? ⟨w.heap.size,2,none⟩=some v2/\wx.cell? ⟨w.heap.size,3,none⟩=some v3/\wx.cell? ⟨w.heap.size,4,none⟩=some v4/\wx.cell? ⟨w.heap.size,5,none⟩=some v5/\wx.cell? ⟨w.heap.size,6,none⟩=some (.int .i64 a6)/\wx.cell? ⟨w.heap.size,7,none⟩=some (.int .i64 a7)/\wx.cell? ⟨w.heap.size,8,none⟩=some (.int .i64 a8)/\wx.cell? ⟨w.heap.size+1,0,none⟩=some (.int .i64 b0)/\wx.cell? ⟨w.heap.size+1,1,none⟩=some u1/\wx.cell? ⟨w.heap.size+1,2,none⟩=some u2/\wx.cell? ⟨w.heap.size+1,3,none⟩=some u3/\wx.cell? ⟨w.heap.size+1,4,none⟩=some u4/\wx.cell? ⟨w.heap.size+1,5,none⟩=some u5/\wx.cell? ⟨w.heap.size+1,6,none⟩=some (.int .i64 b6)/\wx.cell? ⟨w.heap.size+1,7,none⟩=some (.int .i64 b7)/\wx.cell? ⟨w.heap.size+1,8,none⟩=some (.int .i64 b8)/\Hid (BoxS w #[.int .i64 a0,v1,v2,v3,v4,v5,.int .i64 a6,.int .i64 a7,.int .i64 a8] #[.int .i64 b0,u1,u2,u3,u4,u5,.int .i64 b6,.int .i64 b7,.int .i64 b8] N B0 (m2.map bl) wx))) (by kernel_rfl) (SK.out _ (HS.out.keep ((Below.refl _ _).drew))) (fun hHeld=>?_)
     refine hto 0 (v:=?ve0) (a1:=?xe0) rfl ?ye0 ?he0 ?ze0
     case ye0=>(intro w hSw;(try dsimp only at hSw);go_simp;try (with_reducible rfl))
     case he0=>(go_simp;exact rfl)
     case ze0 =>
     refine hto 1 (v:=?ve1) (a1:=?xe1) rfl ?ye1 ?he1 ?ze1
     case ye1=>(intro w hSw;(try dsimp only at hSw);go_simp;try (with_reducible rfl))
     case he1=>(go_simp;exact rfl)
     case ze1 =>
     refine hto 2 (v:=?ve2) (a1:=?xe2) rfl ?ye2 ?he2 ?ze2
     case ye2=>(intro w hSw;(try dsimp only at hSw);go_simp;try (with_reducible rfl))
     case he2=>(go_simp;exact rfl)
     case ze2 =>
     refine hto 3 (v:=?ve3) (a1:=?xe3) rfl ?ye3 ?he3 ?ze3
     case ye3=>(intro w hSw;(try dsimp only at hSw);go_simp;try (with_reducible rfl))
     case he3=>(go_simp;exact rfl)
     case ze3 =>
     refine wpAnyH_ready (rs:=[4]) (by kernel_rfl) (by simp) ?_
     refine AllReadyH.cons rfl (fun K hK=>?_) AllReadyH.nil
     go_simp
     refine (O1.out _ (SB.out _ (by assumption))).mono ?_
     rintro e w6 ⟨Bq,rfl,HQ,h6⟩
     try go_wp2_with fail
     refine hK.out _ _ (SK.out _ (by assumption)) (fun hHeld2=>?_)
     clear hK K hHeld
     have hHeld:=hHeld2
     clear hHeld2
     refine wpAnyH_ready (rs:=[5]) (by kernel_rfl) (by simp) ?_
     refine AllReadyH.cons rfl (fun K hK=>?_) AllReadyH.nil
     go_simp
     refine (E1.out _ _ (SB.out _ (by assumption)) (by assumption)).mono ?_
     rintro e w6 ⟨rfl,h6⟩
     try go_wp2_with fail
     refine hK.out _ _ (SK.out _ (by assumption)) (fun hHeld2=>?_)
     clear hK K hHeld
     have hHeld:=hHeld2
     clear hHeld2
     refine hto 6 (v:=?ve6) (a1:=?xe6) rfl ?ye6 ?he6 ?ze6
     case ye6=>(intro w hSw;(try dsimp only at hSw);go_simp;try (with_reducible rfl))
     case he6=>(go_simp;exact rfl)
     case ze6 =>
     refine hto 7 (v:=?ve7) (a1:=?xe7) rfl ?ye7 ?he7 ?ze7
     case ye7=>(intro w hSw;(try dsimp only at hSw);go_simp;try (with_reducible rfl))
     case he7=>(go_simp;exact rfl)
     case ze7 =>
     refine hto 8 (v:=?ve8) (a1:=?xe8) rfl ?ye8 ?he8 ?ze8
     case ye8=>(intro w hSw;(try dsimp only at hSw);go_simp;try (with_reducible rfl))
     case he8=>(go_simp;exact rfl)
     case ze8 =>
     refine hto 9 (v:=?ve9) (a1:=?xe9) rfl ?ye9 ?he9 ?ze9
     case ye9=>(intro w hSw;(try dsimp only at hSw);go_simp;try (with_reducible rfl))
     case he9=>(go_simp;exact rfl)
     case ze9 =>
     refine wpAnyH_ready (rs:=[10]) (by kernel_rfl) (by simp) ?_
     refine AllReadyH.cons rfl (fun K hK=>?_) AllReadyH.nil
     go_simp
     refine (E2.out _ (SB.out _ (by assumption))).mono ?_
     rintro e w6 ⟨rfl,h6⟩
     try go_wp2_with fail
     refine hK.out _ _ (SK.out _ (by assumption)) (fun hHeld2=>?_)
     clear hK K hHeld
     have hHeld:=hHeld2
     clear hHeld2
     refine hto 11 (v:=?ve11) (a1:=?xe11) rfl ?ye11 ?he11 ?ze11
     case ye11=>(intro w hSw;(try dsimp only at hSw);go_simp;try (with_reducible rfl))
     case he11=>(go_simp;exact rfl)
     case ze11 =>
     refine hto 12 (v:=?ve12) (a1:=?xe12) rfl ?ye12 ?he12 ?ze12
     case ye12=>(intro w hSw;(try dsimp only at hSw);go_simp;try (with_reducible rfl))
     case he12=>(go_simp;exact rfl)
     case ze12 =>
     refine hto 13 (v:=?ve13) (a1:=?xe13) rfl ?ye13 ?he13 ?ze13
     case ye13=>(intro w hSw;(try dsimp only at hSw);go_simp;try (with_reducible rfl))
     case he13=>(go_simp;exact rfl)
     case ze13 =>
     refine hto 14 (v:=?ve14) (a1:=?xe14) rfl ?ye14 ?he14 ?ze14
     case ye14=>(intro w hSw;(try dsimp only at hSw);go_simp;try (with_reducible rfl))
     case he14=>(go_simp;exact rfl)
     case ze14 =>
     refine hto 15 (v:=?ve15) (a1:=?xe15) rfl ?ye15 ?he15 ?ze15
     case ye15=>(intro w hSw;(try dsimp only at hSw);go_simp;try (with_reducible rfl))
     case he15=>(go_simp;exact rfl)
     case ze15 =>
     refine hto 16 (v:=?ve16) (a1:=?xe16) rfl ?ye16 ?he16 ?ze16
     case ye16=>(intro w hSw;(try dsimp only at hSw);go_simp;try (with_reducible rfl))
     case he16=>(go_simp;exact rfl)
     case ze16 =>
     refine wpAnyH_ready (rs:=[17]) (by kernel_rfl) (by simp) ?_
     refine AllReadyH.cons rfl (fun K hK=>?_) AllReadyH.nil
     go_simp
     refine (O3.out _ (SB.out _ (by assumption))).mono ?_
     rintro e w6 ⟨Bq,rfl,HQ,h6⟩
     try go_wp2_with fail
     refine hK.out _ _ (SK.out _ (by assumption)) (fun hHeld2=>?_)
     clear hK K hHeld
     have hHeld:=hHeld2
     clear hHeld2
     refine wpAnyH_ready (rs:=[18]) (by kernel_rfl) (by simp) ?_
     refine AllReadyH.cons rfl (fun K hK=>?_) AllReadyH.nil
     go_simp
     refine (E3.out _ _ (SB.out _ (by assumption)) (by assumption)).mono ?_
     rintro e w6 ⟨rfl,h6⟩
     try go_wp2_with fail
     refine hK.out _ _ (SK.out _ (by assumption)) (fun hHeld2=>?_)
     clear hK K hHeld
     have hHeld:=hHeld2
     clear hHeld2
     refine hto 19 (v:=?ve19) (a1:=?xe19) rfl ?ye19 ?he19 ?ze19
     case ye19=>(intro w hSw;(try dsimp only at hSw);go_simp;try (with_reducible rfl))
     case he19=>(go_simp;exact rfl)
     case ze19 =>
     refine hto 20 (v:=?ve20) (a1:=?xe20) rfl ?ye20 ?he20 ?ze20
     case ye20=>(intro w hSw;(try dsimp only at hSw);go_simp;try (with_reducible rfl))
     case he20=>(go_simp;exact rfl)
     case ze20 =>
     refine hto 21 (v:=?ve21) (a1:=?xe21) rfl ?ye21 ?he21 ?ze21
     case ye21=>(intro w hSw;(try dsimp only at hSw);go_simp;try (with_reducible rfl))
     case he21=>(go_simp;exact rfl)
     case ze21 =>
     refine hto 22 (v:=?ve22) (a1:=?xe22) rfl ?ye22 ?he22 ?ze22
     case ye22=>(intro w hSw;(try dsimp only at hSw);go_simp;try (with_reducible rfl))
     case he22=>(go_simp;exact rfl)
     case ze22 =>
     refine hto 23 (v:=?ve23) (a1:=?xe23) rfl ?ye23 ?he23 ?ze23
     case ye23=>(intro w hSw;(try dsimp only at hSw);go_simp;try (with_reducible rfl))
     case he23=>(go_simp;exact rfl)
     case ze23 =>
     refine hto 24 (v:=?ve24) (a1:=?xe24) rfl ?ye24 ?he24 ?ze24
     case ye24=>(intro w hSw;(try dsimp only at hSw);go_simp;try (with_reducible rfl))
     case he24=>(go_simp;exact rfl)
     case ze24 =>
     refine wpAnyH_ready (rs:=[25]) (by kernel_rfl) (by simp) ?_
     refine AllReadyH.cons rfl (fun K hK=>?_) AllReadyH.nil
     go_simp
     refine (O4.out _ (SB.out _ (by assumption))).mono ?_
     rintro e w6 ⟨Bq,rfl,HQ,h6⟩
     try go_wp2_with fail
     refine hK.out _ _ (SK.out _ (by assumption)) (fun hHeld2=>?_)
     clear hK K hHeld
     have hHeld:=hHeld2
     clear hHeld2
     refine wpAnyH_ready (rs:=[26]) (by kernel_rfl) (by simp) ?_
     refine AllReadyH.cons rfl (fun K hK=>?_) AllReadyH.nil
     go_simp
     refine (E4.out _ _ (SB.out _ (by assumption)) (by assumption)).mono ?_
     rintro e w6 ⟨rfl,h6⟩
     try go_wp2_with fail
     refine hK.out _ _ (SK.out _ (by assumption)) (fun hHeld2=>?_)
     clear hK K hHeld
     have hHeld:=hHeld2
     clear hHeld2
     refine hto 27 (v:=?ve27) (a1:=?xe27) rfl ?ye27 ?he27 ?ze27
     case ye27=>(intro w hSw;(try dsimp only at hSw);go_simp;try (with_reducible rfl))
     case he27=>(go_simp;exact rfl)
     case ze27 =>
     refine hto 28 (v:=?ve28) (a1:=?xe28) rfl ?ye28 ?he28 ?ze28
     case ye28=>(intro w hSw;(try dsimp only at hSw);go_simp;try (with_reducible rfl))
     case he28=>(go_simp;exact rfl)
     case ze28 =>
     refine hno 29 (a1:=?xe29) rfl ?he29 ?ze29
     case he29=>(go_simp;exact rfl)
     case ze29 =>
     refine hno 30 (a1:=?xe30) rfl ?he30 ?ze30
     case he30=>(go_simp;exact rfl)
     case ze30 =>
     refine hno 31 (a1:=?xe31) rfl ?he31 ?ze31
     case he31=>(go_simp;exact rfl)
     case ze31 =>
     refine hno 32 (a1:=?xe32) rfl ?he32 ?ze32
     case he32=>(go_simp;exact rfl)
     case ze32 =>
     refine hno 33 (a1:=?xe33) rfl ?he33 ?ze33
     case he33=>(go_simp;exact rfl)
     case ze33 =>
     refine hno 34 (a1:=?xe34) rfl ?he34 ?ze34
     case he34=>(go_simp;exact rfl)
     case ze34 =>
     refine hto 35 (v:=?ve35) (a1:=?xe35) rfl ?ye35 ?he35 ?ze35
     case ye35=>(intro w hSw;(try dsimp only at hSw);go_simp;try (with_reducible rfl))
     case he35=>(go_simp;exact rfl)
     case ze35 =>
     refine hto 36 (v:=?ve36) (a1:=?xe36) rfl ?ye36 ?he36 ?ze36
     case ye36=>(intro w hSw;(try dsimp only at hSw);go_simp;try (with_reducible rfl))
     case he36=>(go_simp;exact rfl)
     case ze36 =>
     refine hno 37 (a1:=?xe37) rfl ?he37 ?ze37
     case he37=>(go_simp;exact rfl)
     case ze37 =>
     refine hno 38 (a1:=?xe38) rfl ?he38 ?ze38
     case he38=>(go_simp;exact rfl)
     case ze38 =>
     refine hno 39 (a1:=?xe39) rfl ?he39 ?ze39
     case he39=>(go_simp;exact rfl)
     case ze39 =>
     refine hno 40 (a1:=?xe40) rfl ?he40 ?ze40
     case he40=>(go_simp;exact rfl)
     case ze40 =>
     refine hno 41 (a1:=?xe41) rfl ?he41 ?ze41
     case he41=>(go_simp;exact rfl)
     case ze41 =>
     refine hno 42 (a1:=?xe42) rfl ?he42 ?ze42
     case he42=>(go_simp;exact rfl)
     case ze42 =>
     refine hno 43 (a1:=?xe43) rfl ?he43 ?ze43
     case he43=>(go_simp;exact rfl)
     case ze43 =>
     refine hno 44 (a1:=?xe44) rfl ?he44 ?ze44
     case he44=>(go_simp;exact rfl)
     case ze44 =>
     refine hto 45 (v:=?ve45) (a1:=?xe45) rfl ?ye45 ?he45 ?ze45
     case ye45=>(intro w hSw;(try dsimp only at hSw);go_simp;try (with_reducible rfl))
     case he45=>(go_simp;exact rfl)
     case ze45 =>
     refine hto 46 (v:=?ve46) (a1:=?xe46) rfl ?ye46 ?he46 ?ze46
     case ye46=>(intro w hSw;(try dsimp only at hSw);go_simp;try (with_reducible rfl))
     case he46=>(go_simp;exact rfl)
     case ze46 =>
     refine wpAnyH_done (by kernel_rfl) ?_ _
     have H7:=hide (SB.out _ (by assumption))
     clear O1 O3 O4 O5 E1 E2 E3 E4 E5 K1 K2 K3 SK SB
     go_wp2_with fail
     go_ret
     rw[HR.out]
     exact⟨rfl,H7.out.1.2.2⟩
    | true =>
     cases t5 with
     | false =>
      have HR:Hid (R=false):=hide (by rw[HAL.out];simp)
      clear HAL
      refine wp_region_held_drew (S:=(fun wx=>wx.cell? ⟨w.heap.size,0,none⟩=some (.int .i64 a0)/\wx.cell? ⟨w.heap.size,1,none⟩=some v1/\wx.cell? ⟨w.heap.size,2,none⟩=some v2/\wx.cell? ⟨w.heap.size,3,none⟩=some v3/\wx.cell? ⟨w.heap.size,4,none⟩=some v4/\wx.cell? ⟨w.heap.size,5,none⟩=some v5/\wx.cell? ⟨w.heap.size,6,none⟩=some (.int .i64 a6)/\wx.cell? ⟨w.heap.size,7,none⟩=some (.int .i64 a7)/\wx.cell? ⟨w.heap.size,8,none⟩=some (.int .i64 a8)/\wx.cell? ⟨w.heap.size+1,0,none⟩=some (.int .i64 b0)/\wx.cell? ⟨w.heap.size+1,1,none⟩=some u1/\wx.cell? ⟨w.heap.size+1,2,none⟩=some u2/\wx.cell? ⟨w.heap.size+1,3,none⟩=some u3/\wx.cell? ⟨w.heap.size+1,4,none⟩=some u4/\wx.cell? ⟨w.heap.size+1,5,none⟩=some u5/\wx.cell? ⟨w.heap.size+1,6,none⟩=some (.int .i64 b6)/\wx.cell? ⟨w.heap.size+1,7,none⟩=some (.int .i64 b7)/\wx.cell? ⟨w.heap.size+1,8,none⟩=some (.int .i64 b8)/\Hid (BoxS w #[.int .i64 a0,v1,v2,v3,v4,v5,.int .i64 a6,.int .i64 a7,.int .i64 a8] #[.int .i64 b0,u1,u2,u3,u4,u5,.int .i64 b6,.int .i64 b7,.int .i64 b8] N B0 (m2.map bl) wx))) (by kernel_rfl) (SK.out _ (HS.out.keep ((Below.refl _ _).drew))) (fun hHeld=>?_)
      refine hto 0 (v:=?vf0) (a1:=?xf0) rfl ?yf0 ?hf0 ?zf0
      case yf0=>(intro w hSw;(try dsimp only at hSw);go_simp;try (with_reducible rfl))
      case hf0=>(go_simp;exact rfl)
      case zf0 =>
      refine hto 1 (v:=?vf1) (a1:=?xf1) rfl ?yf1 ?hf1 ?zf1
      case yf1=>(intro w hSw;(try dsimp only at hSw);go_simp;try (with_reducible rfl))
      case hf1=>(go_simp;exact rfl)
      case zf1 =>
      refine hto 2 (v:=?vf2) (a1:=?xf2) rfl ?yf2 ?hf2 ?zf2
      case yf2=>(intro w hSw;(try dsimp only at hSw);go_simp;try (with_reducible rfl))
      case hf2=>(go_simp;exact rfl)
      case zf2 =>
      refine hto 3 (v:=?vf3) (a1:=?xf3) rfl ?yf3 ?hf3 ?zf3
      case yf3=>(intro w hSw;(try dsimp only at hSw);go_simp;try (with_reducible rfl))
      case hf3=>(go_simp;exact rfl)
      case zf3 =>
      refine wpAnyH_ready (rs:=[4]) (by kernel_rfl) (by simp) ?_
      refine AllReadyH.cons rfl (fun K hK=>?_) AllReadyH.nil
      go_simp
      refine (O1.out _ (SB.out _ (by assumption))).mono ?_
      rintro e w6 ⟨Bq,rfl,HQ,h6⟩
      try go_wp2_with fail
      refine hK.out _ _ (SK.out _ (by assumption)) (fun hHeld2=>?_)
      clear hK K hHeld
      have hHeld:=hHeld2
      clear hHeld2
      refine wpAnyH_ready (rs:=[5]) (by kernel_rfl) (by simp) ?_
      refine AllReadyH.cons rfl (fun K hK=>?_) AllReadyH.nil
      go_simp
      refine (E1.out _ _ (SB.out _ (by assumption)) (by assumption)).mono ?_
      rintro e w6 ⟨rfl,h6⟩
      try go_wp2_with fail
      refine hK.out _ _ (SK.out _ (by assumption)) (fun hHeld2=>?_)
      clear hK K hHeld
      have hHeld:=hHeld2
      clear hHeld2
      refine hto 6 (v:=?vf6) (a1:=?xf6) rfl ?yf6 ?hf6 ?zf6
      case yf6=>(intro w hSw;(try dsimp only at hSw);go_simp;try (with_reducible rfl))
      case hf6=>(go_simp;exact rfl)
      case zf6 =>
      refine hto 7 (v:=?vf7) (a1:=?xf7) rfl ?yf7 ?hf7 ?zf7
      case yf7=>(intro w hSw;(try dsimp only at hSw);go_simp;try (with_reducible rfl))
      case hf7=>(go_simp;exact rfl)
      case zf7 =>
      refine hto 8 (v:=?vf8) (a1:=?xf8) rfl ?yf8 ?hf8 ?zf8
      case yf8=>(intro w hSw;(try dsimp only at hSw);go_simp;try (with_reducible rfl))
      case hf8=>(go_simp;exact rfl)
      case zf8 =>
      refine hto 9 (v:=?vf9) (a1:=?xf9) rfl ?yf9 ?hf9 ?zf9
      case yf9=>(intro w hSw;(try dsimp only at hSw);go_simp;try (with_reducible rfl))
      case hf9=>(go_simp;exact rfl)
      case zf9 =>
      refine wpAnyH_ready (rs:=[10]) (by kernel_rfl) (by simp) ?_
      refine AllReadyH.cons rfl (fun K hK=>?_) AllReadyH.nil
      go_simp
      refine (E2.out _ (SB.out _ (by assumption))).mono ?_
      rintro e w6 ⟨rfl,h6⟩
      try go_wp2_with fail
      refine hK.out _ _ (SK.out _ (by assumption)) (fun hHeld2=>?_)
      clear hK K hHeld
      have hHeld:=hHeld2
      clear hHeld2
      refine hto 11 (v:=?vf11) (a1:=?xf11) rfl ?yf11 ?hf11 ?zf11
      case yf11=>(intro w hSw;(try dsimp only at hSw);go_simp;try (with_reducible rfl))
      case hf11=>(go_simp;exact rfl)
      case zf11 =>
      refine hto 12 (v:=?vf12) (a1:=?xf12) rfl ?yf12 ?hf12 ?zf12
      case yf12=>(intro w hSw;(try dsimp only at hSw);go_simp;try (with_reducible rfl))
      case hf12=>(go_simp;exact rfl)
      case zf12 =>
      refine hto 13 (v:=?vf13) (a1:=?xf13) rfl ?yf13 ?hf13 ?zf13
      case yf13=>(intro w hSw;(try dsimp only at hSw);go_simp;try (with_reducible rfl))
      case hf13=>(go_simp;exact rfl)
      case zf13 =>
      refine hto 14 (v:=?vf14) (a1:=?xf14) rfl ?yf14 ?hf14 ?zf14
      case yf14=>(intro w hSw;(try dsimp only at hSw);go_simp;try (with_reducible rfl))
      case hf14=>(go_simp;exact rfl)
      case zf14 =>
      refine hto 15 (v:=?vf15) (a1:=?xf15) rfl ?yf15 ?hf15 ?zf15
      case yf15=>(intro w hSw;(try dsimp only at hSw);go_simp;try (with_reducible rfl))
      case hf15=>(go_simp;exact rfl)
      case zf15 =>
      refine hto 16 (v:=?vf16) (a1:=?xf16) rfl ?yf16 ?hf16 ?zf16
      case yf16=>(intro w hSw;(try dsimp only at hSw);go_simp;try (with_reducible rfl))
      case hf16=>(go_simp;exact rfl)
      case zf16 =>
      refine wpAnyH_ready (rs:=[17]) (by kernel_rfl) (by simp) ?_
      refine AllReadyH.cons rfl (fun K hK=>?_) AllReadyH.nil
      go_simp
      refine (O3.out _ (SB.out _ (by assumption))).mono ?_
      rintro e w6 ⟨Bq,rfl,HQ,h6⟩
      try go_wp2_with fail
      refine hK.out _ _ (SK.out _ (by assumption)) (fun hHeld2=>?_)
      clear hK K hHeld
      have hHeld:=hHeld2
      clear hHeld2
      refine wpAnyH_ready (rs:=[18]) (by kernel_rfl) (by simp) ?_
      refine AllReadyH.cons rfl (fun K hK=>?_) AllReadyH.nil
      go_simp
      refine (E3.out _ _ (SB.out _ (by assumption)) (by assumption)).mono ?_
      rintro e w6 ⟨rfl,h6⟩
      try go_wp2_with fail
      refine hK.out _ _ (SK.out _ (by assumption)) (fun hHeld2=>?_)
      clear hK K hHeld
      have hHeld:=hHeld2
      clear hHeld2
      refine hto 19 (v:=?vf19) (a1:=?xf19) rfl ?yf19 ?hf19 ?zf19
      case yf19=>(intro w hSw;(try dsimp only at hSw);go_simp;try (with_reducible rfl))
      case hf19=>(go_simp;exact rfl)
      case zf19 =>
      refine hto 20 (v:=?vf20) (a1:=?xf20) rfl ?yf20 ?hf20 ?zf20
      case yf20=>(intro w hSw;(try dsimp only at hSw);go_simp;try (with_reducible rfl))
      case hf20=>(go_simp;exact rfl)
      case zf20 =>
      refine hto 21 (v:=?vf21) (a1:=?xf21) rfl ?yf21 ?hf21 ?zf21
      case yf21=>(intro w hSw;(try dsimp only at hSw);go_simp;try (with_reducible rfl))
      case hf21=>(go_simp;exact rfl)
      case zf21 =>
      refine hto 22 (v:=?vf22) (a1:=?xf22) rfl ?yf22 ?hf22 ?zf22
      case yf22=>(intro w hSw;(try dsimp only at hSw);go_simp;try (with_reducible rfl))
      case hf22=>(go_simp;exact rfl)
      case zf22 =>
      refine hto 23 (v:=?vf23) (a1:=?xf23) rfl ?yf23 ?hf23 ?zf23
      case yf23=>(intro w hSw;(try dsimp only at hSw);go_simp;try (with_reducible rfl))
      case hf23=>(go_simp;exact rfl)
      case zf23 =>
      refine hto 24 (v:=?vf24) (a1:=?xf24) rfl ?yf24 ?hf24 ?zf24
      case yf24=>(intro w hSw;(try dsimp only at hSw);go_simp;try (with_reducible rfl))
      case hf24=>(go_simp;exact rfl)
      case zf24 =>
      refine wpAnyH_ready (rs:=[25]) (by kernel_rfl) (by simp) ?_
      refine AllReadyH.cons rfl (fun K hK=>?_) AllReadyH.nil
      go_simp
      refine (O4.out _ (SB.out _ (by assumption))).mono ?_
      rintro e w6 ⟨Bq,rfl,HQ,h6⟩
      try go_wp2_with fail
      refine hK.out _ _ (SK.out _ (by assumption)) (fun hHeld2=>?_)
      clear hK K hHeld
      have hHeld:=hHeld2
      clear hHeld2
      refine wpAnyH_ready (rs:=[26]) (by kernel_rfl) (by simp) ?_
      refine AllReadyH.cons rfl (fun K hK=>?_) AllReadyH.nil
      go_simp
      refine (E4.out _ _ (SB.out _ (by assumption)) (by assumption)).mono ?_
      rintro e w6 ⟨rfl,h6⟩
      try go_wp2_with fail
      refine hK.out _ _ (SK.out _ (by assumption)) (fun hHeld2=>?_)
      clear hK K hHeld
      have hHeld:=hHeld2
      clear hHeld2
      refine hto 27 (v:=?vf27) (a1:=?xf27) rfl ?yf27 ?hf27 ?zf27
      case yf27=>(intro w hSw;(try dsimp only at hSw);go_simp;try (with_reducible rfl))
      case hf27=>(go_simp;exact rfl)
      case zf27 =>
      refine hto 28 (v:=?vf28) (a1:=?xf28) rfl ?yf28 ?hf28 ?zf28
      case yf28=>(intro w hSw;(try dsimp only at hSw);go_simp;try (with_reducible rfl))
      case hf28=>(go_simp;exact rfl)
      case zf28 =>
      refine hto 29 (v:=?vf29) (a1:=?xf29) rfl ?yf29 ?hf29 ?zf29
      case yf29=>(intro w hSw;(try dsimp only at hSw);go_simp;try (with_reducible rfl))
      case hf29=>(go_simp;exact rfl)
      case zf29 =>
      refine hto 30 (v:=?vf30) (a1:=?xf30) rfl ?yf30 ?hf30 ?zf30
      case yf30=>(intro w hSw;(try dsimp only at hSw);go_simp;try (with_reducible rfl))
      case hf30=>(go_simp;exact rfl)
      case zf30 =>
      refine hto 31 (v:=?vf31) (a1:=?xf31) rfl ?yf31 ?hf31 ?zf31
      case yf31=>(intro w hSw;(try dsimp only at hSw);go_simp;try (with_reducible rfl))
      case hf31=>(go_simp;exact rfl)
      case zf31 =>
      refine hto 32 (v:=?vf32) (a1:=?xf32) rfl ?yf32 ?hf32 ?zf32
      case yf32=>(intro w hSw;(try dsimp only at hSw);go_simp;try (with_reducible rfl))
      case hf32=>(go_simp;exact rfl)
      case zf32 =>
      refine wpAnyH_ready (rs:=[33]) (by kernel_rfl) (by simp) ?_
      refine AllReadyH.cons rfl (fun K hK=>?_) AllReadyH.nil
      go_simp
      refine (O5.out _ (SB.out _ (by assumption))).mono ?_
      rintro e w6 ⟨Bq,rfl,HQ,h6⟩
      try go_wp2_with fail
      refine hK.out _ _ (SK.out _ (by assumption)) (fun hHeld2=>?_)
      clear hK K hHeld
      have hHeld:=hHeld2
      clear hHeld2
      refine wpAnyH_ready (rs:=[34]) (by kernel_rfl) (by simp) ?_
      refine AllReadyH.cons rfl (fun K hK=>?_) AllReadyH.nil
      go_simp
      refine (E5.out _ _ (SB.out _ (by assumption)) (by assumption)).mono ?_
      rintro e w6 ⟨rfl,h6⟩
      try go_wp2_with fail
      refine hK.out _ _ (SK.out _ (by assumption)) (fun hHeld2=>?_)
      clear hK K hHeld
      have hHeld:=hHeld2
      clear hHeld2
      refine hto 35 (v:=?vf35) (a1:=?xf35) rfl ?yf35 ?hf35 ?zf35
      case yf35=>(intro w hSw;(try dsimp only at hSw);go_simp;try (with_reducible rfl))
      case hf35=>(go_simp;exact rfl)
      case zf35 =>
      refine hto 36 (v:=?vf36) (a1:=?xf36) rfl ?yf36 ?hf36 ?zf36
      case yf36=>(intro w hSw;(try dsimp only at hSw);go_simp;try (with_reducible rfl))
      case hf36=>(go_simp;exact rfl)
      case zf36 =>
      refine hno 37 (a1:=?xf37) rfl ?hf37 ?zf37
      case hf37=>(go_simp;exact rfl)
      case zf37 =>
      refine hno 38 (a1:=?xf38) rfl ?hf38 ?zf38
      case hf38=>(go_simp;exact rfl)
      case zf38 =>
      refine hno 39 (a1:=?xf39) rfl ?hf39 ?zf39
      case hf39=>(go_simp;exact rfl)
      case zf39 =>
      refine hno 40 (a1:=?xf40) rfl ?hf40 ?zf40
      case hf40=>(go_simp;exact rfl)
      case zf40 =>
      refine hno 41 (a1:=?xf41) rfl ?hf41 ?zf41
      case hf41=>(go_simp;exact rfl)
      case zf41 =>
      refine hno 42 (a1:=?xf42) rfl ?hf42 ?zf42
      case hf42=>(go_simp;exact rfl)
      case zf42 =>
      refine hno 43 (a1:=?xf43) rfl ?hf43 ?zf43
      case hf43=>(go_simp;exact rfl)
      case zf43 =>
      refine hno 44 (a1:=?xf44) rfl ?hf44 ?zf44
      case hf44=>(go_simp;exact rfl)
      case zf44 =>
      refine hto 45 (v:=?vf45) (a1:=?xf45) rfl ?yf45 ?hf45 ?zf45
      case yf45=>(intro w hSw;(try dsimp only at hSw);go_simp;try (with_reducible rfl))
      case hf45=>(go_simp;exact rfl)
      case zf45 =>
      refine hto 46 (v:=?vf46) (a1:=?xf46) rfl ?yf46 ?hf46 ?zf46
      case yf46=>(intro w hSw;(try dsimp only at hSw);go_simp;try (with_reducible rfl))
      case hf46=>(go_simp;exact rfl)
      case zf46 =>
      refine wpAnyH_done (by kernel_rfl) ?_ _
      have H7:=hide (SB.out _ (by assumption))
      clear O1 O3 O4 O5 E1 E2 E3 E4 E5 K1 K2 K3 SK SB
      go_wp2_with fail
      go_ret
      rw[HR.out]
      exact⟨rfl,H7.out.1.2.2⟩
     | true =>
      obtain⟨R3,hR3⟩:∃ R3,R3=((a6==c6) && ((a7==c7) && (a8==c8))):=⟨_,rfl⟩
      have HR:Hid (R=R3):=hide (by rw[HAL.out,hR3];simp)
      have H3:=hide hR3
      clear HAL hR3
      refine wp_region_held_drew (S:=(fun wx=>wx.cell? ⟨w.heap.size,0,none⟩=some (.int .i64 a0)/\wx.cell? ⟨w.heap.size,1,none⟩=some v1/\wx.cell? ⟨w.heap.size,2,none⟩=some v2/\wx.cell? ⟨w.heap.size,3,none⟩=some v3/\wx.cell? ⟨w.heap.size,4,none⟩=some v4/\wx.cell? ⟨w.heap.size,5,none⟩=some v5/\wx.cell? ⟨w.heap.size,6,none⟩=some (.int .i64 a6)/\wx.cell? ⟨w.heap.size,7,none⟩=some (.int .i64 a7)/\wx.cell? ⟨w.heap.size,8,none⟩=some (.int .i64 a8)/\wx.cell? ⟨w.heap.size+1,0,none⟩=some (.int .i64 b0)/\wx.cell? ⟨w.heap.size+1,1,none⟩=some u1/\wx.cell? ⟨w.heap.size+1,2,none⟩=some u2/\wx.cell? ⟨w.heap.size+1,3,none⟩=some u3/\wx.cell? ⟨w.heap.size+1,4,none⟩=some u4/\wx.cell? ⟨w.heap.size+1,5,none⟩=some u5/\wx.cell? ⟨w.heap.size+1,6,none⟩=some (.int .i64 b6)/\wx.cell? ⟨w.heap.size+1,7,none⟩=some (.int .i64 b7)/\wx.cell? ⟨w.heap.size+1,8,none⟩=some (.int .i64 b8)/\Hid (BoxS w #[.int .i64 a0,v1,v2,v3,v4,v5,.int .i64 a6,.int .i64 a7,.int .i64 a8] #[.int .i64 b0,u1,u2,u3,u4,u5,.int .i64 b6,.int .i64 b7,.int .i64 b8] N B0 (m2.map bl) wx))) (by kernel_rfl) (SK.out _ (HS.out.keep ((Below.refl _ _).drew))) (fun hHeld=>?_)
      refine hto 0 (v:=?vj0) (a1:=?xj0) rfl ?yj0 ?hj0 ?zj0
      case yj0=>(intro w hSw;(try dsimp only at hSw);go_simp;try (with_reducible rfl))
      case hj0=>(go_simp;exact rfl)
      case zj0 =>
      refine hto 1 (v:=?vj1) (a1:=?xj1) rfl ?yj1 ?hj1 ?zj1
      case yj1=>(intro w hSw;(try dsimp only at hSw);go_simp;try (with_reducible rfl))
      case hj1=>(go_simp;exact rfl)
      case zj1 =>
      refine hto 2 (v:=?vj2) (a1:=?xj2) rfl ?yj2 ?hj2 ?zj2
      case yj2=>(intro w hSw;(try dsimp only at hSw);go_simp;try (with_reducible rfl))
      case hj2=>(go_simp;exact rfl)
      case zj2 =>
      refine hto 3 (v:=?vj3) (a1:=?xj3) rfl ?yj3 ?hj3 ?zj3
      case yj3=>(intro w hSw;(try dsimp only at hSw);go_simp;try (with_reducible rfl))
      case hj3=>(go_simp;exact rfl)
      case zj3 =>
      refine wpAnyH_ready (rs:=[4]) (by kernel_rfl) (by simp) ?_
      refine AllReadyH.cons rfl (fun K hK=>?_) AllReadyH.nil
      go_simp
      refine (O1.out _ (SB.out _ (by assumption))).mono ?_
      rintro e w6 ⟨Bq,rfl,HQ,h6⟩
      try go_wp2_with fail
      refine hK.out _ _ (SK.out _ (by assumption)) (fun hHeld2=>?_)
      clear hK K hHeld
      have hHeld:=hHeld2
      clear hHeld2
      refine wpAnyH_ready (rs:=[5]) (by kernel_rfl) (by simp) ?_
      refine AllReadyH.cons rfl (fun K hK=>?_) AllReadyH.nil
      go_simp
      refine (E1.out _ _ (SB.out _ (by assumption)) (by assumption)).mono ?_
      rintro e w6 ⟨rfl,h6⟩
      try go_wp2_with fail
      refine hK.out _ _ (SK.out _ (by assumption)) (fun hHeld2=>?_)
      clear hK K hHeld
      have hHeld:=hHeld2
      clear hHeld2
      refine hto 6 (v:=?vj6) (a1:=?xj6) rfl ?yj6 ?hj6 ?zj6
      case yj6=>(intro w hSw;(try dsimp only at hSw);go_simp;try (with_reducible rfl))
      case hj6=>(go_simp;exact rfl)
      case zj6 =>
      refine hto 7 (v:=?vj7) (a1:=?xj7) rfl ?yj7 ?hj7 ?zj7
      case yj7=>(intro w hSw;(try dsimp only at hSw);go_simp;try (with_reducible rfl))
      case hj7=>(go_simp;exact rfl)
      case zj7 =>
      refine hto 8 (v:=?vj8) (a1:=?xj8) rfl ?yj8 ?hj8 ?zj8
      case yj8=>(intro w hSw;(try dsimp only at hSw);go_simp;try (with_reducible rfl))
      case hj8=>(go_simp;exact rfl)
      case zj8 =>
      refine hto 9 (v:=?vj9) (a1:=?xj9) rfl ?yj9 ?hj9 ?zj9
      case yj9=>(intro w hSw;(try dsimp only at hSw);go_simp;try (with_reducible rfl))
      case hj9=>(go_simp;exact rfl)
      case zj9 =>
      refine wpAnyH_ready (rs:=[10]) (by kernel_rfl) (by simp) ?_
      refine AllReadyH.cons rfl (fun K hK=>?_) AllReadyH.nil
      go_simp
      refine (E2.out _ (SB.out _ (by assumption))).mono ?_
      rintro e w6 ⟨rfl,h6⟩
      try go_wp2_with fail
      refine hK.out _ _ (SK.out _ (by assumption)) (fun hHeld2=>?_)
      clear hK K hHeld
      have hHeld:=hHeld2
      clear hHeld2
      refine hto 11 (v:=?vj11) (a1:=?xj11) rfl ?yj11 ?hj11 ?zj11
      case yj11=>(intro w hSw;(try dsimp only at hSw);go_simp;try (with_reducible rfl))
      case hj11=>(go_simp;exact rfl)
      case zj11 =>
      refine hto 12 (v:=?vj12) (a1:=?xj12) rfl ?yj12 ?hj12 ?zj12
      case yj12=>(intro w hSw;(try dsimp only at hSw);go_simp;try (with_reducible rfl))
      case hj12=>(go_simp;exact rfl)
      case zj12 =>
      refine hto 13 (v:=?vj13) (a1:=?xj13) rfl ?yj13 ?hj13 ?zj13
      case yj13=>(intro w hSw;(try dsimp only at hSw);go_simp;try (with_reducible rfl))
      case hj13=>(go_simp;exact rfl)
      case zj13 =>
      refine hto 14 (v:=?vj14) (a1:=?xj14) rfl ?yj14 ?hj14 ?zj14
      case yj14=>(intro w hSw;(try dsimp only at hSw);go_simp;try (with_reducible rfl))
      case hj14=>(go_simp;exact rfl)
      case zj14 =>
      refine hto 15 (v:=?vj15) (a1:=?xj15) rfl ?yj15 ?hj15 ?zj15
      case yj15=>(intro w hSw;(try dsimp only at hSw);go_simp;try (with_reducible rfl))
      case hj15=>(go_simp;exact rfl)
      case zj15 =>
      refine hto 16 (v:=?vj16) (a1:=?xj16) rfl ?yj16 ?hj16 ?zj16
      case yj16=>(intro w hSw;(try dsimp only at hSw);go_simp;try (with_reducible rfl))
      case hj16=>(go_simp;exact rfl)
      case zj16 =>
      refine wpAnyH_ready (rs:=[17]) (by kernel_rfl) (by simp) ?_
      refine AllReadyH.cons rfl (fun K hK=>?_) AllReadyH.nil
      go_simp
      refine (O3.out _ (SB.out _ (by assumption))).mono ?_
      rintro e w6 ⟨Bq,rfl,HQ,h6⟩
      try go_wp2_with fail
      refine hK.out _ _ (SK.out _ (by assumption)) (fun hHeld2=>?_)
      clear hK K hHeld
      have hHeld:=hHeld2
      clear hHeld2
      refine wpAnyH_ready (rs:=[18]) (by kernel_rfl) (by simp) ?_
      refine AllReadyH.cons rfl (fun K hK=>?_) AllReadyH.nil
      go_simp
      refine (E3.out _ _ (SB.out _ (by assumption)) (by assumption)).mono ?_
      rintro e w6 ⟨rfl,h6⟩
      try go_wp2_with fail
      refine hK.out _ _ (SK.out _ (by assumption)) (fun hHeld2=>?_)
      clear hK K hHeld
      have hHeld:=hHeld2
      clear hHeld2
      refine hto 19 (v:=?vj19) (a1:=?xj19) rfl ?yj19 ?hj19 ?zj19
      case yj19=>(intro w hSw;(try dsimp only at hSw);go_simp;try (with_reducible rfl))
      case hj19=>(go_simp;exact rfl)
      case zj19 =>
      refine hto 20 (v:=?vj20) (a1:=?xj20) rfl ?yj20 ?hj20 ?zj20
      case yj20=>(intro w hSw;(try dsimp only at hSw);go_simp;try (with_reducible rfl))
      case hj20=>(go_simp;exact rfl)
      case zj20 =>
      refine hto 21 (v:=?vj21) (a1:=?xj21) rfl ?yj21 ?hj21 ?zj21
      case yj21=>(intro w hSw;(try dsimp only at hSw);go_simp;try (with_reducible rfl))
      case hj21=>(go_simp;exact rfl)
      case zj21 =>
      refine hto 22 (v:=?vj22) (a1:=?xj22) rfl ?yj22 ?hj22 ?zj22
      case yj22=>(intro w hSw;(try dsimp only at hSw);go_simp;try (with_reducible rfl))
      case hj22=>(go_simp;exact rfl)
      case zj22 =>
      refine hto 23 (v:=?vj23) (a1:=?xj23) rfl ?yj23 ?hj23 ?zj23
      case yj23=>(intro w hSw;(try dsimp only at hSw);go_simp;try (with_reducible rfl))
      case hj23=>(go_simp;exact rfl)
      case zj23 =>
      refine hto 24 (v:=?vj24) (a1:=?xj24) rfl ?yj24 ?hj24 ?zj24
      case yj24=>(intro w hSw;(try dsimp only at hSw);go_simp;try (with_reducible rfl))
      case hj24=>(go_simp;exact rfl)
      case zj24 =>
      refine wpAnyH_ready (rs:=[25]) (by kernel_rfl) (by simp) ?_
      refine AllReadyH.cons rfl (fun K hK=>?_) AllReadyH.nil
      go_simp
      refine (O4.out _ (SB.out _ (by assumption))).mono ?_
      rintro e w6 ⟨Bq,rfl,HQ,h6⟩
      try go_wp2_with fail
      refine hK.out _ _ (SK.out _ (by assumption)) (fun hHeld2=>?_)
      clear hK K hHeld
      have hHeld:=hHeld2
      clear hHeld2
      refine wpAnyH_ready (rs:=[26]) (by kernel_rfl) (by simp) ?_
      refine AllReadyH.cons rfl (fun K hK=>?_) AllReadyH.nil
      go_simp
      refine (E4.out _ _ (SB.out _ (by assumption)) (by assumption)).mono ?_
      rintro e w6 ⟨rfl,h6⟩
      try go_wp2_with fail
      refine hK.out _ _ (SK.out _ (by assumption)) (fun hHeld2=>?_)
      clear hK K hHeld
      have hHeld:=hHeld2
      clear hHeld2
      refine hto 27 (v:=?vj27) (a1:=?xj27) rfl ?yj27 ?hj27 ?zj27
      case yj27=>(intro w hSw;(try dsimp only at hSw);go_simp;try (with_reducible rfl))
      case hj27=>(go_simp;exact rfl)
      case zj27 =>
      refine hto 28 (v:=?vj28) (a1:=?xj28) rfl ?yj28 ?hj28 ?zj28
      case yj28=>(intro w hSw;(try dsimp only at hSw);go_simp;try (with_reducible rfl))
      case hj28=>(go_simp;exact rfl)
      case zj28 =>
      refine hto 29 (v:=?vj29) (a1:=?xj29) rfl ?yj29 ?hj29 ?zj29
      case yj29=>(intro w hSw;(try dsimp only at hSw);go_simp;try (with_reducible rfl))
      case hj29=>(go_simp;exact rfl)
      case zj29 =>
      refine hto 30 (v:=?vj30) (a1:=?xj30) rfl ?yj30 ?hj30 ?zj30
      case yj30=>(intro w hSw;(try dsimp only at hSw);go_simp;try (with_reducible rfl))
      case hj30=>(go_simp;exact rfl)
      case zj30 =>
      refine hto 31 (v:=?vj31) (a1:=?xj31) rfl ?yj31 ?hj31 ?zj31
      case yj31=>(intro w hSw;(try dsimp only at hSw);go_simp;try (with_reducible rfl))
      case hj31=>(go_simp;exact rfl)
      case zj31 =>
      refine hto 32 (v:=?vj32) (a1:=?xj32) rfl ?yj32 ?hj32 ?zj32
      case yj32=>(intro w hSw;(try dsimp only at hSw);go_simp;try (with_reducible rfl))
      case hj32=>(go_simp;exact rfl)
      case zj32 =>
      refine wpAnyH_ready (rs:=[33]) (by kernel_rfl) (by simp) ?_
      refine AllReadyH.cons rfl (fun K hK=>?_) AllReadyH.nil
      go_simp
      refine (O5.out _ (SB.out _ (by assumption))).mono ?_
      rintro e w6 ⟨Bq,rfl,HQ,h6⟩
      try go_wp2_with fail
      refine hK.out _ _ (SK.out _ (by assumption)) (fun hHeld2=>?_)
      clear hK K hHeld
      have hHeld:=hHeld2
      clear hHeld2
      refine wpAnyH_ready (rs:=[34]) (by kernel_rfl) (by simp) ?_
      refine AllReadyH.cons rfl (fun K hK=>?_) AllReadyH.nil
      go_simp
      refine (E5.out _ _ (SB.out _ (by assumption)) (by assumption)).mono ?_
      rintro e w6 ⟨rfl,h6⟩
      try go_wp2_with fail
      refine hK.out _ _ (SK.out _ (by assumption)) (fun hHeld2=>?_)
      clear hK K hHeld
      have hHeld:=hHeld2
      clear hHeld2
      refine hto 35 (v:=?vj35) (a1:=?xj35) rfl ?yj35 ?hj35 ?zj35
      case yj35=>(intro w hSw;(try dsimp only at hSw);go_simp;try (with_reducible rfl))
      case hj35=>(go_simp;exact rfl)
      case zj35 =>
      refine hto 36 (v:=?vj36) (a1:=?xj36) rfl ?yj36 ?hj36 ?zj36
      case yj36=>(intro w hSw;(try dsimp only at hSw);go_simp;try (with_reducible rfl))
      case hj36=>(go_simp;exact rfl)
      case zj36 =>
      refine hto 37 (v:=?vj37) (a1:=?xj37) rfl ?yj37 ?hj37 ?zj37
      case yj37=>(intro w hSw;(try dsimp only at hSw);go_simp;try (with_reducible rfl))
      case hj37=>(go_simp;exact rfl)
      case zj37 =>
      refine hto 39 (v:=?vj39) (a1:=?xj39) rfl ?yj39 ?hj39 ?zj39
      case yj39=>(intro w hSw;(try dsimp only at hSw);go_simp;try (with_reducible rfl))
      case hj39=>(go_simp;exact rfl)
      case zj39 =>
      refine hto 41 (v:=?vj41) (a1:=?xj41) rfl ?yj41 ?hj41 ?zj41
      case yj41=>(intro w hSw;(try dsimp only at hSw);go_simp;try (with_reducible rfl))
      case hj41=>(go_simp;exact rfl)
      case zj41 =>
      refine wpAnyH_ready (rs:=[38]) (by kernel_rfl) (by simp) ?_
      refine AllReadyH.cons rfl (fun K hK=>?_) AllReadyH.nil
      go_simp
      refine (K1.out _ (SB.out _ (by assumption))).mono ?_
      rintro e w6 ⟨rfl,h6⟩
      try go_wp2_with fail
      refine hK.out _ _ (SK.out _ (by assumption)) (fun hHeld2=>?_)
      clear hK K hHeld
      have hHeld:=hHeld2
      clear hHeld2
      refine wpAnyH_ready (rs:=[40]) (by kernel_rfl) (by simp) ?_
      refine AllReadyH.cons rfl (fun K hK=>?_) AllReadyH.nil
      go_simp
      refine (K1.out _ (SB.out _ (by assumption))).mono ?_
      rintro e w6 ⟨rfl,h6⟩
      try go_wp2_with fail
      refine hK.out _ _ (SK.out _ (by assumption)) (fun hHeld2=>?_)
      clear hK K hHeld
      have hHeld:=hHeld2
      clear hHeld2
      refine wpAnyH_ready (rs:=[42]) (by kernel_rfl) (by simp) ?_
      refine AllReadyH.cons rfl (fun K hK=>?_) AllReadyH.nil
      go_simp
      refine (K2.out _ (SB.out _ (by assumption))).mono ?_
      rintro e w6 ⟨rfl,h6⟩
      try go_wp2_with fail
      refine hK.out _ _ (SK.out _ (by assumption)) (fun hHeld2=>?_)
      clear hK K hHeld
      have hHeld:=hHeld2
      clear hHeld2
      refine wpAnyH_ready (rs:=[43]) (by kernel_rfl) (by simp) ?_
      refine AllReadyH.cons rfl (fun K hK=>?_) AllReadyH.nil
      go_simp
      refine (K3.out _ (SB.out _ (by assumption))).mono ?_
      rintro e w6 ⟨rfl,h6⟩
      try go_wp2_with fail
      refine hK.out _ _ (SK.out _ (by assumption)) (fun hHeld2=>?_)
      clear hK K hHeld
      have hHeld:=hHeld2
      clear hHeld2
      refine hto 44 (v:=.bool R3) (a1:=?xj44) rfl ?yj44 ?hj44 ?zj44
      case yj44=>(intro w hSw;(try dsimp only at hSw);go_simp;exact (if3 (fun b=>Result.ok (Next.value (Value.bool b)) w) a6 c6 a7 c7 a8 c8).trans (by rw[H3.out]))
      case hj44=>(go_simp;exact rfl)
      case zj44 =>
      refine hto 45 (v:=?vj45) (a1:=?xj45) rfl ?yj45 ?hj45 ?zj45
      case yj45=>(intro w hSw;(try dsimp only at hSw);go_simp;try (with_reducible rfl))
      case hj45=>(go_simp;exact rfl)
      case zj45 =>
      refine hto 46 (v:=?vj46) (a1:=?xj46) rfl ?yj46 ?hj46 ?zj46
      case yj46=>(intro w hSw;(try dsimp only at hSw);go_simp;try (with_reducible rfl))
      case hj46=>(go_simp;exact rfl)
      case zj46 =>
      refine wpAnyH_done (by kernel_rfl) ?_ _
      have H7:=hide (SB.out _ (by assumption))
      clear O1 O3 O4 O5 E1 E2 E3 E4 E5 K1 K2 K3 SK SB
      go_wp2_with fail
      go_ret
      rw[HR.out]
      exact⟨rfl,H7.out.1.2.2⟩
end Go.Proofs.YtkiofbikkhhdfabGreatDoor
