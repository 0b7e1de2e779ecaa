import Derived.Test.YtkiofbikkhhdfabGreatDoorK01
import Derived.Test.YtkiofbikkhhdfabGreatDoorG0
set_option maxHeartbeats 16000000
namespace Go.Proofs.YtkiofbikkhhdfabGreatDoor.Dm
open Go.RowKit
open Utf1
theorem eqlit (s:ByteArray) (l:List UInt8):(s.toList==l)=decide (bl s=l):=by
 rw[ByteArray.toList_eq]
 by_cases h:bl s=l
 ·rw[decide_eq_true h]
  exact beq_iff_eq.2 h
 ·rw[decide_eq_false h]
  exact beq_eq_false_iff_ne.2 h
theorem void_any (s:ByteArray) (w:World) :
  Calls Tryz.prog 111 #[.string s] w fun e w'=>e=.returned (.bool (decide (bl s∈voids)))/\w'=w:=by
 have f0:=eqlit s [97,114,101,97]
 by_cases h0:bl s=[97,114,101,97]
 ·rw[decide_eq_true h0] at f0
  have e:decide (bl s∈voids)=true:=by
   rw[h0]
   decide
  rw[e]
  clear e h0
  go_enter Tryz.func111,Tryz.ntmps111
  go_wp2_with fail
  go_ret
  exact⟨rfl,rfl⟩
 rw[decide_eq_false h0] at f0
 have f1:=eqlit s [98,97,115,101]
 by_cases h1:bl s=[98,97,115,101]
 ·rw[decide_eq_true h1] at f1
  have e:decide (bl s∈voids)=true:=by
   rw[h1]
   decide
  rw[e]
  clear e h0 h1
  go_enter Tryz.func111,Tryz.ntmps111
  go_wp2_with fail
  go_ret
  exact⟨rfl,rfl⟩
 rw[decide_eq_false h1] at f1
 have f2:=eqlit s [98,114]
 by_cases h2:bl s=[98,114]
 ·rw[decide_eq_true h2] at f2
  have e:decide (bl s∈voids)=true:=by
   rw[h2]
   decide
  rw[e]
  clear e h0 h1 h2
  go_enter Tryz.func111,Tryz.ntmps111
  go_wp2_with fail
  go_ret
  exact⟨rfl,rfl⟩
 rw[decide_eq_false h2] at f2
 have f3:=eqlit s [99,111,108]
 by_cases h3:bl s=[99,111,108]
 ·rw[decide_eq_true h3] at f3
  have e:decide (bl s∈voids)=true:=by
   rw[h3]
   decide
  rw[e]
  clear e h0 h1 h2 h3
  go_enter Tryz.func111,Tryz.ntmps111
  go_wp2_with fail
  go_ret
  exact⟨rfl,rfl⟩
 rw[decide_eq_false h3] at f3
 have f4:=eqlit s [101,109,98,101,100]
 by_cases h4:bl s=[101,109,98,101,100]
 ·rw[decide_eq_true h4] at f4
  have e:decide (bl s∈voids)=true:=by
   rw[h4]
   decide
  rw[e]
  clear e h0 h1 h2 h3 h4
  go_enter Tryz.func111,Tryz.ntmps111
  go_wp2_with fail
  go_ret
  exact⟨rfl,rfl⟩
 rw[decide_eq_false h4] at f4
 have f5:=eqlit s [104,114]
 by_cases h5:bl s=[104,114]
 ·rw[decide_eq_true h5] at f5
  have e:decide (bl s∈voids)=true:=by
   rw[h5]
   decide
  rw[e]
  clear e h0 h1 h2 h3 h4 h5
  go_enter Tryz.func111,Tryz.ntmps111
  go_wp2_with fail
  go_ret
  exact⟨rfl,rfl⟩
 rw[decide_eq_false h5] at f5
 have f6:=eqlit s [105,109,103]
 by_cases h6:bl s=[105,109,103]
 ·rw[decide_eq_true h6] at f6
  have e:decide (bl s∈voids)=true:=by
   rw[h6]
   decide
  rw[e]
  clear e h0 h1 h2 h3 h4 h5 h6
  go_enter Tryz.func111,Tryz.ntmps111
  go_wp2_with fail
  go_ret
  exact⟨rfl,rfl⟩
 rw[decide_eq_false h6] at f6
 have f7:=eqlit s [105,110,112,117,116]
 by_cases h7:bl s=[105,110,112,117,116]
 ·rw[decide_eq_true h7] at f7
  have e:decide (bl s∈voids)=true:=by
   rw[h7]
   decide
  rw[e]
  clear e h0 h1 h2 h3 h4 h5 h6 h7
  go_enter Tryz.func111,Tryz.ntmps111
  go_wp2_with fail
  go_ret
  exact⟨rfl,rfl⟩
 rw[decide_eq_false h7] at f7
 have f8:=eqlit s [108,105,110,107]
 by_cases h8:bl s=[108,105,110,107]
 ·rw[decide_eq_true h8] at f8
  have e:decide (bl s∈voids)=true:=by
   rw[h8]
   decide
  rw[e]
  clear e h0 h1 h2 h3 h4 h5 h6 h7 h8
  go_enter Tryz.func111,Tryz.ntmps111
  go_wp2_with fail
  go_ret
  exact⟨rfl,rfl⟩
 rw[decide_eq_false h8] at f8
 have f9:=eqlit s [109,101,116,97]
 by_cases h9:bl s=[109,101,116,97]
 ·rw[decide_eq_true h9] at f9
  have e:decide (bl s∈voids)=true:=by
   rw[h9]
   decide
  rw[e]
  clear e h0 h1 h2 h3 h4 h5 h6 h7 h8 h9
  go_enter Tryz.func111,Tryz.ntmps111
  go_wp2_with fail
  go_ret
  exact⟨rfl,rfl⟩
 rw[decide_eq_false h9] at f9
 have f10:=eqlit s [112,97,114,97,109]
 by_cases h10:bl s=[112,97,114,97,109]
 ·rw[decide_eq_true h10] at f10
  have e:decide (bl s∈voids)=true:=by
   rw[h10]
   decide
  rw[e]
  clear e h0 h1 h2 h3 h4 h5 h6 h7 h8 h9 h10
  go_enter Tryz.func111,Tryz.ntmps111
  go_wp2_with fail
  go_ret
  exact⟨rfl,rfl⟩
 rw[decide_eq_false h10] at f10
 have f11:=eqlit s [115,111,117,114,99,101]
 by_cases h11:bl s=[115,111,117,114,99,101]
 ·rw[decide_eq_true h11] at f11
  have e:decide (bl s∈voids)=true:=by
   rw[h11]
   decide
  rw[e]
  clear e h0 h1 h2 h3 h4 h5 h6 h7 h8 h9 h10 h11
  go_enter Tryz.func111,Tryz.ntmps111
  go_wp2_with fail
  go_ret
  exact⟨rfl,rfl⟩
 rw[decide_eq_false h11] at f11
 have f12:=eqlit s [116,114,97,99,107]
 by_cases h12:bl s=[116,114,97,99,107]
 ·rw[decide_eq_true h12] at f12
  have e:decide (bl s∈voids)=true:=by
   rw[h12]
   decide
  rw[e]
  clear e h0 h1 h2 h3 h4 h5 h6 h7 h8 h9 h10 h11 h12
  go_enter Tryz.func111,Tryz.ntmps111
  go_wp2_with fail
  go_ret
  exact⟨rfl,rfl⟩
 rw[decide_eq_false h12] at f12
 have f13:=eqlit s [119,98,114]
 by_cases h13:bl s=[119,98,114]
 ·rw[decide_eq_true h13] at f13
  have e:decide (bl s∈voids)=true:=by
   rw[h13]
   decide
  rw[e]
  clear e h0 h1 h2 h3 h4 h5 h6 h7 h8 h9 h10 h11 h12 h13
  go_enter Tryz.func111,Tryz.ntmps111
  go_wp2_with fail
  go_ret
  exact⟨rfl,rfl⟩
 rw[decide_eq_false h13] at f13
 have e:decide (bl s∈voids)=false:=by
  refine decide_eq_false ?_
  unfold voids
  simp only[List.mem_cons,List.not_mem_nil,or_false,not_or]
  exact⟨h0,h1,h2,h3,h4,h5,h6,h7,h8,h9,h10,h11,h12,h13⟩
 rw[e]
 clear e h0 h1 h2 h3 h4 h5 h6 h7 h8 h9 h10 h11 h12 h13
 go_enter Tryz.func111,Tryz.ntmps111
 go_wp2_with fail
 go_ret
 exact⟨rfl,rfl⟩
theorem block_any (s:ByteArray) (w:World) :
  Calls Tryz.prog 134 #[.string s] w fun e w'=>e=.returned (.bool (decide (bl s∈blocks)))/\w'=w:=by
 have f0:=eqlit s [97,100,100,114,101,115,115]
 by_cases h0:bl s=[97,100,100,114,101,115,115]
 ·rw[decide_eq_true h0] at f0
  have e:decide (bl s∈blocks)=true:=by
   rw[h0]
   decide
  rw[e]
  clear e h0
  go_enter Tryz.func134,Tryz.ntmps134
  go_wp2_with fail
  go_ret
  exact⟨rfl,rfl⟩
 rw[decide_eq_false h0] at f0
 have f1:=eqlit s [97,114,116,105,99,108,101]
 by_cases h1:bl s=[97,114,116,105,99,108,101]
 ·rw[decide_eq_true h1] at f1
  have e:decide (bl s∈blocks)=true:=by
   rw[h1]
   decide
  rw[e]
  clear e h0 h1
  go_enter Tryz.func134,Tryz.ntmps134
  go_wp2_with fail
  go_ret
  exact⟨rfl,rfl⟩
 rw[decide_eq_false h1] at f1
 have f2:=eqlit s [97,115,105,100,101]
 by_cases h2:bl s=[97,115,105,100,101]
 ·rw[decide_eq_true h2] at f2
  have e:decide (bl s∈blocks)=true:=by
   rw[h2]
   decide
  rw[e]
  clear e h0 h1 h2
  go_enter Tryz.func134,Tryz.ntmps134
  go_wp2_with fail
  go_ret
  exact⟨rfl,rfl⟩
 rw[decide_eq_false h2] at f2
 have f3:=eqlit s [98,108,111,99,107,113,117,111,116,101]
 by_cases h3:bl s=[98,108,111,99,107,113,117,111,116,101]
 ·rw[decide_eq_true h3] at f3
  have e:decide (bl s∈blocks)=true:=by
   rw[h3]
   decide
  rw[e]
  clear e h0 h1 h2 h3
  go_enter Tryz.func134,Tryz.ntmps134
  go_wp2_with fail
  go_ret
  exact⟨rfl,rfl⟩
 rw[decide_eq_false h3] at f3
 have f4:=eqlit s [100,105,118]
 by_cases h4:bl s=[100,105,118]
 ·rw[decide_eq_true h4] at f4
  have e:decide (bl s∈blocks)=true:=by
   rw[h4]
   decide
  rw[e]
  clear e h0 h1 h2 h3 h4
  go_enter Tryz.func134,Tryz.ntmps134
  go_wp2_with fail
  go_ret
  exact⟨rfl,rfl⟩
 rw[decide_eq_false h4] at f4
 have f5:=eqlit s [100,108]
 by_cases h5:bl s=[100,108]
 ·rw[decide_eq_true h5] at f5
  have e:decide (bl s∈blocks)=true:=by
   rw[h5]
   decide
  rw[e]
  clear e h0 h1 h2 h3 h4 h5
  go_enter Tryz.func134,Tryz.ntmps134
  go_wp2_with fail
  go_ret
  exact⟨rfl,rfl⟩
 rw[decide_eq_false h5] at f5
 have f6:=eqlit s [102,105,101,108,100,115,101,116]
 by_cases h6:bl s=[102,105,101,108,100,115,101,116]
 ·rw[decide_eq_true h6] at f6
  have e:decide (bl s∈blocks)=true:=by
   rw[h6]
   decide
  rw[e]
  clear e h0 h1 h2 h3 h4 h5 h6
  go_enter Tryz.func134,Tryz.ntmps134
  go_wp2_with fail
  go_ret
  exact⟨rfl,rfl⟩
 rw[decide_eq_false h6] at f6
 have f7:=eqlit s [102,105,103,117,114,101]
 by_cases h7:bl s=[102,105,103,117,114,101]
 ·rw[decide_eq_true h7] at f7
  have e:decide (bl s∈blocks)=true:=by
   rw[h7]
   decide
  rw[e]
  clear e h0 h1 h2 h3 h4 h5 h6 h7
  go_enter Tryz.func134,Tryz.ntmps134
  go_wp2_with fail
  go_ret
  exact⟨rfl,rfl⟩
 rw[decide_eq_false h7] at f7
 have f8:=eqlit s [102,111,111,116,101,114]
 by_cases h8:bl s=[102,111,111,116,101,114]
 ·rw[decide_eq_true h8] at f8
  have e:decide (bl s∈blocks)=true:=by
   rw[h8]
   decide
  rw[e]
  clear e h0 h1 h2 h3 h4 h5 h6 h7 h8
  go_enter Tryz.func134,Tryz.ntmps134
  go_wp2_with fail
  go_ret
  exact⟨rfl,rfl⟩
 rw[decide_eq_false h8] at f8
 have f9:=eqlit s [102,111,114,109]
 by_cases h9:bl s=[102,111,114,109]
 ·rw[decide_eq_true h9] at f9
  have e:decide (bl s∈blocks)=true:=by
   rw[h9]
   decide
  rw[e]
  clear e h0 h1 h2 h3 h4 h5 h6 h7 h8 h9
  go_enter Tryz.func134,Tryz.ntmps134
  go_wp2_with fail
  go_ret
  exact⟨rfl,rfl⟩
 rw[decide_eq_false h9] at f9
 have f10:=eqlit s [104,49]
 by_cases h10:bl s=[104,49]
 ·rw[decide_eq_true h10] at f10
  have e:decide (bl s∈blocks)=true:=by
   rw[h10]
   decide
  rw[e]
  clear e h0 h1 h2 h3 h4 h5 h6 h7 h8 h9 h10
  go_enter Tryz.func134,Tryz.ntmps134
  go_wp2_with fail
  go_ret
  exact⟨rfl,rfl⟩
 rw[decide_eq_false h10] at f10
 have f11:=eqlit s [104,50]
 by_cases h11:bl s=[104,50]
 ·rw[decide_eq_true h11] at f11
  have e:decide (bl s∈blocks)=true:=by
   rw[h11]
   decide
  rw[e]
  clear e h0 h1 h2 h3 h4 h5 h6 h7 h8 h9 h10 h11
  go_enter Tryz.func134,Tryz.ntmps134
  go_wp2_with fail
  go_ret
  exact⟨rfl,rfl⟩
 rw[decide_eq_false h11] at f11
 have f12:=eqlit s [104,51]
 by_cases h12:bl s=[104,51]
 ·rw[decide_eq_true h12] at f12
  have e:decide (bl s∈blocks)=true:=by
   rw[h12]
   decide
  rw[e]
  clear e h0 h1 h2 h3 h4 h5 h6 h7 h8 h9 h10 h11 h12
  go_enter Tryz.func134,Tryz.ntmps134
  go_wp2_with fail
  go_ret
  exact⟨rfl,rfl⟩
 rw[decide_eq_false h12] at f12
 have f13:=eqlit s [104,52]
 by_cases h13:bl s=[104,52]
 ·rw[decide_eq_true h13] at f13
  have e:decide (bl s∈blocks)=true:=by
   rw[h13]
   decide
  rw[e]
  clear e h0 h1 h2 h3 h4 h5 h6 h7 h8 h9 h10 h11 h12 h13
  go_enter Tryz.func134,Tryz.ntmps134
  go_wp2_with fail
  go_ret
  exact⟨rfl,rfl⟩
 rw[decide_eq_false h13] at f13
 have f14:=eqlit s [104,53]
 by_cases h14:bl s=[104,53]
 ·rw[decide_eq_true h14] at f14
  have e:decide (bl s∈blocks)=true:=by
   rw[h14]
   decide
  rw[e]
  clear e h0 h1 h2 h3 h4 h5 h6 h7 h8 h9 h10 h11 h12 h13 h14
  go_enter Tryz.func134,Tryz.ntmps134
  go_wp2_with fail
  go_ret
  exact⟨rfl,rfl⟩
 rw[decide_eq_false h14] at f14
 have f15:=eqlit s [104,54]
 by_cases h15:bl s=[104,54]
 ·rw[decide_eq_true h15] at f15
  have e:decide (bl s∈blocks)=true:=by
   rw[h15]
   decide
  rw[e]
  clear e h0 h1 h2 h3 h4 h5 h6 h7 h8 h9 h10 h11 h12 h13 h14 h15
  go_enter Tryz.func134,Tryz.ntmps134
  go_wp2_with fail
  go_ret
  exact⟨rfl,rfl⟩
 rw[decide_eq_false h15] at f15
 have f16:=eqlit s [104,101,97,100,101,114]
 by_cases h16:bl s=[104,101,97,100,101,114]
 ·rw[decide_eq_true h16] at f16
  have e:decide (bl s∈blocks)=true:=by
   rw[h16]
   decide
  rw[e]
  clear e h0 h1 h2 h3 h4 h5 h6 h7 h8 h9 h10 h11 h12 h13 h14 h15 h16
  go_enter Tryz.func134,Tryz.ntmps134
  go_wp2_with fail
  go_ret
  exact⟨rfl,rfl⟩
 rw[decide_eq_false h16] at f16
 have f17:=eqlit s [104,114]
 by_cases h17:bl s=[104,114]
 ·rw[decide_eq_true h17] at f17
  have e:decide (bl s∈blocks)=true:=by
   rw[h17]
   decide
  rw[e]
  clear e h0 h1 h2 h3 h4 h5 h6 h7 h8 h9 h10 h11 h12 h13 h14 h15 h16 h17
  go_enter Tryz.func134,Tryz.ntmps134
  go_wp2_with fail
  go_ret
  exact⟨rfl,rfl⟩
 rw[decide_eq_false h17] at f17
 have f18:=eqlit s [108,105]
 by_cases h18:bl s=[108,105]
 ·rw[decide_eq_true h18] at f18
  have e:decide (bl s∈blocks)=true:=by
   rw[h18]
   decide
  rw[e]
  clear e h0 h1 h2 h3 h4 h5 h6 h7 h8 h9 h10 h11 h12 h13 h14 h15 h16 h17 h18
  go_enter Tryz.func134,Tryz.ntmps134
  go_wp2_with fail
  go_ret
  exact⟨rfl,rfl⟩
 rw[decide_eq_false h18] at f18
 have f19:=eqlit s [109,97,105,110]
 by_cases h19:bl s=[109,97,105,110]
 ·rw[decide_eq_true h19] at f19
  have e:decide (bl s∈blocks)=true:=by
   rw[h19]
   decide
  rw[e]
  clear e h0 h1 h2 h3 h4 h5 h6 h7 h8 h9 h10 h11 h12 h13 h14 h15 h16 h17 h18 h19
  go_enter Tryz.func134,Tryz.ntmps134
  go_wp2_with fail
  go_ret
  exact⟨rfl,rfl⟩
 rw[decide_eq_false h19] at f19
 have f20:=eqlit s [110,97,118]
 by_cases h20:bl s=[110,97,118]
 ·rw[decide_eq_true h20] at f20
  have e:decide (bl s∈blocks)=true:=by
   rw[h20]
   decide
  rw[e]
  clear e h0 h1 h2 h3 h4 h5 h6 h7 h8 h9 h10 h11 h12 h13 h14 h15 h16 h17 h18 h19 h20
  go_enter Tryz.func134,Tryz.ntmps134
  go_wp2_with fail
  go_ret
  exact⟨rfl,rfl⟩
 rw[decide_eq_false h20] at f20
 have f21:=eqlit s [111,108]
 by_cases h21:bl s=[111,108]
 ·rw[decide_eq_true h21] at f21
  have e:decide (bl s∈blocks)=true:=by
   rw[h21]
   decide
  rw[e]
  clear e h0 h1 h2 h3 h4 h5 h6 h7 h8 h9 h10 h11 h12 h13 h14 h15 h16 h17 h18 h19 h20 h21
  go_enter Tryz.func134,Tryz.ntmps134
  go_wp2_with fail
  go_ret
  exact⟨rfl,rfl⟩
 rw[decide_eq_false h21] at f21
 have f22:=eqlit s [112]
 by_cases h22:bl s=[112]
 ·rw[decide_eq_true h22] at f22
  have e:decide (bl s∈blocks)=true:=by
   rw[h22]
   decide
  rw[e]
  clear e h0 h1 h2 h3 h4 h5 h6 h7 h8 h9 h10 h11 h12 h13 h14 h15 h16 h17 h18 h19 h20 h21 h22
  go_enter Tryz.func134,Tryz.ntmps134
  go_wp2_with fail
  go_ret
  exact⟨rfl,rfl⟩
 rw[decide_eq_false h22] at f22
 have f23:=eqlit s [112,114,101]
 by_cases h23:bl s=[112,114,101]
 ·rw[decide_eq_true h23] at f23
  have e:decide (bl s∈blocks)=true:=by
   rw[h23]
   decide
  rw[e]
  clear e h0 h1 h2 h3 h4 h5 h6 h7 h8 h9 h10 h11 h12 h13 h14 h15 h16 h17 h18 h19 h20 h21 h22 h23
  go_enter Tryz.func134,Tryz.ntmps134
  go_wp2_with fail
  go_ret
  exact⟨rfl,rfl⟩
 rw[decide_eq_false h23] at f23
 have f24:=eqlit s [115,101,99,116,105,111,110]
 by_cases h24:bl s=[115,101,99,116,105,111,110]
 ·rw[decide_eq_true h24] at f24
  have e:decide (bl s∈blocks)=true:=by
   rw[h24]
   decide
  rw[e]
  clear e h0 h1 h2 h3 h4 h5 h6 h7 h8 h9 h10 h11 h12 h13 h14 h15 h16 h17 h18 h19 h20 h21 h22 h23 h24
  go_enter Tryz.func134,Tryz.ntmps134
  go_wp2_with fail
  go_ret
  exact⟨rfl,rfl⟩
 rw[decide_eq_false h24] at f24
 have f25:=eqlit s [116,97,98,108,101]
 by_cases h25:bl s=[116,97,98,108,101]
 ·rw[decide_eq_true h25] at f25
  have e:decide (bl s∈blocks)=true:=by
   rw[h25]
   decide
  rw[e]
  clear e h0 h1 h2 h3 h4 h5 h6 h7 h8 h9 h10 h11 h12 h13 h14 h15 h16 h17 h18 h19 h20 h21 h22 h23 h24 h25
  go_enter Tryz.func134,Tryz.ntmps134
  go_wp2_with fail
  go_ret
  exact⟨rfl,rfl⟩
 rw[decide_eq_false h25] at f25
 have f26:=eqlit s [117,108]
 by_cases h26:bl s=[117,108]
 ·rw[decide_eq_true h26] at f26
  have e:decide (bl s∈blocks)=true:=by
   rw[h26]
   decide
  rw[e]
  clear e h0 h1 h2 h3 h4 h5 h6 h7 h8 h9 h10 h11 h12 h13 h14 h15 h16 h17 h18 h19 h20 h21 h22 h23 h24 h25 h26
  go_enter Tryz.func134,Tryz.ntmps134
  go_wp2_with fail
  go_ret
  exact⟨rfl,rfl⟩
 rw[decide_eq_false h26] at f26
 have e:decide (bl s∈blocks)=false:=by
  refine decide_eq_false ?_
  unfold blocks
  simp only[List.mem_cons,List.not_mem_nil,or_false,not_or]
  exact⟨h0,h1,h2,h3,h4,h5,h6,h7,h8,h9,h10,h11,h12,h13,h14,h15,h16,h17,h18,h19,h20,h21,h22,h23,h24,h25,h26⟩
 rw[e]
 clear e h0 h1 h2 h3 h4 h5 h6 h7 h8 h9 h10 h11 h12 h13 h14 h15 h16 h17 h18 h19 h20 h21 h22 h23 h24 h25 h26
 go_enter Tryz.func134,Tryz.ntmps134
 go_wp2_with fail
 go_ret
 exact⟨rfl,rfl⟩
end Go.Proofs.YtkiofbikkhhdfabGreatDoor.Dm
