import Derived.Test.YtkiofbikkhhdfabGreatDoorK01
import Derived.Test.YtkiofbikkhhdfabGreatDoorK05
import Derived.WalkMore
set_option maxHeartbeats 2000000
namespace Go.Proofs.YtkiofbikkhhdfabGreatDoor.Dm
open Go.RowKit
open Utf1
theorem eq_lit (s:ByteArray) (l:List UInt8):(s.toList==l)=decide (bl s=l):=by
 rw[ByteArray.toList_eq]
 by_cases h:bl s=l
 ·rw[decide_eq_true h]
  exact beq_iff_eq.2 h
 ·rw[decide_eq_false h]
  exact beq_eq_false_iff_ne.2 h
theorem raw_any (s:ByteArray) (w:World) :
  Calls Tryz.prog 92 #[.string s] w fun e w'=>e=.returned (.tuple #[.bool (rawOf (bl s)).isSome,.bool ((rawOf (bl s)).getD false)])/\w'=w:=by
 have f0:=eq_lit s [115,99,114,105,112,116]
 by_cases h0:bl s=[115,99,114,105,112,116]
 ·rw[decide_eq_true h0] at f0
  have e:rawOf (bl s)=some false:=by
   rw[h0]
   decide
  rw[e]
  clear e h0
  go_enter Tryz.func92,Tryz.ntmps92
  go_wp2
  go_ret2
  exact⟨rfl,rfl⟩
 rw[decide_eq_false h0] at f0
 have f1:=eq_lit s [115,116,121,108,101]
 by_cases h1:bl s=[115,116,121,108,101]
 ·rw[decide_eq_true h1] at f1
  have e:rawOf (bl s)=some false:=by
   rw[h1]
   decide
  rw[e]
  clear e h0 h1
  go_enter Tryz.func92,Tryz.ntmps92
  go_wp2
  go_ret2
  exact⟨rfl,rfl⟩
 rw[decide_eq_false h1] at f1
 have f2:=eq_lit s [120,109,112]
 by_cases h2:bl s=[120,109,112]
 ·rw[decide_eq_true h2] at f2
  have e:rawOf (bl s)=some false:=by
   rw[h2]
   decide
  rw[e]
  clear e h0 h1 h2
  go_enter Tryz.func92,Tryz.ntmps92
  go_wp2
  go_ret2
  exact⟨rfl,rfl⟩
 rw[decide_eq_false h2] at f2
 have f3:=eq_lit s [105,102,114,97,109,101]
 by_cases h3:bl s=[105,102,114,97,109,101]
 ·rw[decide_eq_true h3] at f3
  have e:rawOf (bl s)=some false:=by
   rw[h3]
   decide
  rw[e]
  clear e h0 h1 h2 h3
  go_enter Tryz.func92,Tryz.ntmps92
  go_wp2
  go_ret2
  exact⟨rfl,rfl⟩
 rw[decide_eq_false h3] at f3
 have f4:=eq_lit s [110,111,101,109,98,101,100]
 by_cases h4:bl s=[110,111,101,109,98,101,100]
 ·rw[decide_eq_true h4] at f4
  have e:rawOf (bl s)=some false:=by
   rw[h4]
   decide
  rw[e]
  clear e h0 h1 h2 h3 h4
  go_enter Tryz.func92,Tryz.ntmps92
  go_wp2
  go_ret2
  exact⟨rfl,rfl⟩
 rw[decide_eq_false h4] at f4
 have f5:=eq_lit s [110,111,102,114,97,109,101,115]
 by_cases h5:bl s=[110,111,102,114,97,109,101,115]
 ·rw[decide_eq_true h5] at f5
  have e:rawOf (bl s)=some false:=by
   rw[h5]
   decide
  rw[e]
  clear e h0 h1 h2 h3 h4 h5
  go_enter Tryz.func92,Tryz.ntmps92
  go_wp2
  go_ret2
  exact⟨rfl,rfl⟩
 rw[decide_eq_false h5] at f5
 have f6:=eq_lit s [112,108,97,105,110,116,101,120,116]
 by_cases h6:bl s=[112,108,97,105,110,116,101,120,116]
 ·rw[decide_eq_true h6] at f6
  have e:rawOf (bl s)=some false:=by
   rw[h6]
   decide
  rw[e]
  clear e h0 h1 h2 h3 h4 h5 h6
  go_enter Tryz.func92,Tryz.ntmps92
  go_wp2
  go_ret2
  exact⟨rfl,rfl⟩
 rw[decide_eq_false h6] at f6
 have f7:=eq_lit s [116,101,120,116,97,114,101,97]
 by_cases h7:bl s=[116,101,120,116,97,114,101,97]
 ·rw[decide_eq_true h7] at f7
  have e:rawOf (bl s)=some true:=by
   rw[h7]
   decide
  rw[e]
  clear e h0 h1 h2 h3 h4 h5 h6 h7
  go_enter Tryz.func92,Tryz.ntmps92
  go_wp2
  go_ret2
  exact⟨rfl,rfl⟩
 rw[decide_eq_false h7] at f7
 have f8:=eq_lit s [116,105,116,108,101]
 by_cases h8:bl s=[116,105,116,108,101]
 ·rw[decide_eq_true h8] at f8
  have e:rawOf (bl s)=some true:=by
   rw[h8]
   decide
  rw[e]
  clear e h0 h1 h2 h3 h4 h5 h6 h7 h8
  go_enter Tryz.func92,Tryz.ntmps92
  go_wp2
  go_ret2
  exact⟨rfl,rfl⟩
 rw[decide_eq_false h8] at f8
 have e:rawOf (bl s)=none:=by
  unfold rawOf raws
  simp only[lookR]
  rw[if_neg (Ne.symm h0),if_neg (Ne.symm h1),if_neg (Ne.symm h2),if_neg (Ne.symm h3),if_neg (Ne.symm h4),if_neg (Ne.symm h5),if_neg (Ne.symm h6),if_neg (Ne.symm h7),if_neg (Ne.symm h8)]
 rw[e]
 clear e h0 h1 h2 h3 h4 h5 h6 h7 h8
 go_enter Tryz.func92,Tryz.ntmps92
 go_wp2
 go_ret2
 exact⟨rfl,rfl⟩
end Go.Proofs.YtkiofbikkhhdfabGreatDoor.Dm
