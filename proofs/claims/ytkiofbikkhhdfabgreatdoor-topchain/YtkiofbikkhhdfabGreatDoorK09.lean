import Derived.Test.YtkiofbikkhhdfabGreatDoorK08
import Derived.Test.YtkiofbikkhhdfabGreatDoorK05
set_option maxHeartbeats 4000000
namespace Go.Proofs.YtkiofbikkhhdfabGreatDoor.To
open Go.RowKit
open Utf1
theorem isLet_iff (c:UInt8):isLet c=decide ((97<=c.toNat/\c.toNat<=122)\/(65<=c.toNat/\c.toNat<=90)):=by
 unfold isLet
 simp only[UInt8.le_iff_toNat_le,Bool.decide_or,Bool.decide_and]
 rfl
theorem isLetter_any (c:UInt8) (w:World) :
  Calls Tryz.prog 84 #[.int .u8 (c.toNat:Int)] w fun e w'=>e=.returned (.bool (isLet c))/\w'=w:=by
 have hb:=c.toNat_lt
 have HI:=hide (isLet_iff c)
 obtain⟨n,hn⟩:∃ n,n=c.toNat:=⟨_,rfl⟩
 rw[<-hn] at HI hb ⊢
 rw[HI.out]
 clear HI hn
 rcases (show n < 65\/(65<=n/\n<=90)\/(90 < n/\n < 97)\/(97<=n/\n<=122)\/122 < n from by omega) with h | ⟨h1,h2⟩ | ⟨h1,h2⟩ | ⟨h1,h2⟩ | h
 ·rw[show decide ((97<=n/\n<=122)\/(65<=n/\n<=90))=false from decide_eq_false (by omega)]
  go_enter Tryz.func84,Tryz.ntmps84
  go_wp2
  go_ret
  exact⟨rfl,rfl⟩
 ·rw[show decide ((97<=n/\n<=122)\/(65<=n/\n<=90))=true from decide_eq_true (by omega)]
  go_enter Tryz.func84,Tryz.ntmps84
  go_wp2
  go_ret
  exact⟨ret_bool (by simp;omega),rfl⟩
 ·rw[show decide ((97<=n/\n<=122)\/(65<=n/\n<=90))=false from decide_eq_false (by omega)]
  go_enter Tryz.func84,Tryz.ntmps84
  go_wp2
  go_ret
  exact⟨ret_bool (by simp;omega),rfl⟩
 ·rw[show decide ((97<=n/\n<=122)\/(65<=n/\n<=90))=true from decide_eq_true (by omega)]
  go_enter Tryz.func84,Tryz.ntmps84
  go_wp2
  go_ret
  exact⟨rfl,rfl⟩
 ·rw[show decide ((97<=n/\n<=122)\/(65<=n/\n<=90))=false from decide_eq_false (by omega)]
  go_enter Tryz.func84,Tryz.ntmps84
  go_wp2
  go_ret
  exact⟨ret_bool (by simp;omega),rfl⟩
theorem index_mem (l:List UInt8) (c:UInt8):(0<=Lib.indexByte l c ↔ l.contains c=true):=by
 induction l with
 | nil=>simp[Lib.indexByte]
 | cons b t ih =>
  have hge:=Lib.indexByte_ge t c
  unfold Lib.indexByte
  by_cases hb:b=c
  ·subst hb
   simp
  ·rw[if_neg (by simpa using hb)]
   have e:(b :: t).contains c=t.contains c:=by
    simp[Ne.symm hb]
   rw[e,<-ih]
   split
   ·rename_i h
    have:Lib.indexByte t c=-1:=by simpa using h
    omega
   ·rename_i h
    have:Lib.indexByte t c≠-1:=by simpa using h
    omega
theorem byte_back (c:UInt8):((c.toNat:Int)).toNat.toUInt8=c:=by
 simp
theorem none1_any (t:ByteArray) (c:UInt8) (B:Nat) (w:World)(h:w.cell? ⟨B,0,none⟩=some (.string t)) :
  Calls Tryz.prog 113 #[.int .u8 (c.toNat:Int),.pointer (some ⟨B,0,none⟩)] w fun e w'=>e=.returned (.bool (!(bl t).contains c))/\w'=w:=by
 have hi:=Tryz.strings_IndexByte t (c.toNat:Int) w
 rw[byte_back] at hi
 have HM:=hide (index_mem (bl t) c)
 obtain⟨k,hk⟩:∃ k,k=Lib.indexByte (bl t) c:=⟨_,rfl⟩
 rw[<-hk] at hi HM
 clear hk
 obtain⟨z,hz⟩:∃ z:Int,z=(c.toNat:Int):=⟨_,rfl⟩
 rw[<-hz] at hi ⊢
 clear hz
 by_cases hc:(bl t).contains c=true
 ·rw[hc]
  have hk0:0<=k:=HM.out.2 hc
  clear HM hc
  go_enter Tryz.func113,Tryz.ntmps113
  go_wp2_with fail
  refine hi.mono ?_
  rintro e w1 ⟨rfl,rfl⟩
  go_wp2_with fail
  go_ret
  exact⟨ret_bool (by simp;omega),rfl⟩
 ·have hf:(bl t).contains c=false:=by simpa using hc
  have hk0:k < 0:=by
   have:=HM.out
   rw[hf] at this
   simpa using this
  rw[hf]
  clear HM hc hf
  go_enter Tryz.func113,Tryz.ntmps113
  go_wp2_with fail
  refine hi.mono ?_
  rintro e w1 ⟨rfl,rfl⟩
  go_wp2_with fail
  go_ret
  exact⟨ret_bool (by simp),rfl⟩
theorem one1_any (t:ByteArray) (c:UInt8) (B:Nat) (w:World)(h:w.cell? ⟨B,0,none⟩=some (.string t)) :
  Calls Tryz.prog 114 #[.int .u8 (c.toNat:Int),.pointer (some ⟨B,0,none⟩)] w fun e w'=>e=.returned (.bool ((bl t).contains c))/\w'=w:=by
 have hi:=Tryz.strings_IndexByte t (c.toNat:Int) w
 rw[byte_back] at hi
 have HM:=hide (index_mem (bl t) c)
 obtain⟨k,hk⟩:∃ k,k=Lib.indexByte (bl t) c:=⟨_,rfl⟩
 rw[<-hk] at hi HM
 clear hk
 obtain⟨z,hz⟩:∃ z:Int,z=(c.toNat:Int):=⟨_,rfl⟩
 rw[<-hz] at hi ⊢
 clear hz
 by_cases hc:(bl t).contains c=true
 ·rw[hc]
  have hk0:0<=k:=HM.out.2 hc
  clear HM hc
  go_enter Tryz.func114,Tryz.ntmps114
  go_wp2_with fail
  refine hi.mono ?_
  rintro e w1 ⟨rfl,rfl⟩
  go_wp2_with fail
  go_ret
  exact⟨ret_bool (by simp),rfl⟩
 ·have hf:(bl t).contains c=false:=by simpa using hc
  have hk0:k < 0:=by
   have:=HM.out
   rw[hf] at this
   simpa using this
  rw[hf]
  clear HM hc hf
  go_enter Tryz.func114,Tryz.ntmps114
  go_wp2_with fail
  refine hi.mono ?_
  rintro e w1 ⟨rfl,rfl⟩
  go_wp2_with fail
  go_ret
  exact⟨ret_bool (by simp;omega),rfl⟩
theorem noneOf_any (t:ByteArray) (w:World) :
  Calls Tryz.prog 87 #[.string t] w fun e w'=>e=.returned (.func (.func 113) #[] #[.pointer (some ⟨w.heap.size,0,none⟩)])/\w'=w.alloc (.cells #[.string t] 9):=by
 have hmf:∀ (fn:Fn) (first cap:Array Value) (w:World),(Instr.makeFunc fn first cap).run Tryz.prog w=.ok (.func fn first cap) w:=fun _ _ _ _=>rfl
 go_enter Tryz.func87,Tryz.ntmps87
 go_wp2
 go_ret
 exact⟨rfl,rfl⟩
theorem oneOf_any (t:ByteArray) (w:World) :
  Calls Tryz.prog 89 #[.string t] w fun e w'=>e=.returned (.func (.func 114) #[] #[.pointer (some ⟨w.heap.size,0,none⟩)])/\w'=w.alloc (.cells #[.string t] 9):=by
 have hmf:∀ (fn:Fn) (first cap:Array Value) (w:World),(Instr.makeFunc fn first cap).run Tryz.prog w=.ok (.func fn first cap) w:=fun _ _ _ _=>rfl
 go_enter Tryz.func89,Tryz.ntmps89
 go_wp2
 go_ret
 exact⟨rfl,rfl⟩
theorem first_any (fn:Fn) (caps:Array Value) (w:World) :
  Calls Tryz.prog 90 #[.func fn #[] caps] w fun e w'=>e=.returned (.func (.func 115) #[] #[.pointer (some ⟨w.heap.size+1,0,none⟩),.pointer (some ⟨w.heap.size,0,none⟩)])/\w'=(w.alloc (.cells #[.func fn #[] caps] 111)).alloc (.cells #[.bool false] 4):=by
 have hmf:∀ (fn:Fn) (first cap:Array Value) (w:World),(Instr.makeFunc fn first cap).run Tryz.prog w=.ok (.func fn first cap) w:=fun _ _ _ _=>rfl
 go_enter Tryz.func90,Tryz.ntmps90
 go_wp2
 go_ret
 exact⟨rfl,rfl⟩
theorem span_take (l:List UInt8) (P:UInt8->Bool) (p:Nat)(h:l.takeWhile P=l.take p):l.dropWhile P=l.drop p:=by
 have h1:=List.takeWhile_append_dropWhile (p:=P) (l:=l)
 rw[h] at h1
 have h2:l.take p++l.drop p=l:=List.take_append_drop p l
 exact List.append_cancel_left (h1.trans h2.symm)
theorem span_step (l:List UInt8) (P:UInt8->Bool) (p:Nat) (c:UInt8) (t:List UInt8)(hd:l.drop p=c :: t)(hc:P c=true)(h:l.takeWhile P=l.take p++(l.drop p).takeWhile P):l.takeWhile P=l.take (p+1)++(l.drop (p+1)).takeWhile P:=by
 have e1:l.drop (p+1)=t:=by rw[<-List.drop_drop,hd];rfl
 have e2:l.take (p+1)=l.take p++[c]:=by
  rw[List.take_add,hd]
  rfl
 rw[h,hd,e1,e2,List.takeWhile_cons,if_pos hc]
 simp
theorem ext_drop (s:ByteArray) (p:Nat):s.extract p s.size=⟨((bl s).drop p).toArray⟩:=by
 apply ByteArray.ext
 apply Array.toList_inj.1
 rw[Lib.extract_data]
 show ((bl s).drop p).take (s.size - p)=_
 rw[List.take_of_length_le (by rw[List.length_drop,bl_len];exact Nat.le_refl _)]
theorem pass_none (s t:ByteArray) (B:Nat) (w:World)(hs:s.size<=1099511627776)(h:w.cell? ⟨B,0,none⟩=some (.string t)) :
  Calls Tryz.prog 86 #[.string s,.func (.func 113) #[] #[.pointer (some ⟨B,0,none⟩)]] w fun e w'=>e=.returned (.tuple #[.string ⟨((bl s).takeWhile (fun x=>!(bl t).contains x)).toArray⟩,.string ⟨((bl s).dropWhile (fun x=>!(bl t).contains x)).toArray⟩])/\Below w.heap.size w w':=by
 obtain⟨P,hP⟩:∃ P:UInt8->Bool,P=fun x=>!(bl t).contains x:=⟨_,rfl⟩
 rw[<-hP]
 have hcl:=fun c=>none1_any t c B w h
 have hcl:∀ c:UInt8,Calls Tryz.prog 113 #[.int .u8 (c.toNat:Int),.pointer (some ⟨B,0,none⟩)] w fun e w'=>e=.returned (.bool (P c))/\w'=w:=by
  intro c
  rw[hP]
  exact hcl c
 clear hP h
 have hl:=bl_len s
 go_enter Tryz.func86,Tryz.ntmps86
 go_wp2
 go_loopg [6] s.size (fun g v wr=>∃ p:Nat,p+g=s.size/\v=.int .i64 (p:Int)/\wr=w/\Hid ((bl s).takeWhile P=(bl s).take p++((bl s).drop p).takeWhile P))
 case atStart=>exact⟨0,by omega,rfl,rfl,hide (by simp)⟩
 case round =>
  obtain⟨p,hpg,rfl,rfl,HT⟩:=hrel
  have HF:(bl s).takeWhile P=(bl s).take p->Hid ((.tuple #[.string (s.extract 0 p),.string (s.extract p s.size)]:Value)=.tuple #[.string ⟨((bl s).takeWhile P).toArray⟩,.string ⟨((bl s).dropWhile P).toArray⟩]):=fun h=>hide (by rw[span_take _ _ p h,h,extract_take,ext_drop])
  by_cases hlt:p < s.size
  ·have i0:∀ w,(Instr.index 9 (.string s) (.int .i64 (p:Int))).run Tryz.prog w=.ok (.int .u8 (atN ((bl s).drop p) 0:Nat)) w:=idx_run s p 0 hlt
   rw[atN_drop s p hlt] at i0
   have hdc:=drop_cons s p hlt
   generalize (bl s)[p]'(by rw[bl_len];exact hlt)=c at i0 hdc
   have hc:=hcl c
   by_cases hPc:P c=true
   ·have HN:Hid ((bl s).takeWhile P=(bl s).take (p+1)++((bl s).drop (p+1)).takeWhile P):=hide (span_step _ _ p c _ hdc hPc HT.out)
    rw[hPc] at hc
    obtain⟨z,hz⟩:∃ z:Int,z=(c.toNat:Int):=⟨_,rfl⟩
    rw[<-hz] at i0 hc
    clear hz hdc HF HT hcl hPc
    go_wp2_with fail
    refine hc.mono ?_
    rintro e w1 ⟨rfl,rfl⟩
    go_wp2_with fail
    go_roundg (gk - 1)
    case measure=>omega
    case rel=>exact⟨p+1,by omega,by first | rfl | simp,rfl,HN⟩
   ·have hPf:P c=false:=by simpa using hPc
    have HR:=HF (by rw[HT.out,hdc,List.takeWhile_cons,if_neg (by simp[hPf])];simp)
    rw[hPf] at hc
    obtain⟨z,hz⟩:∃ z:Int,z=(c.toNat:Int):=⟨_,rfl⟩
    rw[<-hz] at i0 hc
    clear hz hdc HF HT hcl hPc hPf
    go_wp2_with fail
    refine hc.mono ?_
    rintro e w1 ⟨rfl,rfl⟩
    go_wp2_with fail
    go_region
    all_goals (try go_wp2)
    all_goals go_ret2
    all_goals exact⟨congrArg Ending.returned HR.out,(Below.refl _ _).drew⟩
  ·have HR:=HF (by rw[HT.out,List.drop_of_length_le (by omega)];simp)
   clear HF HT hcl
   go_wp2_with fail
   go_region
   all_goals (try go_wp2)
   all_goals go_ret2
   all_goals exact⟨congrArg Ending.returned HR.out,(Below.refl _ _).drew⟩
theorem pass_one (s t:ByteArray) (B:Nat) (w:World)(hs:s.size<=1099511627776)(h:w.cell? ⟨B,0,none⟩=some (.string t)) :
  Calls Tryz.prog 86 #[.string s,.func (.func 114) #[] #[.pointer (some ⟨B,0,none⟩)]] w fun e w'=>e=.returned (.tuple #[.string ⟨((bl s).takeWhile (fun x=>(bl t).contains x)).toArray⟩,.string ⟨((bl s).dropWhile (fun x=>(bl t).contains x)).toArray⟩])/\Below w.heap.size w w':=by
 obtain⟨P,hP⟩:∃ P:UInt8->Bool,P=fun x=>(bl t).contains x:=⟨_,rfl⟩
 rw[<-hP]
 have hcl:=fun c=>one1_any t c B w h
 have hcl:∀ c:UInt8,Calls Tryz.prog 114 #[.int .u8 (c.toNat:Int),.pointer (some ⟨B,0,none⟩)] w fun e w'=>e=.returned (.bool (P c))/\w'=w:=by
  intro c
  rw[hP]
  exact hcl c
 clear hP h
 have hl:=bl_len s
 go_enter Tryz.func86,Tryz.ntmps86
 go_wp2
 go_loopg [6] s.size (fun g v wr=>∃ p:Nat,p+g=s.size/\v=.int .i64 (p:Int)/\wr=w/\Hid ((bl s).takeWhile P=(bl s).take p++((bl s).drop p).takeWhile P))
 case atStart=>exact⟨0,by omega,rfl,rfl,hide (by simp)⟩
 case round =>
  obtain⟨p,hpg,rfl,rfl,HT⟩:=hrel
  have HF:(bl s).takeWhile P=(bl s).take p->Hid ((.tuple #[.string (s.extract 0 p),.string (s.extract p s.size)]:Value)=.tuple #[.string ⟨((bl s).takeWhile P).toArray⟩,.string ⟨((bl s).dropWhile P).toArray⟩]):=fun h=>hide (by rw[span_take _ _ p h,h,extract_take,ext_drop])
  by_cases hlt:p < s.size
  ·have i0:∀ w,(Instr.index 9 (.string s) (.int .i64 (p:Int))).run Tryz.prog w=.ok (.int .u8 (atN ((bl s).drop p) 0:Nat)) w:=idx_run s p 0 hlt
   rw[atN_drop s p hlt] at i0
   have hdc:=drop_cons s p hlt
   generalize (bl s)[p]'(by rw[bl_len];exact hlt)=c at i0 hdc
   have hc:=hcl c
   by_cases hPc:P c=true
   ·have HN:Hid ((bl s).takeWhile P=(bl s).take (p+1)++((bl s).drop (p+1)).takeWhile P):=hide (span_step _ _ p c _ hdc hPc HT.out)
    rw[hPc] at hc
    obtain⟨z,hz⟩:∃ z:Int,z=(c.toNat:Int):=⟨_,rfl⟩
    rw[<-hz] at i0 hc
    clear hz hdc HF HT hcl hPc
    go_wp2_with fail
    refine hc.mono ?_
    rintro e w1 ⟨rfl,rfl⟩
    go_wp2_with fail
    go_roundg (gk - 1)
    case measure=>omega
    case rel=>exact⟨p+1,by omega,by first | rfl | simp,rfl,HN⟩
   ·have hPf:P c=false:=by simpa using hPc
    have HR:=HF (by rw[HT.out,hdc,List.takeWhile_cons,if_neg (by simp[hPf])];simp)
    rw[hPf] at hc
    obtain⟨z,hz⟩:∃ z:Int,z=(c.toNat:Int):=⟨_,rfl⟩
    rw[<-hz] at i0 hc
    clear hz hdc HF HT hcl hPc hPf
    go_wp2_with fail
    refine hc.mono ?_
    rintro e w1 ⟨rfl,rfl⟩
    go_wp2_with fail
    go_region
    all_goals (try go_wp2)
    all_goals go_ret2
    all_goals exact⟨congrArg Ending.returned HR.out,(Below.refl _ _).drew⟩
  ·have HR:=HF (by rw[HT.out,List.drop_of_length_le (by omega)];simp)
   clear HF HT hcl
   go_wp2_with fail
   go_region
   all_goals (try go_wp2)
   all_goals go_ret2
   all_goals exact⟨congrArg Ending.returned HR.out,(Below.refl _ _).drew⟩
theorem first1_any (t:ByteArray) (c:UInt8) (asked:Bool) (A O B:Nat) (w:World)(hA:w.cell? ⟨A,0,none⟩=some (.bool asked))(hAf:w.frozen? ⟨A,0,none⟩=false)(hO:w.cell? ⟨O,0,none⟩=some (.func (.func 113) #[] #[.pointer (some ⟨B,0,none⟩)]))(h:w.cell? ⟨B,0,none⟩=some (.string t)) :
  Calls Tryz.prog 115 #[.int .u8 (c.toNat:Int),.pointer (some ⟨A,0,none⟩),.pointer (some ⟨O,0,none⟩)] w fun e w'=>e=.returned (.bool (!asked || !(bl t).contains c))/\w'=w.setCell ⟨A,0,none⟩ (.bool true):=by
 have hcl:=none1_any t c B w h
 obtain⟨b,hb⟩:∃ b,b=!(bl t).contains c:=⟨_,rfl⟩
 rw[<-hb] at hcl ⊢
 clear hb
 obtain⟨z,hz⟩:∃ z:Int,z=(c.toNat:Int):=⟨_,rfl⟩
 rw[<-hz] at hcl ⊢
 clear hz
 cases asked
 ·go_enter Tryz.func115,Tryz.ntmps115
  go_wp2
  go_ret
  exact⟨rfl,rfl⟩
 ·go_enter Tryz.func115,Tryz.ntmps115
  go_wp2_with fail
  refine hcl.mono ?_
  rintro e w1 ⟨rfl,rfl⟩
  go_wp2_with fail
  go_ret
  exact⟨rfl,rfl⟩
theorem take_first (c:UInt8) (l:List UInt8) (p:Nat)(hp:1<=p):(c :: l).take p=c :: l.take (p - 1):=by
 obtain⟨q,rfl⟩:∃ q,p=q+1:=⟨p - 1,by omega⟩
 rfl
end Go.Proofs.YtkiofbikkhhdfabGreatDoor.To
namespace Go.Proofs.YtkiofbikkhhdfabGreatDoor.To
open Go.RowKit
open Utf1
theorem drop_pred (c:UInt8) (l:List UInt8) (p:Nat)(hp:1<=p):(c :: l).drop p=l.drop (p - 1):=by
 obtain⟨q,rfl⟩:∃ q,p=q+1:=⟨p - 1,by omega⟩
 rfl
theorem pass_first (s t:ByteArray) (c0:UInt8) (tl:List UInt8) (K A O B:Nat) (w:World)(hs:s.size<=1099511627776)(hc0:bl s=c0 :: tl)(hA:w.heap[A]?=some (.cells #[.bool false] 4 (0,0)))(hO:w.cell? ⟨O,0,none⟩=some (.func (.func 113) #[] #[.pointer (some ⟨B,0,none⟩)]))(h:w.cell? ⟨B,0,none⟩=some (.string t))(hK:K<=A)(hAO:O≠A)(hAB:B≠A) :
  Calls Tryz.prog 86 #[.string s,.func (.func 115) #[] #[.pointer (some ⟨A,0,none⟩),.pointer (some ⟨O,0,none⟩)]] w fun e w'=>e=.returned (.tuple #[.string ⟨(c0 :: tl.takeWhile (fun x=>!(bl t).contains x)).toArray⟩,.string ⟨(tl.dropWhile (fun x=>!(bl t).contains x)).toArray⟩])/\Below K w w':=by
 obtain⟨P,hP⟩:∃ P:UInt8->Bool,P=fun x=>!(bl t).contains x:=⟨_,rfl⟩
 rw[<-hP]
 have HP:=hide hP
 have hl:=bl_len s
 have HL:tl.length+1=s.size:=by rw[<-hl,hc0];rfl
 have HC:=hide hc0
 clear hP hc0
 go_enter Tryz.func86,Tryz.ntmps86
 go_wp2
 go_loopg [6] s.size (fun g v wr=>∃ p:Nat,p+g=s.size/\v=.int .i64 (p:Int)/\wr.heap[A]?=some (.cells #[.bool (decide (1<=p))] 4 (0,0))/\wr.cell? ⟨O,0,none⟩=some (.func (.func 113) #[] #[.pointer (some ⟨B,0,none⟩)])/\wr.cell? ⟨B,0,none⟩=some (.string t)/\Below K w wr/\Hid (1<=p->tl.takeWhile P=tl.take (p - 1)++(tl.drop (p - 1)).takeWhile P))
 case atStart=>exact⟨0,by omega,rfl,hA,hO,h,Below.refl _ _,hide (by intro h;omega)⟩
 case round =>
  obtain⟨p,hpg,rfl,hAr,hOr,hBr,hbw,HT⟩:=hrel
  clear hA hO h
  have HF:1<=p->tl.takeWhile P=tl.take (p - 1)->Hid ((.tuple #[.string (s.extract 0 p),.string (s.extract p s.size)]:Value)=.tuple #[.string ⟨(c0 :: tl.takeWhile P).toArray⟩,.string ⟨(tl.dropWhile P).toArray⟩]):=fun h1 h=>hide (by rw[span_take _ _ _ h,h,extract_take,ext_drop,HC.out,take_first _ _ p h1,drop_pred _ _ p h1])
  by_cases hlt:p < s.size
  ·have i0:∀ w,(Instr.index 9 (.string s) (.int .i64 (p:Int))).run Tryz.prog w=.ok (.int .u8 (atN ((bl s).drop p) 0:Nat)) w:=idx_run s p 0 hlt
   rw[atN_drop s p hlt] at i0
   have hdc:=drop_cons s p hlt
   generalize (bl s)[p]'(by rw[bl_len];exact hlt)=c at i0 hdc
   have hc:=first1_any t c (decide (1<=p)) A O B wr (cell_of_one hAr) (free_of_one hAr) hOr hBr
   have hPc:P c=!(bl t).contains c:=by rw[HP.out]
   rw[<-hPc] at hc
   have hA2:∀ u,(wr.setCell ⟨A,0,none⟩ u).heap[A]?=some (.cells #[u] 4 (0,0)):=fun u=>one_setCell hAr
   have hO2:∀ u,(wr.setCell ⟨A,0,none⟩ u).cell? ⟨O,0,none⟩=wr.cell? ⟨O,0,none⟩:=fun u=>World.cell?_of_block (Below.heap_setCell _ _ _ _ hAO)
   have hB2:∀ u,(wr.setCell ⟨A,0,none⟩ u).cell? ⟨B,0,none⟩=wr.cell? ⟨B,0,none⟩:=fun u=>World.cell?_of_block (Below.heap_setCell _ _ _ _ hAB)
   have hd2:1<=p->tl.drop (p - 1)=c :: (bl s).drop (p+1):=fun h1=>by rw[<-drop_pred c0 tl p h1,<-HC.out,hdc]
   by_cases hgo:p=0\/P c=true
   ·have hv:(!decide (1<=p) || P c)=true:=by
     rcases hgo with h0 | h1
     ·subst h0
      rfl
     ·rw[h1]
      simp
    have HN:Hid (1<=p+1->tl.takeWhile P=tl.take (p+1 - 1)++(tl.drop (p+1 - 1)).takeWhile P):=hide (by
     intro _
     by_cases h1:1<=p
     ·have hP1:P c=true:=by
       rcases hgo with h0 | h2
       ·omega
       ·exact h2
      have:=span_step tl P (p - 1) c _ (hd2 h1) hP1 (HT.out h1)
      rw[show p - 1+1=p+1 - 1 by omega] at this
      exact this
     ·have h0:p=0:=by omega
      subst h0
      simp)
    rw[hv] at hc
    obtain⟨z,hz⟩:∃ z:Int,z=(c.toNat:Int):=⟨_,rfl⟩
    rw[<-hz] at i0 hc
    have hA3:=hA2 (.bool true)
    have hO3:=(hO2 (.bool true)).trans hOr
    have hB3:=(hB2 (.bool true)).trans hBr
    have hb3:=hbw.setCell (p:=⟨A,0,none⟩) hK (.bool true)
    clear hz hdc HF HT hPc hd2 hgo hv hA2 hO2 hB2
    go_wp2_with fail
    refine hc.mono ?_
    rintro e w1 ⟨rfl,rfl⟩
    go_wp2_with fail
    go_roundg (gk - 1)
    case measure=>omega
    case rel=>exact⟨p+1,by omega,by first | rfl | simp,by rw[hA3];simp,hO3,hB3,hb3,HN⟩
   ·have h1:1<=p:=by omega
    have hPf:P c=false:=by
     cases hh:P c with
     | false=>rfl
     | true=>exact absurd (Or.inr hh) hgo
    have HR:=HF h1 (by rw[HT.out h1,hd2 h1,List.takeWhile_cons,if_neg (by simp[hPf])];simp)
    have hv:(!decide (1<=p) || P c)=false:=by
     rw[hPf]
     simp[h1]
    rw[hv] at hc
    obtain⟨z,hz⟩:∃ z:Int,z=(c.toNat:Int):=⟨_,rfl⟩
    rw[<-hz] at i0 hc
    have hb3:=hbw.setCell (p:=⟨A,0,none⟩) hK (.bool true)
    clear hz hdc HF HT hPc hd2 hgo hv hA2 hO2 hB2 hPf
    go_wp2_with fail
    refine hc.mono ?_
    rintro e w1 ⟨rfl,rfl⟩
    go_wp2_with fail
    go_region
    all_goals (try go_wp2)
    all_goals go_ret2
    all_goals exact⟨congrArg Ending.returned HR.out,hb3.drew⟩
  ·have h1:1<=p:=by omega
   have HR:=HF h1 (by rw[HT.out h1,List.drop_of_length_le (by omega)];simp)
   clear HF HT
   go_wp2_with fail
   go_region
   all_goals (try go_wp2)
   all_goals go_ret2
   all_goals exact⟨congrArg Ending.returned HR.out,hbw.drew⟩
end Go.Proofs.YtkiofbikkhhdfabGreatDoor.To
namespace Go.Proofs.YtkiofbikkhhdfabGreatDoor.To
open Go.RowKit
open Utf1
theorem u8b (c:UInt8) (n:Nat)(hn:n < 256):(((c.toNat:Int))==(n:Int))=decide (c=UInt8.ofNat n):=by
 by_cases h:c=UInt8.ofNat n
 ·rw[decide_eq_true h]
  rw[(u8_eq hn).1 h]
  simp
 ·rw[decide_eq_false h]
  refine beq_eq_false_iff_ne.2 fun e=>h ((u8_eq hn).2 (by omega))
theorem prefix4 (d:UInt8) (u:List UInt8):[60,33,45,45].isPrefixOf (60 :: d :: u)=[33,45,45].isPrefixOf (d :: u):=by
 simp[List.isPrefixOf]
theorem begins_any (s:ByteArray) (w:World)(hne:1<=s.size) :
  Calls Tryz.prog 48 #[.string s] w fun e w'=>e=.returned (.int .i64 (beg (bl s):Int))/\w'=w:=by
 have hl:=bl_len s
 rcases hb:bl s with _ | ⟨c,t⟩
 ·rw[hb] at hl
  simp at hl
  omega
 have i00:=fun w=>idxK (s:=s) (k:=0) (c:=c) (by rw[hb];rfl) w
 have z0:=u8b c 60 (by decide)
 obtain⟨z,hz⟩:∃ z:Int,z=(c.toNat:Int):=⟨_,rfl⟩
 rw[<-hz] at z0
 have i0:∀ w,(Instr.index 9 (.string s) (.int .i64 0)).run Tryz.prog w=.ok (.int .u8 z) w:=by
  rw[hz]
  exact i00
 clear hz i00
 by_cases hc:c=60
 case neg =>
  have zb:(z != 60)=true:=by
   unfold bne
   rw[show (z==60)=decide (c=60) from z0,decide_eq_false hc]
   rfl
  rw[beg_ne t hc]
  clear hb hc z0 hl
  go_enter Tryz.func48,Tryz.ntmps48
  go_wp2
  go_ret
  exact⟨rfl,rfl⟩
 have zb:(z != 60)=false:=by
  unfold bne
  rw[show (z==60)=decide (c=60) from z0,decide_eq_true hc]
  rfl
 subst hc
 rw[beg_lt]
 clear z0
 rcases ht:t with _ | ⟨d,u⟩
 ·have hs1:s.size=1:=by rw[<-hl,hb,ht];rfl
  show Calls _ _ _ _ fun e w'=>e=.returned (.int .i64 ((0:Nat):Int))/\w'=w
  have HS:=hide hs1
  clear hb ht hl
  go_enter Tryz.func48,Tryz.ntmps48
  go_wp2
  go_ret
  exact⟨rfl,rfl⟩
 subst ht
 have hs2:2<=s.size:=by rw[<-hl,hb];simp
 have hpre:=fun w=>Tryz.strings_HasPrefix s ⟨#[60,33,45,45]⟩ w
 have hpv:Lib.hasPrefix s.data.toList (⟨#[60,33,45,45]⟩:ByteArray).data.toList=[33,45,45].isPrefixOf (d :: u):=by
  show [60,33,45,45].isPrefixOf (bl s)=_
  rw[hb,prefix4]
 rw[hpv] at hpre
 clear hpv
 cases hp:[33,45,45].isPrefixOf (d :: u) with
 | true =>
  rw[hp] at hpre
  have e1:beg1 (d :: u)=1:=by
   unfold beg1
   simp only
   rw[if_pos hp]
  rw[e1]
  clear hb hl hp e1
  go_enter Tryz.func48,Tryz.ntmps48
  go_wp2_with fail
  refine (hpre _).mono ?_
  rintro e w1 ⟨rfl,rfl⟩
  go_wp2_with fail
  go_ret
  exact⟨rfl,rfl⟩
 | false =>
  rw[hp] at hpre
  have i11:=fun w=>idxK (s:=s) (k:=1) (c:=d) (by rw[hb];rfl) w
  have y33:=u8b d 33 (by decide)
  have y63:=u8b d 63 (by decide)
  have y47:=u8b d 47 (by decide)
  have hlet:=fun w=>isLetter_any d w
  obtain⟨y,hy⟩:∃ y:Int,y=(d.toNat:Int):=⟨_,rfl⟩
  rw[<-hy] at y33 y63 y47 hlet
  have i1:∀ w,(Instr.index 9 (.string s) (.int .i64 1)).run Tryz.prog w=.ok (.int .u8 y) w:=by
   rw[hy]
   exact i11
  clear hy i11
  have y33:(y==33)=decide (d=33):=y33
  have y63:(y==63)=decide (d=63):=y63
  have y47:(y != 47)=!decide (d=47):=congrArg not y47
  have eb:beg1 (d :: u)=if d=33\/d=63 then 2 else if isLet d then 3 else if d≠47 then 0 else beg2 u:=by
   unfold beg1
   simp only
   rw[if_neg (by rw[hp];simp)]
  rw[eb]
  clear eb hp
  by_cases h33:d=33
  ·rw[decide_eq_true h33] at y33
   rw[if_pos (.inl h33)]
   clear hb hl h33 y63 y47
   go_enter Tryz.func48,Tryz.ntmps48
   go_wp2_with fail
   refine (hpre _).mono ?_
   rintro e w1 ⟨rfl,rfl⟩
   go_wp2_with fail
   go_ret
   exact⟨rfl,rfl⟩
  rw[decide_eq_false h33] at y33
  by_cases h63:d=63
  ·rw[decide_eq_true h63] at y63
   rw[if_pos (.inr h63)]
   clear hb hl h33 h63 y47
   go_enter Tryz.func48,Tryz.ntmps48
   go_wp2_with fail
   refine (hpre _).mono ?_
   rintro e w1 ⟨rfl,rfl⟩
   go_wp2_with fail
   go_ret
   exact⟨rfl,rfl⟩
  rw[decide_eq_false h63] at y63
  rw[if_neg (by rintro (h | h) <;> contradiction)]
  cases hL:isLet d with
  | true =>
   rw[hL] at hlet
   rw[if_pos rfl]
   clear hb hl h33 h63 hL y47
   go_enter Tryz.func48,Tryz.ntmps48
   go_wp2_with fail
   refine (hpre _).mono ?_
   rintro e w1 ⟨rfl,rfl⟩
   go_wp2_with fail
   refine (hlet _).mono ?_
   rintro e w1 ⟨rfl,rfl⟩
   go_wp2_with fail
   go_ret
   exact⟨rfl,rfl⟩
  | false =>
   rw[hL] at hlet
   rw[if_neg (by simp)]
   by_cases h47:d=47
   case neg =>
    rw[decide_eq_false h47] at y47
    have y47:(y != 47)=true:=y47
    rw[if_pos h47]
    clear hb hl h33 h63 hL h47
    go_enter Tryz.func48,Tryz.ntmps48
    go_wp2_with fail
    refine (hpre _).mono ?_
    rintro e w1 ⟨rfl,rfl⟩
    go_wp2_with fail
    refine (hlet _).mono ?_
    rintro e w1 ⟨rfl,rfl⟩
    go_wp2_with fail
    go_ret
    exact⟨rfl,rfl⟩
   rw[decide_eq_true h47] at y47
   have y47:(y != 47)=false:=y47
   rw[if_neg (by simpa using h47)]
   rcases hu:u with _ | ⟨f,v⟩
   ·have hs3:s.size=2:=by rw[<-hl,hb,hu];rfl
    show Calls _ _ _ _ fun e w'=>e=.returned (.int .i64 ((0:Nat):Int))/\w'=w
    clear hb hl h33 h63 hL h47 hu
    go_enter Tryz.func48,Tryz.ntmps48
    go_wp2_with fail
    refine (hpre _).mono ?_
    rintro e w1 ⟨rfl,rfl⟩
    go_wp2_with fail
    refine (hlet _).mono ?_
    rintro e w1 ⟨rfl,rfl⟩
    go_wp2_with fail
    go_ret
    exact⟨rfl,rfl⟩
   subst hu
   have hs3:3<=s.size:=by rw[<-hl,hb];simp
   have i22:=fun w=>idxK (s:=s) (k:=2) (c:=f) (by rw[hb];rfl) w
   have hle2:=fun w=>isLetter_any f w
   obtain⟨x,hx⟩:∃ x:Int,x=(f.toNat:Int):=⟨_,rfl⟩
   rw[<-hx] at hle2
   have i2:∀ w,(Instr.index 9 (.string s) (.int .i64 2)).run Tryz.prog w=.ok (.int .u8 x) w:=by
    rw[hx]
    exact i22
   clear hx i22
   have e2:beg2 (f :: v)=if isLet f then 3 else 2:=rfl
   rw[e2]
   clear e2
   cases hF:isLet f with
   | true =>
    rw[hF] at hle2
    rw[if_pos rfl]
    clear hb hl h33 h63 hL h47 hF
    go_enter Tryz.func48,Tryz.ntmps48
    go_wp2_with fail
    refine (hpre _).mono ?_
    rintro e w1 ⟨rfl,rfl⟩
    go_wp2_with fail
    refine (hlet _).mono ?_
    rintro e w1 ⟨rfl,rfl⟩
    go_wp2_with fail
    refine (hle2 _).mono ?_
    rintro e w1 ⟨rfl,rfl⟩
    go_wp2_with fail
    go_ret
    exact⟨rfl,rfl⟩
   | false =>
    rw[hF] at hle2
    rw[if_neg (by simp)]
    clear hb hl h33 h63 hL h47 hF
    go_enter Tryz.func48,Tryz.ntmps48
    go_wp2_with fail
    refine (hpre _).mono ?_
    rintro e w1 ⟨rfl,rfl⟩
    go_wp2_with fail
    refine (hlet _).mono ?_
    rintro e w1 ⟨rfl,rfl⟩
    go_wp2_with fail
    refine (hle2 _).mono ?_
    rintro e w1 ⟨rfl,rfl⟩
    go_wp2_with fail
    go_ret
    exact⟨rfl,rfl⟩
end Go.Proofs.YtkiofbikkhhdfabGreatDoor.To
namespace Go.Proofs.YtkiofbikkhhdfabGreatDoor.To
open Go.RowKit
open Utf1
theorem index_lt (l:List UInt8) (c:UInt8)(h:0<=Lib.indexByte l c):(Lib.indexByte l c).toNat < l.length/\l[(Lib.indexByte l c).toNat]?=some c/\∀ j,j < (Lib.indexByte l c).toNat->l[j]?≠some c:=by
 induction l with
 | nil=>simp[Lib.indexByte] at h
 | cons b t ih =>
  have hge:=Lib.indexByte_ge t c
  unfold Lib.indexByte at h ⊢
  by_cases hb:b=c
  ·subst hb
   simp
  ·rw[if_neg (by simpa using hb)] at h ⊢
   split at h
   ·omega
   ·rename_i hne
    have hne':Lib.indexByte t c≠-1:=by simpa using hne
    rw[if_neg hne]
    obtain⟨h1,h2,h3⟩:=ih (by omega)
    have e:(Lib.indexByte t c+1).toNat=(Lib.indexByte t c).toNat+1:=by omega
    rw[e]
    refine⟨by simp;omega,by simpa using h2,?_⟩
    intro j hj
    cases j with
    | zero=>simpa using hb
    | succ j=>simpa using h3 j (by omega)
theorem stop_one (c:UInt8) (t:List UInt8)(h:beg (c :: t)=0):stop (c :: t)=stop t+1:=by
 rw[stop,if_pos h]
theorem stop_zero (c:UInt8) (t:List UInt8)(h:beg (c :: t)≠0):stop (c :: t)=0:=by
 rw[stop,if_neg h]
theorem stop_skip:∀ (k:Nat) (l:List UInt8),k<=l.length->(∀ j,j < k->l[j]?≠some 60)->stop l=k+stop (l.drop k)
 | 0,l,_,_=>by simp
 | k+1,[],h,_=>by simp at h
 | k+1,c :: t,h,hno=>by
  have hc:c≠60:=by simpa using hno 0 (by omega)
  have:=stop_skip k t (by simpa using h) (fun j hj=>by simpa using hno (j+1) (by omega))
  rw[List.drop_succ_cons,stop_one c t (beg_ne t hc),this]
  omega
theorem stop_all (l:List UInt8)(h:l.contains 60=false):stop l=l.length:=by
 have:=stop_skip l.length l (Nat.le_refl _) (by
  intro j hj e
  have:(60:UInt8)∈l:=List.mem_of_getElem? e
  rw[<-List.contains_iff_mem] at this
  rw[h] at this
  cases this)
 rw[this]
 simp[stop]
theorem textLen_any (s:ByteArray) (w:World)(hne:1<=s.size)(hs:s.size<=4294967280)(hb:beg (bl s)=0) :
  Calls Tryz.prog 52 #[.string s] w fun e w'=>e=.returned (.int .i64 (stop (bl s):Int))/\Below w.heap.size w w':=by
 have hl:=bl_len s
 have H0:Hid (stop (bl s)=1+stop ((bl s).drop 1)):=hide (by
  cases hh:bl s with
  | nil =>
   rw[hh] at hl
   simp at hl
   omega
  | cons c t =>
   rw[hh] at hb
   rw[stop_one c t hb]
   simp
   omega)
 clear hb
 go_enter Tryz.func52,Tryz.ntmps52
 go_wp2
 go_loopg [3] (s.size - 1) (fun g v wr=>∃ p:Nat,p+g=s.size/\v=.int .i64 (p:Int)/\wr=w/\1<=p/\Hid (stop (bl s)=p+stop ((bl s).drop p)))
 case atStart=>exact⟨1,by omega,rfl,rfl,by omega,H0⟩
 case round =>
  obtain⟨p,hpg,rfl,rfl,hp1,HS⟩:=hrel
  have hix:=fun w=>Tryz.strings_IndexByte (s.extract p s.size) 60 w
  have hbe:bl (s.extract p s.size)=(bl s).drop p:=by
   rw[ext_drop]
  have e60:((60:Int)).toNat.toUInt8=60:=by decide
  rw[e60] at hix
  have hix:∀ w,Calls Tryz.prog 94 #[.string (s.extract p s.size),.int .u8 60] w fun e w'=>e=.returned (.int .i64 (Lib.indexByte ((bl s).drop p) 60))/\w'=w:=by
   intro w
   rw[<-hbe]
   exact hix w
  have hmem:=index_mem ((bl s).drop p) 60
  have hlt:=index_lt ((bl s).drop p) 60
  obtain⟨k,hk⟩:∃ k,k=Lib.indexByte ((bl s).drop p) 60:=⟨_,rfl⟩
  rw[<-hk] at hmem hlt
  have hix:∀ w,Calls Tryz.prog 94 #[.string (s.extract p s.size),.int .u8 60] w fun e w'=>e=.returned (.int .i64 k)/\w'=w:=by
   intro w
   rw[hk]
   exact hix w
  clear hk e60 hbe H0
  by_cases hk0:0<=k
  case neg =>
   have hkn:k < 0:=by omega
   have HF:Hid (stop (bl s)=s.size):=hide (by
    rw[HS.out,stop_all _ (by
     cases hh:((bl s).drop p).contains 60 with
     | false=>rfl
     | true=>exact absurd (hmem.2 hh) hk0),List.length_drop,hl]
    omega)
   clear hmem hlt HS hk0
   go_wp2_with fail
   refine (hix _).mono ?_
   rintro e w1 ⟨rfl,rfl⟩
   go_wp2_with fail
   go_ret
   rw[HF.out]
   exact⟨rfl,Below.refl _ _⟩
  obtain⟨kn,rfl⟩:∃ kn:Nat,k=(kn:Int):=⟨k.toNat,by omega⟩
  obtain⟨h1,h2,h3⟩:=hlt hk0
  rw[Int.toNat_natCast] at h1 h2 h3
  rw[List.length_drop,hl] at h1
  have hbe2:bl (s.extract (p+kn) s.size)=(bl s).drop (p+kn):=by rw[ext_drop]
  have hbg:=fun w=>begins_any (s.extract (p+kn) s.size) w (by simp;omega)
  rw[hbe2] at hbg
  have hst:stop (bl s)=p+(kn+stop ((bl s).drop (p+kn))):=by
   rw[HS.out,stop_skip kn ((bl s).drop p) (by rw[List.length_drop,hl];omega) h3,List.drop_drop]
  have hdc:=drop_cons s (p+kn) (by omega)
  generalize (bl s)[p+kn]'(by rw[bl_len];omega)=c at hdc
  obtain⟨b,hbb⟩:∃ b,b=beg ((bl s).drop (p+kn)):=⟨_,rfl⟩
  rw[<-hbb] at hbg
  have hb3:=beg_le ((bl s).drop (p+kn))
  rw[<-hbb] at hb3
  by_cases hb0:b=0
  ·have HN:Hid (stop (bl s)=p+kn+1+stop ((bl s).drop (p+kn+1))):=hide (by
    rw[hst,hdc,stop_one _ _ (by rw[<-hdc,<-hbb,hb0])]
    omega)
   subst hb0
   clear hmem hlt HS h2 h3 hst hdc hbb hbe2 hk0 hb3
   go_wp2_with fail
   refine (hix _).mono ?_
   rintro e w1 ⟨rfl,rfl⟩
   go_wp2_with fail
   refine (hbg _).mono ?_
   rintro e w1 ⟨rfl,rfl⟩
   go_wp2_with fail
   go_roundg (gk - (kn+1))
   case measure=>omega
   case rel=>exact⟨p+kn+1,by omega,by first | rfl | simp,rfl,by omega,HN⟩
  ·have HF:Hid (stop (bl s)=p+kn):=hide (by
    rw[hst,hdc,stop_zero _ _ (by rw[<-hdc,<-hbb];exact hb0)]
    omega)
   have hbz:((b:Int) != 0)=true:=bne_iff_ne.2 (by omega)
   clear hmem hlt HS h2 h3 hst hdc hbb hbe2 hk0 hb3 hb0
   go_wp2_with fail
   refine (hix _).mono ?_
   rintro e w1 ⟨rfl,rfl⟩
   go_wp2_with fail
   refine (hbg _).mono ?_
   rintro e w1 ⟨rfl,rfl⟩
   go_wp2_with fail
   go_ret
   rw[HF.out]
   exact⟨by first | rfl | simp,Below.refl _ _⟩
end Go.Proofs.YtkiofbikkhhdfabGreatDoor.To
namespace Go.Proofs.YtkiofbikkhhdfabGreatDoor.To
open Go.RowKit
open Utf1
theorem raw_any (s:ByteArray) (w:World) :
  Calls Tryz.prog 92 #[.string s] w fun e w'=>e=.returned (.tuple #[.bool (rawOf (bl s)).isSome,.bool ((rawOf (bl s)).getD false)])/\w'=w:=by
 have f0:=eq_lit s [115,99,114,105,112,116]
 by_cases h0:bl s=[115,99,114,105,112,116]
 ·rw[decide_eq_true h0] at f0
  have e:rawOf (bl s)=some false:=by
   rw[h0]
   decide
  rw[e]
  clear e h0
  go_enter Tryz.func92,Tryz.ntmps92
  go_wp2
  go_ret2
  exact⟨rfl,rfl⟩
 rw[decide_eq_false h0] at f0
 have f1:=eq_lit s [115,116,121,108,101]
 by_cases h1:bl s=[115,116,121,108,101]
 ·rw[decide_eq_true h1] at f1
  have e:rawOf (bl s)=some false:=by
   rw[h1]
   decide
  rw[e]
  clear e h0 h1
  go_enter Tryz.func92,Tryz.ntmps92
  go_wp2
  go_ret2
  exact⟨rfl,rfl⟩
 rw[decide_eq_false h1] at f1
 have f2:=eq_lit s [120,109,112]
 by_cases h2:bl s=[120,109,112]
 ·rw[decide_eq_true h2] at f2
  have e:rawOf (bl s)=some false:=by
   rw[h2]
   decide
  rw[e]
  clear e h0 h1 h2
  go_enter Tryz.func92,Tryz.ntmps92
  go_wp2
  go_ret2
  exact⟨rfl,rfl⟩
 rw[decide_eq_false h2] at f2
 have f3:=eq_lit s [105,102,114,97,109,101]
 by_cases h3:bl s=[105,102,114,97,109,101]
 ·rw[decide_eq_true h3] at f3
  have e:rawOf (bl s)=some false:=by
   rw[h3]
   decide
  rw[e]
  clear e h0 h1 h2 h3
  go_enter Tryz.func92,Tryz.ntmps92
  go_wp2
  go_ret2
  exact⟨rfl,rfl⟩
 rw[decide_eq_false h3] at f3
 have f4:=eq_lit s [110,111,101,109,98,101,100]
 by_cases h4:bl s=[110,111,101,109,98,101,100]
 ·rw[decide_eq_true h4] at f4
  have e:rawOf (bl s)=some false:=by
   rw[h4]
   decide
  rw[e]
  clear e h0 h1 h2 h3 h4
  go_enter Tryz.func92,Tryz.ntmps92
  go_wp2
  go_ret2
  exact⟨rfl,rfl⟩
 rw[decide_eq_false h4] at f4
 have f5:=eq_lit s [110,111,102,114,97,109,101,115]
 by_cases h5:bl s=[110,111,102,114,97,109,101,115]
 ·rw[decide_eq_true h5] at f5
  have e:rawOf (bl s)=some false:=by
   rw[h5]
   decide
  rw[e]
  clear e h0 h1 h2 h3 h4 h5
  go_enter Tryz.func92,Tryz.ntmps92
  go_wp2
  go_ret2
  exact⟨rfl,rfl⟩
 rw[decide_eq_false h5] at f5
 have f6:=eq_lit s [112,108,97,105,110,116,101,120,116]
 by_cases h6:bl s=[112,108,97,105,110,116,101,120,116]
 ·rw[decide_eq_true h6] at f6
  have e:rawOf (bl s)=some false:=by
   rw[h6]
   decide
  rw[e]
  clear e h0 h1 h2 h3 h4 h5 h6
  go_enter Tryz.func92,Tryz.ntmps92
  go_wp2
  go_ret2
  exact⟨rfl,rfl⟩
 rw[decide_eq_false h6] at f6
 have f7:=eq_lit s [116,101,120,116,97,114,101,97]
 by_cases h7:bl s=[116,101,120,116,97,114,101,97]
 ·rw[decide_eq_true h7] at f7
  have e:rawOf (bl s)=some true:=by
   rw[h7]
   decide
  rw[e]
  clear e h0 h1 h2 h3 h4 h5 h6 h7
  go_enter Tryz.func92,Tryz.ntmps92
  go_wp2
  go_ret2
  exact⟨rfl,rfl⟩
 rw[decide_eq_false h7] at f7
 have f8:=eq_lit s [116,105,116,108,101]
 by_cases h8:bl s=[116,105,116,108,101]
 ·rw[decide_eq_true h8] at f8
  have e:rawOf (bl s)=some true:=by
   rw[h8]
   decide
  rw[e]
  clear e h0 h1 h2 h3 h4 h5 h6 h7 h8
  go_enter Tryz.func92,Tryz.ntmps92
  go_wp2
  go_ret2
  exact⟨rfl,rfl⟩
 rw[decide_eq_false h8] at f8
 have e:rawOf (bl s)=none:=by
  unfold rawOf raws
  simp only[lookR]
  rw[if_neg (Ne.symm h0),if_neg (Ne.symm h1),if_neg (Ne.symm h2),if_neg (Ne.symm h3),if_neg (Ne.symm h4),if_neg (Ne.symm h5),if_neg (Ne.symm h6),if_neg (Ne.symm h7),if_neg (Ne.symm h8)]
 rw[e]
 clear e h0 h1 h2 h3 h4 h5 h6 h7 h8
 go_enter Tryz.func92,Tryz.ntmps92
 go_wp2
 go_ret2
 exact⟨rfl,rfl⟩
theorem clone_any (s:ByteArray) (w:World)(hs:s.size<=281474976710656) :
  Calls Tryz.prog 49 #[.string s] w fun e w'=>e=.returned (.string s)/\Below w.heap.size w w':=by
 have hc:=Tryz.stringslite_Clone s w hs
 go_enter Tryz.func49,Tryz.ntmps49
 go_wp2_with fail
 refine hc.mono ?_
 rintro e w1 ⟨rfl,hb⟩
 go_wp2_with fail
 go_ret
 exact⟨rfl,hb⟩
end Go.Proofs.YtkiofbikkhhdfabGreatDoor.To
