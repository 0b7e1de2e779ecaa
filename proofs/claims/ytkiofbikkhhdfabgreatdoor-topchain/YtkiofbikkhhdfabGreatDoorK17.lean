import Derived.Test.YtkiofbikkhhdfabGreatDoorK06
import Derived.Test.YtkiofbikkhhdfabGreatDoorRaw
import Derived.Maps.Own
import Derived.Maps.OwnOps
import Derived.Maps.Views
set_option maxRecDepth 100000
set_option maxHeartbeats 8000000
namespace Utf1
def isSm (c:UInt8):Bool:=decide (97<=c.toNat/\c.toNat<=122)
def nmB (others:List UInt8) (c:UInt8):Bool:=isSm c || decide (48<=c.toNat/\c.toNat<=57) || decide (c∈others)
def isNmL (others:List UInt8):List UInt8->Bool
 | []=>false
 | c :: t=>isSm c && (c :: t).all (nmB others)
def mayE (n:List UInt8):Bool:=!(rawOf n).isSome && isNmL [45] n
def mayA (l:List (List UInt8 × List UInt8)):Bool:=l.all (fun kv=>isNmL [45,95,58] kv.1) && decide ((l.map Prod.fst).Nodup)
end Utf1
namespace Go.Proofs.YtkiofbikkhhdfabGreatDoor.Dm
open Go.RowKit
open Utf1
theorem isSmall_any (c:UInt8) (w:World):Calls Tryz.prog 213 #[.int .u8 (c.toNat:Int)] w fun e w'=>e=.returned (.bool (isSm c))/\w'=w:=by
 have hc:c.toNat < 256:=c.toNat_lt
 unfold isSm
 obtain⟨z,hz⟩:∃ z,z=c.toNat:=⟨_,rfl⟩
 rw[<-hz] at hc ⊢
 clear hz
 by_cases h1:97<=z
 ·by_cases h2:z<=122
  ·rw[decide_eq_true ⟨h1,h2⟩]
   go_enter Tryz.func213,Tryz.ntmps213
   go_wp2
   go_ret
   exact⟨ret_bool (decide_eq_true (by omega)),rfl⟩
  ·rw[decide_eq_false (fun h=>h2 h.2)]
   go_enter Tryz.func213,Tryz.ntmps213
   go_wp2
   go_ret
   exact⟨ret_bool (decide_eq_false (by omega)),rfl⟩
 ·rw[decide_eq_false (fun h=>h1 h.1)]
  go_enter Tryz.func213,Tryz.ntmps213
  go_wp2
  go_ret
  exact⟨rfl,rfl⟩
theorem indexByte_neg (l:List UInt8) (c:UInt8):decide (Lib.indexByte l c < 0)=!decide (c∈l):=by
 by_cases h:c∈l
 ·rw[decide_eq_true h]
  obtain⟨k,hk⟩:=List.getElem?_of_mem h
  have h1:=Lib.indexByte_ge l c
  have h2:Lib.indexByte l c≠-1:=fun e=>Lib.indexByte_none e k hk
  exact decide_eq_false (by omega)
 ·rw[decide_eq_false h]
  refine decide_eq_true ?_
  apply Classical.byContradiction
  intro h2
  obtain⟨o,ho⟩:∃ o:Nat,Lib.indexByte l c=o:=⟨(Lib.indexByte l c).toNat,by omega⟩
  exact h (List.mem_of_getElem? (Lib.indexByte_some ho).1)
theorem nat_u8 (c:UInt8):(c.toNat:Int).toNat.toUInt8=c:=by
 apply UInt8.toNat.inj
 simp
theorem isName_any (s others:ByteArray) (w:World)(hs:s.size<=9223372036854775807):Calls Tryz.prog 212 #[.string s,.string others] w fun e w'=>e=.returned (.bool (isNmL (bl others) (bl s)))/\w'=w:=by
 have qE:s.toList.isEmpty=decide (bl s=[]):=by
  have:=nm_empty (bl s)
  rwa [bl_eta] at this
 by_cases h0:bl s=[]
 ·rw[decide_eq_true h0] at qE
  rw[h0]
  go_enter Tryz.func212,Tryz.ntmps212
  go_wp2
  go_ret
  exact⟨rfl,rfl⟩
 rw[decide_eq_false h0] at qE
 have hpos:0 < s.size:=by
  rw[<-bl_len]
  cases h:bl s with
  | nil=>exact absurd h h0
  | cons c t=>simp
 have hat:∀ j (h:j < s.size),(bl s)[j]?=some (s[j]'h):=by
  intro j h
  rw[List.getElem?_eq_getElem (by rw[bl_len];exact h)]
  rfl
 have hct:∃ t,bl s=(s[0]'hpos) :: t:=by
  have h1:=hat 0 hpos
  cases h:bl s with
  | nil=>exact absurd h h0
  | cons c t =>
   rw[h] at h1
   have:c=s[0]'hpos:=by simpa using h1
   rw[this]
   exact⟨t,rfl⟩
 obtain⟨t0,hct⟩:=hct
 have HAT:=hide hat
 have HSM:=hide (fun w=>isSmall_any (s[0]'hpos) w)
 have HRES:Hid (isNmL (bl others) (bl s)=(isSm (s[0]'hpos) && (bl s).all (nmB (bl others)))):=hide (by rw[hct];rfl)
 rw[HRES.out]
 clear hat h0 hct HRES
 cases hsm:isSm (s[0]'hpos) with
 | false =>
  rw[hsm] at HSM
  go_enter Tryz.func212,Tryz.ntmps212
  go_wp2_with fail
  refine (HSM.out _).mono ?_
  rintro e w1 ⟨rfl,rfl⟩
  go_wp2_with fail
  go_ret
  exact⟨rfl,rfl⟩
 | true =>
  rw[hsm] at HSM
  rw[Bool.true_and]
  go_enter Tryz.func212,Tryz.ntmps212
  go_wp2_with fail
  refine (HSM.out _).mono ?_
  rintro e w1 ⟨rfl,rfl⟩
  clear HSM
  go_wp2_with fail
  clear hsm
  go_loopg [17] s.size (fun k v17 wr=>∃ j:Nat,j+k=s.size/\v17=.int .i64 (j:Int)/\wr=w1/\Hid (((bl s).take j).all (nmB (bl others))=true))
  case atStart=>exact⟨0,by omega,rfl,rfl,hide rfl⟩
  case round =>
   obtain⟨j,hjk,rfl,rfl,HA⟩:=hrel
   by_cases hjl:j < s.size
   ·have hgc:=HAT.out j hjl
    have HTK:Hid ((bl s).take (j+1)=(bl s).take j++[s[j]'hjl]):=hide (by rw[List.take_add_one,hgc];rfl)
    have HNO:Hid (nmB (bl others) (s[j]'hjl)=false->(bl s).all (nmB (bl others))=false):=hide (by
     intro h
     rw[List.all_eq_false]
     exact⟨s[j]'hjl,List.mem_of_getElem? hgc,by rw[h];decide⟩)
    have HN1:Hid (nmB (bl others) (s[j]'hjl)=true->((bl s).take (j+1)).all (nmB (bl others))=true):=hide (by
     intro h
     rw[HTK.out,List.all_append,HA.out]
     simp[h])
    have HIB:=hide (fun w=>Tryz.strings_IndexByte others ((s[j]'hjl).toNat:Int) w)
    rw[nat_u8] at HIB
    have hib:=indexByte_neg others.data.toList (s[j]'hjl)
    have hcb:(s[j]'hjl).toNat < 256:=(s[j]'hjl).toNat_lt
    have HS1:=hide (fun w=>isSmall_any (s[j]'hjl) w)
    have HB:Hid (nmB (bl others) (s[j]'hjl)=(isSm (s[j]'hjl) || decide (48<=(s[j]'hjl).toNat/\(s[j]'hjl).toNat<=57) || decide (s[j]'hjl∈bl others))):=hide rfl
    obtain⟨ix,hix⟩:∃ ix,ix=Lib.indexByte others.data.toList (s[j]'hjl):=⟨_,rfl⟩
    rw[<-hix] at HIB hib
    clear hgc hix HTK
    have yes:nmB (bl others) (s[j]'hjl)=true->Hid (((bl s).take (j+1)).all (nmB (bl others))=true):=fun h=>hide (HN1.out h)
    have HYES:=hide yes
    clear yes HN1 HAT HA
    cases hsj:isSm (s[j]'hjl) with
    | true =>
     rw[hsj] at HS1
     have HY:=HYES.out (by rw[HB.out,hsj];rfl)
     clear HYES HNO HB hib HIB hsj
     go_wp2_with fail
     refine (HS1.out _).mono ?_
     rintro e w2 ⟨rfl,rfl⟩
     clear HS1
     go_wp2_with fail
     go_roundg (gk - 1)
     case measure=>omega
     case rel=>exact⟨j+1,by omega,by first | rfl | simp,rfl,HY⟩
    | false =>
     rw[hsj] at HS1
     by_cases h1:48<=(s[j]'hjl).toNat
     ·by_cases h2:(s[j]'hjl).toNat<=57
      ·have HY:=HYES.out (by rw[HB.out,decide_eq_true (And.intro h1 h2)];simp)
       clear HYES HNO HB hib HIB hsj
       go_wp2_with fail
       refine (HS1.out _).mono ?_
       rintro e w2 ⟨rfl,rfl⟩
       clear HS1
       go_wp2_with fail
       go_roundg (gk - 1)
       case measure=>omega
       case rel=>exact⟨j+1,by omega,by first | rfl | simp,rfl,HY⟩
      ·by_cases ho:s[j]'hjl∈bl others
       ·have HY:=HYES.out (by rw[HB.out,decide_eq_true ho];simp)
        have hi2:¬ ix < 0:=by
         have:=hib
         rw[decide_eq_true ho] at this
         exact of_decide_eq_false this
        clear HYES HNO HB hib hsj ho
        go_wp2_with fail
        refine (HS1.out _).mono ?_
        rintro e w2 ⟨rfl,rfl⟩
        clear HS1
        go_wp2_with fail
        refine (HIB.out _).mono ?_
        rintro e w2 ⟨rfl,rfl⟩
        clear HIB
        go_wp2_with fail
        go_roundg (gk - 1)
        case measure=>omega
        case rel=>exact⟨j+1,by omega,by first | rfl | simp,rfl,HY⟩
       ·have HY:=hide (HNO.out (by rw[HB.out,hsj,decide_eq_false (fun h=>h2 h.2),decide_eq_false ho];rfl))
        have hi2:ix < 0:=by
         have:=hib
         rw[decide_eq_false ho] at this
         exact of_decide_eq_true this
        clear HYES HNO HB hib hsj ho
        go_wp2_with fail
        refine (HS1.out _).mono ?_
        rintro e w2 ⟨rfl,rfl⟩
        clear HS1
        go_wp2_with fail
        refine (HIB.out _).mono ?_
        rintro e w2 ⟨rfl,rfl⟩
        clear HIB
        go_wp2_with fail
        try rw[Exit.noGoto_ret]
        go_ret
        exact⟨ret_bool HY.out.symm,rfl⟩
     ·by_cases ho:s[j]'hjl∈bl others
      ·have HY:=HYES.out (by rw[HB.out,decide_eq_true ho];simp)
       have hi2:¬ ix < 0:=by
        have:=hib
        rw[decide_eq_true ho] at this
        exact of_decide_eq_false this
       clear HYES HNO HB hib hsj ho
       go_wp2_with fail
       refine (HS1.out _).mono ?_
       rintro e w2 ⟨rfl,rfl⟩
       clear HS1
       go_wp2_with fail
       refine (HIB.out _).mono ?_
       rintro e w2 ⟨rfl,rfl⟩
       clear HIB
       go_wp2_with fail
       go_roundg (gk - 1)
       case measure=>omega
       case rel=>exact⟨j+1,by omega,by first | rfl | simp,rfl,HY⟩
      ·have HY:=hide (HNO.out (by rw[HB.out,hsj,decide_eq_false (fun h=>h1 h.1),decide_eq_false ho];rfl))
       have hi2:ix < 0:=by
        have:=hib
        rw[decide_eq_false ho] at this
        exact of_decide_eq_true this
       clear HYES HNO HB hib hsj ho
       go_wp2_with fail
       refine (HS1.out _).mono ?_
       rintro e w2 ⟨rfl,rfl⟩
       clear HS1
       go_wp2_with fail
       refine (HIB.out _).mono ?_
       rintro e w2 ⟨rfl,rfl⟩
       clear HIB
       go_wp2_with fail
       try rw[Exit.noGoto_ret]
       go_ret
       exact⟨ret_bool HY.out.symm,rfl⟩
   ·have e:j=s.size:=by omega
    have HR:Hid ((bl s).all (nmB (bl others))=true):=hide (by
     have:=HA.out
     rwa [List.take_of_length_le (by rw[bl_len,e];exact Nat.le_refl _)] at this)
    go_wp2_with fail
    go_ret
    exact⟨ret_bool HR.out.symm,rfl⟩
theorem mayBeElement_any (s:ByteArray) (w:World)(hs:s.size<=9223372036854775807):Calls Tryz.prog 210 #[.string s] w fun e w'=>e=.returned (.bool (mayE (bl s)))/\w'=w:=by
 have HR:=hide (fun w=>raw_any s w)
 have HN:=hide (fun w=>isName_any s ⟨#[45]⟩ w hs)
 have HM:Hid (mayE (bl s)=(!(rawOf (bl s)).isSome && isNmL (bl ⟨#[45]⟩) (bl s))):=hide rfl
 rw[HM.out]
 clear HM
 obtain⟨r,hr⟩:∃ r,r=(rawOf (bl s)).isSome:=⟨_,rfl⟩
 obtain⟨r2,hr2⟩:∃ r2,r2=(rawOf (bl s)).getD false:=⟨_,rfl⟩
 obtain⟨q,hq⟩:∃ q,q=isNmL (bl ⟨#[45]⟩) (bl s):=⟨_,rfl⟩
 rw[<-hr,<-hr2] at HR
 rw[<-hq] at HN
 rw[<-hr,<-hq]
 clear hr hr2 hq
 cases r with
 | true =>
  go_enter Tryz.func210,Tryz.ntmps210
  go_wp2_with fail
  refine (HR.out _).mono ?_
  rintro e w1 ⟨rfl,rfl⟩
  go_wp2_with fail
  go_ret
  exact⟨rfl,rfl⟩
 | false =>
  go_enter Tryz.func210,Tryz.ntmps210
  go_wp2_with fail
  refine (HR.out _).mono ?_
  rintro e w1 ⟨rfl,rfl⟩
  go_wp2_with fail
  refine (HN.out _).mono ?_
  rintro e w1 ⟨rfl,rfl⟩
  go_wp2_with fail
  go_ret
  exact⟨rfl,rfl⟩
def Met (D:DataW Unit) (ns:List (List UInt8)):Prop:=∀ n:List UInt8,∃ c:Int,D.atKey (.string n) (.lit (.int .i64 0))=.lit (.int .i64 c)/\0<=c/\c<=1/\(c=0 ↔ n ∉ ns)
theorem zeroInt (w:World):(zeroValue 3).run Tryz.prog w=.ok (.int .i64 0) w:=by kernel_rfl
theorem law9:Maps.Keyed Tryz.prog 9:=Maps.string_keyed Tryz.underlying9
def MetSt (w:World) (b k:Nat) (ns:List (List UInt8)):Prop:=∃ D:DataW Unit,w.ownsMap Tryz.prog 9 (plainElem Tryz.prog 3) b k D/\Maps.IsMap D/\Met D ns
theorem MetSt.below {w w':World}{b k:Nat}{ns:List (List UInt8)}(h:MetSt w b k ns)(hb:Below w.heap.size w w'):MetSt w' b k ns:=by
 obtain⟨D,h1,h2⟩:=h
 exact⟨D,h1.kept (below_grown hb) (by simp),h2⟩
theorem met_new (w:World):MetSt (w.alloc (.map #[] 0)) w.heap.size 0 [] :=
 ⟨_,World.ownsMap_made w _ _ _,⟨_,rfl⟩,fun n=>⟨0,rfl,by decide,by decide,by simp⟩⟩
theorem met_step {w w0:World}{b k:Nat}{ns:List (List UInt8)}(h:MetSt w b k ns)(hk:k < 9223372036854775807) (L:ByteArray)(hL:L.size<=281474976710656)(hb:Below w0.heap.size w0 w)(hb0:w0.heap.size<=b) :
  ∃ (c:Int) (w2:World),(c=0\/c=1)/\(c=0 ↔ bl L ∉ ns) /\
   (Instr.lookup 118 (.map (some b)) (.string L) false).run Tryz.prog w=.ok (.int .i64 c) w /\
   (Instr.mapUpdate 118 (.map (some b)) (.string L) (.int .i64 (c+1))).run Tryz.prog w=.ok () w2 /\
   (Instr.lookup 118 (.map (some b)) (.string L) false).run Tryz.prog w2=.ok (.int .i64 (c+1)) w2 /\
   (bl L ∉ ns->MetSt w2 b (k+1) (ns++[bl L]))/\Below w0.heap.size w0 w2/\w.grownBy w2 (some b):=by
 obtain⟨D,h4,hD,hm⟩:=h
 have hkey:keyOf Tryz.prog 9 (.string L)=some (.string L.data.toList):=WideMaps.keyOf_string_mk Tryz.underlying9 (by unfold maxLen;omega)
 obtain⟨c,hlk,hat,_⟩:=h4.lookup_int law9 Tryz.underlying118 Tryz.underlying3 (zeroInt _) hkey
 obtain⟨c',hat',hc0,hck,hcz⟩:=hm (bl L)
 have hcc:c'=c:=by
  rw[hat] at hat'
  cases hat'
  rfl
 subst hcc
 have hwf:(Lit.int .i64 (c'+1)).wf=true:=WalkArith.wf_i64 (by omega)
 obtain⟨w2,hup,hown2,hgr⟩:=h4.update law9 Tryz.underlying118 (by unfold maxLen;omega) hkey (plainElem_int (H:=Unit) Tryz.underlying3 hwf)
 obtain⟨c2,hlk2,hat2,_⟩:=hown2.lookup_int law9 Tryz.underlying118 Tryz.underlying3 (zeroInt _) hkey
 have hc2:c2=c'+1:=by
  rw[Maps.atKey_put_same hD (show WideAt.IsKeyLit (.string L.data.toList) from trivial)] at hat2
  cases hat2
  rfl
 subst hc2
 refine⟨c',w2,by omega,hcz,hlk,hup,hlk2,fun hn=>⟨_,hown2,hD.put _ _,?_⟩,hb.grown hgr hb.size (fun j hj=>by cases hj;exact hb0),hgr⟩
 intro n
 by_cases hne:n=bl L
 ·subst hne
  refine⟨c'+1,Maps.atKey_put_same hD (show WideAt.IsKeyLit (.string L.data.toList) from trivial) _ _,by omega,by have:=hcz.2 hn;omega,?_⟩
  constructor
  ·intro h
   omega
  ·intro h
   simp at h
 ·obtain⟨d,hd1,hd2,hd3,hd4⟩:=hm n
  refine⟨d,?_,hd2,hd3,?_⟩
  ·rw[Maps.atKey_put_other (by intro e;cases e;exact hne rfl)]
   exact hd1
  ·rw[hd4]
   simp[hne]
end Go.Proofs.YtkiofbikkhhdfabGreatDoor.Dm
namespace Utf1
theorem mayA_nil:mayA []=true:=by decide
theorem mayA_false {a d:List (List UInt8 × List UInt8)}{kv:List UInt8 × List UInt8}{r:List (List UInt8 × List UInt8)}(ha:a=d++kv :: r)(h:kv.1∈d.map Prod.fst\/isNmL [45,95,58] kv.1=false):mayA a=false:=by
 unfold mayA
 rcases h with h | h
 ·rw[decide_eq_false,Bool.and_false]
  rw[ha,List.map_append,List.map_cons]
  intro hn
  exact (List.nodup_append.1 hn).2.2 _ h _ (List.mem_cons_self ..) rfl
 ·have:a.all (fun kv=>isNmL [45,95,58] kv.1)=false:=by
   rw[List.all_eq_false]
   exact⟨kv,by rw[ha];simp,by rw[h];decide⟩
  rw[this,Bool.false_and]
theorem mayA_more {d:List (List UInt8 × List UInt8)}{kv:List UInt8 × List UInt8}(hd:mayA d=true)(h1:kv.1 ∉ d.map Prod.fst)(h2:isNmL [45,95,58] kv.1=true):mayA (d++[kv])=true:=by
 unfold mayA at *
 rw[Bool.and_eq_true] at hd ⊢
 obtain⟨a1,a2⟩:=hd
 refine⟨?_,?_⟩
 ·rw[List.all_append,a1]
  simp[h2]
 ·rw[List.map_append]
  refine decide_eq_true ?_
  rw[List.nodup_append]
  refine⟨of_decide_eq_true a2,by simp,?_⟩
  intro x hx y hy
  have:y=kv.1:=by simpa using hy
  subst this
  intro e
  subst e
  exact h1 hx
end Utf1
namespace Go.Proofs.YtkiofbikkhhdfabGreatDoor.Dm
open Go.RowKit
open Utf1
theorem grown_cell {w w':World}{b:Nat}{a:Addr}{v:Value}(h:w.cell? a=some v)(hg:w.grownBy w' (some b))(hne:a.block≠b):w'.cell? a=some v:=by
 have hl:=cell_lt h
 unfold World.cell? at h ⊢
 rw[hg.block _ hl (by intro e;injection e with e;exact hne e)]
 exact h
theorem mayBeAttrs_any (ap:Option Addr) (am ac:Nat) (ats:List (List UInt8 × List UInt8)) (w:World)(ha:ARow w ap am ats):Calls Tryz.prog 211 #[.slice ap am ac] w fun e w'=>e=.returned (.bool (mayA ats))/\Below w.heap.size w w':=by
 have hmm:=@run_makeMap Tryz.prog
 have HA:=hide ha
 have HAM:=hide ha.1.1
 have ham:=ha.1.2
 clear ha
 go_enter Tryz.func211,Tryz.ntmps211
 go_wp2_with fail
 go_loopg [9] am (fun k v9 wr=>∃ (j:Nat) (d r:List (List UInt8 × List UInt8)),r.length=k/\d.length=j/\j+k=am/\v9=.int .i64 (j:Int)/\Hid (ats=d++r)/\Hid (mayA d=true)/\Hid (MetSt wr w.heap.size j (d.map Prod.fst))/\Hid (Below w.heap.size w wr))
 case atStart=>exact⟨0,[],ats,HAM.out.symm,rfl,by omega,rfl,hide rfl,hide mayA_nil,hide (met_new w),hide ((Below.refl _ _).alloc (Nat.le_refl _) _)⟩
 case round =>
  obtain⟨j,d,r,rfl,hdj,hjk,rfl,HD,HM,HS,HB⟩:=hrel
  clear hmm
  match r,hjk,HD with
  | [],hjk,HD =>
   have e1:d=ats:=by
    have:=HD.out
    rw[List.append_nil] at this
    exact this.symm
   simp only[List.length_nil,Nat.add_zero] at hjk
   subst hjk
   subst e1
   clear HD hdj
   go_wp2_with fail
   go_ret
   exact⟨ret_bool HM.out.symm,HB.out⟩
  | kv :: r,hjk,HD =>
   have hjN:j < am:=by simp only[List.length_cons] at hjk;omega
   have hge:ats[j]?=some kv:=by
    rw[HD.out,List.getElem?_append_right (by omega),hdj,Nat.sub_self]
    rfl
   obtain⟨b,off,rfl,x0,x1,hk1,hk2⟩:=HA.out.2 j kv hge
   have x0:=cell_keep x0 HB.out
   have x1:=cell_keep x1 HB.out
   obtain⟨XA,hXA⟩:∃ X:ByteArray,X=⟨kv.1.toArray⟩:=⟨_,rfl⟩
   obtain⟨XV,hXV⟩:∃ X:ByteArray,X=⟨kv.2.toArray⟩:=⟨_,rfl⟩
   rw[<-hXA] at x0
   rw[<-hXV] at x1
   have hA1:bl XA=kv.1:=by rw[hXA]
   have hAl:XA.size=kv.1.length:=by rw[hXA];rfl
   obtain⟨w2,hw2⟩:∃ w2,w2=wr.alloc (.cells #[.string XA,.string XV] 108):=⟨_,rfl⟩
   have hb2:Below wr.heap.size wr w2:=by rw[hw2];exact (Below.refl _ _).alloc (Nat.le_refl _) _
   have z0:w2.cell? ⟨wr.heap.size,0,none⟩=some (.string XA):=by rw[hw2,new_cell];rfl
   have hsz:=HB.out.size
   have hmlt:w.heap.size < wr.heap.size:=by
    obtain⟨D,h4,_⟩:=HS.out
    exact h4.lt
   obtain⟨c,w3,hc,hcz,hlk,hup,hlk2,hmet,hb3,hgr⟩:=met_step (w0:=w) (HS.out.below hb2) (by omega) XA (by omega) (bel2 HB.out hb2) (Nat.le_refl _)
   have z1:=grown_cell z0 hgr (by show wr.heap.size≠w.heap.size;omega)
   have HNM:=hide (fun w=>isName_any XA ⟨#[45,95,58]⟩ w (by omega))
   have HNQ:Hid (isNmL (bl ⟨#[45,95,58]⟩) (bl XA)=isNmL [45,95,58] kv.1):=hide (by rw[hA1])
   rw[HNQ.out] at HNM
   have HB3:=hide hb3
   have HMET:=hide hmet
   have HCZ:=hide hcz
   have HXA:=hide hA1
   have HD2:Hid (ats=(d++[kv])++r):=hide (by rw[HD.out];simp)
   have hjk2:j+(r.length+1)=am:=hjk
   have hdj2:(d++[kv]).length=j+1:=by simp[hdj]
   have HF:Hid (kv.1∈d.map Prod.fst\/isNmL [45,95,58] kv.1=false->mayA ats=false):=hide (fun h=>mayA_false HD.out h)
   clear hge hk1 hk2 hXA hXV hb2 hAl hb3 hmet hcz hA1 HNQ HD hgr hjk hdj HS
   go_upto_region 5 with fail
   rw[<-hw2]
   clear hw2 x0 x1
   by_cases hin:kv.1∈d.map Prod.fst
   ·have hc1:c=1:=by
     rcases hc with h | h
     ·have:=HCZ.out.1 h
      rw[HXA.out] at this
      exact absurd hin this
     ·exact h
    subst hc1
    rw[show (1:Int)+1=2 from rfl] at hup hlk2
    have HR:=hide (HF.out (.inl hin))
    clear HF hin HMET HCZ hc HXA
    go_wp2_with fail
    try rw[Exit.noGoto_ret]
    go_ret
    exact⟨ret_bool HR.out.symm,HB3.out⟩
   ·have hc0:c=0:=HCZ.out.2 (by rw[HXA.out];exact hin)
    subst hc0
    rw[show (0:Int)+1=1 from rfl] at hup hlk2
    cases hnm:isNmL [45,95,58] kv.1 with
    | false =>
     rw[hnm] at HNM
     have HR:=hide (HF.out (.inr hnm))
     clear HF hin HMET HCZ hc HXA hnm
     go_wp2_with fail
     refine (HNM.out _).mono ?_
     rintro e w4 ⟨rfl,rfl⟩
     go_wp2_with fail
     try rw[Exit.noGoto_ret]
     go_ret
     exact⟨ret_bool HR.out.symm,HB3.out⟩
    | true =>
     rw[hnm] at HNM
     have HM2:=hide (mayA_more HM.out hin hnm)
     have HS2:Hid (MetSt w3 w.heap.size (j+1) ((d++[kv]).map Prod.fst)):=hide (by
      rw[List.map_append]
      have:=HMET.out (by rw[HXA.out];exact hin)
      rw[HXA.out] at this
      exact this)
     clear HF hin HMET HCZ hc HXA hnm HM
     go_wp2_with fail
     refine (HNM.out _).mono ?_
     rintro e w4 ⟨rfl,rfl⟩
     go_wp2_with fail
     go_roundg r.length
     case measure=>simp only[List.length_cons];omega
     case rel=>exact⟨j+1,d++[kv],r,rfl,hdj2,by omega,by first | rfl | simp,HD2,HM2,HS2,HB3⟩
end Go.Proofs.YtkiofbikkhhdfabGreatDoor.Dm
namespace Utf1
def itm (i:Bool) (n:List UInt8):Bool:=if n=[108,105] then true else if n=[117,108]\/n=[111,108] then false else i
mutual
def stN (p i b:Bool):Nd->Bool
 | .mk n a t k=>if n=[] then !t.isEmpty && !b && a.isEmpty && k.isEmpty else t.isEmpty && mayE n && mayA a && !((p && decide (n∈blocks)) || (i && decide (n=[108,105]))) && (if n∈voids then k.isEmpty else stL (p || decide (n=[112])) (itm i n) false k)
def stL (p i b:Bool):List Nd->Bool
 | []=>true
 | n :: r=>stN p i b n && stL p i (decide (n.name=[])) r
end
theorem stN_kids (p i b:Bool) (x:Nd):stN p i b x=if x.name=[] then !x.text.isEmpty && !b && x.attrs.isEmpty && x.kids.isEmpty else x.text.isEmpty && mayE x.name && mayA x.attrs && !((p && decide (x.name∈blocks)) || (i && decide (x.name=[108,105]))) && (if x.name∈voids then x.kids.isEmpty else stL (p || decide (x.name=[112])) (itm i x.name) false x.kids):=by
 cases x
 rw[stN]
 rfl
end Utf1
namespace Go.Proofs.YtkiofbikkhhdfabGreatDoor.Dm
open Go.RowKit
open Utf1
theorem heap3_mid (w:World) (a b c:Obj):(((w.alloc a).alloc b).alloc c).heap[w.heap.size+1]?=some b:=by
 show (((w.heap.push a).push b).push c)[w.heap.size+1]?=_
 rw[Array.getElem?_push,if_neg (by simp),Array.getElem?_push,if_pos (by simp)]
theorem lit_eq (s:ByteArray) (l:List UInt8):(s.toList==l)=decide (bl s=l):=by
 rw[ByteArray.toList_eq]
 by_cases h:bl s=l
 ·rw[decide_eq_true h]
  exact beq_iff_eq.2 h
 ·rw[decide_eq_false h]
  exact beq_eq_false_iff_ne.2 h
theorem within_any (p i b:Bool) (s:ByteArray) (w:World):Calls Tryz.prog 205 #[.agg #[.bool p,.bool i,.bool b],.string s] w fun e w'=>e=.returned (.agg #[.bool (p || decide (bl s=[112])),.bool (itm i (bl s)),.bool false])/\Below w.heap.size w w':=by
 have q1:=lit_eq s [112]
 have q2:=lit_eq s [108,105]
 have q3:=lit_eq s [117,108]
 have q4:=lit_eq s [111,108]
 by_cases h1:bl s=[112]
 ·rw[decide_eq_true h1] at q1
  have HR:Hid (.agg #[.bool (p || decide (bl s=[112])),.bool (itm i (bl s)),.bool false]=Value.agg #[.bool true,.bool i,.bool false]):=hide (by rw[h1];cases p <;> cases i <;> rfl)
  clear h1 q2 q3 q4
  rw[HR.out]
  go_enter Tryz.func205,Tryz.ntmps205
  go_wp2_with fail
  refine bodyPost_ret (results_cell_row rfl _ _ (w.heap.size+1) 104 #[.bool true,.bool i,.bool false] (0,0) _ rfl ?_ Tryz.underlying104 rfl (by kernel_rfl)) rfl ?_
  ·exact heap3_mid _ _ _ _
  ·exact⟨rfl,(((Below.refl _ _).alloc (Nat.le_refl _) _).alloc (by simp) _).alloc (by simp;omega) _⟩
 rw[decide_eq_false h1] at q1
 by_cases h2:bl s=[108,105]
 ·rw[decide_eq_true h2] at q2
  have HR:Hid (.agg #[.bool (p || decide (bl s=[112])),.bool (itm i (bl s)),.bool false]=Value.agg #[.bool p,.bool true,.bool false]):=hide (by rw[h2];cases p <;> cases i <;> rfl)
  clear h1 h2 q3 q4
  rw[HR.out]
  go_enter Tryz.func205,Tryz.ntmps205
  go_wp2_with fail
  refine bodyPost_ret (results_cell_row rfl _ _ (w.heap.size+1) 104 #[.bool p,.bool true,.bool false] (0,0) _ rfl ?_ Tryz.underlying104 rfl (by kernel_rfl)) rfl ?_
  ·exact heap3_mid _ _ _ _
  ·exact⟨rfl,(((Below.refl _ _).alloc (Nat.le_refl _) _).alloc (by simp) _).alloc (by simp;omega) _⟩
 rw[decide_eq_false h2] at q2
 by_cases h3:bl s=[117,108]
 ·rw[decide_eq_true h3] at q3
  have HR:Hid (.agg #[.bool (p || decide (bl s=[112])),.bool (itm i (bl s)),.bool false]=Value.agg #[.bool p,.bool false,.bool false]):=hide (by rw[h3];cases p <;> cases i <;> rfl)
  clear h1 h2 h3 q4
  rw[HR.out]
  go_enter Tryz.func205,Tryz.ntmps205
  go_wp2_with fail
  refine bodyPost_ret (results_cell_row rfl _ _ (w.heap.size+1) 104 #[.bool p,.bool false,.bool false] (0,0) _ rfl ?_ Tryz.underlying104 rfl (by kernel_rfl)) rfl ?_
  ·exact heap3_mid _ _ _ _
  ·exact⟨rfl,(((Below.refl _ _).alloc (Nat.le_refl _) _).alloc (by simp) _).alloc (by simp;omega) _⟩
 rw[decide_eq_false h3] at q3
 by_cases h4:bl s=[111,108]
 ·rw[decide_eq_true h4] at q4
  have HR:Hid (.agg #[.bool (p || decide (bl s=[112])),.bool (itm i (bl s)),.bool false]=Value.agg #[.bool p,.bool false,.bool false]):=hide (by rw[h4];cases p <;> cases i <;> rfl)
  clear h1 h2 h3 h4
  rw[HR.out]
  go_enter Tryz.func205,Tryz.ntmps205
  go_wp2_with fail
  refine bodyPost_ret (results_cell_row rfl _ _ (w.heap.size+1) 104 #[.bool p,.bool false,.bool false] (0,0) _ rfl ?_ Tryz.underlying104 rfl (by kernel_rfl)) rfl ?_
  ·exact heap3_mid _ _ _ _
  ·exact⟨rfl,(((Below.refl _ _).alloc (Nat.le_refl _) _).alloc (by simp) _).alloc (by simp;omega) _⟩
 rw[decide_eq_false h4] at q4
 have HR:Hid (.agg #[.bool (p || decide (bl s=[112])),.bool (itm i (bl s)),.bool false]=Value.agg #[.bool p,.bool i,.bool false]):=hide (by unfold itm;rw[if_neg h2,if_neg (fun h=>h.elim h3 h4),decide_eq_false h1,Bool.or_false])
 clear h1 h2 h3 h4
 rw[HR.out]
 go_enter Tryz.func205,Tryz.ntmps205
 go_wp2_with fail
 refine bodyPost_ret (results_cell_row rfl _ _ (w.heap.size+1) 104 #[.bool p,.bool i,.bool false] (0,0) _ rfl ?_ Tryz.underlying104 rfl (by kernel_rfl)) rfl ?_
 ·exact heap3_mid _ _ _ _
 ·exact⟨rfl,(((Below.refl _ _).alloc (Nat.le_refl _) _).alloc (by simp) _).alloc (by simp;omega) _⟩
theorem text_stable (w:World) (ap:Option Addr) (am ac:Nat) (XN XT:ByteArray) (kp:Option Addr) (km kc:Nat) (p i b:Bool)(ham:am<=9223372036854775807)(hkm:km<=9223372036854775807) :
  Calls Tryz.prog 206 #[.agg #[.string XN,.slice ap am ac,.string XT,.slice kp km kc],.agg #[.bool p,.bool i,.bool b]] w fun e w'=>e=.returned (.bool (!decide (bl XT=[]) && !b && decide (am=0) && decide (km=0)))/\Below w.heap.size w w':=by
 have q1:XT.toList.isEmpty=decide (bl XT=[]):=by
  have:=nm_empty (bl XT)
  rwa [bl_eta] at this
 have hbel:∀ o1 o2:Obj,Below w.heap.size w ((w.alloc o1).alloc o2):=fun o1 o2=>((Below.refl _ _).alloc (Nat.le_refl _) _).alloc (by simp) _
 have HBEL:=hide hbel
 clear hbel
 by_cases h1:bl XT=[]
 ·rw[decide_eq_true h1] at q1 ⊢
  clear h1
  go_enter Tryz.func206,Tryz.ntmps206
  go_wp2_with fail
  go_ret
  exact⟨rfl,HBEL.out _ _⟩
 rw[decide_eq_false h1] at q1 ⊢
 clear h1
 cases b with
 | true =>
  go_enter Tryz.func206,Tryz.ntmps206
  go_wp2_with fail
  go_ret
  exact⟨rfl,HBEL.out _ _⟩
 | false =>
  by_cases h2:am=0
  ·subst h2
   go_enter Tryz.func206,Tryz.ntmps206
   go_wp2_with fail
   go_ret
   refine⟨ret_bool ?_,HBEL.out _ _⟩
   by_cases h:km=0
   ·subst h
    rfl
   ·rw[decide_eq_false h]
    simp
    omega
  ·rw[decide_eq_false h2]
   have h3:((am:Int)==0)=false:=beq_eq_false_iff_ne.2 (by omega)
   clear h2
   go_enter Tryz.func206,Tryz.ntmps206
   go_wp2_with fail
   go_ret
   exact⟨rfl,HBEL.out _ _⟩
end Go.Proofs.YtkiofbikkhhdfabGreatDoor.Dm
