import Derived.Test.YtkiofbikkhhdfabGreatDoorK10
import Derived.Test.YtkiofbikkhhdfabGreatDoorK14
import Derived.Test.YtkiofbikkhhdfabGreatDoorShelf
namespace Go.Proofs.YtkiofbikkhhdfabGreatDoor.To
open Go.RowKit
open Utf1
theorem zeroInt (w:World):(zeroValue 3).run Tryz.prog w=.ok (.int .i64 0) w:=by kernel_rfl
theorem law9:Maps.Keyed Tryz.prog 9:=Maps.string_keyed Tryz.underlying9
theorem own_not_map {w:World}{P:Program}{base:Nat}{e k:TypeId}{size:Nat}{v:Value}{n m b:Nat}{xs:List Value}{R:Value->Option (DataW Unit × List MemPlace)}{D:DataW Unit}(h:w.ownsRow base e size v n xs)(hm:w.ownsMap P k R b m D):v.ownBlock≠some b:=by
 obtain⟨es,cl,hb,_⟩:=hm
 obtain⟨_,⟨rfl,_⟩ | ⟨g,cap,cur,rfl,_,hg,_⟩⟩:=h
 ·simp[Value.ownBlock]
 ·intro e1
  have:g=b:=by simpa [Value.ownBlock] using e1
  subst this
  rw[hg] at hb
  simp at hb
def TagMid (w0 wr:World) (start:Bool) (nm:ByteArray) (acc acc':List (List UInt8 × List UInt8)) (k:Nat) (av:Value):Prop :=
 wr.heap[w0.heap.size]?=some (.cells #[.int .i64 0,.string ⟨#[]⟩,.slice none 0 0,.bool false,.string ⟨#[]⟩] 45 (0,0)) /\
 wr.heap[w0.heap.size+1]?=some (.cells #[.int .i64 (if start then 2 else 3),.string nm,av,.bool false,.string ⟨#[]⟩] 45 (0,0)) /\
 wr.ownsRow w0.heap.size 108 2 av (atts start acc).length (attrCells (atts start acc)) /\
 (∃ D:DataW Unit,wr.ownsMap Tryz.prog 9 (plainElem Tryz.prog 3) (w0.heap.size+2) (k+1) D/\Maps.IsMap D/\Met D (acc'.map Prod.fst) (k+1)) /\
 acc.length<=k/\Below w0.heap.size w0 wr
theorem names_add (acc:List (List UInt8 × List UInt8)) (n v m:List UInt8):m∈(addAt acc n v).map Prod.fst ↔ m=n\/m∈acc.map Prod.fst:=by
 unfold addAt
 split
 ·rename_i h
  constructor
  ·exact fun h=>.inr h
  ·rintro (rfl | h)
   ·assumption
   ·exact h
 ·rw[List.map_append,List.mem_append]
  constructor
  ·rintro (h | h)
   ·exact .inr h
   ·simp at h
    exact .inl h
  ·rintro (rfl | h)
   ·right
    simp
   ·exact .inl h
theorem keep_map {w0 w1:World}{start:Bool}{nm:ByteArray}{acc:List (List UInt8 × List UInt8)}{k:Nat}{av:Value}(hst:TagSt w0 w1 start nm acc k av) (L:ByteArray)(hL:L.size<=4294967296)(hk:k<=4294967296) :
  ∃ (c:Int) (w2:World),0<=c/\c<=4294967296/\(c=0 ↔ bl L ∉ acc.map Prod.fst) /\
   (Instr.lookup 118 (.map (some (w0.heap.size+2))) (.string L) false).run Tryz.prog w1=.ok (.int .i64 c) w1 /\
   (Instr.mapUpdate 118 (.map (some (w0.heap.size+2))) (.string L) (.int .i64 (c+1))).run Tryz.prog w1=.ok () w2 /\
   (Instr.lookup 118 (.map (some (w0.heap.size+2))) (.string L) false).run Tryz.prog w2=.ok (.int .i64 (c+1)) w2 /\
   ∀ v,TagMid w0 w2 start nm acc (addAt acc (bl L) v) k av:=by
 obtain⟨h1,h2,h3,⟨D,h4,hD,hm⟩,h6,h7⟩:=hst
 have hkey:keyOf Tryz.prog 9 (.string L)=some (.string L.data.toList):=WideMaps.keyOf_string_mk Tryz.underlying9 (by unfold maxLen;omega)
 obtain⟨c,hlk,hat,_⟩:=h4.lookup_int law9 Tryz.underlying118 Tryz.underlying3 (zeroInt _) hkey
 obtain⟨c',hat',hc0,hck,hcz⟩:=hm (bl L)
 have hcc:c'=c:=by
  rw[hat] at hat'
  cases hat'
  rfl
 subst hcc
 have hwf:(Lit.int .i64 (c'+1)).wf=true:=WalkArith.wf_i64 (by omega)
 obtain⟨w2,hup,hown2,hgr⟩:=h4.update law9 Tryz.underlying118 (by unfold maxLen;omega) hkey (plainElem_int (H:=Unit) Tryz.underlying3 hwf)
 obtain⟨c2,hlk2,hat2,_⟩:=hown2.lookup_int law9 Tryz.underlying118 Tryz.underlying3 (zeroInt _) hkey
 have hc2:c2=c'+1:=by
  rw[Maps.atKey_put_same hD (show WideAt.IsKeyLit (.string L.data.toList) from trivial)] at hat2
  cases hat2
  rfl
 subst hc2
 refine⟨c',w2,hc0,by omega,hcz,hlk,hup,hlk2,fun v=>⟨?_,?_,?_,⟨_,hown2,hD.put _ _,?_⟩,h6,?_⟩⟩
 ·exact (hgr.block _ (lt_of_block h1) (by simp)).trans h1
 ·exact (hgr.block _ (lt_of_block h2) (by simp)).trans h2
 ·exact h3.kept hgr (.inr (own_not_map h3 h4))
 ·intro n
  by_cases hn:n=bl L
  ·subst hn
   refine⟨c'+1,Maps.atKey_put_same hD (show WideAt.IsKeyLit (.string L.data.toList) from trivial) _ _,by omega,by omega,?_⟩
   constructor
   ·intro h
    omega
   ·intro h
    exact absurd ((names_add acc (bl L) v (bl L)).2 (.inl rfl)) h
  ·obtain⟨d,hd1,hd2,hd3,hd4⟩:=hm n
   refine⟨d,?_,hd2,by omega,?_⟩
   ·rw[Maps.atKey_put_other (by intro e;cases e;exact hn rfl)]
    exact hd1
   ·rw[hd4,names_add]
    simp[hn]
 ·exact h7.grown hgr h7.size (fun j hj=>by cases hj;omega)
theorem TagMid.same {w0 wr:World}{start:Bool}{nm:ByteArray}{acc:List (List UInt8 × List UInt8)}{k:Nat}{av:Value}{n v:List UInt8}(h:TagMid w0 wr start nm acc (addAt acc n v) k av)(hc:start=false\/n∈acc.map Prod.fst):TagSt w0 wr start nm (addAt acc n v) (k+1) av:=by
 obtain⟨h1,h2,h3,h4,h5,h6⟩:=h
 have e:atts start (addAt acc n v)=atts start acc:=by
  rcases hc with rfl | hc
  ·rfl
  ·unfold addAt
   rw[if_pos hc]
 have e2:(addAt acc n v).length<=acc.length+1:=by
  unfold addAt
  split
  ·omega
  ·simp
 refine⟨h1,h2,?_,h4,by omega,h6⟩
 rw[e]
 exact h3
theorem bl_eta (L:ByteArray):(⟨(bl L).toArray⟩:ByteArray)=L:=by
 cases L
 simp
theorem TagMid.below {w0 wr w1:World}{start:Bool}{nm:ByteArray}{acc acc':List (List UInt8 × List UInt8)}{k:Nat}{av:Value}(h:TagMid w0 wr start nm acc acc' k av)(hb:Below wr.heap.size wr w1):TagMid w0 w1 start nm acc acc' k av:=by
 obtain⟨h1,h2,h3,⟨D,h4,h5⟩,h6,h7⟩:=h
 refine⟨(hb.block _ (lt_of_block h1)).trans h1,(hb.block _ (lt_of_block h2)).trans h2,h3.kept (below_grown hb) ?_,⟨D,h4.kept (below_grown hb) (by simp),h5⟩,h6,h7.trans (hb.mono h7.size)⟩
 cases v:av.ownBlock with
 | none=>exact .inl rfl
 | some g=>exact .inr (by simp)
theorem keep_append {w0 w3 w5:World}{nm L RV:ByteArray}{acc:List (List UInt8 × List UInt8)}{k:Nat}{av v':Value}{o:Obj}(h:TagMid w0 w3 true nm acc (addAt acc (bl L) (bl RV)) k av)(hni:bl L ∉ acc.map Prod.fst)
  (hown5:w5.ownsRow w0.heap.size 108 2 v' (acc.length+1) (attrCells acc++[.string L,.string RV]))(hgr:(w3.alloc o).grownBy w5 av.ownBlock) :
  w5.cell? ⟨w0.heap.size+1,2,none⟩=some av/\w5.frozen? ⟨w0.heap.size+1,2,none⟩=false/\TagSt w0 (w5.setCell ⟨w0.heap.size+1,2,none⟩ v') true nm (addAt acc (bl L) (bl RV)) (k+1) v':=by
 obtain⟨h1,h2,h3,⟨D,h4,h5⟩,h6,h7⟩:=h
 have a1:(w3.alloc o).heap[w0.heap.size]?=_:=(Below.heap_alloc _ _ _ (lt_of_block h1)).trans h1
 have a2:(w3.alloc o).heap[w0.heap.size+1]?=_:=(Below.heap_alloc _ _ _ (lt_of_block h2)).trans h2
 have b1:=(hgr.block _ (lt_of_block a1) (fun e=>own_apart (h3.alloc o) a1 (by decide) e.symm)).trans a1
 have b2:=(hgr.block _ (lt_of_block a2) (fun e=>own_apart (h3.alloc o) a2 (by decide) e.symm)).trans a2
 have b4:=(h4.alloc o).kept hgr (fun e=>own_not_map (h3.alloc o) (h4.alloc o) e.symm)
 have hb3:Below w0.heap.size w0 (w3.alloc o):=h7.alloc h7.size o
 have hlt:=(h3.alloc o).lt
 have hb5:Below w0.heap.size w0 w5:=hb3.grown hgr hb3.size (fun j hj=>(hlt j hj).1)
 have e2:addAt acc (bl L) (bl RV)=acc++[(bl L,bl RV)]:=by
  unfold addAt
  rw[if_neg hni]
 refine⟨tag_cell b2 2 _ rfl,tag_free b2 2,?_,?_,?_,⟨D,?_,h5⟩,?_,?_⟩
 ·exact (Below.heap_setCell _ _ _ _ (by simp)).trans b1
 ·exact tok_set b2 2 v'
 ·have e3:atts true (addAt acc (bl L) (bl RV))=acc++[(bl L,bl RV)]:=e2
  rw[e3,attrCells_app,List.length_append]
  have e4:attrCells [(bl L,bl RV)]=[.string L,.string RV]:=by
   show [Value.string ⟨(bl L).toArray⟩,.string ⟨(bl RV).toArray⟩]=_
   rw[bl_eta,bl_eta]
  rw[e4]
  exact own_set hown5 b2 (by decide) 2 v'
 ·obtain⟨es,cl,hm,hrest⟩:=b4
  exact⟨es,cl,(Below.heap_setCell _ _ _ _ (by simp)).trans hm,hrest⟩
 ·rw[e2,List.length_append]
  simp only[List.length_cons,List.length_nil]
  omega
 ·exact hb5.setCell (p:=⟨w0.heap.size+1,2,none⟩) (Nat.le_succ _) v'
end Go.Proofs.YtkiofbikkhhdfabGreatDoor.To
namespace Go.Proofs.YtkiofbikkhhdfabGreatDoor.To
open Go.RowKit
open Utf1
def tokCells (t:Tk) (av:Value):List Value:=[.int .i64 (t.kind:Int),.string ⟨t.name.toArray⟩,av,.bool t.closed,.string ⟨t.text.toArray⟩]
def toksCells:List (Tk × Value)->List Value
 | []=>[]
 | p :: r=>tokCells p.1 p.2++toksCells r
theorem toksCells_app:∀ a b,toksCells (a++b)=toksCells a++toksCells b
 | [],_=>rfl
 | p :: r,b=>by
  simp only[toksCells,List.cons_append,toksCells_app r b,List.append_assoc]
def ToksAt (w:World) (base:Nat) (v:Value) (l:List (Tk × Value)):Prop :=
 w.ownsRow base 45 5 v l.length (toksCells l)/\∀ p∈l,w.ownsRow base 108 2 p.2 p.1.attrs.length (attrCells p.1.attrs)
theorem own_below {w w1:World}{base:Nat}{e:TypeId}{size:Nat}{v:Value}{n:Nat}{xs:List Value}(h:w.ownsRow base e size v n xs)(hb:Below w.heap.size w w1):w1.ownsRow base e size v n xs:=by
 refine h.kept (below_grown hb) ?_
 cases hv:v.ownBlock with
 | none=>exact .inl rfl
 | some g=>exact .inr (by simp)
theorem own_base {w:World}{base base':Nat}{e:TypeId}{size:Nat}{v:Value}{n:Nat}{xs:List Value}(h:w.ownsRow base e size v n xs)(hb:base'<=base):w.ownsRow base' e size v n xs:=by
 obtain⟨h1,h2 | ⟨g,cap,cur,h3,h4,h5⟩⟩:=h
 ·exact⟨h1,.inl h2⟩
 ·exact⟨h1,.inr ⟨g,cap,cur,h3,by omega,h5⟩⟩
theorem ToksAt.below {w w1:World}{base:Nat}{v:Value}{l:List (Tk × Value)}(h:ToksAt w base v l)(hb:Below w.heap.size w w1):ToksAt w1 base v l :=
 ⟨own_below h.1 hb,fun p hp=>own_below (h.2 p hp) hb⟩
theorem ToksAt.nil (w:World) (base:Nat):ToksAt w base (.slice none 0 0) []:=⟨World.ownsRow_nil _ _ _ _,fun p hp=>by cases hp⟩
theorem own_two {w:World}{base base':Nat}{e e':TypeId}{size size':Nat}{v v':Value}{n n':Nat}{xs xs':List Value}(h:w.ownsRow base e size v n xs)(h':w.ownsRow base' e' size' v' n' xs')(hne:e≠e'):v.ownBlock=none\/v.ownBlock≠v'.ownBlock:=by
 obtain⟨_,⟨rfl,_⟩ | ⟨g',cap,cur,rfl,_,hg,_⟩⟩:=h'
 ·cases hv:v.ownBlock with
  | none=>exact .inl rfl
  | some g=>exact .inr (by simp[Value.ownBlock])
 ·exact .inr (own_apart h hg hne)
theorem ToksAt.more {w w1:World}{base:Nat}{v v' av:Value}{l:List (Tk × Value)}{t:Tk}{o:Obj}(h:ToksAt w base v l)(ht:w.ownsRow base 108 2 av t.attrs.length (attrCells t.attrs))
  (hown:w1.ownsRow base 45 5 v' (l.length+1) (toksCells l++tokCells t av))(hgr:(w.alloc o).grownBy w1 v.ownBlock):ToksAt w1 base v' (l++[(t,av)]):=by
 have hk:∀ (t':Tk) (a:Value),w.ownsRow base 108 2 a t'.attrs.length (attrCells t'.attrs)->w1.ownsRow base 108 2 a t'.attrs.length (attrCells t'.attrs):=fun t' a h' =>
  (h'.alloc o).kept hgr (own_two (h'.alloc o) (h.1.alloc o) (by decide))
 refine⟨?_,?_⟩
 ·rw[toksCells_app,List.length_append]
  have e:toksCells [(t,av)]=tokCells t av:=by simp[toksCells]
  rw[e]
  exact hown
 ·intro p hp
  rcases List.mem_append.1 hp with hp | hp
  ·exact hk _ _ (h.2 p hp)
  ·have:p=(t,av):=by simpa using hp
   subst this
   exact hk _ _ ht
theorem infoTok:(Tryz.prog.info? 45).map (fun i=>(i.zero,i.size,i.bytes))=some (some (.agg #[.int .i64 0,.string ⟨#[]⟩,.slice none 0 0,.bool false,.string ⟨#[]⟩]),5,72):=by kernel_rfl
theorem five_new (w:World) (a b c d e:Value) (t:TypeId):∀ (j:Nat) (u:Value),[a,b,c,d,e][j]?=some u->(w.alloc (.cells #[a,b,c,d,e] t)).cell? ((⟨w.heap.size,0,none⟩:Addr).add j)=some u:=by
 intro j u hj
 match j,hj with
 | 0,hj=>simp at hj;subst hj;simp[Addr.add]
 | 1,hj=>simp at hj;subst hj;simp[Addr.add]
 | 2,hj=>simp at hj;subst hj;simp[Addr.add]
 | 3,hj=>simp at hj;subst hj;simp[Addr.add]
 | 4,hj=>simp at hj;subst hj;simp[Addr.add]
 | _+5,hj=>simp at hj
theorem five_one (k:Int) (a:ByteArray) (p:Option Addr) (m c:Nat) (b:Bool) (d:ByteArray):∀ u∈[Value.int .i64 k,.string a,.slice p m c,.bool b,.string d],u.oneCell'=true:=by
 intro u hu
 simp at hu
 rcases hu with rfl | rfl | rfl | rfl | rfl <;> rfl
theorem toksCells_at:∀ (l:List (Tk × Value)) (i:Nat) (p:Tk × Value),l[i]?=some p->∀ j,j < 5->(toksCells l)[i*5+j]?=(tokCells p.1 p.2)[j]?
 | [],i,p,h,_,_=>by simp at h
 | q :: r,0,p,h,j,hj=>by
  have:q=p:=by simpa using h
  subst this
  show (tokCells q.1 q.2++toksCells r)[0*5+j]?=_
  rw[show 0*5+j=j by omega,List.getElem?_append_left (by simp[tokCells];omega)]
 | q :: r,i+1,p,h,j,hj=>by
  have h':r[i]?=some p:=by simpa using h
  show (tokCells q.1 q.2++toksCells r)[(i+1)*5+j]?=_
  rw[List.getElem?_append_right (by simp[tokCells];omega),show (i+1)*5+j - (tokCells q.1 q.2).length=i*5+j by simp[tokCells];omega]
  exact toksCells_at r i p h' j hj
theorem tok_at {w:World}{base g n cap:Nat}{l:List (Tk × Value)}(h:ToksAt w base (.slice (some ⟨g,0,none⟩) n cap) l) (i:Nat) (p:Tk × Value)(hp:l[i]?=some p) (j:Nat)(hj:j < 5):w.cell? ⟨g,i*5+j,none⟩=(tokCells p.1 p.2)[j]?:=by
 have hi:i < l.length:=(List.getElem?_eq_some_iff.1 hp).1
 have hn:n=l.length:=by
  obtain⟨_,⟨e,_⟩ | ⟨g',cap',cur,e,_⟩⟩:=h.1
  ·cases e
  ·cases e
   rfl
 subst hn
 rw[h.1.cellAt (i*5+j) (by omega),toksCells_at l i p hp j hj]
theorem toks_slice {w:World}{base:Nat}{v:Value}{l:List (Tk × Value)}(h:ToksAt w base v l)(hl:l≠[]):∃ g cap,v=.slice (some ⟨g,0,none⟩) l.length cap/\base<=g:=by
 obtain⟨_,⟨_,e⟩ | ⟨g',cap',cur,e,hb,_⟩⟩:=h.1
 ·exact absurd (List.length_eq_zero_iff.1 e) hl
 ·exact⟨g',cap',e,hb⟩
end Go.Proofs.YtkiofbikkhhdfabGreatDoor.To
namespace Go.Proofs.YtkiofbikkhhdfabGreatDoor.Dm
open Go.RowKit
open Utf1
theorem addKid_name (p x:Nd):(addKid p x).name=p.name:=by
 cases p
 rfl
theorem closeR_root:∀ (n:Nat) (r:List Nd) (t:List UInt8),n < r.length->(closeR n r t).1.getLast?.map Nd.name=r.getLast?.map Nd.name
 | 0,r,t,_=>by
  have:closeR 0 r t=(r,t):=by cases r <;> rfl
  rw[this]
 | n+1,[],t,h=>by simp at h
 | n+1,[_],t,h=>by simp at h
 | n+1,nd :: p :: r,t,h=>by
  have ih:=closeR_root n (addKid p (textIn nd t) :: r) [] (by simp only[List.length_cons] at h ⊢;omega)
  show (closeR n (addKid p (textIn nd t) :: r) []).1.getLast?.map Nd.name=_
  rw[ih]
  cases r with
  | nil=>simp[addKid_name]
  | cons a b=>simp
theorem closeIn_root (ns:List (List UInt8)) (r:List Nd) (t:List UInt8)(hr:r≠[]):(closeIn ns r t).1.getLast?.map Nd.name=r.getLast?.map Nd.name:=by
 have hl:=innerR_lt ns r hr
 unfold closeIn
 split
 ·exact closeR_root _ r t (by omega)
 ·rfl
set_option maxRecDepth 100000 in
set_option maxHeartbeats 8000000 in
theorem makeWay_st (w:World) (base B:Nat) (r:List Nd) (t:List UInt8) (o n:Nat) (name:ByteArray)(h:St w base B r.reverse t o n)(hr:r≠[])(hroot:r.getLast?.map Nd.name=some [])(hM:cntL r+tx t<=100000)(ht:t.length<=100000000) :
  Calls Tryz.prog 109 #[.pointer (some ⟨B,0,none⟩),.string name] w fun e w'=>e=.returned (.tuple #[])/\St w' base B (wayR (bl name) r t).1.reverse (wayR (bl name) r t).2 o n/\Below base w w':=by
 have hbl:=fun w=>block_any name w
 have h1:1<=r.length:=List.length_pos_iff.2 hr
 have hrl:=len_cnt r
 by_cases hblk:bl name∈blocks
 case neg =>
  rw[decide_eq_false hblk] at hbl
  have HE:Hid (St w base B (wayR (bl name) r t).1.reverse (wayR (bl name) r t).2 o n):=hide (by
   unfold wayR
   rw[if_neg hblk]
   exact h)
  have HBL:=hide hbl
  clear h hbl hblk
  go_enter Tryz.func109,Tryz.ntmps109
  go_wp2_with fail
  refine (HBL.out _).mono ?_
  rintro e w1 ⟨rfl,rfl⟩
  go_wp2_with fail
  refine bodyPost_ret (results_none rfl _ _ _) rfl ?_
  exact⟨rfl,HE.out,Below.refl _ _⟩
 rw[decide_eq_true hblk] at hbl
 have HBL:=hide hbl
 have HI1:=hide (fun ty=>inner_lit w base B r t o n [⟨#[112]⟩] #[.string ⟨#[112]⟩] ty rfl h h1 (by omega) (by decide))
 have hall:=closeIn_all [[112]] r t hr
 have hroot1:=closeIn_root [[112]] r t hr
 rw[hroot] at hroot1
 have HBW:Hid (base<=w.heap.size):=hide (by obtain⟨_,_,h0,_⟩:=h;exact h0.2.1)
 have HC1:Hid (∀ ty,0 < innerR [[112]] r->Calls Tryz.prog 46 #[.pointer (some ⟨B,0,none⟩),.int .i64 (innerR [[112]] r:Int)] (w.alloc (.cells #[.string ⟨#[112]⟩] ty)) fun e w'=>e=.returned (.tuple #[])/\St w' base B (closeIn [[112]] r t).1.reverse (closeIn [[112]] r t).2 o n/\Below base w w'):=hide (by
  intro ty hpos
  have hlt:=innerR_lt [[112]] r hr
  refine (closeFrom_st _ base B (innerR [[112]] r) r t o n (h.under ((Below.refl _ _).alloc (Nat.le_refl _) _)) hpos (by omega) hM ht).mono ?_
  rintro e w' ⟨rfl,q1,q2⟩
  refine⟨rfl,?_,((Below.refl base w).alloc HBW.out _).trans q2⟩
  unfold closeIn
  rw[if_pos hpos]
  exact q1)
 have HN1:Hid (∀ ty,¬ 0 < innerR [[112]] r->St (w.alloc (.cells #[.string ⟨#[112]⟩] ty)) base B (closeIn [[112]] r t).1.reverse (closeIn [[112]] r t).2 o n):=hide (by
  intro ty hpos
  unfold closeIn
  rw[if_neg hpos]
  exact h.under ((Below.refl _ _).alloc (Nat.le_refl _) _))
 have HWAY:Hid (wayR (bl name) r t=(if bl name=[108,105] then (if ((closeIn [[112]] r t).1.reverse[innerR [[108,105],[117,108],[111,108]] (closeIn [[112]] r t).1]?.map Nd.name)=some [108,105] then closeR ((closeIn [[112]] r t).1.length - innerR [[108,105],[117,108],[111,108]] (closeIn [[112]] r t).1) (closeIn [[112]] r t).1 (closeIn [[112]] r t).2 else closeIn [[112]] r t) else closeIn [[112]] r t)):=hide (by
  unfold wayR
  rw[if_pos hblk])
 obtain⟨r1,t1,hc1⟩:∃ r1 t1,closeIn [[112]] r t=(r1,t1):=⟨_,_,rfl⟩
 rw[hc1] at hall hroot1 HC1 HN1 HWAY
 obtain⟨a1,ha1⟩:∃ a,a=innerR [[112]] r:=⟨_,rfl⟩
 have HI1:Hid (∀ ty,Calls Tryz.prog 112 #[.pointer (some ⟨B,0,none⟩),.slice (some ⟨w.heap.size,0,none⟩) 1 1] (w.alloc (.cells #[.string ⟨#[112]⟩] ty)) fun e w'=>e=.returned (.int .i64 (a1:Int))/\w'=w.alloc (.cells #[.string ⟨#[112]⟩] ty)):=hide (by rw[ha1];exact HI1.out)
 rw[<-ha1] at HC1 HN1
 obtain⟨W,hW⟩:∃ W,W=wayR (bl name) r t:=⟨_,rfl⟩
 rw[<-hW] at HWAY ⊢
 have f0:=eqlit name [108,105]
 clear h hbl hblk ha1 hc1 hW hroot
 have hall:1<=r1.length/\r1.length<=r.length/\cntL r1+tx t1=cntL r+tx t/\t1.length<=t.length:=hall
 have hroot1:r1.getLast?.map Nd.name=some []:=hroot1
 obtain⟨hal1,hal2,hal3,hal4⟩:=id hall
 obtain⟨a2,ha2⟩:∃ a,a=innerR [[108,105],[117,108],[111,108]] r1:=⟨_,rfl⟩
 rw[<-ha2] at HWAY
 have hr1:r1≠[]:=List.length_pos_iff.1 hall.1
 have ha2l:a2 < r1.length:=by rw[ha2];exact innerR_lt _ _ hr1
 have hr1l:=len_cnt r1
 have HI2:Hid (∀ (wx:World) (ty:TypeId),St wx base B r1.reverse t1 o n->Calls Tryz.prog 112 #[.pointer (some ⟨B,0,none⟩),.slice (some ⟨wx.heap.size,0,none⟩) 3 3] (wx.alloc (.cells #[.string ⟨#[108,105]⟩,.string ⟨#[117,108]⟩,.string ⟨#[111,108]⟩] ty)) fun e w'=>e=.returned (.int .i64 (a2:Int))/\w'=wx.alloc (.cells #[.string ⟨#[108,105]⟩,.string ⟨#[117,108]⟩,.string ⟨#[111,108]⟩] ty)):=hide (by
  intro wx ty hx
  rw[ha2]
  exact inner_lit wx base B r1 t1 o n [⟨#[108,105]⟩,⟨#[117,108]⟩,⟨#[111,108]⟩] _ ty rfl hx hall.1 (by omega) (by decide))
 have hget:r1.reverse[a2]?=some (r1.reverse[a2]'(by rw[List.length_reverse];exact ha2l)):=List.getElem?_eq_getElem _
 generalize r1.reverse[a2]'(by rw[List.length_reverse];exact ha2l)=nd2 at hget
 rw[hget] at HWAY
 have hpos2:nd2.name=[108,105]->1<=a2:=by
  intro hn
  refine Nat.pos_of_ne_zero fun e=>?_
  subst e
  have h2:r1.getLast?=some nd2:=by
   rw[<-List.head?_reverse,List.head?_eq_getElem?]
   exact hget
  rw[h2] at hroot1
  have:nd2.name=[]:=by simpa using hroot1
  rw[this] at hn
  cases hn
 have HN2:Hid (∀ (wx:World) (ty:TypeId),St wx base B r1.reverse t1 o n->∃ go oc,(wx.alloc (.cells #[.string ⟨#[108,105]⟩,.string ⟨#[117,108]⟩,.string ⟨#[111,108]⟩] ty)).cell? ⟨B,0,none⟩=some (.slice (some ⟨go,0,none⟩) r1.length oc)/\(wx.alloc (.cells #[.string ⟨#[108,105]⟩,.string ⟨#[117,108]⟩,.string ⟨#[111,108]⟩] ty)).cell? ⟨go,a2*4,none⟩=some (.string ⟨nd2.name.toArray⟩)):=hide (by
  intro wx ty hx
  obtain⟨pa,bv,h0,_⟩:=hx.under ((Below.refl _ _).alloc (Nat.le_refl _) (.cells #[.string ⟨#[108,105]⟩,.string ⟨#[117,108]⟩,.string ⟨#[111,108]⟩] ty))
  obtain⟨go,oc,hB,hnm⟩:=h0.name_at (by rw[List.length_reverse];exact hall.1)
  rw[List.length_reverse] at hB
  exact⟨go,oc,tag_cell hB 0 _ rfl,hnm a2 nd2 hget⟩)
 have HC2:Hid (∀ (wx:World) (ty:TypeId),St wx base B r1.reverse t1 o n->Below base w wx->nd2.name=[108,105]->Calls Tryz.prog 46 #[.pointer (some ⟨B,0,none⟩),.int .i64 (a2:Int)] (wx.alloc (.cells #[.string ⟨#[108,105]⟩,.string ⟨#[117,108]⟩,.string ⟨#[111,108]⟩] ty)) fun e w'=>e=.returned (.tuple #[])/\St w' base B (closeR (r1.length - a2) r1 t1).1.reverse (closeR (r1.length - a2) r1 t1).2 o n/\Below base w w'):=hide (by
  intro wx ty hx hbx hn
  refine (closeFrom_st _ base B a2 r1 t1 o n (hx.under ((Below.refl _ _).alloc (Nat.le_refl _) _)) (hpos2 hn) (by omega) (by omega) (by omega)).mono ?_
  rintro e w' ⟨rfl,q1,q2⟩
  refine⟨rfl,q1,(hbx.alloc ?_ _).trans q2⟩
  obtain⟨_,_,h0,_⟩:=hx
  exact h0.2.1)
 have HBA:Hid (∀ (wx:World) (ty:TypeId),St wx base B r1.reverse t1 o n->Below base w wx->St (wx.alloc (.cells #[.string ⟨#[108,105]⟩,.string ⟨#[117,108]⟩,.string ⟨#[111,108]⟩] ty)) base B r1.reverse t1 o n/\Below base w (wx.alloc (.cells #[.string ⟨#[108,105]⟩,.string ⟨#[117,108]⟩,.string ⟨#[111,108]⟩] ty))):=hide (by
  intro wx ty hx hbx
  refine⟨hx.under ((Below.refl _ _).alloc (Nat.le_refl _) _),hbx.alloc ?_ _⟩
  obtain⟨_,_,h0,_⟩:=hx
  exact h0.2.1)
 have HF2:=hide (eqlit ⟨nd2.name.toArray⟩ [108,105])
 have HPOS2:=hide hpos2
 clear ha2 hget hpos2 hroot1 hall hal3
 by_cases hpos:0 < a1
 ·have hdp:decide ((0:Int) < (a1:Int))=true:=decide_eq_true (by omega)
  have HCC:=hide (fun ty=>HC1.out ty hpos)
  clear HC1 HN1
  go_enter Tryz.func109,Tryz.ntmps109
  go_wp2_with fail
  refine (HBL.out _).mono ?_
  rintro e w0 ⟨rfl,rfl⟩
  go_wp2_with fail
  refine (HI1.out _).mono ?_
  rintro e w1 ⟨rfl,rfl⟩
  go_wp2_with fail
  refine (HCC.out _).mono ?_
  rintro e wx ⟨rfl,s1,s2⟩
  have HSX:=hide (And.intro s1 s2)
  clear s1 s2 HCC HI1 HBL
  by_cases hli:bl name=[108,105]
  ·rw[decide_eq_true hli] at f0
   have f1:(name.toList != [108,105])=false:=by
    show (!(name.toList==[108,105]))=false
    rw[f0]
    rfl
   have hw:=HWAY.out
   rw[if_pos hli] at hw
   simp only[Option.map_some,Option.some.injEq] at hw
   have HW2:=hide hw
   obtain⟨go,oc,hg0,hg1⟩:=HN2.out wx 9 HSX.out.1
   have hg0:(wx.alloc (.cells #[.string ⟨#[108,105]⟩,.string ⟨#[117,108]⟩,.string ⟨#[111,108]⟩] 9)).cell? ⟨B,0,none⟩=some (.slice (some ⟨go,0,none⟩) r1.length oc):=hg0
   have f2:=HF2.out
   clear hw hli HWAY HN2
   by_cases hn2:nd2.name=[108,105]
   ·have f2:((⟨nd2.name.toArray⟩:ByteArray).toList==[108,105])=true:=by rw[f2];exact decide_eq_true hn2
    have HE:=hide (HC2.out wx 9 HSX.out.1 HSX.out.2 hn2)
    have hw:=HW2.out
    rw[if_pos hn2] at hw
    have HW3:=hide hw
    obtain⟨NB,hNB⟩:∃ X:ByteArray,X=⟨nd2.name.toArray⟩:=⟨_,rfl⟩
    rw[<-hNB] at hg1 f2
    clear hw hn2 hNB HW2 HC2
    go_wp2_with fail
    refine (HI2.out _ _ HSX.out.1).mono ?_
    rintro e wy ⟨rfl,rfl⟩
    go_wp2_with fail
    refine HE.out.mono ?_
    rintro e wz ⟨rfl,z1,z2⟩
    have HZ:=hide (And.intro z1 z2)
    clear z1 z2 HE
    go_wp2_with fail
    go_end0
    rw[HW3.out]
    exact⟨rfl,HZ.out⟩
   ·have f2:((⟨nd2.name.toArray⟩:ByteArray).toList==[108,105])=false:=by rw[f2];exact decide_eq_false hn2
    have hw:=HW2.out
    rw[if_neg hn2] at hw
    have HW3:=hide hw
    have HE:=hide (HBA.out wx 9 HSX.out.1 HSX.out.2)
    obtain⟨NB,hNB⟩:∃ X:ByteArray,X=⟨nd2.name.toArray⟩:=⟨_,rfl⟩
    rw[<-hNB] at hg1 f2
    clear hw hn2 hNB HW2 HC2
    go_wp2_with fail
    refine (HI2.out _ _ HSX.out.1).mono ?_
    rintro e wy ⟨rfl,rfl⟩
    go_wp2_with fail
    go_end0
    rw[HW3.out]
    exact⟨rfl,HE.out⟩
  ·rw[decide_eq_false hli] at f0
   have f1:(name.toList != [108,105])=true:=by
    show (!(name.toList==[108,105]))=true
    rw[f0]
    rfl
   have hw:=HWAY.out
   rw[if_neg hli] at hw
   have HW2:=hide hw
   clear hw hli HWAY HN2 HC2
   go_wp2_with fail
   refine bodyPost_ret (results_none rfl _ _ _) rfl ?_
   rw[HW2.out]
   exact⟨rfl,HSX.out⟩
 ·have hdp:decide ((0:Int) < (a1:Int))=false:=decide_eq_false (by omega)
  have HNN:=hide (fun ty=>HN1.out ty hpos)
  clear HC1 HN1
  go_enter Tryz.func109,Tryz.ntmps109
  go_wp2_with fail
  refine (HBL.out _).mono ?_
  rintro e w0 ⟨rfl,rfl⟩
  go_wp2_with fail
  refine (HI1.out _).mono ?_
  rintro e w1 ⟨rfl,rfl⟩
  have HSX0:=hide (And.intro (HNN.out 9) ((Below.refl base w0).alloc HBW.out (.cells #[.string ⟨#[112]⟩] 9)))
  obtain⟨wx,hwx⟩:∃ wx,wx=w0.alloc (.cells #[.string ⟨#[112]⟩] 9):=⟨_,rfl⟩
  rw[<-hwx] at HSX0
  have HSX:=HSX0
  clear HNN HI1 HBL HSX0
  rw[<-hwx]
  clear hwx
  by_cases hli:bl name=[108,105]
  ·rw[decide_eq_true hli] at f0
   have f1:(name.toList != [108,105])=false:=by
    show (!(name.toList==[108,105]))=false
    rw[f0]
    rfl
   have hw:=HWAY.out
   rw[if_pos hli] at hw
   simp only[Option.map_some,Option.some.injEq] at hw
   have HW2:=hide hw
   obtain⟨go,oc,hg0,hg1⟩:=HN2.out wx 9 HSX.out.1
   have hg0:(wx.alloc (.cells #[.string ⟨#[108,105]⟩,.string ⟨#[117,108]⟩,.string ⟨#[111,108]⟩] 9)).cell? ⟨B,0,none⟩=some (.slice (some ⟨go,0,none⟩) r1.length oc):=hg0
   have f2:=HF2.out
   clear hw hli HWAY HN2
   by_cases hn2:nd2.name=[108,105]
   ·have f2:((⟨nd2.name.toArray⟩:ByteArray).toList==[108,105])=true:=by rw[f2];exact decide_eq_true hn2
    have HE:=hide (HC2.out wx 9 HSX.out.1 HSX.out.2 hn2)
    have hw:=HW2.out
    rw[if_pos hn2] at hw
    have HW3:=hide hw
    obtain⟨NB,hNB⟩:∃ X:ByteArray,X=⟨nd2.name.toArray⟩:=⟨_,rfl⟩
    rw[<-hNB] at hg1 f2
    clear hw hn2 hNB HW2 HC2
    go_wp2_with fail
    refine (HI2.out _ _ HSX.out.1).mono ?_
    rintro e wy ⟨rfl,rfl⟩
    go_wp2_with fail
    refine HE.out.mono ?_
    rintro e wz ⟨rfl,z1,z2⟩
    have HZ:=hide (And.intro z1 z2)
    clear z1 z2 HE
    go_wp2_with fail
    go_end0
    rw[HW3.out]
    exact⟨rfl,HZ.out⟩
   ·have f2:((⟨nd2.name.toArray⟩:ByteArray).toList==[108,105])=false:=by rw[f2];exact decide_eq_false hn2
    have hw:=HW2.out
    rw[if_neg hn2] at hw
    have HW3:=hide hw
    have HE:=hide (HBA.out wx 9 HSX.out.1 HSX.out.2)
    obtain⟨NB,hNB⟩:∃ X:ByteArray,X=⟨nd2.name.toArray⟩:=⟨_,rfl⟩
    rw[<-hNB] at hg1 f2
    clear hw hn2 hNB HW2 HC2
    go_wp2_with fail
    refine (HI2.out _ _ HSX.out.1).mono ?_
    rintro e wy ⟨rfl,rfl⟩
    go_wp2_with fail
    go_end0
    rw[HW3.out]
    exact⟨rfl,HE.out⟩
  ·rw[decide_eq_false hli] at f0
   have f1:(name.toList != [108,105])=true:=by
    show (!(name.toList==[108,105]))=true
    rw[f0]
    rfl
   have hw:=HWAY.out
   rw[if_neg hli] at hw
   have HW2:=hide hw
   clear hw hli HWAY HN2 HC2
   go_wp2_with fail
   refine bodyPost_ret (results_none rfl _ _ _) rfl ?_
   rw[HW2.out]
   exact⟨rfl,HSX.out⟩
end Go.Proofs.YtkiofbikkhhdfabGreatDoor.Dm
namespace Go.Proofs.YtkiofbikkhhdfabGreatDoor.Dm
open Go.RowKit
open Utf1
set_option maxRecDepth 100000 in
set_option maxHeartbeats 8000000 in
theorem clone_nil (w:World):Calls Tryz.prog 110 #[.slice none 0 0] w fun e w'=>e=.returned (.slice none 0 0)/\w'=w:=by
 go_enter Tryz.func110,Tryz.ntmps110
 go_wp2_with fail
 go_loopg [3,8] 0 (fun k v3 v8 wr=>v3=.slice none 0 0/\v8=.int .i64 0/\wr=w)
 case atStart=>exact⟨rfl,rfl,rfl⟩
 case round =>
  obtain⟨rfl,rfl,rfl⟩:=hrel
  go_wp2_with fail
  go_ret
  exact⟨rfl,rfl⟩
end Go.Proofs.YtkiofbikkhhdfabGreatDoor.Dm
namespace Go.Proofs.YtkiofbikkhhdfabGreatDoor.Dm
open Go.RowKit
open Utf1
def PushEnd (w w':World) (B base:Nat) (ov pa bv x y:Value) (l:List (Nd × Value × Value)) (nm tx:ByteArray) (ap:Option Addr) (am ac:Nat) (cp:Option Addr) (cm cc:Nat) (ov':Value):Prop :=
 BB w' B ov' pa bv x y/\w'.ownsRow base 80 4 ov' (l.length+1) (ndCells l++[.string nm,.slice ap am ac,.string tx,.slice cp cm cc]) /\
 (ov'.ownBlock=ov.ownBlock\/ov'.ownBlock=some w.heap.size)/\Stays w w' (B :: blk ov)/\Below base w w'
theorem push_facts {w w5:World}{B base:Nat}{ov pa bv x y v':Value}{l:List (Nd × Value × Value)}(hbB:base<=B)(hbw:base<=w.heap.size)(h:BB w B ov pa bv x y)(hro:w.ownsRow base 80 4 ov l.length (ndCells l))
  (hown:w5.ownsRow base 80 4 v' (l.length+1) (ndCells l++[.string ⟨#[]⟩,.slice none 0 0,.string ⟨#[]⟩,.slice none 0 0]))(hgr:w.grownBy w5 ov.ownBlock)(hfr:v'.ownBlock=ov.ownBlock\/v'.ownBlock=some w.heap.size)
  (nm tx:ByteArray) (ap:Option Addr) (am ac:Nat) (cp:Option Addr) (cm cc:Nat) :
  ∃ g2 c2,v'=.slice (some ⟨g2,0,none⟩) (l.length+1) c2/\(g2≠B /\
   w5.cell? ⟨g2,l.length*4,none⟩=some (.string ⟨#[]⟩)/\w5.cell? ⟨g2,l.length*4+1,none⟩=some (.slice none 0 0)/\w5.cell? ⟨g2,l.length*4+2,none⟩=some (.string ⟨#[]⟩)/\w5.cell? ⟨g2,l.length*4+3,none⟩=some (.slice none 0 0) /\
   w5.frozen? ⟨g2,l.length*4,none⟩=false/\w5.frozen? ⟨g2,l.length*4+1,none⟩=false/\w5.frozen? ⟨g2,l.length*4+2,none⟩=false/\w5.frozen? ⟨g2,l.length*4+3,none⟩=false /\
   w5.cell? ⟨B,0,none⟩=some ov/\w5.frozen? ⟨B,0,none⟩=false /\
   PushEnd w (((((w5.setCell ⟨g2,l.length*4,none⟩ (.string nm)).setCell ⟨g2,l.length*4+1,none⟩ (.slice ap am ac)).setCell ⟨g2,l.length*4+2,none⟩ (.string tx)).setCell ⟨g2,l.length*4+3,none⟩ (.slice cp cm cc)).setCell ⟨B,0,none⟩ (.slice (some ⟨g2,0,none⟩) (l.length+1) c2)) B base ov pa bv x y l nm tx ap am ac cp cm cc (.slice (some ⟨g2,0,none⟩) (l.length+1) c2) /\
   PushEnd w (((((w5.setCell ⟨B,0,none⟩ (.slice (some ⟨g2,0,none⟩) (l.length+1) c2)).setCell ⟨g2,l.length*4,none⟩ (.string nm)).setCell ⟨g2,l.length*4+1,none⟩ (.slice ap am ac)).setCell ⟨g2,l.length*4+2,none⟩ (.string tx)).setCell ⟨g2,l.length*4+3,none⟩ (.slice cp cm cc)) B base ov pa bv x y l nm tx ap am ac cp cm cc (.slice (some ⟨g2,0,none⟩) (l.length+1) c2)):=by
 obtain⟨g2,c2,rfl,hcell⟩:=own_at hown (by omega)
 have hlen:=ndCells_len l
 have hat:∀ j,j < 4->w5.cell? ⟨g2,l.length*4+j,none⟩=[Value.string ⟨#[]⟩,.slice none 0 0,.string ⟨#[]⟩,.slice none 0 0][j]?:=by
  intro j hj
  rw[hcell _ (by omega),List.getElem?_append_right (by omega),hlen,Nat.add_sub_cancel_left]
 have hfrz:∀ j,w5.frozen? ⟨g2,j,none⟩=false:=by
  intro j
  obtain⟨_,⟨e,_⟩ | ⟨g',cap',cur,e,_,hg,_⟩⟩:=hown
  ·cases e
  ·cases e
   exact tag_free hg j
 have hoB:ov.ownBlock≠some B:=own_apart hro h (by decide)
 have hB5:BB w5 B ov pa bv x y:=(hgr.block _ (lt_of_block h) (fun e=>hoB e.symm)).trans h
 have n2:g2≠B:=fun e=>own_apart hown hB5 (by decide) (by rw[e];rfl)
 have hgB:(Value.slice (some ⟨g2,0,none⟩) (l.length+1) c2).ownBlock≠some B:=by
  intro e
  exact n2 (by simpa [Value.ownBlock] using e)
 have hg2b:base<=g2:=(hown.lt g2 rfl).1
 have hbel:Below base w w5:=(Below.refl base w).grown hgr hbw (fun j hj=>(hro.lt j hj).1)
 have hattr:∀ j∈B :: blk ov,∀ cs fz,w.heap[j]?≠some (.cells cs 108 fz):=by
  intro j hj cs fz e
  rcases List.mem_cons.1 hj with rfl | hj
  ·have h2:=h
   unfold BB at h2
   rw[h2] at e
   cases e
  ·exact own_apart hro e (by decide) (by unfold blk at hj;simpa using hj)
 have hout:∀ j,j < w.heap.size->j ∉ B :: blk ov->j≠B/\j≠g2/\w5.heap[j]?=w.heap[j]?:=by
  intro j hj hS
  have j1:j≠B:=fun e=>hS (by rw[e];exact List.mem_cons_self ..)
  have j2:ov.ownBlock≠some j:=fun e=>hS (List.mem_cons_of_mem _ (by unfold blk;rw[e];simp))
  refine⟨j1,?_,hgr.block j hj (fun e=>j2 e.symm)⟩
  rintro rfl
  rcases hfr with e | e
  ·exact j2 e.symm
  ·have:j=w.heap.size:=by simpa [Value.ownBlock] using e
   omega
 have hkeep:∀ (wx:World) (j:Nat) (v:Value),BB wx B ov pa bv x y->BB (wx.setCell ⟨g2,j,none⟩ v) B ov pa bv x y:=by
  intro wx j v hx
  unfold BB
  rw[Below.heap_setCell _ _ _ _ (by simpa using Ne.symm n2)]
  exact hx
 have hset:∀ (wx:World) (v:Value),BB wx B ov pa bv x y->BB (wx.setCell ⟨B,0,none⟩ v) B v pa bv x y:=fun wx v hx=>tok_set hx 0 v
 refine⟨g2,c2,rfl,n2,hat 0 (by decide),hat 1 (by decide),hat 2 (by decide),hat 3 (by decide),hfrz _,hfrz _,hfrz _,hfrz _,tag_cell hB5 0 _ rfl,tag_free hB5 0,?_,?_⟩
 ·refine⟨hset _ _ (hkeep _ _ _ (hkeep _ _ _ (hkeep _ _ _ (hkeep _ _ _ hB5)))),?_,hfr,⟨?_,?_,hattr⟩,?_⟩
  ·rw[<-set_four (ndCells l) (.string ⟨#[]⟩) (.slice none 0 0) (.string ⟨#[]⟩) (.slice none 0 0),hlen]
   exact ownsRow_setCell_other (own_put (own_put (own_put (own_put hown _ _) _ _) _ _) _ _) (a:=⟨B,0,none⟩) hgB _
  ·simpa using hgr.size
  ·intro j hj hS
   obtain⟨j1,j2,j3⟩:=hout j hj hS
   rw[Below.heap_setCell _ _ _ _ (by simpa using j1),Below.heap_setCell _ _ _ _ (by simpa using j2),Below.heap_setCell _ _ _ _ (by simpa using j2),Below.heap_setCell _ _ _ _ (by simpa using j2),Below.heap_setCell _ _ _ _ (by simpa using j2)]
   exact j3
  ·exact ((((hbel.setCell (p:=⟨g2,l.length*4,none⟩) hg2b _).setCell (p:=⟨g2,l.length*4+1,none⟩) hg2b _).setCell (p:=⟨g2,l.length*4+2,none⟩) hg2b _).setCell (p:=⟨g2,l.length*4+3,none⟩) hg2b _).setCell (p:=⟨B,0,none⟩) hbB _
 ·have hk2:∀ (wx:World) (j:Nat) (v o2:Value),BB wx B o2 pa bv x y->BB (wx.setCell ⟨g2,j,none⟩ v) B o2 pa bv x y:=by
   intro wx j v o2 hx
   unfold BB
   rw[Below.heap_setCell _ _ _ _ (by simpa using Ne.symm n2)]
   exact hx
  refine⟨hk2 _ _ _ _ (hk2 _ _ _ _ (hk2 _ _ _ _ (hk2 _ _ _ _ (hset _ _ hB5)))),?_,hfr,⟨?_,?_,hattr⟩,?_⟩
  ·rw[<-set_four (ndCells l) (.string ⟨#[]⟩) (.slice none 0 0) (.string ⟨#[]⟩) (.slice none 0 0),hlen]
   exact own_put (own_put (own_put (own_put (ownsRow_setCell_other hown (a:=⟨B,0,none⟩) hgB _) _ _) _ _) _ _) _ _
  ·simpa using hgr.size
  ·intro j hj hS
   obtain⟨j1,j2,j3⟩:=hout j hj hS
   rw[Below.heap_setCell _ _ _ _ (by simpa using j2),Below.heap_setCell _ _ _ _ (by simpa using j2),Below.heap_setCell _ _ _ _ (by simpa using j2),Below.heap_setCell _ _ _ _ (by simpa using j2),Below.heap_setCell _ _ _ _ (by simpa using j1)]
   exact j3
  ·exact ((((hbel.setCell (p:=⟨B,0,none⟩) hbB _).setCell (p:=⟨g2,l.length*4,none⟩) hg2b _).setCell (p:=⟨g2,l.length*4+1,none⟩) hg2b _).setCell (p:=⟨g2,l.length*4+2,none⟩) hg2b _).setCell (p:=⟨g2,l.length*4+3,none⟩) hg2b _
end Go.Proofs.YtkiofbikkhhdfabGreatDoor.Dm
namespace Go.Proofs.YtkiofbikkhhdfabGreatDoor.Dm
open Go.RowKit
open Utf1
theorem push_st {w w':World}{base B:Nat}{ov pa bv:Value}{o n:Nat}{l:List (Nd × Value × Value)}{fp:List Nat}{ov':Value}(nm:List UInt8) (at':List (List UInt8 × List UInt8)) (ap:Option Addr) (am ac:Nat)(hbB:base<=B)(hbw:base<=w.heap.size)
  (h:BB w B ov pa bv (.int .i64 (o:Int)) (.int .i64 (n:Int)))(hro:w.ownsRow base 80 4 ov l.length (ndCells l))(hK:KAll w base l fp)(hnd:(blk ov++fp).Nodup)(ha:w.ownsRow base 108 2 (.slice ap am ac) at'.length (attrCells at'))
  (hp:PushEnd w w' B base ov pa bv (.int .i64 (o:Int)) (.int .i64 (n:Int)) l ⟨nm.toArray⟩ ⟨#[]⟩ ap am ac none 0 0 ov') :
  St0 w' base B (l.map Prod.fst++[.mk nm at' [] []]) pa bv o n/\Below base w w'/\∀ (b:Nat) (v:Value) (m:Nat) (xs:List Value),w.ownsRow b 5 1 v m xs->w'.ownsRow b 5 1 v m xs:=by
 obtain⟨p1,p2,p3,p4,p5⟩:=hp
 have hnd':=List.nodup_append.1 hnd
 have hfp:∀ j∈fp,j ∉ B :: blk ov:=by
  intro j hj hm
  rcases List.mem_cons.1 hm with rfl | hm
  ·obtain⟨cs,fz,e⟩:=nodes_typed hK j hj
   unfold BB at h
   rw[h] at e
   cases e
  ·exact hnd'.2.2 j hm j hj rfl
 refine⟨⟨hbB,Nat.le_trans hbw p5.size,ov',l++[(.mk nm at' [] [],.slice ap am ac,.slice none 0 0)],fp++[],?_,p1,?_,?_,?_⟩,p5,?_⟩
 ·rw[List.map_append]
  rfl
 ·rw[nd_one,List.length_append]
  exact p2
 ·refine (hK.stays p4 hfp).app ?_
  exact KAll.cons (.mk nm at' [] []) _ _ [] [] [] (attr_stays ha p4) (KAt.empty _ _) .nil
 ·rw[List.append_nil]
  rcases p3 with e | e
  ·unfold blk
   rw[e]
   exact hnd
  ·have:blk ov'=[w.heap.size]:=by unfold blk;rw[e];rfl
   rw[this]
   refine List.nodup_append.2 ⟨by simp,hnd'.2.1,?_⟩
   intro a ha b hb e
   have h1:=(hK.lt b hb).2
   simp only[List.mem_singleton] at ha
   omega
 ·intro b v m xs ho
  refine own_stays ho p4.block ?_
  intro j hj hm
  rcases List.mem_cons.1 hm with rfl | hm
  ·exact own_apart ho h (by decide) hj
  ·exact own_two_ne ho hro (by decide) hj (by unfold blk at hm;simpa using hm)
end Go.Proofs.YtkiofbikkhhdfabGreatDoor.Dm
namespace Go.Proofs.YtkiofbikkhhdfabGreatDoor.Dm
open Go.RowKit
open Utf1
theorem clone_any (s:ByteArray) (w:World)(hlim:s.size<=281474976710656) :
  Calls Tryz.prog 49 #[.string s] w fun e w'=>e=.returned (.string s)/\Below w.heap.size w w':=by
 go_enter Tryz.func49,Tryz.ntmps49
 go_wp2_with (go_at_call 85;refine (Tryz.stringslite_Clone _ _ hlim).mono ?_;rintro e w' ⟨rfl,hb⟩)
 go_ret
 exact⟨rfl,hb⟩
theorem wayR_all (name:List UInt8) (r:List Nd) (t:List UInt8)(hr:r≠[])(hroot:r.getLast?.map Nd.name=some []):1<=(wayR name r t).1.length/\(wayR name r t).1.length<=r.length/\cntL (wayR name r t).1+tx (wayR name r t).2=cntL r+tx t/\(wayR name r t).2.length<=t.length/\(wayR name r t).1.getLast?.map Nd.name=r.getLast?.map Nd.name:=by
 have c:=closeIn_all [[112]] r t hr
 have cr:=closeIn_root [[112]] r t hr
 have hself:1<=r.length:=List.length_pos_iff.2 hr
 unfold wayR
 split
 ·split
  ·split
   ·rename_i hh
    have hne:(closeIn [[112]] r t).1≠[]:=List.length_pos_iff.1 c.1
    have hlt:=innerR_lt [[108,105],[117,108],[111,108]] (closeIn [[112]] r t).1 hne
    by_cases h0:innerR [[108,105],[117,108],[111,108]] (closeIn [[112]] r t).1=0
    ·exfalso
     rw[h0,<-List.head?_eq_getElem?,List.head?_reverse,cr,hroot] at hh
     exact absurd hh (by decide)
    ·have q:=closeR_all ((closeIn [[112]] r t).1.length - innerR [[108,105],[117,108],[111,108]] (closeIn [[112]] r t).1) (closeIn [[112]] r t).1 (closeIn [[112]] r t).2 (by omega)
     have qr:=closeR_root ((closeIn [[112]] r t).1.length - innerR [[108,105],[117,108],[111,108]] (closeIn [[112]] r t).1) (closeIn [[112]] r t).1 (closeIn [[112]] r t).2 (by omega)
     exact⟨by omega,by omega,by omega,by omega,qr.trans cr⟩
   ·exact⟨c.1,c.2.1,c.2.2.1,c.2.2.2,cr⟩
  ·exact⟨c.1,c.2.1,c.2.2.1,c.2.2.2,cr⟩
 ·exact⟨hself,Nat.le_refl _,rfl,Nat.le_refl _,rfl⟩
def startR (name:List UInt8) (at':List (List UInt8 × List UInt8)) (r:List Nd) (t:List UInt8) (o n:Nat):List Nd × List UInt8 × Nat × Nat :=
 if name=[] then (r,t,o,n)
 else match (wayR name r t).1 with
  | []=>(r,t,o,n)
  | nd :: q=>if name∈voids then (addKid (textIn nd (wayR name r t).2) (.mk name at' [] []) :: q,[],o,n+1) else (.mk name at' [] [] :: textIn nd (wayR name r t).2 :: q,[],max o (q.length+1),n+1)
end Go.Proofs.YtkiofbikkhhdfabGreatDoor.Dm
namespace Go.Proofs.YtkiofbikkhhdfabGreatDoor.Dm
open Go.RowKit
open Utf1
def Clones (w:World) (base:Nat) (av:Value) (at':List (List UInt8 × List UInt8)):Prop :=
 ∀ wx,base<=wx.heap.size->Below base w wx->Calls Tryz.prog 110 #[av] wx fun e w'=>∃ ap am ac,e=.returned (.slice ap am ac)/\w'.ownsRow base 108 2 (.slice ap am ac) at'.length (attrCells at')/\Below wx.heap.size wx w'
theorem clones_nil (w:World) (base:Nat):Clones w base (.slice none 0 0) []:=by
 intro wx hb _
 refine (clone_nil wx).mono ?_
 rintro e w' ⟨rfl,rfl⟩
 exact⟨none,0,0,rfl,World.ownsRow_nil _ _ _ _,Below.refl _ _⟩
set_option maxRecDepth 100000 in
set_option maxHeartbeats 8000000 in
theorem start_void (w:World) (base B:Nat) (r:List Nd) (t:List UInt8) (o n:Nat) (name:ByteArray)(h:St w base B r.reverse t o n)(hr:r≠[])(hroot:r.getLast?.map Nd.name=some [])(hM:cntL r+tx t<=100000)(ht:t.length<=100000000)(hn:n<=100000)(hs:name.size<=281474976710656)(hne:bl name≠[])(hv:bl name∈voids) (av:Value) (at':List (List UInt8 × List UInt8))(hcl:Clones w base av at') :
  Calls Tryz.prog 79 #[.pointer (some ⟨B,0,none⟩),.string name,av] w fun e w'=>e=.returned (.tuple #[])/\St w' base B (startR (bl name) at' r t o n).1.reverse (startR (bl name) at' r t o n).2.1 (startR (bl name) at' r t o n).2.2.1 (startR (bl name) at' r t o n).2.2.2/\Below base w w':=by
 have f0:=eqlit name []
 rw[decide_eq_false hne] at f0
 have f1:name.toList.isEmpty=false:=by
  cases hh:name.toList with
  | nil=>rw[hh] at f0;cases f0
  | cons=>rfl
 have hall:=wayR_all (bl name) r t hr hroot
 have HMW:=hide (makeWay_st w base B r t o n name h hr hroot hM ht)
 obtain⟨nd,q,hW⟩:∃ nd q,(wayR (bl name) r t).1=nd :: q:=by
  cases hh:(wayR (bl name) r t).1 with
  | nil=>rw[hh] at hall;simp at hall
  | cons a b=>exact⟨a,b,rfl⟩
 have hST:startR (bl name) at' r t o n=(addKid (textIn nd (wayR (bl name) r t).2) (.mk (bl name) at' [] []) :: q,[],o,n+1):=by
  unfold startR
  rw[if_neg hne,hW]
  simp only[]
  rw[if_pos hv]
 rw[hST]
 obtain⟨t1,ht1⟩:∃ t1,t1=(wayR (bl name) r t).2:=⟨_,rfl⟩
 rw[hW,<-ht1] at hall
 rw[hW,<-ht1,List.reverse_cons] at HMW
 rw[<-ht1,List.reverse_cons]
 have hc:=cnt_text nd t1
 have hk1:=cntN_kids nd
 have hk2:=cntN_kids (textIn nd t1)
 have hl1:=len_cnt nd.kids
 have hl2:=len_cnt (textIn nd t1).kids
 have hlq:=len_cnt q
 have hcq:cntL (nd :: q)=cntN nd+cntL q:=rfl
 have hqr:q.reverse.length=q.length:=List.length_reverse
 have HV:=hide (fun w=>by have:=void_any name w;rw[decide_eq_true hv] at this;exact this)
 have HE:=hide (fun w1 (hw1:St w1 base B (q.reverse++[nd]) t1 o n)=>endText_st w1 base B q.reverse nd t1 o n hw1 (by omega) (by omega) (by omega))
 have HP:=hide (fun wx pa bv ap am ac (hx:St0 wx base B (q.reverse++[textIn nd t1]) pa bv o (n+1))(hat:wx.ownsRow base 108 2 (.slice ap am ac) at'.length (attrCells at'))=>put_st wx base B q.reverse (textIn nd t1) pa bv o (n+1) (.mk (bl name) at' [] []) ap am ac none 0 0 (by
  obtain⟨h1,h2,ov,l,fp,h3,h4,h5,h6,h7⟩:=hx
  exact⟨h1,h2,ov,l,fp,[],h3,h4,h5,h6,h7,hat,KAt.empty _ _,List.nodup_nil,fun _ hk=>by cases hk⟩) (by omega) (by omega))
 clear hST hc hk1 hk2 hl1 hl2 hlq hcq hqr hall hW ht1 h hroot hr hM f0
 go_enter Tryz.func79,Tryz.ntmps79
 go_wp2_with fail
 refine HMW.out.mono ?_
 rintro e w1 ⟨rfl,m1,m2⟩
 have HE1:=hide (HE.out w1 m1)
 have HB1:=hide m2
 clear m1 m2 HMW HE
 go_wp2_with fail
 refine HE1.out.mono ?_
 rintro e w2 ⟨rfl,m1,m2⟩
 have HS2:=hide m1
 have HB2:=hide (HB1.out.trans m2)
 have HB0:Hid (base<=w2.heap.size):=hide (by obtain⟨_,_,h0,_⟩:=HS2.out;exact h0.2.1)
 clear m1 m2 HE1 HB1
 go_wp2_with fail
 refine (clone_any _ _ hs).mono ?_
 rintro e w3 ⟨rfl,m1⟩
 have HS3:=hide (HS2.out.under m1)
 have HB3:=hide (HB2.out.trans (m1.mono HB0.out))
 have HB03:Hid (base<=w3.heap.size):=hide (Nat.le_trans HB0.out m1.size)
 have HCL:=hide (hcl w3 HB03.out HB3.out)
 clear m1 HB2 HS2 HB0 hcl
 go_wp2_with fail
 refine HCL.out.mono ?_
 rintro e w4 ⟨ap,am,ac,rfl,hat,hb4⟩
 have HS4:=hide (HS3.out.under hb4)
 have HB4:=hide (HB3.out.trans (hb4.mono HB03.out))
 have HAT:=hide hat
 clear hat hb4 HS3 HB3 HB03 HCL
 have HA:Hid (Below w4.heap.size w4 (w4.alloc (.cells #[.string name,.slice ap am ac,.string ⟨#[]⟩,.slice none 0 0] 80))):=hide ((Below.refl _ _).alloc (Nat.le_refl _) _)
 obtain⟨pa,bv,h0,hw⟩:=HS4.out.under HA.out
 obtain⟨ov,hB⟩:=h0.bb
 have c4:=tag_cell hB 4 _ rfl
 have f4:=tag_free hB 4
 have hBl:B < w4.heap.size:=by
  obtain⟨pa,bv,h0,hw⟩:=HS4.out
  obtain⟨ov,hB⟩:=h0.bb
  exact lt_of_block hB
 have hB1:B≠w4.heap.size:=Nat.ne_of_lt hBl
 have hB2:w4.heap.size≠B:=Ne.symm hB1
 have H4:Hid (∃ pa bv,St0 ((w4.setCell ⟨B,4,none⟩ (.int .i64 ((n:Int)+1))).alloc (.cells #[.string name,.slice ap am ac,.string ⟨#[]⟩,.slice none 0 0] 80)) base B (q.reverse++[textIn nd t1]) pa bv o (n+1)/\Wait ((w4.setCell ⟨B,4,none⟩ (.int .i64 ((n:Int)+1))).alloc (.cells #[.string name,.slice ap am ac,.string ⟨#[]⟩,.slice none 0 0] 80)) base B pa bv []/\Below base w ((w4.setCell ⟨B,4,none⟩ (.int .i64 ((n:Int)+1))).alloc (.cells #[.string name,.slice ap am ac,.string ⟨#[]⟩,.slice none 0 0] 80))/\World.ownsRow ((w4.setCell ⟨B,4,none⟩ (.int .i64 ((n:Int)+1))).alloc (.cells #[.string name,.slice ap am ac,.string ⟨#[]⟩,.slice none 0 0] 80)) base 108 2 (.slice ap am ac) at'.length (attrCells at')):=hide (by
  obtain⟨pa,bv,h0,hw⟩:=HS4.out
  obtain⟨ov,hB⟩:=h0.bb
  have h4:St (w4.setCell ⟨B,4,none⟩ (.int .i64 ((n+1:Nat):Int))) base B (q.reverse++[textIn nd t1]) [] o (n+1):=⟨pa,_,h0.stays (stays_set hB 4 _) (bb_no_node hB) (fun ov' hb=>(bb_cnt hb _).2),wait_set hB hw 4 _⟩
  have hal:Below (w4.setCell ⟨B,4,none⟩ (.int .i64 ((n+1:Nat):Int))).heap.size (w4.setCell ⟨B,4,none⟩ (.int .i64 ((n+1:Nat):Int))) ((w4.setCell ⟨B,4,none⟩ (.int .i64 ((n+1:Nat):Int))).alloc (.cells #[.string name,.slice ap am ac,.string ⟨#[]⟩,.slice none 0 0] 80)):=(Below.refl _ _).alloc (Nat.le_refl _) _
  obtain⟨pa2,bv2,h5,hw5⟩:=h4.under hal
  have hb4:Below base w (w4.setCell ⟨B,4,none⟩ (.int .i64 ((n+1:Nat):Int))):=HB4.out.setCell (p:=⟨B,4,none⟩) h0.1 _
  refine⟨pa2,bv2,h5,hw5,hb4.trans (hal.mono ?_),own_below (attr_stays HAT.out (stays_set hB 4 _)) hal⟩
  obtain⟨_,_,h6,_⟩:=h4
  exact h6.2.1)
 clear h0 hw hB HS4 HB4 HA HAT
 go_wp2_with fail
 refine (HV.out _).mono ?_
 rintro e w5 ⟨rfl,rfl⟩
 go_wp2_with fail
 obtain⟨pa5,bv5,h5,hw5,hb5,hat5⟩:=H4.out
 have HP5:=hide (HP.out _ _ _ _ _ _ h5 hat5)
 have HW5:=hide (And.intro hw5 hb5)
 clear h5 hw5 hb5 hat5 H4 HP
 refine HP5.out.mono ?_
 rintro e w6 ⟨rfl,p1,p2,p3⟩
 have HE:Hid (St w6 base B (q.reverse++[addKid (textIn nd t1) (.mk (bl name) at' [] [])]) [] o (n+1)/\Below base w w6):=hide ⟨⟨_,_,p1,HW5.out.1.1,p3 _ _ _ _ HW5.out.1.2⟩,HW5.out.2.trans p2⟩
 clear p1 p2 p3 HW5 HP5
 go_wp2_with fail
 refine bodyPost_ret (results_none rfl _ _ _) rfl ?_
 exact⟨rfl,HE.out⟩
end Go.Proofs.YtkiofbikkhhdfabGreatDoor.Dm
