import Derived.Test.YtkiofbikkhhdfabGreatDoorK09
import Derived.ScopeJumps
import Derived.Maps.Own
import Derived.Maps.OwnOps
import Derived.Maps.Views
import Derived.Deep.RegionWith
import Derived.Test.YtkiofbikkhhdfabGreatDoorK01
import Derived.Deep.RegionHeld
import Derived.Test.YtkiofbikkhhdfabGreatDoorK10
import Derived.Lib.FrozenHead
import Derived.Lib.OthersKept
set_option maxRecDepth 100000
set_option maxHeartbeats 16000000
namespace Go.Proofs.YtkiofbikkhhdfabGreatDoor.To
open Go.RowKit
open Utf1
def jumps (J:Nat->Act->World->Prop) (Q:Exit->Act->World->Prop):Exit->Act->World->Prop
 | .goto l,a,w=>J l a w
 | e,a,w=>Q e a w
theorem jumps_mono {J J':Nat->Act->World->Prop}{Q:Exit->Act->World->Prop}(h:∀ l a w,J l a w->J' l a w):∀ e a w,jumps J Q e a w->jumps J' Q e a w:=by
 intro e a w hq
 cases e with
 | goto l=>exact h l a w hq
 | normal=>exact hq
 | exit id=>exact hq
 | ret=>exact hq
 | panic ch=>exact hq
 | outgrown=>exact hq
theorem wp_scope_all {P:Program}{a:Act}{w:World}{Q:Exit->Act->World->Prop}{c:Code}(J:Nat->Nat->Act->World->Prop)
  (pass:∀ n l a w,J n l a w->∃ rest,findLabel c l=some rest/\rest.wp P (jumps (fun l' a' w'=>∃ n',n' < n/\J n' l' a' w') Q) a w)
  (first:c.wp P (jumps (fun l a' w'=>∃ n,J n l a' w') Q) a w):(Code.scope c).wp P Q a w:=by
 intro b k cs
 have hg:∀ l rest,findLabel c l=some rest->gotoIn l (.inScope c :: k)=some (.code rest :: .inScope c :: k):=by
  intro l rest hf
  simp[gotoIn,hf]
 have key:∀ n l a w rest,J n l a w->findLabel c l=some rest->rest.wp P (jumps (fun l' a' w'=>∃ n',n' < n/\J n' l' a' w') Q) a w->∃ e a' w',Q e a' w'/\Arrives P (lone (b.at a (.code rest :: .inScope c :: k)) cs w) b k cs e a' w':=by
  intro n
  induction n using Nat.strongRecOn with
  | _ n ih =>
   intro l a w rest hJ hf hr
   obtain⟨e,a₁,w₁,hq,harr⟩:=hr b (.inScope c :: k) cs
   cases e with
   | normal=>exact⟨.normal,a₁,w₁,hq,Steps.trans harr (.one step_inScope)⟩
   | exit id=>exact⟨.exit id,a₁,w₁,hq,fun k' hk=>harr k' (by simp[exitTo,hk])⟩
   | goto l' =>
    obtain⟨n',hlt,hJ'⟩:=hq
    obtain⟨rest',hf',hr'⟩:=pass n' l' a₁ w₁ hJ'
    obtain⟨e₂,a₂,w₂,hq₂,harr₂⟩:=ih n' hlt l' a₁ w₁ rest' hJ' hf' hr'
    exact⟨e₂,a₂,w₂,hq₂,.of_steps (harr _ (hg l' rest' hf')) harr₂⟩
   | ret=>exact⟨_,a₁,w₁,hq,harr⟩
   | panic ch=>exact⟨_,a₁,w₁,hq,harr⟩
   | outgrown=>exact⟨_,a₁,w₁,hq,harr⟩
 obtain⟨e,a₁,w₁,hq,harr⟩:=first b (.inScope c :: k) cs
 cases e with
 | normal=>exact⟨.normal,a₁,w₁,hq,.head step_scope (Steps.trans harr (.one step_inScope))⟩
 | exit id=>exact⟨.exit id,a₁,w₁,hq,fun k' hk=>.head step_scope (harr k' (by simp[exitTo,hk]))⟩
 | goto l' =>
  obtain⟨n',hJ'⟩:=hq
  obtain⟨rest',hf',hr'⟩:=pass n' l' a₁ w₁ hJ'
  obtain⟨e₂,a₂,w₂,hq₂,harr₂⟩:=key n' l' a₁ w₁ rest' hJ' hf' hr'
  exact⟨e₂,a₂,w₂,hq₂,.of_steps (.head step_scope (harr _ (hg l' rest' hf'))) harr₂⟩
 | ret=>exact⟨_,a₁,w₁,hq,.of_steps (.one step_scope) harr⟩
 | panic ch=>exact⟨_,a₁,w₁,hq,.of_steps (.one step_scope) harr⟩
 | outgrown=>exact⟨_,a₁,w₁,hq,.of_steps (.one step_scope) harr⟩
def inScopes:Code->Option Code
 | .scope c=>some c
 | .seq a b=>(inScopes a).or (inScopes b)
 | _=>none
noncomputable def tagCode:Code:=((Tryz.f50.body).bind inScopes).getD .skip
def attrCells:List (List UInt8 × List UInt8)->List Value
 | []=>[]
 | p :: r=>.string ⟨p.1.toArray⟩ :: .string ⟨p.2.toArray⟩ :: attrCells r
theorem attrCells_app:∀ a b,attrCells (a++b)=attrCells a++attrCells b
 | [],_=>rfl
 | p :: r,b=>by
  simp only[attrCells,List.cons_append,attrCells_app r b]
def atts (start:Bool) (acc:List (List UInt8 × List UInt8)):List (List UInt8 × List UInt8):=if start then acc else []
def mkTk (start:Bool) (nm:ByteArray) (x:List (List UInt8 × List UInt8) × Bool × List UInt8):Tk × List UInt8:=(if start then ⟨2,bl nm,x.1,x.2.1,[]⟩ else ⟨3,bl nm,[],false,[]⟩,x.2.2)
def Met (D:DataW Unit) (ns:List (List UInt8)) (k:Nat):Prop:=∀ n:List UInt8,∃ c:Int,D.atKey (.string n) (.lit (.int .i64 0))=.lit (.int .i64 c)/\0<=c/\c<=(k:Int)/\(c=0 ↔ n ∉ ns)
def TagSt (w0 wr:World) (start:Bool) (nm:ByteArray) (acc:List (List UInt8 × List UInt8)) (k:Nat) (av:Value):Prop :=
 wr.heap[w0.heap.size]?=some (.cells #[.int .i64 0,.string ⟨#[]⟩,.slice none 0 0,.bool false,.string ⟨#[]⟩] 45 (0,0)) /\
 wr.heap[w0.heap.size+1]?=some (.cells #[.int .i64 (if start then 2 else 3),.string nm,av,.bool false,.string ⟨#[]⟩] 45 (0,0)) /\
 wr.ownsRow w0.heap.size 108 2 av (atts start acc).length (attrCells (atts start acc)) /\
 (∃ D:DataW Unit,wr.ownsMap Tryz.prog 9 (plainElem Tryz.prog 3) (w0.heap.size+2) k D/\Maps.IsMap D/\Met D (acc.map Prod.fst) k) /\
 acc.length<=k/\Below w0.heap.size w0 wr
theorem TagSt.below {w0 wr w1:World}{start:Bool}{nm:ByteArray}{acc:List (List UInt8 × List UInt8)}{k:Nat}{av:Value}(h:TagSt w0 wr start nm acc k av)(hb:Below wr.heap.size wr w1):TagSt w0 w1 start nm acc k av:=by
 obtain⟨h1,h2,h3,⟨D,h4,h5⟩,h6,h7⟩:=h
 refine⟨(hb.block _ (lt_of_block h1)).trans h1,(hb.block _ (lt_of_block h2)).trans h2,h3.kept (below_grown hb) ?_,⟨D,h4.kept (below_grown hb) (by simp),h5⟩,h6,h7.trans (hb.mono h7.size)⟩
 cases v:av.ownBlock with
 | none=>exact .inl rfl
 | some g=>exact .inr (by simp)
theorem tag_free {w:World}{b:Nat}{cs:Array Value}{t:TypeId}(h:w.heap[b]?=some (.cells cs t (0,0))) (i:Nat):w.frozen? ⟨b,i,none⟩=false:=by
 simp[World.frozen?,h]
def TagPost (tg:Option (Tk × List UInt8)) (w:World) (e:Ending) (w':World):Prop :=
 match tg with
 | none=>e=.returned (.tuple #[.agg #[.int .i64 0,.string ⟨#[]⟩,.slice none 0 0,.bool false,.string ⟨#[]⟩],.string ⟨#[]⟩,.bool false])/\Below w.heap.size w w'
 | some (t,r)=>∃ av,e=.returned (.tuple #[.agg #[.int .i64 (t.kind:Int),.string ⟨t.name.toArray⟩,av,.bool t.closed,.string ⟨t.text.toArray⟩],.string ⟨r.toArray⟩,.bool true])/\w'.ownsRow w.heap.size 108 2 av t.attrs.length (attrCells t.attrs)/\Below w.heap.size w w'
theorem results_cell3 {fn:Func}{p u v:Tmp}{ty:TypeId}(h:fn.results=#[.cell p ty,.tmp u,.tmp v]) (tmps:Array Value) (P:Program) (w:World) :
  (results fn tmps).run P w =
   ((asAddr (tmps.getD p undef)).run P w).andThen fun a w₁=>((loadVar ty a).run P w₁).andThen fun x w₂=>.ok (.tuple #[x,tmps.getD u undef,tmps.getD v undef]) w₂:=by
 simp only[results,h]
 simp[Sem.run_bind,Result.andThen]
theorem load_tok (w:World) (b:Nat) (v0 v1 v2 v3 v4:Value)(h:w.heap[b]?=some (.cells #[v0,v1,v2,v3,v4] 45 (0,0))):(loadVar 45 ⟨b,0,none⟩).run Tryz.prog w=.ok (.agg #[v0,v1,v2,v3,v4]) w:=by
 have c0:w.cell? ⟨b,0,none⟩=some v0:=tag_cell h 0 _ rfl
 have c1:w.cell? ⟨b,1,none⟩=some v1:=tag_cell h 1 _ rfl
 have c2:w.cell? ⟨b,2,none⟩=some v2:=tag_cell h 2 _ rfl
 have c3:w.cell? ⟨b,3,none⟩=some v3:=tag_cell h 3 _ rfl
 have c4:w.cell? ⟨b,4,none⟩=some v4:=tag_cell h 4 _ rfl
 clear h
 go_simp
theorem ret_tag {R:Ending->World->Prop}{a:Act}{w:World}(b:Nat) (v0 v1 v2 v3 v4 x y:Value)(hd:a.defers=[])(h2:a.tmps.getD 2 undef=.pointer (some ⟨b,0,none⟩))(h3:a.tmps.getD 3 undef=x)(h4:a.tmps.getD 4 undef=y)
  (h:w.heap[b]?=some (.cells #[v0,v1,v2,v3,v4] 45 (0,0)))(hR:R (.returned (.tuple #[.agg #[v0,v1,v2,v3,v4],x,y])) w):bodyPost Tryz.prog Tryz.f50 R .ret a w:=by
 refine bodyPost_ret (v:=.tuple #[.agg #[v0,v1,v2,v3,v4],x,y]) ?_ hd hR
 rw[results_cell3 (p:=2) (u:=3) (v:=4) (ty:=45) rfl,h2,h3,h4]
 have e:(asAddr (.pointer (some ⟨b,0,none⟩))).run Tryz.prog w=.ok ⟨b,0,none⟩ w:=by rfl
 rw[e]
 simp only[Result.andThen]
 rw[load_tok w b v0 v1 v2 v3 v4 h]
theorem ret_tagd {R:Ending->World->Prop}{a:Act}{w:World}(b:Nat) (v0 v1 v2 v3 v4 x y:Value)(hd:a.defers=[])(h2:a.tmps.getD 2 undef=.pointer (some ⟨b,0,none⟩))(h3:a.tmps.getD 3 undef=x)(h4:a.tmps.getD 4 undef=y)
  (h:w.heap[b]?=some (.cells #[v0,v1,v2,v3,v4] 45 (0,0)))(hR:R (.returned (.tuple #[.agg #[v0,v1,v2,v3,v4],x,y])) w.drew):bodyPost Tryz.prog Tryz.f50 R .ret a w.drew :=
 ret_tag b v0 v1 v2 v3 v4 x y hd h2 h3 h4 h hR
theorem tok_set {w:World}{b:Nat}{cs:Array Value}{t:TypeId}(h:w.heap[b]?=some (.cells cs t (0,0))) (j:Nat) (v:Value):(w.setCell ⟨b,j,none⟩ v).heap[b]?=some (.cells (cs.setIfInBounds j v) t (0,0)):=by
 simp[World.setCell,Array.getElem?_modify,h]
theorem tok_five {w:World}{b:Nat}{o0 o1 o2 o3 o4:Value}{t:TypeId}(h:w.heap[b]?=some (.cells #[o0,o1,o2,o3,o4] t (0,0))) (v0 v1 v2 v3 v4:Value) :
  (((((w.setCell ⟨b,0,none⟩ v0).setCell ⟨b,1,none⟩ v1).setCell ⟨b,2,none⟩ v2).setCell ⟨b,3,none⟩ v3).setCell ⟨b,4,none⟩ v4).heap[b]?=some (.cells #[v0,v1,v2,v3,v4] t (0,0)) :=
 tok_set (tok_set (tok_set (tok_set (tok_set h 0 v0) 1 v1) 2 v2) 3 v3) 4 v4
theorem below_five {B:Nat}{w0 w:World}{b:Nat}(h:Below B w0 w)(hb:B<=b) (v0 v1 v2 v3 v4:Value) :
  Below B w0 (((((w.setCell ⟨b,0,none⟩ v0).setCell ⟨b,1,none⟩ v1).setCell ⟨b,2,none⟩ v2).setCell ⟨b,3,none⟩ v3).setCell ⟨b,4,none⟩ v4) :=
 (((((h.setCell (p:=⟨b,0,none⟩) hb v0).setCell (p:=⟨b,1,none⟩) hb v1).setCell (p:=⟨b,2,none⟩) hb v2).setCell (p:=⟨b,3,none⟩) hb v3).setCell (p:=⟨b,4,none⟩) hb v4)
theorem own_slice {w:World}{base:Nat}{e:TypeId}{size:Nat}{v:Value}{n:Nat}{xs:List Value}(h:w.ownsRow base e size v n xs):∃ p m c,v=.slice p m c:=by
 obtain⟨_,⟨rfl,_⟩ | ⟨g,cap,cur,rfl,_⟩⟩:=h
 ·exact⟨_,_,_,rfl⟩
 ·exact⟨_,_,_,rfl⟩
theorem own_apart {w:World}{base:Nat}{e t:TypeId}{size:Nat}{v:Value}{n b:Nat}{xs:List Value}{cs:Array Value}{fz:Nat × Nat}(h:w.ownsRow base e size v n xs)(hb:w.heap[b]?=some (.cells cs t fz))(hne:e≠t):v.ownBlock≠some b:=by
 obtain⟨_,⟨rfl,_⟩ | ⟨g,cap,cur,rfl,_,hg,_⟩⟩:=h
 ·simp[Value.ownBlock]
 ·intro e1
  have:g=b:=by simpa [Value.ownBlock] using e1
  subst this
  rw[hg] at hb
  simp at hb
  exact hne hb.2.1
theorem own_set {w:World}{base:Nat}{e t:TypeId}{size:Nat}{v:Value}{n b:Nat}{xs:List Value}{cs:Array Value}{fz:Nat × Nat}(h:w.ownsRow base e size v n xs)(hb:w.heap[b]?=some (.cells cs t fz))(hne:e≠t) (j:Nat) (u:Value):(w.setCell ⟨b,j,none⟩ u).ownsRow base e size v n xs :=
 ownsRow_setCell_other h (own_apart h hb hne) u
theorem own_five {w:World}{base:Nat}{e t:TypeId}{size:Nat}{v:Value}{n b:Nat}{xs:List Value}{o0 o1 o2 o3 o4:Value}(h:w.ownsRow base e size v n xs)(hb:w.heap[b]?=some (.cells #[o0,o1,o2,o3,o4] t (0,0)))(hne:e≠t) (v0 v1 v2 v3 v4:Value) :
  (((((w.setCell ⟨b,0,none⟩ v0).setCell ⟨b,1,none⟩ v1).setCell ⟨b,2,none⟩ v2).setCell ⟨b,3,none⟩ v3).setCell ⟨b,4,none⟩ v4).ownsRow base e size v n xs :=
 own_set (own_set (own_set (own_set (own_set h hb hne 0 v0) (tok_set hb 0 v0) hne 1 v1) (tok_set (tok_set hb 0 v0) 1 v1) hne 2 v2) (tok_set (tok_set (tok_set hb 0 v0) 1 v1) 2 v2) hne 3 v3) (tok_set (tok_set (tok_set (tok_set hb 0 v0) 1 v1) 2 v2) 3 v3) hne 4 v4
def JBet (w0:World) (start:Bool) (nm:ByteArray) (tg:Option (Tk × List UInt8)) (N n:Nat) (a:Act) (wr:World):Prop :=
 ∃ (s:ByteArray) (acc:List (List UInt8 × List UInt8)) (k:Nat) (av:Value) (u1 u5 u6 u7 u8 u11 u12 u13 u14 u15 u16 u17 u18 u19 u20 u21 u22 u23 u24 u25 u26 u27 u28 u29 u30 u31 u32 u33 u34 u35 u36 u37 u38 u39 u40 u41 u42 u43 u44 u45 u46 u47 u48 u49 u50 u51 u52 u53 u54 u55 u56 u57 u58 u59 u60 u61 u62 u63 u64 u65 u66 u67 u68 u69 u70 u71 u72 u73 u74 u75 u76 u77 u78 u79 u80 u81 u82 u83 u84 u85 u86 u87 u88 u89 u90 u91 u92 u93 u94 u95 u96 u97 u98 u99 u100 u101 u102 u103 u104 u105 u106 u107 u108 u109 u110 u111 u112 u113 u114 u115 u116 u117 u118 u119 u120 u121 u122 u123 u124 u125:Value),(n=4*s.size+3/\s.size+k<=N/\TagSt w0 wr start nm acc k av/\Hid (tg=(attrsOf acc (bl s)).map (mkTk start nm)))/\a={ tmps:=#[.string s,u1,.pointer (some ⟨w0.heap.size,0,none⟩),.string ⟨#[]⟩,.bool false,u5,u6,u7,u8,.pointer (some ⟨w0.heap.size+1,0,none⟩),.map (some (w0.heap.size+2)),u11,u12,u13,u14,u15,u16,u17,u18,u19,u20,u21,u22,u23,u24,u25,u26,u27,u28,u29,u30,u31,u32,u33,u34,u35,u36,u37,u38,u39,u40,u41,u42,u43,u44,u45,u46,u47,u48,u49,u50,u51,u52,u53,u54,u55,u56,u57,u58,u59,u60,u61,u62,u63,u64,u65,u66,u67,u68,u69,u70,u71,u72,u73,u74,u75,u76,u77,u78,u79,u80,u81,u82,u83,u84,u85,u86,u87,u88,u89,u90,u91,u92,u93,u94,u95,u96,u97,u98,u99,u100,u101,u102,u103,u104,u105,u106,u107,u108,u109,u110,u111,u112,u113,u114,u115,u116,u117,u118,u119,u120,u121,u122,u123,u124,u125],defers:=[] }
def JNon (w0:World) (tg:Option (Tk × List UInt8)) (n:Nat) (a:Act) (wr:World):Prop :=
 ∃ (u0 u1 u5 u6 u7 u8 u11 u12 u13 u14 u15 u16 u17 u18 u19 u20 u21 u22 u23 u24 u25 u26 u27 u28 u29 u30 u31 u32 u33 u34 u35 u36 u37 u38 u39 u40 u41 u42 u43 u44 u45 u46 u47 u48 u49 u50 u51 u52 u53 u54 u55 u56 u57 u58 u59 u60 u61 u62 u63 u64 u65 u66 u67 u68 u69 u70 u71 u72 u73 u74 u75 u76 u77 u78 u79 u80 u81 u82 u83 u84 u85 u86 u87 u88 u89 u90 u91 u92 u93 u94 u95 u96 u97 u98 u99 u100 u101 u102 u103 u104 u105 u106 u107 u108 u109 u110 u111 u112 u113 u114 u115 u116 u117 u118 u119 u120 u121 u122 u123 u124 u125:Value),(n=0/\wr.heap[w0.heap.size]?=some (.cells #[.int .i64 0,.string ⟨#[]⟩,.slice none 0 0,.bool false,.string ⟨#[]⟩] 45 (0,0))/\Below w0.heap.size w0 wr/\Hid (tg=none))/\a={ tmps:=#[u0,u1,.pointer (some ⟨w0.heap.size,0,none⟩),.string ⟨#[]⟩,.bool false,u5,u6,u7,u8,.pointer (some ⟨w0.heap.size+1,0,none⟩),.map (some (w0.heap.size+2)),u11,u12,u13,u14,u15,u16,u17,u18,u19,u20,u21,u22,u23,u24,u25,u26,u27,u28,u29,u30,u31,u32,u33,u34,u35,u36,u37,u38,u39,u40,u41,u42,u43,u44,u45,u46,u47,u48,u49,u50,u51,u52,u53,u54,u55,u56,u57,u58,u59,u60,u61,u62,u63,u64,u65,u66,u67,u68,u69,u70,u71,u72,u73,u74,u75,u76,u77,u78,u79,u80,u81,u82,u83,u84,u85,u86,u87,u88,u89,u90,u91,u92,u93,u94,u95,u96,u97,u98,u99,u100,u101,u102,u103,u104,u105,u106,u107,u108,u109,u110,u111,u112,u113,u114,u115,u116,u117,u118,u119,u120,u121,u122,u123,u124,u125],defers:=[] }
def JEnd (w0:World) (start:Bool) (nm:ByteArray) (tg:Option (Tk × List UInt8)) (N n:Nat) (a:Act) (wr:World):Prop :=
 ∃ (s gap:ByteArray) (acc:List (List UInt8 × List UInt8)) (k:Nat) (av:Value) (u1 u6 u7 u8 u11 u12 u13 u14 u15 u16 u17 u18 u19 u20 u21 u22 u23 u24 u25 u26 u27 u28 u29 u30 u31 u32 u33 u34 u35 u36 u37 u38 u39 u40 u41 u42 u43 u44 u45 u46 u47 u48 u49 u50 u51 u52 u53 u54 u55 u56 u57 u58 u59 u60 u61 u62 u63 u64 u65 u66 u67 u68 u69 u70 u71 u72 u73 u74 u75 u76 u77 u78 u79 u80 u81 u82 u83 u84 u85 u86 u87 u88 u89 u90 u91 u92 u93 u94 u95 u96 u97 u98 u99 u100 u101 u102 u103 u104 u105 u106 u107 u108 u109 u110 u111 u112 u113 u114 u115 u116 u117 u118 u119 u120 u121 u122 u123 u124 u125:Value),(n=1/\gap.size<=N/\1<=s.size/\s.size<=N/\TagSt w0 wr start nm acc k av/\Hid (tg=some (mkTk start nm (acc,[47].isSuffixOf (bl gap),(bl s).drop 1))))/\a={ tmps:=#[.string s,u1,.pointer (some ⟨w0.heap.size,0,none⟩),.string ⟨#[]⟩,.bool false,.string gap,u6,u7,u8,.pointer (some ⟨w0.heap.size+1,0,none⟩),.map (some (w0.heap.size+2)),u11,u12,u13,u14,u15,u16,u17,u18,u19,u20,u21,u22,u23,u24,u25,u26,u27,u28,u29,u30,u31,u32,u33,u34,u35,u36,u37,u38,u39,u40,u41,u42,u43,u44,u45,u46,u47,u48,u49,u50,u51,u52,u53,u54,u55,u56,u57,u58,u59,u60,u61,u62,u63,u64,u65,u66,u67,u68,u69,u70,u71,u72,u73,u74,u75,u76,u77,u78,u79,u80,u81,u82,u83,u84,u85,u86,u87,u88,u89,u90,u91,u92,u93,u94,u95,u96,u97,u98,u99,u100,u101,u102,u103,u104,u105,u106,u107,u108,u109,u110,u111,u112,u113,u114,u115,u116,u117,u118,u119,u120,u121,u122,u123,u124,u125],defers:=[] }
def JKeep (w0:World) (start:Bool) (nm:ByteArray) (tg:Option (Tk × List UInt8)) (N n:Nat) (a:Act) (wr:World):Prop :=
 ∃ (s name value:ByteArray) (acc:List (List UInt8 × List UInt8)) (k:Nat) (av:Value) (u1 u5 u8 u11 u12 u13 u14 u15 u16 u17 u18 u19 u20 u21 u22 u23 u24 u25 u26 u27 u28 u29 u30 u31 u32 u33 u34 u35 u36 u37 u38 u39 u40 u41 u42 u43 u44 u45 u46 u47 u48 u49 u50 u51 u52 u53 u54 u55 u56 u57 u58 u59 u60 u61 u62 u63 u64 u65 u66 u67 u68 u69 u70 u71 u72 u73 u74 u75 u76 u77 u78 u79 u80 u81 u82 u83 u84 u85 u86 u87 u88 u89 u90 u91 u92 u93 u94 u95 u96 u97 u98 u99 u100 u101 u102 u103 u104 u105 u106 u107 u108 u109 u110 u111 u112 u113 u114 u115 u116 u117 u118 u119 u120 u121 u122 u123 u124 u125:Value),(n=4*s.size+4/\s.size+k+1<=N/\name.size<=N/\value.size<=N/\TagSt w0 wr start nm acc k av/\Hid (tg=(attrsOf (addAt acc (lower (bl name)) (res (bl value))) (bl s)).map (mkTk start nm)))/\a={ tmps:=#[.string s,u1,.pointer (some ⟨w0.heap.size,0,none⟩),.string ⟨#[]⟩,.bool false,u5,.string name,.string value,u8,.pointer (some ⟨w0.heap.size+1,0,none⟩),.map (some (w0.heap.size+2)),u11,u12,u13,u14,u15,u16,u17,u18,u19,u20,u21,u22,u23,u24,u25,u26,u27,u28,u29,u30,u31,u32,u33,u34,u35,u36,u37,u38,u39,u40,u41,u42,u43,u44,u45,u46,u47,u48,u49,u50,u51,u52,u53,u54,u55,u56,u57,u58,u59,u60,u61,u62,u63,u64,u65,u66,u67,u68,u69,u70,u71,u72,u73,u74,u75,u76,u77,u78,u79,u80,u81,u82,u83,u84,u85,u86,u87,u88,u89,u90,u91,u92,u93,u94,u95,u96,u97,u98,u99,u100,u101,u102,u103,u104,u105,u106,u107,u108,u109,u110,u111,u112,u113,u114,u115,u116,u117,u118,u119,u120,u121,u122,u123,u124,u125],defers:=[] }
def JQuo (w0:World) (start:Bool) (nm:ByteArray) (tg:Option (Tk × List UInt8)) (N n:Nat) (a:Act) (wr:World):Prop :=
 ∃ (s name:ByteArray) (q:UInt8) (v:List UInt8) (acc:List (List UInt8 × List UInt8)) (k:Nat) (av:Value) (u1 u5 u7 u8 u11 u12 u13 u14 u15 u16 u17 u18 u19 u20 u21 u22 u23 u24 u25 u26 u27 u28 u29 u30 u31 u32 u33 u34 u35 u36 u37 u38 u39 u40 u41 u42 u43 u44 u45 u46 u47 u48 u49 u50 u51 u52 u53 u54 u55 u56 u57 u58 u59 u60 u61 u62 u63 u64 u65 u66 u67 u68 u69 u70 u71 u72 u73 u74 u75 u76 u77 u78 u79 u80 u81 u82 u83 u84 u85 u86 u87 u88 u89 u90 u91 u92 u93 u94 u95 u96 u97 u98 u99 u100 u101 u102 u103 u104 u105 u106 u107 u108 u109 u110 u111 u112 u113 u114 u115 u116 u117 u118 u119 u120 u121 u122 u123 u124 u125:Value),(n=4*s.size+5/\s.size+k+1<=N/\name.size<=N/\TagSt w0 wr start nm acc k av/\Hid (bl s=q :: v)/\Hid (tg=(match v.dropWhile (fun x=>x != q) with | []=>none | _ :: r=>attrsOf (addAt acc (lower (bl name)) (res (v.takeWhile (fun x=>x != q)))) r).map (mkTk start nm)))/\a={ tmps:=#[.string s,u1,.pointer (some ⟨w0.heap.size,0,none⟩),.string ⟨#[]⟩,.bool false,u5,.string name,u7,u8,.pointer (some ⟨w0.heap.size+1,0,none⟩),.map (some (w0.heap.size+2)),u11,u12,u13,u14,u15,u16,u17,u18,u19,u20,u21,u22,u23,u24,u25,u26,u27,u28,u29,u30,u31,u32,u33,u34,u35,u36,u37,u38,u39,u40,u41,u42,u43,u44,u45,u46,u47,u48,u49,u50,u51,u52,u53,u54,u55,u56,u57,u58,u59,u60,u61,u62,u63,u64,u65,u66,u67,u68,u69,u70,u71,u72,u73,u74,u75,u76,u77,u78,u79,u80,u81,u82,u83,u84,u85,u86,u87,u88,u89,u90,u91,u92,u93,u94,u95,u96,u97,u98,u99,u100,u101,u102,u103,u104,u105,u106,u107,u108,u109,u110,u111,u112,u113,u114,u115,u116,u117,u118,u119,u120,u121,u122,u123,u124,u125],defers:=[] }
def tagJ (w0:World) (start:Bool) (nm:ByteArray) (tg:Option (Tk × List UInt8)) (N n l:Nat) (a:Act) (w:World):Prop :=
 match l with
 | 0=>JBet w0 start nm tg N n a w
 | 1=>JNon w0 tg n a w
 | 2=>JEnd w0 start nm tg N n a w
 | 3=>JKeep w0 start nm tg N n a w
 | 4=>JQuo w0 start nm tg N n a w
 | _=>False
end Go.Proofs.YtkiofbikkhhdfabGreatDoor.To
namespace Go.Proofs.YtkiofbikkhhdfabGreatDoor.To
open Go.RowKit
open Utf1
theorem wpAny_to {P:Program}{md:Region.Mode}{ops:Array Oper}{Q:Exit->Act->World->Prop}{i:Nat}{oi:Oper}{v:Value}{fuel:Nat}{listed:Array Bool}{a a':Act}{w:World}(hi:ops[i]?=some oi)
  (hs:Region.noSelect ops=true)(hf:Region.free md ops listed i=true)(hr:(Region.ready md ops listed).contains i=true)
  (hQ:∀ c a w,Q (.panic c) (a.put oi.dst v) w->Q (.panic c) a w)(hy:Yields P ops oi v a)(ha:a.put oi.dst v=a')
  (h:wpAny P md ops Q fuel (listed.setIfInBounds i true) a' w):wpAny P md ops Q (fuel+1) listed a w :=
 wpAny_take hi hs hf hr hQ hy (ha ▸ h)
theorem wpT {P:Program}{md:Region.Mode}{ops:Array Oper}{Q:Exit->Act->World->Prop}(i:Nat) {oi:Oper}(v:Value) {fuel:Nat}{listed:Array Bool}{a a':Act}{w:World}(hi:ops[i]?=some oi)
  (h:wpAny P md ops Q fuel (listed.setIfInBounds i true) a' w)(hwd:Region.wanted oi (yielded ops a.tmps)=true:=by rfl)(hs:Region.noSelect ops=true:=by kernel_rfl)(hf:Region.free md ops listed i=true:=by kernel_rfl)(hr:(Region.ready md ops listed).contains i=true:=by kernel_rfl)
  (hy:∀ w,(execOp a.eval oi).run P w=.ok (.value v) w:=by (intro w;go_simp))(ha:a.put oi.dst v=a':=by (go_simp;try exact rfl))(hQ:∀ c a w,Q (.panic c) (a.put oi.dst v) w->Q (.panic c) a w:=by exact fun _ _ _ h=>h):wpAny P md ops Q (fuel+1) listed a w:=wpAny_to hi hs hf hr hQ (Or.inl ⟨hwd,hy⟩) ha h
theorem wpTo {P:Program}{md:Region.Mode}{ops:Array Oper}{Q:Exit->Act->World->Prop}(i:Nat) {oi:Oper}(v:Value) {fuel:Nat}{listed:Array Bool}{a a':Act}{w:World}(hi:ops[i]?=some oi)
  (h:wpAny P md ops Q fuel (listed.setIfInBounds i true) a' w)(hwd:Region.wanted oi (yielded ops a.tmps)=true:=by rfl)(hs:Region.noSelect ops=true:=by kernel_rfl)(hf:Region.free md ops listed i=true:=by kernel_rfl)(hr:(Region.ready md ops listed).contains i=true:=by kernel_rfl)
  (hy:∀ w,(execOp a.eval oi).run P w=.ok (.value v) w:=by (intro w;go_simp;try omega))(ha:a.put oi.dst v=a':=by (go_simp;try exact rfl))(hQ:∀ c a w,Q (.panic c) (a.put oi.dst v) w->Q (.panic c) a w:=by exact fun _ _ _ h=>h):wpAny P md ops Q (fuel+1) listed a w:=wpAny_to hi hs hf hr hQ (Or.inl ⟨hwd,hy⟩) ha h
theorem noneOf_c (t:ByteArray) (w:World) :
  Calls Tryz.prog 87 #[.string t] w fun e w'=>e=.returned (.func (.func 113) #[] #[.pointer (some ⟨w.heap.size,0,none⟩)])/\w'.cell? ⟨w.heap.size,0,none⟩=some (.string t)/\w'.heap.size=w.heap.size+1/\Below w.heap.size w w':=by
 refine (noneOf_any t w).mono ?_
 rintro e w' ⟨rfl,rfl⟩
 exact⟨rfl,by simp,by simp,(Below.refl _ _).alloc (Nat.le_refl _) _⟩
theorem oneOf_c (t:ByteArray) (w:World) :
  Calls Tryz.prog 89 #[.string t] w fun e w'=>e=.returned (.func (.func 114) #[] #[.pointer (some ⟨w.heap.size,0,none⟩)])/\w'.cell? ⟨w.heap.size,0,none⟩=some (.string t)/\w'.heap.size=w.heap.size+1/\Below w.heap.size w w':=by
 refine (oneOf_any t w).mono ?_
 rintro e w' ⟨rfl,rfl⟩
 exact⟨rfl,by simp,by simp,(Below.refl _ _).alloc (Nat.le_refl _) _⟩
theorem bl_mk (l:List UInt8):bl ⟨l.toArray⟩=l:=rfl
theorem pass_noneE (s t:ByteArray) (P:UInt8->Bool)(hP:∀ x,(!(bl t).contains x)=P x)(hs:s.size<=1099511627776) :
  ∃ A C:ByteArray,Hid (bl A=(bl s).takeWhile P)/\Hid (bl C=(bl s).dropWhile P)/\A.size+C.size=s.size/\Hid (∀ B w,w.cell? ⟨B,0,none⟩=some (.string t)->Calls Tryz.prog 86 #[.string s,.func (.func 113) #[] #[.pointer (some ⟨B,0,none⟩)]] w fun e w'=>e=.returned (.tuple #[.string A,.string C])/\Below w.heap.size w w'):=by
 have e:(fun x=>!(bl t).contains x)=P:=funext hP
 refine⟨⟨((bl s).takeWhile P).toArray⟩,⟨((bl s).dropWhile P).toArray⟩,hide rfl,hide rfl,?_,hide fun B w h=>?_⟩
 ·have:=congrArg List.length (List.takeWhile_append_dropWhile (p:=P) (l:=bl s))
  rw[List.length_append,bl_len] at this
  rw[size_mk,size_mk]
  exact this
 ·have:=pass_none s t B w hs h
  rw[e] at this
  exact this
theorem pass_oneE (s t:ByteArray) (P:UInt8->Bool)(hP:∀ x,(bl t).contains x=P x)(hs:s.size<=1099511627776) :
  ∃ A C:ByteArray,Hid (bl A=(bl s).takeWhile P)/\Hid (bl C=(bl s).dropWhile P)/\A.size+C.size=s.size/\Hid (∀ B w,w.cell? ⟨B,0,none⟩=some (.string t)->Calls Tryz.prog 86 #[.string s,.func (.func 114) #[] #[.pointer (some ⟨B,0,none⟩)]] w fun e w'=>e=.returned (.tuple #[.string A,.string C])/\Below w.heap.size w w'):=by
 have e:(fun x=>(bl t).contains x)=P:=funext hP
 refine⟨⟨((bl s).takeWhile P).toArray⟩,⟨((bl s).dropWhile P).toArray⟩,hide rfl,hide rfl,?_,hide fun B w h=>?_⟩
 ·have:=congrArg List.length (List.takeWhile_append_dropWhile (p:=P) (l:=bl s))
  rw[List.length_append,bl_len] at this
  rw[size_mk,size_mk]
  exact this
 ·have:=pass_one s t B w hs h
  rw[e] at this
  exact this
theorem pass_firstE (s t:ByteArray) (c0:UInt8) (tl:List UInt8) (P:UInt8->Bool)(hP:∀ x,(!(bl t).contains x)=P x)(hs:s.size<=1099511627776)(hc0:bl s=c0 :: tl) :
  ∃ A C:ByteArray,Hid (bl A=c0 :: tl.takeWhile P)/\Hid (bl C=tl.dropWhile P)/\A.size+C.size=s.size/\1<=A.size/\Hid (∀ K a O B w,w.heap[a]?=some (.cells #[.bool false] 4 (0,0))->w.cell? ⟨O,0,none⟩=some (.func (.func 113) #[] #[.pointer (some ⟨B,0,none⟩)])->w.cell? ⟨B,0,none⟩=some (.string t)->K<=a->O≠a->B≠a->Calls Tryz.prog 86 #[.string s,.func (.func 115) #[] #[.pointer (some ⟨a,0,none⟩),.pointer (some ⟨O,0,none⟩)]] w fun e w'=>e=.returned (.tuple #[.string A,.string C])/\Below K w w'):=by
 have e:(fun x=>!(bl t).contains x)=P:=funext hP
 refine⟨⟨(c0 :: tl.takeWhile P).toArray⟩,⟨(tl.dropWhile P).toArray⟩,hide rfl,hide rfl,?_,?_,hide fun K a O B w h1 h2 h3 h4 h5 h6=>?_⟩
 ·have:=congrArg List.length (List.takeWhile_append_dropWhile (p:=P) (l:=tl))
  rw[List.length_append] at this
  rw[size_mk,size_mk,<-bl_len,hc0]
  simp only[List.length_cons]
  omega
 ·rw[size_mk]
  simp
 ·have:=pass_first s t c0 tl K a O B w hs hc0 h1 h2 h3 h4 h5 h6
  rw[e] at this
  exact this
theorem empty_of {s:ByteArray}(h:bl s=[]):s.toList.isEmpty=true:=by
 have h:s.data.toList=_:=h
 rw[ByteArray.toList_eq,h]
 rfl
theorem nonempty_of {s:ByteArray}{c:UInt8}{t:List UInt8}(h:bl s=c :: t):s.toList.isEmpty=false:=by
 have h:s.data.toList=_:=h
 rw[ByteArray.toList_eq,h]
 rfl
theorem ext_one {s:ByteArray}{c:UInt8}{t:List UInt8}(h:bl s=c :: t):bl (s.extract 1 s.size)=t:=by
 rw[ext_drop,bl_mk,h]
 rfl
theorem ext_head {s:ByteArray}{c:UInt8}{t:List UInt8}(h:bl s=c :: t):bl (s.extract 0 1)=[c]:=by
 rw[extract_take,bl_mk,h]
 rfl
theorem size_ext_one (s:ByteArray):(s.extract 1 s.size).size=s.size - 1:=by simp
theorem to_label {J:Nat->Act->World->Prop}{J':Nat->Nat->Act->World->Prop}{P:Program}{Q:Exit->Act->World->Prop}{l:Nat}{b c:Code}{a:Act}{w:World}{n:Nat}
  (hk:∀ n a w,J n a w->∃ rest,findLabel b l=some (.seq .skip rest)/\rest.wp P (jumps (fun l' a' w'=>∃ n',n' < n/\J' n' l' a' w') Q) a w)(hf:findLabel b l=some (.seq .skip c)) (m:Nat)(hm:m<=n)(hJ:J m a w):c.wp P (jumps (fun l' a' w'=>∃ n',n' < n/\J' n' l' a' w') Q) a w:=by
 obtain⟨rest,h1,h2⟩:=hk m a w hJ
 rw[hf] at h1
 cases h1
 exact Code.wp_mono (jumps_mono (fun l a w ⟨n',h1,h2⟩=>⟨n',by omega,h2⟩)) h2
theorem of_label {P:Program}{Q:Exit->Act->World->Prop}{l:Nat}{b:Code}{a:Act}{w:World}(h:∃ rest,findLabel b l=some (.seq .skip rest)/\rest.wp P Q a w):∃ rest,findLabel b l=some rest/\rest.wp P Q a w:=by
 obtain⟨rest,h1,h2⟩:=h
 exact⟨_,h1,wp_seq (wp_skip h2)⟩
theorem bel_drew {w w1:World}(h:Below w.drew.heap.size w.drew w1):Below w.heap.size w w1:=((Below.refl w.heap.size w).drew).trans h
end Go.Proofs.YtkiofbikkhhdfabGreatDoor.To
namespace Go.Proofs.YtkiofbikkhhdfabGreatDoor.To
open Go.RowKit
open Utf1
theorem set_gap (x:UInt8):(bl ⟨#[9,10,12,13,32,47]⟩).contains x=isGap x:=by
 show [9,10,12,13,32,47].contains x=_
 simp only[List.contains_cons,List.contains_nil,Bool.or_false,isGap,isBl,Bool.or_assoc]
theorem set_bl (x:UInt8):(bl ⟨#[9,10,12,13,32]⟩).contains x=isBl x:=by
 show [9,10,12,13,32].contains x=_
 simp only[List.contains_cons,List.contains_nil,Bool.or_false,isBl,Bool.or_assoc]
theorem set_nm (x:UInt8):(!(bl ⟨#[9,10,12,13,32,47,62]⟩).contains x)=!isNm x:=by
 show (![9,10,12,13,32,47,62].contains x)=_
 simp only[List.contains_cons,List.contains_nil,Bool.or_false,isNm,isBl,Bool.or_assoc]
theorem set_at (x:UInt8):(!(bl ⟨#[9,10,12,13,32,47,62,61]⟩).contains x)=!isAt x:=by
 show (![9,10,12,13,32,47,62,61].contains x)=_
 simp only[List.contains_cons,List.contains_nil,Bool.or_false,isAt,isBl,Bool.or_assoc]
theorem set_va (x:UInt8):(!(bl ⟨#[9,10,12,13,32,62]⟩).contains x)=!isVa x:=by
 show (![9,10,12,13,32,62].contains x)=_
 simp only[List.contains_cons,List.contains_nil,Bool.or_false,isVa,isBl,Bool.or_assoc]
theorem pre_c (s:ByteArray) (p:UInt8) (b:Bool)(h:[p].isPrefixOf (bl s)=b) (w:World):Calls Tryz.prog 73 #[.string s,.string ⟨#[p]⟩] w fun e w'=>e=.returned (.bool b)/\w'=w:=by
 subst h
 exact Tryz.strings_HasPrefix s ⟨#[p]⟩ w
theorem first_c (B:Nat) (t:ByteArray) (w:World)(h:w.cell? ⟨B,0,none⟩=some (.string t)) :
  Calls Tryz.prog 90 #[.func (.func 113) #[] #[.pointer (some ⟨B,0,none⟩)]] w fun e w'=>e=.returned (.func (.func 115) #[] #[.pointer (some ⟨w.heap.size+1,0,none⟩),.pointer (some ⟨w.heap.size,0,none⟩)])/\w'.heap[w.heap.size+1]?=some (.cells #[.bool false] 4 (0,0))/\w'.cell? ⟨w.heap.size,0,none⟩=some (.func (.func 113) #[] #[.pointer (some ⟨B,0,none⟩)])/\w'.cell? ⟨B,0,none⟩=some (.string t)/\Below w.heap.size w w':=by
 refine (first_any (.func 113) #[.pointer (some ⟨B,0,none⟩)] w).mono ?_
 rintro e w' ⟨rfl,rfl⟩
 have hB:B < w.heap.size:=cell_lt h
 have hbel:Below w.heap.size w ((w.alloc (.cells #[.func (.func 113) #[] #[.pointer (some ⟨B,0,none⟩)]] 111)).alloc (.cells #[.bool false] 4)):=((Below.refl _ _).alloc (Nat.le_refl _) _).alloc (by simp) _
 refine⟨rfl,?_,?_,(hbel.cell (p:=⟨B,0,none⟩) hB).trans h,hbel⟩
 ·show ((w.heap.push _).push _)[w.heap.size+1]?=_
  rw[Array.getElem?_push,if_pos (by simp)]
 ·show World.cell? _ _=_
  rw[World.cell?_of_block (w:=w.alloc (.cells #[.func (.func 113) #[] #[.pointer (some ⟨B,0,none⟩)]] 111)) (Below.heap_alloc _ _ _ (by simp))]
  simp
theorem idx0 {s:ByteArray}{c:UInt8}{t:List UInt8}(h:bl s=c :: t) (w:World):(Instr.index 9 (.string s) (.int .i64 0)).run Tryz.prog w=.ok (.int .u8 (c.toNat:Int)) w:=by
 have hl:0+0 < s.size:=by
  rw[<-bl_len,h]
  simp
 have:=idx_run s 0 0 hl w
 rw[List.drop_zero,h] at this
 exact this
theorem one_plain (c:UInt8) (t s3:List UInt8)(h:(t.dropWhile (fun x=>!isAt x)).dropWhile isBl=s3)(hn:[61].isPrefixOf s3=false):oneAt c t=some (c :: t.takeWhile (fun x=>!isAt x),[],s3):=by
 unfold oneAt
 rw[h]
 split
 ·rename_i u
  simp at hn
 ·rfl
theorem one_none (c:UInt8) (t u:List UInt8)(h:(t.dropWhile (fun x=>!isAt x)).dropWhile isBl=61 :: u)(h2:u.dropWhile isBl=[]):oneAt c t=some (c :: t.takeWhile (fun x=>!isAt x),[],[]):=by
 unfold oneAt
 rw[h]
 simp only
 rw[h2]
theorem one_bare (c q:UInt8) (t u v:List UInt8)(h:(t.dropWhile (fun x=>!isAt x)).dropWhile isBl=61 :: u)(h2:u.dropWhile isBl=q :: v)(hq:¬ (q=34\/q=39)):oneAt c t=some (c :: t.takeWhile (fun x=>!isAt x),(q :: v).takeWhile (fun x=>!isVa x),(q :: v).dropWhile (fun x=>!isVa x)):=by
 unfold oneAt
 rw[h]
 simp only
 rw[h2]
 simp only
 rw[if_neg hq]
theorem one_quote (c q:UInt8) (t u v:List UInt8)(h:(t.dropWhile (fun x=>!isAt x)).dropWhile isBl=61 :: u)(h2:u.dropWhile isBl=q :: v)(hq:q=34\/q=39):oneAt c t=(match v.dropWhile (fun x=>x != q) with | []=>none | _ :: r=>some (c :: t.takeWhile (fun x=>!isAt x),v.takeWhile (fun x=>x != q),r)):=by
 unfold oneAt
 rw[h]
 simp only
 rw[h2]
 simp only
 rw[if_pos hq]
 cases v.dropWhile (fun x=>x != q) <;> rfl
theorem attrs_quote (acc:List (List UInt8 × List UInt8)) (s t u v:List UInt8) (c q:UInt8)(hs:s.dropWhile isGap=c :: t)(hc:c≠62)(h:(t.dropWhile (fun x=>!isAt x)).dropWhile isBl=61 :: u)(h2:u.dropWhile isBl=q :: v)(hq:q=34\/q=39) :
  attrsOf acc s=match v.dropWhile (fun x=>x != q) with | []=>none | _ :: r=>attrsOf (addAt acc (lower (c :: t.takeWhile (fun x=>!isAt x))) (res (v.takeWhile (fun x=>x != q)))) r:=by
 have h1:=one_quote c q t u v h h2 hq
 cases hd:v.dropWhile (fun x=>x != q) with
 | nil =>
  rw[hd] at h1
  exact attrsOf_none acc s t c hs hc h1
 | cons z r =>
  rw[hd] at h1
  exact attrsOf_one acc s t c _ _ _ hs hc h1
end Go.Proofs.YtkiofbikkhhdfabGreatDoor.To
namespace Go.Proofs.YtkiofbikkhhdfabGreatDoor.To
open Go.RowKit
open Utf1
def GlobM (w:World):Prop:=∃ m,w.cell? ⟨0,0,none⟩=some (.int .i64 m)
theorem GlobM.below {w w':World}(h:GlobM w)(hb:Below w.heap.size w w'):GlobM w':=by
 obtain⟨m,hc⟩:=h
 exact⟨m,(hb.cell (p:=⟨0,0,none⟩) (cell_lt hc)).trans hc⟩
theorem index_first (sub:List UInt8)(hs:sub≠[]) (l:List UInt8)(h:0<=Lib.index l sub):(Lib.index l sub).toNat < l.length/\sub.isPrefixOf (l.drop (Lib.index l sub).toNat)=true/\∀ j,j < (Lib.index l sub).toNat->sub.isPrefixOf (l.drop j)=false:=by
 induction l with
 | nil =>
  unfold Lib.index at h
  rw[if_neg (by simpa using hs)] at h
  omega
 | cons b t ih =>
  unfold Lib.index at h ⊢
  cases hp:sub.isPrefixOf (b :: t) with
  | true=>simpa using hp
  | false =>
   rw[hp,if_neg (by simp)] at h
   rw[if_neg (by simp)]
   split at h
   ·omega
   ·rename_i hne
    have hne':Lib.index t sub≠-1:=by simpa using hne
    have hge:=Lib.index_ge t sub
    rw[if_neg hne]
    obtain⟨h1,h2,h3⟩:=ih (by omega)
    have e:(Lib.index t sub+1).toNat=(Lib.index t sub).toNat+1:=by omega
    rw[e]
    refine⟨by simp;omega,by simpa using h2,?_⟩
    intro j hj
    cases j with
    | zero=>exact hp
    | succ j=>exact h3 j (by omega)
theorem index_never (sub:List UInt8)(hs:sub≠[]) (l:List UInt8)(h:Lib.index l sub < 0):∀ j,sub.isPrefixOf (l.drop j)=false:=by
 induction l with
 | nil =>
  intro j
  cases sub with
  | nil=>exact absurd rfl hs
  | cons a r=>simp
 | cons b t ih =>
  have hge:=Lib.index_ge t sub
  unfold Lib.index at h
  cases hp:sub.isPrefixOf (b :: t) with
  | true =>
   rw[hp,if_pos rfl] at h
   omega
  | false =>
   rw[hp,if_neg (by simp)] at h
   intro j
   cases j with
   | zero=>exact hp
   | succ j =>
    refine ih ?_ j
    split at h
    ·rename_i he
     have:Lib.index t sub=-1:=by simpa using he
     omega
    ·omega
theorem raw_skip (nm:List UInt8):∀ (k:Nat) (l:List UInt8),k<=l.length->(∀ j,j < k->rawEnds nm (l.drop j)=false)->rawStop nm l=k+rawStop nm (l.drop k)
 | 0,l,_,_=>by simp
 | k+1,[],h,_=>by simp at h
 | k+1,c :: t,h,hno=>by
  have h0:rawEnds nm (c :: t)=false:=hno 0 (by omega)
  have:=raw_skip nm k t (by simpa using h) (fun j hj=>hno (j+1) (by omega))
  rw[List.drop_succ_cons,rawStop,if_neg (by rw[h0];simp),this]
  omega
theorem raw_pre (nm l:List UInt8)(h:[60,47].isPrefixOf l=false):rawEnds nm l=false:=by
 unfold rawEnds
 rw[h]
 rfl
theorem raw_at (nm l:List UInt8)(h:[60,47].isPrefixOf l=true):rawEnds nm l=(decide (2+nm.length < l.length) && decide (lower ((l.drop 2).take nm.length)=nm) && isNm (l.getD (2+nm.length) 0)):=by
 unfold rawEnds
 rw[h]
 rfl
theorem set_nm1 (x:UInt8):(bl ⟨#[9,10,12,13,32,47,62]⟩).contains x=isNm x:=by
 show [9,10,12,13,32,47,62].contains x=_
 simp only[List.contains_cons,List.contains_nil,Bool.or_false,isNm,isBl,Bool.or_assoc]
theorem rawLen_any (s name:ByteArray) (w:World)(hs:s.size<=4294967280)(hn:name.size<=4294967280)(hg:GlobM w) :
  Calls Tryz.prog 93 #[.string s,.string name] w fun e w'=>e=.returned (.int .i64 (rawLen (bl name) (bl s):Int))/\Below w.heap.size w w':=by
 have hl:=bl_len s
 have hnl:=bl_len name
 have fp:=eq_lit name [112,108,97,105,110,116,101,120,116]
 by_cases hp:bl name=plainText
 ·rw[show decide (bl name=[112,108,97,105,110,116,101,120,116])=true from decide_eq_true hp] at fp
  have HR:Hid (rawLen (bl name) (bl s)=s.size):=hide (by
   unfold rawLen
   rw[if_pos hp,hl])
  rw[HR.out]
  clear hp HR hl hnl
  go_enter Tryz.func93,Tryz.ntmps93
  go_wp2
  go_ret
  exact⟨rfl,Below.refl _ _⟩
 rw[show decide (bl name=[112,108,97,105,110,116,101,120,116])=false from decide_eq_false hp] at fp
 have HR:Hid (rawLen (bl name) (bl s)=rawStop (bl name) (bl s)):=hide (by
  unfold rawLen
  rw[if_neg hp])
 rw[HR.out]
 clear hp HR
 have HG:=hide hg
 clear hg
 go_enter Tryz.func93,Tryz.ntmps93
 go_wp2_with fail
 refine (oneOf_c _ _).mono ?_
 rintro e w1 ⟨rfl,hc1,-,hb1⟩
 have HB1:=hide hb1
 have HC1:=hide hc1
 have HG1:=hide (HG.out.below hb1)
 clear hb1 hc1 HG fp
 go_wp2_with fail
 go_loopg [6] s.size (fun g v wr=>∃ p:Nat,p+g=s.size/\v=.int .i64 (p:Int)/\Below w1.heap.size w1 wr/\Hid (rawStop (bl name) (bl s)=p+rawStop (bl name) ((bl s).drop p)))
 case atStart=>exact⟨0,by omega,rfl,Below.refl _ _,hide (by simp)⟩
 case round =>
  obtain⟨p,hpg,rfl,hbw,HS⟩:=hrel
  obtain⟨m,hm⟩:=HG1.out.below hbw
  have hix:=Tryz.strings_Index (s.extract p s.size) ⟨#[60,47]⟩ m wr (by simp;omega) hm
  have hbe:bl (s.extract p s.size)=(bl s).drop p:=by rw[ext_drop]
  have hnev:=index_never [60,47] (by simp) ((bl s).drop p)
  have hfir:=index_first [60,47] (by simp) ((bl s).drop p)
  obtain⟨k,hk⟩:∃ k,k=Lib.index ((bl s).drop p) [60,47]:=⟨_,rfl⟩
  rw[<-hk] at hnev hfir
  have hix:Calls Tryz.prog 117 #[.string (s.extract p s.size),.string ⟨#[60,47]⟩] wr fun e w'=>e=.returned (.int .i64 k)/\w'=wr:=by
   rw[hk,<-hbe]
   exact hix
  have HBW:=hide hbw
  clear hk hbe hm hbw
  by_cases hk0:0<=k
  case neg =>
   have hkn:k < 0:=by omega
   have HF:Hid (rawStop (bl name) (bl s)=s.size):=hide (by
    rw[HS.out,raw_skip (bl name) (s.size - p) ((bl s).drop p) (by rw[List.length_drop,hl];exact Nat.le_refl _) (fun j _=>raw_pre _ _ (hnev hkn j)),List.drop_of_length_le (by rw[List.length_drop,hl];exact Nat.le_refl _)]
    simp[rawStop]
    omega)
   clear hnev hfir HS hk0
   go_wp2_with fail
   refine hix.mono ?_
   rintro e w2 ⟨rfl,rfl⟩
   go_wp2_with fail
   go_ret
   rw[HF.out]
   exact⟨rfl,bel2 HB1.out HBW.out⟩
  obtain⟨kn,rfl⟩:∃ kn:Nat,k=(kn:Int):=⟨k.toNat,by omega⟩
  obtain⟨h1,h2,h3⟩:=hfir hk0
  rw[Int.toNat_natCast] at h1 h2 h3
  rw[List.length_drop,hl] at h1
  rw[List.drop_drop] at h2
  have hst:rawStop (bl name) (bl s)=p+(kn+rawStop (bl name) ((bl s).drop (p+kn))):=by
   rw[HS.out,raw_skip (bl name) kn ((bl s).drop p) (by rw[List.length_drop,hl];omega) (fun j hj=>raw_pre _ _ (h3 j hj)),List.drop_drop]
  have hdc:=drop_cons s (p+kn) (by omega)
  generalize (bl s)[p+kn]'(by rw[bl_len];omega)=c at hdc
  have hat:=raw_at (bl name) _ h2
  rw[List.length_drop,hl,hnl,List.drop_drop] at hat
  have HNX:rawEnds (bl name) ((bl s).drop (p+kn))=false->Hid (rawStop (bl name) (bl s)=p+kn+1+rawStop (bl name) ((bl s).drop (p+kn+1))):=fun h=>hide (by
   rw[hst,hdc,rawStop,if_neg (by rw[<-hdc,h];simp)]
   omega)
  have HHT:rawEnds (bl name) ((bl s).drop (p+kn))=true->Hid (rawStop (bl name) (bl s)=p+kn):=fun h=>hide (by
   rw[hst,hdc,rawStop,if_pos (by rw[<-hdc];exact h)]
   omega)
  clear hnev hfir HS hk0 h2 h3 hst hdc
  by_cases hend:p+kn+2+name.size < s.size
  case neg =>
   have HN:=HNX (by rw[hat,decide_eq_false (by omega)];rfl)
   clear hat HNX HHT
   go_wp2_with fail
   refine hix.mono ?_
   rintro e w2 ⟨rfl,rfl⟩
   go_wp2_with fail
   go_roundg (gk - (kn+1))
   case measure=>omega
   case rel=>exact⟨p+kn+1,by omega,by first | rfl | simp,HBW.out,HN⟩
  have hlo:=fun w=>lower_any (s.extract (p+kn+2) (p+kn+2+name.size)) w
  have hbx:bl (s.extract (p+kn+2) (p+kn+2+name.size))=((bl s).drop (p+kn+2)).take name.size:=by
   rw[extract_bl]
   congr 1
   omega
  rw[hbx] at hlo
  have hLb:bl ⟨(lower (((bl s).drop (p+kn+2)).take name.size)).toArray⟩=lower (((bl s).drop (p+kn+2)).take name.size):=rfl
  generalize (⟨(lower (((bl s).drop (p+kn+2)).take name.size)).toArray⟩:ByteArray)=LW at hlo hLb
  rw[<-hLb] at hat
  clear hbx hLb
  by_cases heq:bl LW=bl name
  case neg =>
   have HN:=HNX (by rw[hat,decide_eq_false heq];simp)
   have hq:=beq_ne heq
   clear hat HNX HHT heq
   go_wp2_with fail
   refine hix.mono ?_
   rintro e w2 ⟨rfl,rfl⟩
   go_wp2_with fail
   refine (hlo _).mono ?_
   rintro e w3 ⟨rfl,hb3⟩
   go_wp2_with fail
   go_roundg (gk - (kn+1))
   case measure=>omega
   case rel=>exact⟨p+kn+1,by omega,by first | rfl | simp,bel2 HBW.out hb3,HN⟩
  have hq:=beq_same heq
  have hge:(bl s)[p+kn+2+name.size]?=some ((bl s)[p+kn+2+name.size]'(by rw[hl];exact hend)):=List.getElem?_eq_getElem _
  have hgd:((bl s).drop (p+kn)).getD (2+name.size) 0=(bl s)[p+kn+2+name.size]'(by rw[hl];exact hend):=by
   rw[List.getD_eq_getElem?_getD,List.getElem?_drop,show p+kn+(2+name.size)=p+kn+2+name.size by omega,hge]
   rfl
  rw[hgd] at hat
  clear hgd
  generalize (bl s)[p+kn+2+name.size]'(by rw[hl];exact hend)=f at hat hge
  have ie0:=fun w=>idxK hge w
  have hcl:∀ w',Below w1.heap.size w1 w'->Calls Tryz.prog 114 #[.int .u8 (f.toNat:Int),.pointer (some ⟨w.heap.size,0,none⟩)] w' fun e w''=>e=.returned (.bool (isNm f))/\w''=w':=by
   intro w' hb
   rw[<-set_nm1]
   exact one1_any ⟨#[9,10,12,13,32,47,62]⟩ f w.heap.size w' ((hb.cell (p:=⟨w.heap.size,0,none⟩) (cell_lt HC1.out)).trans HC1.out)
  rw[decide_eq_true (by omega),decide_eq_true heq] at hat
  have hat:rawEnds (bl name) ((bl s).drop (p+kn))=isNm f:=by rw[hat];rfl
  obtain⟨x,hx⟩:∃ x:Int,x=(f.toNat:Int):=⟨_,rfl⟩
  have ie:∀ w,(Instr.index 9 (.string s) (.int .i64 ((p:Int)+(kn:Int)+2+(name.size:Int)))).run Tryz.prog w=.ok (.int .u8 x) w:=by
   rw[hx,show ((p:Int)+(kn:Int)+2+(name.size:Int))=((p+kn+2+name.size:Nat):Int) by omega]
   exact ie0
  clear ie0
  rw[<-hx] at hcl
  have HCL:=hide hcl
  clear hx heq hge hcl
  cases hF:isNm f with
  | true =>
   have HN:=HHT (by rw[hat,hF])
   rw[hF] at HCL
   clear hat HNX HHT hF
   go_wp2_with fail
   refine hix.mono ?_
   rintro e w2 ⟨rfl,rfl⟩
   go_wp2_with fail
   refine (hlo _).mono ?_
   rintro e w3 ⟨rfl,hb3⟩
   go_wp2_with fail
   refine (HCL.out _ (bel2 HBW.out hb3)).mono ?_
   rintro e w4 ⟨rfl,rfl⟩
   go_wp2_with fail
   go_ret
   rw[HN.out]
   exact⟨by first | rfl | simp,bel2 HB1.out (bel2 HBW.out hb3)⟩
  | false =>
   have HN:=HNX (by rw[hat,hF])
   rw[hF] at HCL
   clear hat HNX HHT hF
   go_wp2_with fail
   refine hix.mono ?_
   rintro e w2 ⟨rfl,rfl⟩
   go_wp2_with fail
   refine (hlo _).mono ?_
   rintro e w3 ⟨rfl,hb3⟩
   go_wp2_with fail
   refine (HCL.out _ (bel2 HBW.out hb3)).mono ?_
   rintro e w4 ⟨rfl,rfl⟩
   go_wp2_with fail
   go_roundg (gk - (kn+1))
   case measure=>omega
   case rel=>exact⟨p+kn+1,by omega,by first | rfl | simp,bel2 HBW.out hb3,HN⟩
end Go.Proofs.YtkiofbikkhhdfabGreatDoor.To
namespace Go.Proofs.YtkiofbikkhhdfabGreatDoor.To
open Go.RowKit
open Utf1
theorem tag_none (w0:World) (start:Bool) (nm:ByteArray) (tg:Option (Tk × List UInt8)) (N n:Nat) (a:Act) (wr:World)(hJ:JNon w0 tg n a wr) :
  ∃ rest,findLabel tagCode 1=some rest/\rest.wp Tryz.prog (jumps (fun l' a' w'=>∃ n',n' < n/\tagJ w0 start nm tg N n' l' a' w') (bodyPost Tryz.prog Tryz.f50 (TagPost tg w0))) a wr:=by
 unfold JNon at hJ
 obtain⟨u0,hJ⟩:=hJ;obtain⟨u1,hJ⟩:=hJ;obtain⟨u5,hJ⟩:=hJ;obtain⟨u6,hJ⟩:=hJ;obtain⟨u7,hJ⟩:=hJ;obtain⟨u8,hJ⟩:=hJ;obtain⟨u11,hJ⟩:=hJ;obtain⟨u12,hJ⟩:=hJ;obtain⟨u13,hJ⟩:=hJ;obtain⟨u14,hJ⟩:=hJ;obtain⟨u15,hJ⟩:=hJ;obtain⟨u16,hJ⟩:=hJ;obtain⟨u17,hJ⟩:=hJ;obtain⟨u18,hJ⟩:=hJ;obtain⟨u19,hJ⟩:=hJ;obtain⟨u20,hJ⟩:=hJ;obtain⟨u21,hJ⟩:=hJ;obtain⟨u22,hJ⟩:=hJ;obtain⟨u23,hJ⟩:=hJ;obtain⟨u24,hJ⟩:=hJ;obtain⟨u25,hJ⟩:=hJ;obtain⟨u26,hJ⟩:=hJ;obtain⟨u27,hJ⟩:=hJ;obtain⟨u28,hJ⟩:=hJ;obtain⟨u29,hJ⟩:=hJ;obtain⟨u30,hJ⟩:=hJ;obtain⟨u31,hJ⟩:=hJ;obtain⟨u32,hJ⟩:=hJ;obtain⟨u33,hJ⟩:=hJ;obtain⟨u34,hJ⟩:=hJ;obtain⟨u35,hJ⟩:=hJ;obtain⟨u36,hJ⟩:=hJ;obtain⟨u37,hJ⟩:=hJ;obtain⟨u38,hJ⟩:=hJ;obtain⟨u39,hJ⟩:=hJ;obtain⟨u40,hJ⟩:=hJ;obtain⟨u41,hJ⟩:=hJ;obtain⟨u42,hJ⟩:=hJ;obtain⟨u43,hJ⟩:=hJ;obtain⟨u44,hJ⟩:=hJ;obtain⟨u45,hJ⟩:=hJ;obtain⟨u46,hJ⟩:=hJ;obtain⟨u47,hJ⟩:=hJ;obtain⟨u48,hJ⟩:=hJ;obtain⟨u49,hJ⟩:=hJ;obtain⟨u50,hJ⟩:=hJ;obtain⟨u51,hJ⟩:=hJ;obtain⟨u52,hJ⟩:=hJ;obtain⟨u53,hJ⟩:=hJ;obtain⟨u54,hJ⟩:=hJ;obtain⟨u55,hJ⟩:=hJ;obtain⟨u56,hJ⟩:=hJ;obtain⟨u57,hJ⟩:=hJ;obtain⟨u58,hJ⟩:=hJ;obtain⟨u59,hJ⟩:=hJ;obtain⟨u60,hJ⟩:=hJ;obtain⟨u61,hJ⟩:=hJ;obtain⟨u62,hJ⟩:=hJ;obtain⟨u63,hJ⟩:=hJ;obtain⟨u64,hJ⟩:=hJ;obtain⟨u65,hJ⟩:=hJ;obtain⟨u66,hJ⟩:=hJ;obtain⟨u67,hJ⟩:=hJ;obtain⟨u68,hJ⟩:=hJ;obtain⟨u69,hJ⟩:=hJ;obtain⟨u70,hJ⟩:=hJ;obtain⟨u71,hJ⟩:=hJ;obtain⟨u72,hJ⟩:=hJ;obtain⟨u73,hJ⟩:=hJ;obtain⟨u74,hJ⟩:=hJ;obtain⟨u75,hJ⟩:=hJ;obtain⟨u76,hJ⟩:=hJ;obtain⟨u77,hJ⟩:=hJ;obtain⟨u78,hJ⟩:=hJ;obtain⟨u79,hJ⟩:=hJ;obtain⟨u80,hJ⟩:=hJ;obtain⟨u81,hJ⟩:=hJ;obtain⟨u82,hJ⟩:=hJ;obtain⟨u83,hJ⟩:=hJ;obtain⟨u84,hJ⟩:=hJ;obtain⟨u85,hJ⟩:=hJ;obtain⟨u86,hJ⟩:=hJ;obtain⟨u87,hJ⟩:=hJ;obtain⟨u88,hJ⟩:=hJ;obtain⟨u89,hJ⟩:=hJ;obtain⟨u90,hJ⟩:=hJ;obtain⟨u91,hJ⟩:=hJ;obtain⟨u92,hJ⟩:=hJ;obtain⟨u93,hJ⟩:=hJ;obtain⟨u94,hJ⟩:=hJ;obtain⟨u95,hJ⟩:=hJ;obtain⟨u96,hJ⟩:=hJ;obtain⟨u97,hJ⟩:=hJ;obtain⟨u98,hJ⟩:=hJ;obtain⟨u99,hJ⟩:=hJ;obtain⟨u100,hJ⟩:=hJ;obtain⟨u101,hJ⟩:=hJ;obtain⟨u102,hJ⟩:=hJ;obtain⟨u103,hJ⟩:=hJ;obtain⟨u104,hJ⟩:=hJ;obtain⟨u105,hJ⟩:=hJ;obtain⟨u106,hJ⟩:=hJ;obtain⟨u107,hJ⟩:=hJ;obtain⟨u108,hJ⟩:=hJ;obtain⟨u109,hJ⟩:=hJ;obtain⟨u110,hJ⟩:=hJ;obtain⟨u111,hJ⟩:=hJ;obtain⟨u112,hJ⟩:=hJ;obtain⟨u113,hJ⟩:=hJ;obtain⟨u114,hJ⟩:=hJ;obtain⟨u115,hJ⟩:=hJ;obtain⟨u116,hJ⟩:=hJ;obtain⟨u117,hJ⟩:=hJ;obtain⟨u118,hJ⟩:=hJ;obtain⟨u119,hJ⟩:=hJ;obtain⟨u120,hJ⟩:=hJ;obtain⟨u121,hJ⟩:=hJ;obtain⟨u122,hJ⟩:=hJ;obtain⟨u123,hJ⟩:=hJ;obtain⟨u124,hJ⟩:=hJ;obtain⟨u125,hJ⟩:=hJ;obtain⟨hrel,ha⟩:=hJ;subst ha
 obtain⟨rfl,hR,hb,HT⟩:=hrel
 have c0:=tag_cell hR 0 _ rfl
 have c1:=tag_cell hR 1 _ rfl
 have c2:=tag_cell hR 2 _ rfl
 have c3:=tag_cell hR 3 _ rfl
 have c4:=tag_cell hR 4 _ rfl
 have f0:=tag_free hR 0
 have f1:=tag_free hR 1
 have f2:=tag_free hR 2
 have f3:=tag_free hR 3
 have f4:=tag_free hR 4
 have hR:=hide hR
 refine⟨_,rfl,?_⟩
 go_wp2
 simp only[jumps]
 refine ret_tag w0.heap.size _ _ _ _ _ _ _ rfl rfl rfl rfl (tok_five hR.out _ _ _ _ _) ?_
 rw[HT.out]
 exact⟨rfl,below_five hb (Nat.le_refl _) _ _ _ _ _⟩
theorem tag_end (w0:World) (start:Bool) (nm:ByteArray) (tg:Option (Tk × List UInt8)) (N n:Nat) (a:Act) (wr:World)(hN:N<=4294967280)(hJ:JEnd w0 start nm tg N n a wr) :
  ∃ rest,findLabel tagCode 2=some rest/\rest.wp Tryz.prog (jumps (fun l' a' w'=>∃ n',n' < n/\tagJ w0 start nm tg N n' l' a' w') (bodyPost Tryz.prog Tryz.f50 (TagPost tg w0))) a wr:=by
 unfold JEnd at hJ
 obtain⟨s,hJ⟩:=hJ;obtain⟨gap,hJ⟩:=hJ;obtain⟨acc,hJ⟩:=hJ;obtain⟨k,hJ⟩:=hJ;obtain⟨av,hJ⟩:=hJ;obtain⟨u1,hJ⟩:=hJ;obtain⟨u6,hJ⟩:=hJ;obtain⟨u7,hJ⟩:=hJ;obtain⟨u8,hJ⟩:=hJ;obtain⟨u11,hJ⟩:=hJ;obtain⟨u12,hJ⟩:=hJ;obtain⟨u13,hJ⟩:=hJ;obtain⟨u14,hJ⟩:=hJ;obtain⟨u15,hJ⟩:=hJ;obtain⟨u16,hJ⟩:=hJ;obtain⟨u17,hJ⟩:=hJ;obtain⟨u18,hJ⟩:=hJ;obtain⟨u19,hJ⟩:=hJ;obtain⟨u20,hJ⟩:=hJ;obtain⟨u21,hJ⟩:=hJ;obtain⟨u22,hJ⟩:=hJ;obtain⟨u23,hJ⟩:=hJ;obtain⟨u24,hJ⟩:=hJ;obtain⟨u25,hJ⟩:=hJ;obtain⟨u26,hJ⟩:=hJ;obtain⟨u27,hJ⟩:=hJ;obtain⟨u28,hJ⟩:=hJ;obtain⟨u29,hJ⟩:=hJ;obtain⟨u30,hJ⟩:=hJ;obtain⟨u31,hJ⟩:=hJ;obtain⟨u32,hJ⟩:=hJ;obtain⟨u33,hJ⟩:=hJ;obtain⟨u34,hJ⟩:=hJ;obtain⟨u35,hJ⟩:=hJ;obtain⟨u36,hJ⟩:=hJ;obtain⟨u37,hJ⟩:=hJ;obtain⟨u38,hJ⟩:=hJ;obtain⟨u39,hJ⟩:=hJ;obtain⟨u40,hJ⟩:=hJ;obtain⟨u41,hJ⟩:=hJ;obtain⟨u42,hJ⟩:=hJ;obtain⟨u43,hJ⟩:=hJ;obtain⟨u44,hJ⟩:=hJ;obtain⟨u45,hJ⟩:=hJ;obtain⟨u46,hJ⟩:=hJ;obtain⟨u47,hJ⟩:=hJ;obtain⟨u48,hJ⟩:=hJ;obtain⟨u49,hJ⟩:=hJ;obtain⟨u50,hJ⟩:=hJ;obtain⟨u51,hJ⟩:=hJ;obtain⟨u52,hJ⟩:=hJ;obtain⟨u53,hJ⟩:=hJ;obtain⟨u54,hJ⟩:=hJ;obtain⟨u55,hJ⟩:=hJ;obtain⟨u56,hJ⟩:=hJ;obtain⟨u57,hJ⟩:=hJ;obtain⟨u58,hJ⟩:=hJ;obtain⟨u59,hJ⟩:=hJ;obtain⟨u60,hJ⟩:=hJ;obtain⟨u61,hJ⟩:=hJ;obtain⟨u62,hJ⟩:=hJ;obtain⟨u63,hJ⟩:=hJ;obtain⟨u64,hJ⟩:=hJ;obtain⟨u65,hJ⟩:=hJ;obtain⟨u66,hJ⟩:=hJ;obtain⟨u67,hJ⟩:=hJ;obtain⟨u68,hJ⟩:=hJ;obtain⟨u69,hJ⟩:=hJ;obtain⟨u70,hJ⟩:=hJ;obtain⟨u71,hJ⟩:=hJ;obtain⟨u72,hJ⟩:=hJ;obtain⟨u73,hJ⟩:=hJ;obtain⟨u74,hJ⟩:=hJ;obtain⟨u75,hJ⟩:=hJ;obtain⟨u76,hJ⟩:=hJ;obtain⟨u77,hJ⟩:=hJ;obtain⟨u78,hJ⟩:=hJ;obtain⟨u79,hJ⟩:=hJ;obtain⟨u80,hJ⟩:=hJ;obtain⟨u81,hJ⟩:=hJ;obtain⟨u82,hJ⟩:=hJ;obtain⟨u83,hJ⟩:=hJ;obtain⟨u84,hJ⟩:=hJ;obtain⟨u85,hJ⟩:=hJ;obtain⟨u86,hJ⟩:=hJ;obtain⟨u87,hJ⟩:=hJ;obtain⟨u88,hJ⟩:=hJ;obtain⟨u89,hJ⟩:=hJ;obtain⟨u90,hJ⟩:=hJ;obtain⟨u91,hJ⟩:=hJ;obtain⟨u92,hJ⟩:=hJ;obtain⟨u93,hJ⟩:=hJ;obtain⟨u94,hJ⟩:=hJ;obtain⟨u95,hJ⟩:=hJ;obtain⟨u96,hJ⟩:=hJ;obtain⟨u97,hJ⟩:=hJ;obtain⟨u98,hJ⟩:=hJ;obtain⟨u99,hJ⟩:=hJ;obtain⟨u100,hJ⟩:=hJ;obtain⟨u101,hJ⟩:=hJ;obtain⟨u102,hJ⟩:=hJ;obtain⟨u103,hJ⟩:=hJ;obtain⟨u104,hJ⟩:=hJ;obtain⟨u105,hJ⟩:=hJ;obtain⟨u106,hJ⟩:=hJ;obtain⟨u107,hJ⟩:=hJ;obtain⟨u108,hJ⟩:=hJ;obtain⟨u109,hJ⟩:=hJ;obtain⟨u110,hJ⟩:=hJ;obtain⟨u111,hJ⟩:=hJ;obtain⟨u112,hJ⟩:=hJ;obtain⟨u113,hJ⟩:=hJ;obtain⟨u114,hJ⟩:=hJ;obtain⟨u115,hJ⟩:=hJ;obtain⟨u116,hJ⟩:=hJ;obtain⟨u117,hJ⟩:=hJ;obtain⟨u118,hJ⟩:=hJ;obtain⟨u119,hJ⟩:=hJ;obtain⟨u120,hJ⟩:=hJ;obtain⟨u121,hJ⟩:=hJ;obtain⟨u122,hJ⟩:=hJ;obtain⟨u123,hJ⟩:=hJ;obtain⟨u124,hJ⟩:=hJ;obtain⟨u125,hJ⟩:=hJ;obtain⟨hrel,ha⟩:=hJ;subst ha
 obtain⟨rfl,hgap,hs1,hsN,hst,HT⟩:=hrel
 obtain⟨hR,hT,hown,-,-,hb⟩:=hst
 have hsf:=fun w=>Tryz.strings_HasSuffix gap ⟨#[47]⟩ w (by omega)
 obtain⟨cl,hcl⟩:∃ cl,cl=[47].isSuffixOf (bl gap):=⟨_,rfl⟩
 have hsf:∀ w,Calls Tryz.prog 91 #[.string gap,.string ⟨#[47]⟩] w fun e w'=>e=.returned (.bool cl)/\w'=w:=by
  intro w
  rw[hcl]
  exact hsf w
 rw[<-hcl] at HT
 clear hcl
 have hex:=hide (ext_drop s 1)
 obtain⟨ap,am,ac,rfl⟩:=own_slice hown
 refine⟨_,rfl,?_⟩
 cases start
 ·have t0:wr.cell? ⟨w0.heap.size+1,0,none⟩=some (.int .i64 3):=tag_cell hT 0 _ rfl
  have t1:wr.cell? ⟨w0.heap.size+1,1,none⟩=some (.string nm):=tag_cell hT 1 _ rfl
  have t2:wr.cell? ⟨w0.heap.size+1,2,none⟩=some (.slice ap am ac):=tag_cell hT 2 _ rfl
  have t3:wr.cell? ⟨w0.heap.size+1,3,none⟩=some (.bool false):=tag_cell hT 3 _ rfl
  have t4:wr.cell? ⟨w0.heap.size+1,4,none⟩=some (.string ⟨#[]⟩):=tag_cell hT 4 _ rfl
  have g3:=tag_free hT 3
  have c0:=tag_cell hR 0 _ rfl
  have c1:=tag_cell hR 1 _ rfl
  have c2:=tag_cell hR 2 _ rfl
  have c3:=tag_cell hR 3 _ rfl
  have c4:=tag_cell hR 4 _ rfl
  have f0:=tag_free hR 0
  have f1:=tag_free hR 1
  have f2:=tag_free hR 2
  have f3:=tag_free hR 3
  have f4:=tag_free hR 4
  have hne:∀ v,(wr.setCell ⟨w0.heap.size+1,3,none⟩ v).heap[w0.heap.size]?=wr.heap[w0.heap.size]?:=fun v=>Below.heap_setCell _ _ _ _ (by simp)
  have HB:=fun v=>(hne v).trans hR
  have HO:=fun v=>own_set hown hT (by decide) 3 v
  have hb2:=fun v=>hb.setCell (p:=⟨w0.heap.size+1,3,none⟩) (Nat.le_succ _) v
  clear hR hT hown hne
  have HB:=hide HB
  have HO:=hide HO
  have hb2:=hide hb2
  go_wp2
  go_region
  all_goals (try go_wp2)
  all_goals simp only[jumps]
  all_goals refine ret_tagd w0.heap.size _ _ _ _ _ _ _ rfl rfl rfl rfl (tok_five (HB.out _) _ _ _ _ _) ?_
  all_goals rw[HT.out,hex.out]
  all_goals exact⟨_,rfl,(own_five (HO.out _) (HB.out _) (by decide) _ _ _ _ _).drew,(below_five (hb2.out _) (Nat.le_refl _) _ _ _ _ _).drew⟩
 ·have t0:wr.cell? ⟨w0.heap.size+1,0,none⟩=some (.int .i64 2):=tag_cell hT 0 _ rfl
  have t1:wr.cell? ⟨w0.heap.size+1,1,none⟩=some (.string nm):=tag_cell hT 1 _ rfl
  have t2:wr.cell? ⟨w0.heap.size+1,2,none⟩=some (.slice ap am ac):=tag_cell hT 2 _ rfl
  have t3:wr.cell? ⟨w0.heap.size+1,3,none⟩=some (.bool false):=tag_cell hT 3 _ rfl
  have t4:wr.cell? ⟨w0.heap.size+1,4,none⟩=some (.string ⟨#[]⟩):=tag_cell hT 4 _ rfl
  have g3:=tag_free hT 3
  have c0:=tag_cell hR 0 _ rfl
  have c1:=tag_cell hR 1 _ rfl
  have c2:=tag_cell hR 2 _ rfl
  have c3:=tag_cell hR 3 _ rfl
  have c4:=tag_cell hR 4 _ rfl
  have f0:=tag_free hR 0
  have f1:=tag_free hR 1
  have f2:=tag_free hR 2
  have f3:=tag_free hR 3
  have f4:=tag_free hR 4
  have hne:∀ v,(wr.setCell ⟨w0.heap.size+1,3,none⟩ v).heap[w0.heap.size]?=wr.heap[w0.heap.size]?:=fun v=>Below.heap_setCell _ _ _ _ (by simp)
  have HB:=fun v=>(hne v).trans hR
  have HO:=fun v=>own_set hown hT (by decide) 3 v
  have hb2:=fun v=>hb.setCell (p:=⟨w0.heap.size+1,3,none⟩) (Nat.le_succ _) v
  clear hR hT hown hne
  have HB:=hide HB
  have HO:=hide HO
  have hb2:=hide hb2
  go_wp2_with fail
  refine (hsf _).mono ?_
  rintro e w1 ⟨rfl,rfl⟩
  go_wp2_with fail
  go_region
  all_goals (try go_wp2)
  all_goals simp only[jumps]
  all_goals refine ret_tagd w0.heap.size _ _ _ _ _ _ _ rfl rfl rfl rfl (tok_five (HB.out _) _ _ _ _ _) ?_
  all_goals rw[HT.out,hex.out]
  all_goals exact⟨_,rfl,(own_five (HO.out _) (HB.out _) (by decide) _ _ _ _ _).drew,(below_five (hb2.out _) (Nat.le_refl _) _ _ _ _ _).drew⟩
end Go.Proofs.YtkiofbikkhhdfabGreatDoor.To
namespace Go.Proofs.YtkiofbikkhhdfabGreatDoor
open Go.RowKit
section
variable {P:Program}{ops:Array Oper}{Q:Exit->Act->World->Prop}{md:Region.Mode}{S:World->Prop}{m:Nat}
def wpU (P:Program) (md:Region.Mode) (ops:Array Oper) (Q:Exit->Act->World->Prop) (m:Nat) (S:World->Prop):Nat->Array Bool->Act->World->Prop
 | 0,listed,a,w=>Region.ready md ops listed=[]/\Q .normal a w
 | fuel+1,listed,a,w=>(Region.ready md ops listed=[]->Q .normal a w)/\∀ i∈Region.ready md ops listed,wpOp P ops Q i (fun a' w'=>if i=m then wpAny P md ops Q fuel (listed.setIfInBounds i true) a' w' else S w'/\wpU P md ops Q m S fuel (listed.setIfInBounds i true) a' w') a w
theorem wpU_any:∀ (fuel:Nat) (listed:Array Bool) (a:Act) (w:World),wpU P md ops Q m S fuel listed a w->wpAny P md ops Q fuel listed a w
 | 0,_,_,_,h=>h
 | fuel+1,_,_,_,h=>⟨h.1,fun i hi=>wpOp_mono (fun a' w' h'=>by
   by_cases e:i=m
   ·rw[if_pos e] at h'
    exact h'
   ·rw[if_neg e] at h'
    exact wpU_any fuel _ a' w' h'.2) (h.2 i hi)⟩
def waitsFor (md:Region.Mode) (ops:Array Oper) (m i:Nat):Bool:=match ops[m]? with
 | some o=>o.after.any fun e=>Region.binds md e && decide (e.on=i)
 | none=>false
theorem not_up {i:Nat}(hw:waitsFor md ops m i=true) {listed:Array Bool}(hi:i∈Region.ready md ops listed):m ∉ Region.ready md ops listed:=by
 intro hm
 obtain⟨_,o,ho,hall⟩:=mem_ready.1 hm
 have h0:=(mem_ready.1 hi).1
 unfold waitsFor at hw
 rw[ho] at hw
 obtain⟨e,he,hb⟩:=Array.any_eq_true'.1 hw
 rw[Bool.and_eq_true,decide_eq_true_eq] at hb
 have h1:=hall e he hb.1
 rw[hb.2] at h1
 rcases Nat.lt_or_ge i listed.size with h | h
 ·simp[h] at h0 h1
  rw[h0] at h1
  cases h1
 ·simp[Array.getElem?_eq_none h] at h1
theorem wpU_first {i:Nat}{oi:Oper}{v:Value}(hi:ops[i]?=some oi)(hsel:∀ (j:Nat) (o:Oper) cs b,ops[j]?=some o->o.op≠.select cs b)(hQ:∀ c a w,Q (.panic c) (a.put oi.dst v) w->Q (.panic c) a w)(hw:waitsFor md ops m i=true) :
  ∀ (fuel:Nat) (listed:Array Bool) (a:Act) (w:World),(∀ j oj,ops[j]?=some oj->j≠i->listed.getD j true=false->(∀ e∈oj.after,Region.binds md e=true->e.on≠i)->oi.apart ops oj=true) ->
   i∈Region.ready md ops listed->YieldsIf P ops S oi v a->S w->wpU P md ops Q m S fuel (listed.setIfInBounds i true) (a.put oi.dst v) w->wpU P md ops Q m S (fuel+1) listed a w
 | 0,listed,a,w,_,hr,hy,hS,H=>by
  have him:i≠m:=fun e=>not_up hw hr (e ▸ hr)
  refine⟨fun h=>(by rw[h] at hr;cases hr),fun j hj=>?_⟩
  by_cases hji:j=i
  ·subst hji
   exact hy.wpOp hi hS (by rw[if_neg him];exact⟨hS,H⟩)
  ·have h:=ready_mono hj hji
   rw[H.1] at h
   cases h
 | fuel+1,listed,a,w,hfree,hr,hy,hS,H=>by
  have him:i≠m:=fun e=>not_up hw hr (e ▸ hr)
  refine⟨fun h=>(by rw[h] at hr;cases hr),fun j hj=>?_⟩
  by_cases hji:j=i
  ·subst hji
   exact hy.wpOp hi hS (by rw[if_neg him];exact⟨hS,H⟩)
  have hjm:j≠m:=fun e=>not_up hw hr (e ▸ hj)
  obtain⟨hjun,oj,hoj,hall⟩:=mem_ready.1 hj
  have hnot:∀ e∈oj.after,Region.binds md e=true->e.on≠i:=fun e he hb heq=>by
   have h1:=hall e he hb
   have h0:=(mem_ready.1 hr).1
   rw[heq] at h1
   rcases Nat.lt_or_ge i listed.size with h' | h'
   ·simp[h'] at h0 h1
    rw[h0] at h1
    cases h1
   ·simp[Array.getElem?_eq_none h'] at h1
  have h2:=wpOp_putIf hoj (hfree j oj hoj hji hjun hnot) (fun cs b=>hsel i oi cs b hi) (fun cs b=>hsel j oj cs b hoj) hQ hy (H.2 j (ready_mono hj hji))
  refine wpOp_mono (fun a' w' h3=>?_) h2
  obtain⟨h4,h5⟩:=h3
  rw[if_neg hjm] at h5 ⊢
  refine⟨h5.1,wpU_first hi hsel hQ hw fuel _ a' w' (fun k ok hk hki hun hno=>hfree k ok hk hki ?_ hno) (ready_mono hr (Ne.symm hji)) h4 h5.1 ?_⟩
  ·by_cases hjk:j=k
   ·subst hjk
    exact hjun
   ·rw[getD_set_ne true hjk] at hun
    exact hun
  ·rw[Array.setIfInBounds_comm _ _ hji]
   exact h5.2
theorem wpU_at {i:Nat}{oi:Oper}{v:Value}{fuel:Nat}{listed:Array Bool}{a a1:Act}{w:World}(hi:ops[i]?=some oi)(hs:Region.noSelect ops=true)(hf:Region.free md ops listed i=true)(hr:(Region.ready md ops listed).contains i=true)
  (hw:waitsFor md ops m i=true)(hQ:∀ c a w,Q (.panic c) (a.put oi.dst v) w->Q (.panic c) a w)(hy:YieldsIf P ops S oi v a)(hS:S w)(ha:a.put oi.dst v=a1)(h:wpU P md ops Q m S fuel (listed.setIfInBounds i true) a1 w):wpU P md ops Q m S (fuel+1) listed a w :=
 wpU_first hi (Region.noSelect_spec hs) hQ hw fuel listed a w (Region.free_spec hi hf) (by simpa using hr) hy hS (ha ▸ h)
theorem wpU_p (i:Nat){oi:Oper}{v:Value}{fuel:Nat}{listed:Array Bool}{a a1:Act}{w:World}(hi:ops[i]?=some oi)(h:wpU P md ops Q m S fuel (listed.setIfInBounds i true) a1 w)(hwd:Region.wanted oi (yielded ops a.tmps)=true:=by rfl)(hs:Region.noSelect ops=true:=by kernel_rfl)(hf:Region.free md ops listed i=true:=by kernel_rfl)(hr:(Region.ready md ops listed).contains i=true:=by kernel_rfl)
  (hw:waitsFor md ops m i=true:=by kernel_rfl)(hy:∀ w,S w->(execOp a.eval oi).run P w=.ok (.value v) w:=by (intro w hSw;(try dsimp only at hSw);go_simp;try (with_reducible rfl)))(ha:a.put oi.dst v=a1:=by (go_simp;exact rfl))
  (hQ:∀ c a w,Q (.panic c) (a.put oi.dst v) w->Q (.panic c) a w:=by exact fun _ _ _ h=>h)(hS:S w:=by assumption):wpU P md ops Q m S (fuel+1) listed a w:=wpU_at hi hs hf hr hw hQ (Or.inl ⟨hwd,hy⟩) hS ha h
def AllU (P:Program) (md:Region.Mode) (ops:Array Oper) (Q:Exit->Act->World->Prop) (m:Nat) (S:World->Prop) (fuel:Nat) (listed:Array Bool) (a:Act) (w:World) (rs:List Nat):Prop :=
 ∀ i∈rs,wpOp P ops Q i (fun a' w'=>if i=m then wpAny P md ops Q fuel (listed.setIfInBounds i true) a' w' else S w'/\wpU P md ops Q m S fuel (listed.setIfInBounds i true) a' w') a w
theorem AllU.nil {fuel:Nat}{listed:Array Bool}{a:Act}{w:World}:AllU P md ops Q m S fuel listed a w []:=fun _ h=>by cases h
theorem AllU.cons {fuel:Nat}{listed:Array Bool}{a:Act}{w:World}{i:Nat}{o:Oper}{rs:List Nat}(hm:i≠m)(ho:ops[i]?=some o)
  (h:∀ K':Act->World->Prop,Shut (∀ a w,S w->(S w->wpU P md ops Q m S fuel (listed.setIfInBounds i true) a w)->K' a w)->if Region.wanted o (yielded ops a.tmps)=true then Oper.wp P o a w K' Q else K' (a.put o.dst undef) w)
  (hs:AllU P md ops Q m S fuel listed a w rs):AllU P md ops Q m S fuel listed a w (i :: rs):=fun j hj=>by
 rcases List.mem_cons.1 hj with rfl | hj
 ·exact wpOp_step ho (fun K' hK=>h K' (fun a w hS hW=>hK a w (by rw[if_neg hm];exact⟨hS,hW hS⟩)))
 ·exact hs j hj
theorem AllU.last {fuel:Nat}{listed:Array Bool}{a:Act}{w:World}{o:Oper}(ho:ops[m]?=some o)
  (h:∀ K':Act->World->Prop,Shut (∀ a w,wpAny P md ops Q fuel (listed.setIfInBounds m true) a w->K' a w)->if Region.wanted o (yielded ops a.tmps)=true then Oper.wp P o a w K' Q else K' (a.put o.dst undef) w):AllU P md ops Q m S fuel listed a w [m]:=fun j hj=>by
 rw[List.mem_singleton.1 hj]
 exact wpOp_step ho (fun K' hK=>h K' (fun a w hW=>hK a w (by rw[if_pos rfl];exact hW)))
theorem wpU_ready {rs:List Nat}{fuel:Nat}{listed:Array Bool}{a:Act}{w:World}(hr:Region.ready md ops listed=rs)(hne:rs≠[])(h:AllU P md ops Q m S fuel listed a w rs):wpU P md ops Q m S (fuel+1) listed a w :=
 ⟨fun h0=>absurd (hr ▸ h0) hne,hr ▸ h⟩
theorem wp_region_until {id:Nat}{a:Act}{w:World}(hm:P.follows .mixedOrders=true)(hS:S w.drew)(h:S w.drew->wpU P .any ops Q m S ops.size (Array.replicate ops.size false) a w.drew):(Code.region id ops true).wp P Q a w :=
 wp_region_any hm (wpU_any _ _ _ _ (h hS))
end
end Go.Proofs.YtkiofbikkhhdfabGreatDoor
namespace Go.Proofs.YtkiofbikkhhdfabGreatDoor.Sy
open Go.RowKit Go.WideMaps
open Utf1 Sty
theorem bat_keep {T e:TypeId}{B b:Nat}{p:Value}{bs:List Value}{w w':World}(h:Lib.BuilderAtF T e B b p bs w)(hb:Below w.heap.size w w'):Lib.BuilderAtF T e B b p bs w':=by
 have hl:=h.lt
 obtain⟨h1,v,h2,h3,h4⟩:=h
 exact⟨h1,v,(hb.block b hl).trans h2,h3.kept (row:=none) (below_grown hb) (Classical.em _),h4⟩
def PB (w0 w:World) (acc:List UInt8):Prop:=Lib.IsBuilderF 71 5 w0.heap.size w0.heap.size (Lib.byteCells acc) w
theorem PB.keep {w0 w w':World}{acc:List UInt8}(h:PB w0 w acc)(hb:Below w.heap.size w w'):PB w0 w' acc :=
 h.elim (fun x=>.inl (bat_keep x hb)) (fun x=>.inr (bat_keep x hb))
theorem PB.lt {w0 w:World}{acc:List UInt8}(h:PB w0 w acc):w0.heap.size < w.heap.size:=h.elim (fun x=>x.lt) (fun x=>x.lt)
theorem ws_st (w0 w:World) (acc:List UInt8) (s:ByteArray)(hb:Below w0.heap.size w0 w)(hu:PB w0 w acc)(hl:acc.length+s.size<=1000000000) :
  Calls Tryz.prog 59 #[.pointer (some ⟨w0.heap.size,0,none⟩),.string s] w fun e w'=>e=.returned (.tuple #[.int .i64 s.size,.nilIface])/\Hid (PB w0 w' (acc++bl s)/\Below w0.heap.size w0 w'/\Lib.OthersKept 5 (some w0.heap.size) w w'):=by
 refine (Tryz.Builder_WriteString_k w0.heap.size w0.heap.size _ s w hu (by rw[Lib.byteCells_length];omega) hb.size).mono ?_
 rintro e w' ⟨rfl,h1,b1,k1⟩
 refine⟨rfl,hide ⟨.inr ?_,hb.trans b1,k1⟩⟩
 have e:Lib.byteCells (acc++bl s)=Lib.byteCells acc++Lib.strCells s:=by rw[Lib.byteCells_append];rfl
 rw[e]
 exact h1
theorem kept_cell {w w':World}{B b:Nat}{cs:Array Value}{t:TypeId}(hk:Lib.OthersKept 5 (some B) w w')(h:w.heap[b]?=some (.cells cs t (0,0)))(hb:b≠B)(ht:t≠5):w'.heap[b]?=some (.cells cs t (0,0)) :=
 hk _ _ h (by intro e;injection e with e;exact hb e) (by intro c fz e;injection e with _ e;exact ht e)
theorem inv_new (w:World) (v:Value) :
  Inv w.heap.size v [] ((((w.alloc (.cells #[v] 22)).alloc (.cells #[.slice none 0 0] 166)).alloc (.map #[] 0)).alloc (.cells #[.map (some (w.heap.size+1+1))] 118)) /\
  Below w.heap.size w ((((w.alloc (.cells #[v] 22)).alloc (.cells #[.slice none 0 0] 166)).alloc (.map #[] 0)).alloc (.cells #[.map (some (w.heap.size+1+1))] 118)):=by
 have s1:(w.alloc (.cells #[v] 22)).heap.size=w.heap.size+1:=by simp
 have s2:((w.alloc (.cells #[v] 22)).alloc (.cells #[.slice none 0 0] 166)).heap.size=w.heap.size+2:=by simp
 have s3:(((w.alloc (.cells #[v] 22)).alloc (.cells #[.slice none 0 0] 166)).alloc (.map #[] 0)).heap.size=w.heap.size+3:=by simp
 have k1:=new_block w #[v] 22
 have k2:=new_block (w.alloc (.cells #[v] 22)) #[.slice none 0 0] 166
 have k4:=new_block (((w.alloc (.cells #[v] 22)).alloc (.cells #[.slice none 0 0] 166)).alloc (.map #[] 0)) #[.map (some (w.heap.size+1+1))] 118
 have m3:=World.ownsMap_made (H:=Unit) ((w.alloc (.cells #[v] 22)).alloc (.cells #[.slice none 0 0] 166)) Tryz.prog 9 (plainElem Tryz.prog 3)
 rw[s1] at k2
 rw[s3] at k4
 rw[s2] at m3
 refine⟨⟨?_,⟨.slice none 0 0,?_,?_⟩,k4,.map [],m3.alloc _,Maps.isMap_empty,DOk.nil _⟩,?_⟩
 ·rw[Below.heap_alloc _ _ _ (by rw[s3];omega),Below.heap_alloc _ _ _ (by rw[s2];omega),Below.heap_alloc _ _ _ (by rw[s1];omega)]
  exact k1
 ·rw[Below.heap_alloc _ _ _ (by rw[s3];omega),Below.heap_alloc _ _ _ (by rw[s2];omega)]
  exact k2
 ·exact⟨rfl,.inl ⟨rfl,rfl⟩⟩
 ·exact ((((Below.refl _ w).alloc (Nat.le_refl _) _).alloc (by rw[s1];omega) _).alloc (by rw[s2];omega) _).alloc (by rw[s3];omega) _
theorem wt_len:∀ st:List NV,st.length<=wt st
 | []=>by simp
 | x :: r=>by
  have:=wt_len r
  unfold wt at this ⊢
  simp
  omega
def BX (w1:World) (b:Nat) (X1 X2:ByteArray) (acc:L) (w:World):Prop:=PB w1 w acc/\Below w1.heap.size w1 w/\w.heap[b]?=some (.cells #[.string X1,.string X2] 169 (0,0))
theorem ws_bx (w1 w:World) (b:Nat) (X1 X2:ByteArray) (acc:L) (s:ByteArray)(h:BX w1 b X1 X2 acc w)(hb:b≠w1.heap.size)(hl:acc.length+s.size<=1000000000) :
  Calls Tryz.prog 59 #[.pointer (some ⟨w1.heap.size,0,none⟩),.string s] w fun e w'=>e=.returned (.tuple #[.int .i64 s.size,.nilIface])/\BX w1 b X1 X2 (acc++bl s) w':=by
 refine (ws_st w1 w acc s h.2.1 h.1 hl).mono ?_
 rintro e w' ⟨h1,h2⟩
 exact⟨h1,h2.out.1,h2.out.2.1,kept_cell h2.out.2.2 h.2.2 hb (by decide)⟩
theorem len_bx (w1 w:World) (acc:L)(h:PB w1 w acc) :
  Calls Tryz.prog 82 #[.pointer (some ⟨w1.heap.size,0,none⟩)] w fun e w'=>e=.returned (.int .i64 (acc.length:Int))/\w'=w:=by
 have:=Tryz.Builder_Len_f w1.heap.size w1.heap.size (Lib.byteCells acc) w h
 rw[Lib.byteCells_length] at this
 exact this
theorem last_of {D:DataW Unit}{st:List NV}(h:DOk D st) {i:Nat}{x:NV}(hx:st[i]?=some x) {c:Int}(hc:D.atKey (.string x.1) (.lit (.int .i64 0))=.lit (.int .i64 c)):(c=(i:Int)/\isLast st i)\/(c≠(i:Int)/\¬ isLast st i):=by
 obtain⟨j,h1,h2,y,h3,h4⟩:=h i x hx
 rw[h1] at hc
 have hcj:c=(j:Int):=by
  injection hc with e
  injection e with _ e
  exact e.symm
 by_cases e:j=i
 ·left
  refine⟨by rw[hcj,e],?_⟩
  intro k a b hk ha hb hab
  rw[hx] at hb
  cases hb
  obtain⟨j2,g1,g2,_⟩:=h k a ha
  rw[hab,h1] at g1
  have:j2=j:=by
   injection g1 with e'
   injection e' with _ e'
   omega
  omega
 ·right
  refine⟨by rw[hcj];omega,?_⟩
  intro hl
  exact hl j y x (by omega) h3 hx h4
theorem filter_any (s:ByteArray) (v:Value) (ss:List ByteArray)(hs:s.size<=90000)(hl:ss.length<=100000) (w:World)(hv:StrArg w v ss) :
  Calls Tryz.prog 119 #[.string s,v] w fun e w'=>e=.returned (.string ⟨(filt (ss.map bl) (bl s)).toArray⟩)/\Below w.heap.size w w':=by
 have hmm:=@run_makeMap Tryz.prog
 have hmf:∀ (fn:Fn) (first cap:Array Value) (w:World),(Instr.makeFunc fn first cap).run Tryz.prog w=.ok (.func fn first cap) w:=fun _ _ _ _=>rfl
 have hz3:∀ w:World,(zeroValue 3).run Tryz.prog w=.ok (.int .i64 0) w:=fun w=>by kernel_rfl
 obtain⟨st,hst⟩:∃ st,st=stay (ss.map bl) (bl s):=⟨_,rfl⟩
 obtain⟨n,hn⟩:∃ n,n=st.length:=⟨_,rfl⟩
 have HN:=hide hn
 have HOUT:Hid (filt (ss.map bl) (bl s)=outTo st n):=hide (by rw[hn,outTo_all,hst];rfl)
 have HWT:Hid (wt st<=300000):=hide (by
  have h1:=wt_filter (keep (ss.map bl)) (prts (bl s))
  have h2:=prts_wt (bl s)
  rw[bl_len] at h2
  rw[hst]
  unfold stay
  omega)
 have hwl:n<=300000:=by
  have h1:=HWT.out
  have h2:=wt_len st
  omega
 have HC:Hid (∀ p cap,v=.slice p ss.length cap->Calls Tryz.prog 136 #[.string s,tellV w.heap.size] ((((w.alloc (.cells #[.slice p ss.length cap] 22)).alloc (.cells #[.slice none 0 0] 166)).alloc (.map #[] 0)).alloc (.cells #[.map (some (w.heap.size+1+1))] 118)) fun e w'=>e=.returned (.tuple #[])/\Hid (Inv w.heap.size v st w'/\Below w.heap.size w w')):=hide (by
  intro p cap e
  obtain⟨h1,h2⟩:=inv_new w v
  rw[<-e]
  refine (each_any w.heap.size v ss s w _ rfl h1 hv h2 hs hl).mono ?_
  rintro e w' ⟨h3,h4,h5⟩
  exact⟨h3,hide ⟨by rw[hst];exact h4,h2.trans h5⟩⟩)
 rw[HOUT.out]
 obtain⟨p,cap,rfl,-,-⟩:=hv
 have HC:=hide (HC.out p cap rfl)
 clear hst HOUT hn
 go_enter Tryz.func119,Tryz.ntmps119
 go_wp2_with fail
 refine HC.out.mono ?_
 rintro e w1 ⟨rfl,HI⟩
 clear HC hmm hmf
 have hb1:Below w1.heap.size w1 (w1.alloc (.cells #[.pointer none,.slice none 0 0] 71)):=(Below.refl _ _).alloc (Nat.le_refl _) _
 have HB1:=hide hb1
 have HU1:Hid (PB w1 (w1.alloc (.cells #[.pointer none,.slice none 0 0] 71)) []):=hide (Lib.IsBuilderF.of (Lib.fresh_isBuilder 71 5 w1))
 obtain⟨u,hsb,hown⟩:=HI.out.1.sb
 obtain⟨sp,sc,rfl⟩:∃ sp sc,u=.slice sp n sc:=by
  rcases hown.2 with⟨rfl,h0⟩ | ⟨g,cap,cur,rfl,_⟩
  ·exact⟨none,0,by rw[HN.out,h0]⟩
  ·exact⟨_,_,by rw[HN.out]⟩
 have cS:=cell_keep (cell_of_one hsb) hb1
 have HOW:=hide hown
 clear hsb hown hb1
 go_wp2_with fail
 clear cS
 go_loopg [16] n (fun g v16 wr=>∃ i:Nat,i+g=n/\v16=.int .i64 (i:Int)/\Hid (PB w1 wr (outTo st i)/\Below w1.heap.size w1 wr))
 case atStart=>exact⟨0,by omega,rfl,hide ⟨HU1.out,HB1.out⟩⟩
 case round =>
  obtain⟨i,hi,rfl,HR⟩:=hrel
  clear HU1 HB1
  by_cases hlt:i < n
  ·obtain⟨x,hx⟩:∃ x,st[i]?=some x:=⟨_,List.getElem?_eq_getElem (by rw[<-HN.out];exact hlt)⟩
   obtain⟨g,rfl⟩:∃ g,sp=some ⟨g,0,none⟩:=by
    rcases HOW.out.2 with⟨e,h0⟩ | ⟨g,cap,cur,e,_⟩
    ·have:=HN.out;omega
    ·injection e with e;exact⟨g,e⟩
   obtain⟨r0,r1⟩:=rowV_at st i x hx
   have hos:=HOW.out
   rw[<-HN.out] at hos
   have x0:=hos.cellAt (2*i) (by omega)
   have x1:=hos.cellAt (2*i+1) (by omega)
   rw[r0] at x0
   rw[r1] at x1
   have x0:=cell_keep x0 HR.out.2
   have x1:=cell_keep x1 HR.out.2
   rw[show 2*i=i*2 by omega] at x0 x1
   have hwi:(outTo st i).length+(x.1.length+x.2.length+4)<=300000:=by
    have h1:=outTo_len st i
    have h2:=wt_take st (i+1)
    have hw:wt (st.take (i+1))=wt (st.take i)+(x.1.length+x.2.length+4):=by
     rw[List.take_add_one,hx]
     unfold wt
     simp
    have h3:=HWT.out
    omega
   obtain⟨w2,hw2⟩:∃ w2,w2=wr.alloc (.cells #[.string ⟨x.1.toArray⟩,.string ⟨x.2.toArray⟩] 169):=⟨_,rfl⟩
   have hb2:Below wr.heap.size wr w2:=by rw[hw2];exact (Below.refl _ _).alloc (Nat.le_refl _) _
   have hb12:Below w1.heap.size w1 w2:=HR.out.2.trans (hb2.mono HR.out.2.size)
   have hbx:w2.heap[wr.heap.size]?=some (.cells #[.string ⟨x.1.toArray⟩,.string ⟨x.2.toArray⟩] 169 (0,0)):=by rw[hw2];exact new_block _ _ _
   have hlt1:=HR.out.1.lt
   have hI2:=HI.out.1.keep hb12
   have cM:=cell_of_one hI2.mb
   obtain⟨D,hmap,-,hok⟩:=hI2.mp
   obtain⟨c,hlk,hat,wc⟩:=hmap.lookup_int (Maps.string_keyed Tryz.underlying9) Tryz.underlying118 Tryz.underlying3 (hz3 _) (keyOf_string_mk (P:=Tryz.prog) Tryz.underlying9 (s:=⟨x.1.toArray⟩) (by rw[size_mk];unfold maxLen;omega))
   have HLS:=hide (last_of hok hx hat)
   have HX:Hid (BX w1 wr.heap.size ⟨x.1.toArray⟩ ⟨x.2.toArray⟩ (outTo st i) w2):=hide ⟨HR.out.1.keep hb2,hb12,hbx⟩
   have HSZ:Hid ((⟨x.1.toArray⟩:ByteArray).size=x.1.length/\(⟨x.2.toArray⟩:ByteArray).size=x.2.length):=hide ⟨size_mk _,size_mk _⟩
   have HBL:Hid (bl ⟨x.1.toArray⟩=x.1/\bl ⟨x.2.toArray⟩=x.2):=hide ⟨rfl,rfl⟩
   have y0:=tag_cell hbx 0 _ rfl
   have HLE:=hide (outTo_last st i x · hx)
   have HLK:=hide (outTo_skip st i)
   have HWI:=hide hwi
   generalize (⟨x.1.toArray⟩:ByteArray)=X1 at *
   generalize (⟨x.2.toArray⟩:ByteArray)=X2 at *
   have HHX:=hide hx
   clear hx r0 r1 hos hb2 hb12 hbx hI2 hmap hok hat wc hwi HR
   go_upto_region 8 with fail
   rw[<-hw2]
   clear hw2 x0 x1
   rcases HLS.out with⟨hc,hlast⟩ | ⟨hc,hlast⟩
   ·subst hc
    have HEM:=hide (HLE.out hlast)
    clear HLS HLE HLK hlast
    have hne:(((i:Int)) != (i:Int))=false:=by simp
    obtain⟨acc,hacc⟩:∃ acc,acc=outTo st i:=⟨_,rfl⟩
    rw[<-hacc] at HX HEM HWI
    clear hacc
    have cl:=fun w h=>len_bx w1 w acc h
    have HCL:=hide cl
    clear cl
    by_cases ha:acc=[]
    ·subst ha
     have HE2:Hid (outTo st (i+1)=[]++bl X1++bl ⟨#[58,32]⟩++bl X2):=hide (by rw[HEM.out,HBL.out.1,HBL.out.2];rfl)
     have CL:=hide (HCL.out w2 HX.out.1)
     have C1:=hide (ws_bx w1 w2 wr.heap.size X1 X2 [] X1 HX.out (by omega) (by have h1:=HWI.out;have h2:=HSZ.out;simp;omega))
     clear HCL HEM
     go_wp2_with fail
     refine CL.out.mono ?_
     rintro e w3 ⟨rfl,rfl⟩
     clear CL
     go_wp2_with fail
     refine C1.out.mono ?_
     rintro e w4 ⟨rfl,h4⟩
     have C2:=hide (ws_bx w1 w4 wr.heap.size X1 X2 _ ⟨#[58,32]⟩ h4 (by omega) (by have h1:=HWI.out;have h2:=HSZ.out;simp only[List.length_append,bl_len];show _+2<=_;simp;omega))
     clear C1 HX y0 h4
     go_wp2_with fail
     refine C2.out.mono ?_
     rintro e w5 ⟨rfl,h5⟩
     have y1:=tag_cell h5.2.2 1 _ rfl
     have C3:=hide (ws_bx w1 w5 wr.heap.size X1 X2 _ X2 h5 (by omega) (by have h1:=HWI.out;have h2:=HSZ.out;simp only[List.length_append,bl_len];show _+2+_<=_;simp;omega))
     clear C2 h5
     go_wp2_with fail
     refine C3.out.mono ?_
     rintro e w6 ⟨rfl,h6⟩
     have HR2:Hid (PB w1 w6 (outTo st (i+1))/\Below w1.heap.size w1 w6):=hide ⟨by rw[HE2.out];exact h6.1,h6.2.1⟩
     clear C3 h6 y1
     go_wp2_with fail
     go_roundg (gk - 1)
     case measure=>omega
     case rel=>exact⟨i+1,by omega,by first | rfl | simp,HR2⟩
    ·have HE2:Hid (outTo st (i+1)=acc++bl ⟨#[59,32]⟩++bl X1++bl ⟨#[58,32]⟩++bl X2):=hide (by rw[HEM.out,HBL.out.1,HBL.out.2];unfold emit;rw[if_neg ha])
     have CL:=hide (HCL.out w2 HX.out.1)
     have C0:=hide (ws_bx w1 w2 wr.heap.size X1 X2 acc ⟨#[59,32]⟩ HX.out (by omega) (by have h1:=HWI.out;show _+2<=_;omega))
     have hpos:0 < acc.length:=List.length_pos_iff.2 ha
     generalize hal:acc.length=al at *
     have hgt:decide ((0:Int) < (al:Int))=true:=decide_eq_true (by omega)
     have HAL:=hide hal
     clear HCL HEM ha hal
     go_wp2_with fail
     refine CL.out.mono ?_
     rintro e w3 ⟨rfl,rfl⟩
     clear CL y0
     go_wp2_with fail
     refine C0.out.mono ?_
     rintro e w4 ⟨rfl,h4⟩
     have y0:=tag_cell h4.2.2 0 _ rfl
     have C1:=hide (ws_bx w1 w4 wr.heap.size X1 X2 _ X1 h4 (by omega) (by have h1:=HWI.out;have h2:=HSZ.out;rw[List.length_append,bl_len,HAL.out];show _+2+_<=_;omega))
     clear C0 HX h4
     go_wp2_with fail
     refine C1.out.mono ?_
     rintro e w5 ⟨rfl,h5⟩
     have C2:=hide (ws_bx w1 w5 wr.heap.size X1 X2 _ ⟨#[58,32]⟩ h5 (by omega) (by have h1:=HWI.out;have h2:=HSZ.out;rw[List.length_append,List.length_append,bl_len,bl_len,HAL.out];show _+2+_+2<=_;omega))
     clear C1 h5 y0
     go_wp2_with fail
     refine C2.out.mono ?_
     rintro e w6 ⟨rfl,h6⟩
     have y1:=tag_cell h6.2.2 1 _ rfl
     have C3:=hide (ws_bx w1 w6 wr.heap.size X1 X2 _ X2 h6 (by omega) (by have h1:=HWI.out;have h2:=HSZ.out;rw[List.length_append,List.length_append,List.length_append,bl_len,bl_len,bl_len,HAL.out];show _+2+_+2+_<=_;omega))
     clear C2 h6
     go_wp2_with fail
     refine C3.out.mono ?_
     rintro e w7 ⟨rfl,h7⟩
     have HR2:Hid (PB w1 w7 (outTo st (i+1))/\Below w1.heap.size w1 w7):=hide ⟨by rw[HE2.out];exact h7.1,h7.2.1⟩
     clear C3 h7 y1
     go_wp2_with fail
     go_roundg (gk - 1)
     case measure=>omega
     case rel=>exact⟨i+1,by omega,by first | rfl | simp,HR2⟩
   ·have hne:(c != (i:Int))=true:=by simpa using hc
    have HR2:Hid (PB w1 w2 (outTo st (i+1))/\Below w1.heap.size w1 w2):=hide ⟨by rw[HLK.out hlast];exact HX.out.1,HX.out.2.1⟩
    clear HLS HLE HLK hlast hc HX
    go_wp2_with fail
    go_roundg (gk - 1)
    case measure=>omega
    case rel=>exact⟨i+1,by omega,by first | rfl | simp,HR2⟩
  ·have hin:i=n:=by omega
   subst hin
   have HS:=hide (Tryz.Builder_String_any_k w1.heap.size w1.heap.size (outTo st i) wr HR.out.1 HR.out.2.size)
   go_wp2_with fail
   refine HS.out.mono ?_
   rintro e w3 ⟨rfl,_,m2,_⟩
   have HB3:=hide (HI.out.2.trans ((HR.out.2.trans m2).mono HI.out.2.size))
   clear m2 HS HR
   go_wp2_with fail
   go_ret
   exact⟨rfl,HB3.out⟩
end Go.Proofs.YtkiofbikkhhdfabGreatDoor.Sy
