import Derived.Test.YtkiofbikkhhdfaaGreatDoorK10
import Derived.ScopeJumps
import Derived.Maps.Own
import Derived.Maps.OwnOps
import Derived.Maps.Views
import Derived.Deep.RegionWith
namespace Go.Proofs.YtkiofbikkhhdfaaGreatDoor.To
open Go.RowKit
open Utf1
def jumps (J:Nat->Act->World->Prop) (Q:Exit->Act->World->Prop):Exit->Act->World->Prop
 | .goto l,a,w=>J l a w
 | e,a,w=>Q e a w
theorem jumps_mono {J J':Nat->Act->World->Prop}{Q:Exit->Act->World->Prop}(h:∀ l a w,J l a w->J' l a w):∀ e a w,jumps J Q e a w->jumps J' Q e a w:=by
 intro e a w hq
 cases e with
 | goto l=>exact h l a w hq
 | normal=>exact hq
 | exit id=>exact hq
 | ret=>exact hq
 | panic ch=>exact hq
 | outgrown=>exact hq
theorem wp_scope_all {P:Program}{a:Act}{w:World}{Q:Exit->Act->World->Prop}{c:Code}(J:Nat->Nat->Act->World->Prop)
  (pass:∀ n l a w,J n l a w->∃ rest,findLabel c l=some rest/\rest.wp P (jumps (fun l' a' w'=>∃ n',n' < n/\J n' l' a' w') Q) a w)
  (first:c.wp P (jumps (fun l a' w'=>∃ n,J n l a' w') Q) a w):(Code.scope c).wp P Q a w:=by
 intro b k cs
 have hg:∀ l rest,findLabel c l=some rest->gotoIn l (.inScope c :: k)=some (.code rest :: .inScope c :: k):=by
  intro l rest hf
  simp[gotoIn,hf]
 have key:∀ n l a w rest,J n l a w->findLabel c l=some rest->rest.wp P (jumps (fun l' a' w'=>∃ n',n' < n/\J n' l' a' w') Q) a w->∃ e a' w',Q e a' w'/\Arrives P (lone (b.at a (.code rest :: .inScope c :: k)) cs w) b k cs e a' w':=by
  intro n
  induction n using Nat.strongRecOn with
  | _ n ih =>
   intro l a w rest hJ hf hr
   obtain⟨e,a₁,w₁,hq,harr⟩:=hr b (.inScope c :: k) cs
   cases e with
   | normal=>exact⟨.normal,a₁,w₁,hq,Steps.trans harr (.one step_inScope)⟩
   | exit id=>exact⟨.exit id,a₁,w₁,hq,fun k' hk=>harr k' (by simp[exitTo,hk])⟩
   | goto l' =>
    obtain⟨n',hlt,hJ'⟩:=hq
    obtain⟨rest',hf',hr'⟩:=pass n' l' a₁ w₁ hJ'
    obtain⟨e₂,a₂,w₂,hq₂,harr₂⟩:=ih n' hlt l' a₁ w₁ rest' hJ' hf' hr'
    exact⟨e₂,a₂,w₂,hq₂,.of_steps (harr _ (hg l' rest' hf')) harr₂⟩
   | ret=>exact⟨_,a₁,w₁,hq,harr⟩
   | panic ch=>exact⟨_,a₁,w₁,hq,harr⟩
   | outgrown=>exact⟨_,a₁,w₁,hq,harr⟩
 obtain⟨e,a₁,w₁,hq,harr⟩:=first b (.inScope c :: k) cs
 cases e with
 | normal=>exact⟨.normal,a₁,w₁,hq,.head step_scope (Steps.trans harr (.one step_inScope))⟩
 | exit id=>exact⟨.exit id,a₁,w₁,hq,fun k' hk=>.head step_scope (harr k' (by simp[exitTo,hk]))⟩
 | goto l' =>
  obtain⟨n',hJ'⟩:=hq
  obtain⟨rest',hf',hr'⟩:=pass n' l' a₁ w₁ hJ'
  obtain⟨e₂,a₂,w₂,hq₂,harr₂⟩:=key n' l' a₁ w₁ rest' hJ' hf' hr'
  exact⟨e₂,a₂,w₂,hq₂,.of_steps (.head step_scope (harr _ (hg l' rest' hf'))) harr₂⟩
 | ret=>exact⟨_,a₁,w₁,hq,.of_steps (.one step_scope) harr⟩
 | panic ch=>exact⟨_,a₁,w₁,hq,.of_steps (.one step_scope) harr⟩
 | outgrown=>exact⟨_,a₁,w₁,hq,.of_steps (.one step_scope) harr⟩
def inScopes:Code->Option Code
 | .scope c=>some c
 | .seq a b=>(inScopes a).or (inScopes b)
 | _=>none
noncomputable def tagCode:Code:=((Tryz.f62.body).bind inScopes).getD .skip
def attrCells:List (List UInt8 × List UInt8)->List Value
 | []=>[]
 | p :: r=>.string ⟨p.1.toArray⟩ :: .string ⟨p.2.toArray⟩ :: attrCells r
theorem attrCells_app:∀ a b,attrCells (a++b)=attrCells a++attrCells b
 | [],_=>rfl
 | p :: r,b=>by
  simp only[attrCells,List.cons_append,attrCells_app r b]
def atts (start:Bool) (acc:List (List UInt8 × List UInt8)):List (List UInt8 × List UInt8):=if start then acc else []
def mkTk (start:Bool) (nm:ByteArray) (x:List (List UInt8 × List UInt8) × Bool × List UInt8):Tk × List UInt8:=(if start then ⟨2,bl nm,x.1,x.2.1,[]⟩ else ⟨3,bl nm,[],false,[]⟩,x.2.2)
def Met (D:DataW Unit) (ns:List (List UInt8)) (k:Nat):Prop:=∀ n:List UInt8,∃ c:Int,D.atKey (.string n) (.lit (.int .i64 0))=.lit (.int .i64 c)/\0<=c/\c<=(k:Int)/\(c=0 ↔ n ∉ ns)
def TagSt (w0 wr:World) (start:Bool) (nm:ByteArray) (acc:List (List UInt8 × List UInt8)) (k:Nat) (av:Value):Prop :=
 wr.heap[w0.heap.size]?=some (.cells #[.int .i64 0,.string ⟨#[]⟩,.slice none 0 0,.bool false,.string ⟨#[]⟩] 81 (0,0)) /\
 wr.heap[w0.heap.size+1]?=some (.cells #[.int .i64 (if start then 2 else 3),.string nm,av,.bool false,.string ⟨#[]⟩] 81 (0,0)) /\
 wr.ownsRow w0.heap.size 117 2 av (atts start acc).length (attrCells (atts start acc)) /\
 (∃ D:DataW Unit,wr.ownsMap Tryz.prog 9 (plainElem Tryz.prog 3) (w0.heap.size+2) k D/\Maps.IsMap D/\Met D (acc.map Prod.fst) k) /\
 acc.length<=k/\Below w0.heap.size w0 wr
theorem TagSt.below {w0 wr w1:World}{start:Bool}{nm:ByteArray}{acc:List (List UInt8 × List UInt8)}{k:Nat}{av:Value}(h:TagSt w0 wr start nm acc k av)(hb:Below wr.heap.size wr w1):TagSt w0 w1 start nm acc k av:=by
 obtain⟨h1,h2,h3,⟨D,h4,h5⟩,h6,h7⟩:=h
 refine⟨(hb.block _ (lt_of_block h1)).trans h1,(hb.block _ (lt_of_block h2)).trans h2,h3.kept (below_grown hb) ?_,⟨D,h4.kept (below_grown hb) (by simp),h5⟩,h6,h7.trans (hb.mono h7.size)⟩
 cases v:av.ownBlock with
 | none=>exact .inl rfl
 | some g=>exact .inr (by simp)
theorem tag_free {w:World}{b:Nat}{cs:Array Value}{t:TypeId}(h:w.heap[b]?=some (.cells cs t (0,0))) (i:Nat):w.frozen? ⟨b,i,none⟩=false:=by
 simp[World.frozen?,h]
def TagPost (tg:Option (Tk × List UInt8)) (w:World) (e:Ending) (w':World):Prop :=
 match tg with
 | none=>e=.returned (.tuple #[.agg #[.int .i64 0,.string ⟨#[]⟩,.slice none 0 0,.bool false,.string ⟨#[]⟩],.string ⟨#[]⟩,.bool false])/\Below w.heap.size w w'
 | some (t,r)=>∃ av,e=.returned (.tuple #[.agg #[.int .i64 (t.kind:Int),.string ⟨t.name.toArray⟩,av,.bool t.closed,.string ⟨t.text.toArray⟩],.string ⟨r.toArray⟩,.bool true])/\w'.ownsRow w.heap.size 117 2 av t.attrs.length (attrCells t.attrs)/\Below w.heap.size w w'
theorem results_cell3 {fn:Func}{p u v:Tmp}{ty:TypeId}(h:fn.results=#[.cell p ty,.tmp u,.tmp v]) (tmps:Array Value) (P:Program) (w:World) :
  (results fn tmps).run P w =
   ((asAddr (tmps.getD p undef)).run P w).andThen fun a w₁=>((loadVar ty a).run P w₁).andThen fun x w₂=>.ok (.tuple #[x,tmps.getD u undef,tmps.getD v undef]) w₂:=by
 simp only[results,h]
 simp[Sem.run_bind,Result.andThen]
theorem load_tok (w:World) (b:Nat) (v0 v1 v2 v3 v4:Value)(h:w.heap[b]?=some (.cells #[v0,v1,v2,v3,v4] 81 (0,0))):(loadVar 81 ⟨b,0,none⟩).run Tryz.prog w=.ok (.agg #[v0,v1,v2,v3,v4]) w:=by
 have c0:w.cell? ⟨b,0,none⟩=some v0:=tag_cell h 0 _ rfl
 have c1:w.cell? ⟨b,1,none⟩=some v1:=tag_cell h 1 _ rfl
 have c2:w.cell? ⟨b,2,none⟩=some v2:=tag_cell h 2 _ rfl
 have c3:w.cell? ⟨b,3,none⟩=some v3:=tag_cell h 3 _ rfl
 have c4:w.cell? ⟨b,4,none⟩=some v4:=tag_cell h 4 _ rfl
 clear h
 go_simp
theorem ret_tag {R:Ending->World->Prop}{a:Act}{w:World}(b:Nat) (v0 v1 v2 v3 v4 x y:Value)(hd:a.defers=[])(h2:a.tmps.getD 2 undef=.pointer (some ⟨b,0,none⟩))(h3:a.tmps.getD 3 undef=x)(h4:a.tmps.getD 4 undef=y)
  (h:w.heap[b]?=some (.cells #[v0,v1,v2,v3,v4] 81 (0,0)))(hR:R (.returned (.tuple #[.agg #[v0,v1,v2,v3,v4],x,y])) w):bodyPost Tryz.prog Tryz.f62 R .ret a w:=by
 refine bodyPost_ret (v:=.tuple #[.agg #[v0,v1,v2,v3,v4],x,y]) ?_ hd hR
 rw[results_cell3 (p:=2) (u:=3) (v:=4) (ty:=81) rfl,h2,h3,h4]
 have e:(asAddr (.pointer (some ⟨b,0,none⟩))).run Tryz.prog w=.ok ⟨b,0,none⟩ w:=by rfl
 rw[e]
 simp only[Result.andThen]
 rw[load_tok w b v0 v1 v2 v3 v4 h]
theorem ret_tagd {R:Ending->World->Prop}{a:Act}{w:World}(b:Nat) (v0 v1 v2 v3 v4 x y:Value)(hd:a.defers=[])(h2:a.tmps.getD 2 undef=.pointer (some ⟨b,0,none⟩))(h3:a.tmps.getD 3 undef=x)(h4:a.tmps.getD 4 undef=y)
  (h:w.heap[b]?=some (.cells #[v0,v1,v2,v3,v4] 81 (0,0)))(hR:R (.returned (.tuple #[.agg #[v0,v1,v2,v3,v4],x,y])) w.drew):bodyPost Tryz.prog Tryz.f62 R .ret a w.drew :=
 ret_tag b v0 v1 v2 v3 v4 x y hd h2 h3 h4 h hR
theorem tok_set {w:World}{b:Nat}{cs:Array Value}{t:TypeId}(h:w.heap[b]?=some (.cells cs t (0,0))) (j:Nat) (v:Value):(w.setCell ⟨b,j,none⟩ v).heap[b]?=some (.cells (cs.setIfInBounds j v) t (0,0)):=by
 simp[World.setCell,Array.getElem?_modify,h]
theorem tok_five {w:World}{b:Nat}{o0 o1 o2 o3 o4:Value}{t:TypeId}(h:w.heap[b]?=some (.cells #[o0,o1,o2,o3,o4] t (0,0))) (v0 v1 v2 v3 v4:Value) :
  (((((w.setCell ⟨b,0,none⟩ v0).setCell ⟨b,1,none⟩ v1).setCell ⟨b,2,none⟩ v2).setCell ⟨b,3,none⟩ v3).setCell ⟨b,4,none⟩ v4).heap[b]?=some (.cells #[v0,v1,v2,v3,v4] t (0,0)) :=
 tok_set (tok_set (tok_set (tok_set (tok_set h 0 v0) 1 v1) 2 v2) 3 v3) 4 v4
theorem below_five {B:Nat}{w0 w:World}{b:Nat}(h:Below B w0 w)(hb:B<=b) (v0 v1 v2 v3 v4:Value) :
  Below B w0 (((((w.setCell ⟨b,0,none⟩ v0).setCell ⟨b,1,none⟩ v1).setCell ⟨b,2,none⟩ v2).setCell ⟨b,3,none⟩ v3).setCell ⟨b,4,none⟩ v4) :=
 (((((h.setCell (p:=⟨b,0,none⟩) hb v0).setCell (p:=⟨b,1,none⟩) hb v1).setCell (p:=⟨b,2,none⟩) hb v2).setCell (p:=⟨b,3,none⟩) hb v3).setCell (p:=⟨b,4,none⟩) hb v4)
theorem own_slice {w:World}{base:Nat}{e:TypeId}{size:Nat}{v:Value}{n:Nat}{xs:List Value}(h:w.ownsRow base e size v n xs):∃ p m c,v=.slice p m c:=by
 obtain⟨_,⟨rfl,_⟩ | ⟨g,cap,cur,rfl,_⟩⟩:=h
 ·exact⟨_,_,_,rfl⟩
 ·exact⟨_,_,_,rfl⟩
theorem own_apart {w:World}{base:Nat}{e t:TypeId}{size:Nat}{v:Value}{n b:Nat}{xs:List Value}{cs:Array Value}{fz:Nat × Nat}(h:w.ownsRow base e size v n xs)(hb:w.heap[b]?=some (.cells cs t fz))(hne:e≠t):v.ownBlock≠some b:=by
 obtain⟨_,⟨rfl,_⟩ | ⟨g,cap,cur,rfl,_,hg,_⟩⟩:=h
 ·simp[Value.ownBlock]
 ·intro e1
  have:g=b:=by simpa [Value.ownBlock] using e1
  subst this
  rw[hg] at hb
  simp at hb
  exact hne hb.2.1
theorem own_set {w:World}{base:Nat}{e t:TypeId}{size:Nat}{v:Value}{n b:Nat}{xs:List Value}{cs:Array Value}{fz:Nat × Nat}(h:w.ownsRow base e size v n xs)(hb:w.heap[b]?=some (.cells cs t fz))(hne:e≠t) (j:Nat) (u:Value):(w.setCell ⟨b,j,none⟩ u).ownsRow base e size v n xs :=
 ownsRow_setCell_other h (own_apart h hb hne) u
theorem own_five {w:World}{base:Nat}{e t:TypeId}{size:Nat}{v:Value}{n b:Nat}{xs:List Value}{o0 o1 o2 o3 o4:Value}(h:w.ownsRow base e size v n xs)(hb:w.heap[b]?=some (.cells #[o0,o1,o2,o3,o4] t (0,0)))(hne:e≠t) (v0 v1 v2 v3 v4:Value) :
  (((((w.setCell ⟨b,0,none⟩ v0).setCell ⟨b,1,none⟩ v1).setCell ⟨b,2,none⟩ v2).setCell ⟨b,3,none⟩ v3).setCell ⟨b,4,none⟩ v4).ownsRow base e size v n xs :=
 own_set (own_set (own_set (own_set (own_set h hb hne 0 v0) (tok_set hb 0 v0) hne 1 v1) (tok_set (tok_set hb 0 v0) 1 v1) hne 2 v2) (tok_set (tok_set (tok_set hb 0 v0) 1 v1) 2 v2) hne 3 v3) (tok_set (tok_set (tok_set (tok_set hb 0 v0) 1 v1) 2 v2) 3 v3) hne 4 v4
def JBet (w0:World) (start:Bool) (nm:ByteArray) (tg:Option (Tk × List UInt8)) (N n:Nat) (a:Act) (wr:World):Prop :=
 ∃ (s:ByteArray) (acc:List (List UInt8 × List UInt8)) (k:Nat) (av:Value) (u1 u5 u6 u7 u8 u11 u12 u13 u14 u15 u16 u17 u18 u19 u20 u21 u22 u23 u24 u25 u26 u27 u28 u29 u30 u31 u32 u33 u34 u35 u36 u37 u38 u39 u40 u41 u42 u43 u44 u45 u46 u47 u48 u49 u50 u51 u52 u53 u54 u55 u56 u57 u58 u59 u60 u61 u62 u63 u64 u65 u66 u67 u68 u69 u70 u71 u72 u73 u74 u75 u76 u77 u78 u79 u80 u81 u82 u83 u84 u85 u86 u87 u88 u89 u90 u91 u92 u93 u94 u95 u96 u97 u98 u99 u100 u101 u102 u103 u104 u105 u106 u107 u108 u109 u110 u111 u112 u113 u114 u115 u116 u117 u118 u119 u120 u121 u122 u123 u124 u125:Value),(n=4*s.size+3/\s.size+k<=N/\TagSt w0 wr start nm acc k av/\Hid (tg=(attrsOf acc (bl s)).map (mkTk start nm)))/\a={ tmps:=#[.string s,u1,.pointer (some ⟨w0.heap.size,0,none⟩),.string ⟨#[]⟩,.bool false,u5,u6,u7,u8,.pointer (some ⟨w0.heap.size+1,0,none⟩),.map (some (w0.heap.size+2)),u11,u12,u13,u14,u15,u16,u17,u18,u19,u20,u21,u22,u23,u24,u25,u26,u27,u28,u29,u30,u31,u32,u33,u34,u35,u36,u37,u38,u39,u40,u41,u42,u43,u44,u45,u46,u47,u48,u49,u50,u51,u52,u53,u54,u55,u56,u57,u58,u59,u60,u61,u62,u63,u64,u65,u66,u67,u68,u69,u70,u71,u72,u73,u74,u75,u76,u77,u78,u79,u80,u81,u82,u83,u84,u85,u86,u87,u88,u89,u90,u91,u92,u93,u94,u95,u96,u97,u98,u99,u100,u101,u102,u103,u104,u105,u106,u107,u108,u109,u110,u111,u112,u113,u114,u115,u116,u117,u118,u119,u120,u121,u122,u123,u124,u125],defers:=[] }
def JNon (w0:World) (tg:Option (Tk × List UInt8)) (n:Nat) (a:Act) (wr:World):Prop :=
 ∃ (u0 u1 u5 u6 u7 u8 u11 u12 u13 u14 u15 u16 u17 u18 u19 u20 u21 u22 u23 u24 u25 u26 u27 u28 u29 u30 u31 u32 u33 u34 u35 u36 u37 u38 u39 u40 u41 u42 u43 u44 u45 u46 u47 u48 u49 u50 u51 u52 u53 u54 u55 u56 u57 u58 u59 u60 u61 u62 u63 u64 u65 u66 u67 u68 u69 u70 u71 u72 u73 u74 u75 u76 u77 u78 u79 u80 u81 u82 u83 u84 u85 u86 u87 u88 u89 u90 u91 u92 u93 u94 u95 u96 u97 u98 u99 u100 u101 u102 u103 u104 u105 u106 u107 u108 u109 u110 u111 u112 u113 u114 u115 u116 u117 u118 u119 u120 u121 u122 u123 u124 u125:Value),(n=0/\wr.heap[w0.heap.size]?=some (.cells #[.int .i64 0,.string ⟨#[]⟩,.slice none 0 0,.bool false,.string ⟨#[]⟩] 81 (0,0))/\Below w0.heap.size w0 wr/\Hid (tg=none))/\a={ tmps:=#[u0,u1,.pointer (some ⟨w0.heap.size,0,none⟩),.string ⟨#[]⟩,.bool false,u5,u6,u7,u8,.pointer (some ⟨w0.heap.size+1,0,none⟩),.map (some (w0.heap.size+2)),u11,u12,u13,u14,u15,u16,u17,u18,u19,u20,u21,u22,u23,u24,u25,u26,u27,u28,u29,u30,u31,u32,u33,u34,u35,u36,u37,u38,u39,u40,u41,u42,u43,u44,u45,u46,u47,u48,u49,u50,u51,u52,u53,u54,u55,u56,u57,u58,u59,u60,u61,u62,u63,u64,u65,u66,u67,u68,u69,u70,u71,u72,u73,u74,u75,u76,u77,u78,u79,u80,u81,u82,u83,u84,u85,u86,u87,u88,u89,u90,u91,u92,u93,u94,u95,u96,u97,u98,u99,u100,u101,u102,u103,u104,u105,u106,u107,u108,u109,u110,u111,u112,u113,u114,u115,u116,u117,u118,u119,u120,u121,u122,u123,u124,u125],defers:=[] }
def JEnd (w0:World) (start:Bool) (nm:ByteArray) (tg:Option (Tk × List UInt8)) (N n:Nat) (a:Act) (wr:World):Prop :=
 ∃ (s gap:ByteArray) (acc:List (List UInt8 × List UInt8)) (k:Nat) (av:Value) (u1 u6 u7 u8 u11 u12 u13 u14 u15 u16 u17 u18 u19 u20 u21 u22 u23 u24 u25 u26 u27 u28 u29 u30 u31 u32 u33 u34 u35 u36 u37 u38 u39 u40 u41 u42 u43 u44 u45 u46 u47 u48 u49 u50 u51 u52 u53 u54 u55 u56 u57 u58 u59 u60 u61 u62 u63 u64 u65 u66 u67 u68 u69 u70 u71 u72 u73 u74 u75 u76 u77 u78 u79 u80 u81 u82 u83 u84 u85 u86 u87 u88 u89 u90 u91 u92 u93 u94 u95 u96 u97 u98 u99 u100 u101 u102 u103 u104 u105 u106 u107 u108 u109 u110 u111 u112 u113 u114 u115 u116 u117 u118 u119 u120 u121 u122 u123 u124 u125:Value),(n=1/\gap.size<=N/\1<=s.size/\s.size<=N/\TagSt w0 wr start nm acc k av/\Hid (tg=some (mkTk start nm (acc,[47].isSuffixOf (bl gap),(bl s).drop 1))))/\a={ tmps:=#[.string s,u1,.pointer (some ⟨w0.heap.size,0,none⟩),.string ⟨#[]⟩,.bool false,.string gap,u6,u7,u8,.pointer (some ⟨w0.heap.size+1,0,none⟩),.map (some (w0.heap.size+2)),u11,u12,u13,u14,u15,u16,u17,u18,u19,u20,u21,u22,u23,u24,u25,u26,u27,u28,u29,u30,u31,u32,u33,u34,u35,u36,u37,u38,u39,u40,u41,u42,u43,u44,u45,u46,u47,u48,u49,u50,u51,u52,u53,u54,u55,u56,u57,u58,u59,u60,u61,u62,u63,u64,u65,u66,u67,u68,u69,u70,u71,u72,u73,u74,u75,u76,u77,u78,u79,u80,u81,u82,u83,u84,u85,u86,u87,u88,u89,u90,u91,u92,u93,u94,u95,u96,u97,u98,u99,u100,u101,u102,u103,u104,u105,u106,u107,u108,u109,u110,u111,u112,u113,u114,u115,u116,u117,u118,u119,u120,u121,u122,u123,u124,u125],defers:=[] }
def JKeep (w0:World) (start:Bool) (nm:ByteArray) (tg:Option (Tk × List UInt8)) (N n:Nat) (a:Act) (wr:World):Prop :=
 ∃ (s name value:ByteArray) (acc:List (List UInt8 × List UInt8)) (k:Nat) (av:Value) (u1 u5 u8 u11 u12 u13 u14 u15 u16 u17 u18 u19 u20 u21 u22 u23 u24 u25 u26 u27 u28 u29 u30 u31 u32 u33 u34 u35 u36 u37 u38 u39 u40 u41 u42 u43 u44 u45 u46 u47 u48 u49 u50 u51 u52 u53 u54 u55 u56 u57 u58 u59 u60 u61 u62 u63 u64 u65 u66 u67 u68 u69 u70 u71 u72 u73 u74 u75 u76 u77 u78 u79 u80 u81 u82 u83 u84 u85 u86 u87 u88 u89 u90 u91 u92 u93 u94 u95 u96 u97 u98 u99 u100 u101 u102 u103 u104 u105 u106 u107 u108 u109 u110 u111 u112 u113 u114 u115 u116 u117 u118 u119 u120 u121 u122 u123 u124 u125:Value),(n=4*s.size+4/\s.size+k+1<=N/\name.size<=N/\value.size<=N/\TagSt w0 wr start nm acc k av/\Hid (tg=(attrsOf (addAt acc (lower (bl name)) (res (bl value))) (bl s)).map (mkTk start nm)))/\a={ tmps:=#[.string s,u1,.pointer (some ⟨w0.heap.size,0,none⟩),.string ⟨#[]⟩,.bool false,u5,.string name,.string value,u8,.pointer (some ⟨w0.heap.size+1,0,none⟩),.map (some (w0.heap.size+2)),u11,u12,u13,u14,u15,u16,u17,u18,u19,u20,u21,u22,u23,u24,u25,u26,u27,u28,u29,u30,u31,u32,u33,u34,u35,u36,u37,u38,u39,u40,u41,u42,u43,u44,u45,u46,u47,u48,u49,u50,u51,u52,u53,u54,u55,u56,u57,u58,u59,u60,u61,u62,u63,u64,u65,u66,u67,u68,u69,u70,u71,u72,u73,u74,u75,u76,u77,u78,u79,u80,u81,u82,u83,u84,u85,u86,u87,u88,u89,u90,u91,u92,u93,u94,u95,u96,u97,u98,u99,u100,u101,u102,u103,u104,u105,u106,u107,u108,u109,u110,u111,u112,u113,u114,u115,u116,u117,u118,u119,u120,u121,u122,u123,u124,u125],defers:=[] }
def JQuo (w0:World) (start:Bool) (nm:ByteArray) (tg:Option (Tk × List UInt8)) (N n:Nat) (a:Act) (wr:World):Prop :=
 ∃ (s name:ByteArray) (q:UInt8) (v:List UInt8) (acc:List (List UInt8 × List UInt8)) (k:Nat) (av:Value) (u1 u5 u7 u8 u11 u12 u13 u14 u15 u16 u17 u18 u19 u20 u21 u22 u23 u24 u25 u26 u27 u28 u29 u30 u31 u32 u33 u34 u35 u36 u37 u38 u39 u40 u41 u42 u43 u44 u45 u46 u47 u48 u49 u50 u51 u52 u53 u54 u55 u56 u57 u58 u59 u60 u61 u62 u63 u64 u65 u66 u67 u68 u69 u70 u71 u72 u73 u74 u75 u76 u77 u78 u79 u80 u81 u82 u83 u84 u85 u86 u87 u88 u89 u90 u91 u92 u93 u94 u95 u96 u97 u98 u99 u100 u101 u102 u103 u104 u105 u106 u107 u108 u109 u110 u111 u112 u113 u114 u115 u116 u117 u118 u119 u120 u121 u122 u123 u124 u125:Value),(n=4*s.size+5/\s.size+k+1<=N/\name.size<=N/\TagSt w0 wr start nm acc k av/\Hid (bl s=q :: v)/\Hid (tg=(match v.dropWhile (fun x=>x != q) with | []=>none | _ :: r=>attrsOf (addAt acc (lower (bl name)) (res (v.takeWhile (fun x=>x != q)))) r).map (mkTk start nm)))/\a={ tmps:=#[.string s,u1,.pointer (some ⟨w0.heap.size,0,none⟩),.string ⟨#[]⟩,.bool false,u5,.string name,u7,u8,.pointer (some ⟨w0.heap.size+1,0,none⟩),.map (some (w0.heap.size+2)),u11,u12,u13,u14,u15,u16,u17,u18,u19,u20,u21,u22,u23,u24,u25,u26,u27,u28,u29,u30,u31,u32,u33,u34,u35,u36,u37,u38,u39,u40,u41,u42,u43,u44,u45,u46,u47,u48,u49,u50,u51,u52,u53,u54,u55,u56,u57,u58,u59,u60,u61,u62,u63,u64,u65,u66,u67,u68,u69,u70,u71,u72,u73,u74,u75,u76,u77,u78,u79,u80,u81,u82,u83,u84,u85,u86,u87,u88,u89,u90,u91,u92,u93,u94,u95,u96,u97,u98,u99,u100,u101,u102,u103,u104,u105,u106,u107,u108,u109,u110,u111,u112,u113,u114,u115,u116,u117,u118,u119,u120,u121,u122,u123,u124,u125],defers:=[] }
def tagJ (w0:World) (start:Bool) (nm:ByteArray) (tg:Option (Tk × List UInt8)) (N n l:Nat) (a:Act) (w:World):Prop :=
 match l with
 | 0=>JBet w0 start nm tg N n a w
 | 1=>JNon w0 tg n a w
 | 2=>JEnd w0 start nm tg N n a w
 | 3=>JKeep w0 start nm tg N n a w
 | 4=>JQuo w0 start nm tg N n a w
 | _=>False
end Go.Proofs.YtkiofbikkhhdfaaGreatDoor.To
namespace Go.Proofs.YtkiofbikkhhdfaaGreatDoor.To
open Go.RowKit
open Utf1
theorem wpAny_to {P:Program}{md:Region.Mode}{ops:Array Oper}{Q:Exit->Act->World->Prop}{i:Nat}{oi:Oper}{v:Value}{fuel:Nat}{listed:Array Bool}{a a':Act}{w:World}(hi:ops[i]?=some oi)
  (hs:Region.noSelect ops=true)(hf:Region.free md ops listed i=true)(hr:(Region.ready md ops listed).contains i=true)
  (hQ:∀ c a w,Q (.panic c) (a.put oi.dst v) w->Q (.panic c) a w)(hy:Yields P ops oi v a)(ha:a.put oi.dst v=a')
  (h:wpAny P md ops Q fuel (listed.setIfInBounds i true) a' w):wpAny P md ops Q (fuel+1) listed a w :=
 wpAny_take hi hs hf hr hQ hy (ha ▸ h)
theorem noneOf_c (t:ByteArray) (w:World) :
  Calls Tryz.prog 115 #[.string t] w fun e w'=>e=.returned (.func (.func 159) #[] #[.pointer (some ⟨w.heap.size,0,none⟩)])/\w'.cell? ⟨w.heap.size,0,none⟩=some (.string t)/\w'.heap.size=w.heap.size+1/\Below w.heap.size w w':=by
 refine (noneOf_any t w).mono ?_
 rintro e w' ⟨rfl,rfl⟩
 exact⟨rfl,by simp,by simp,(Below.refl _ _).alloc (Nat.le_refl _) _⟩
theorem oneOf_c (t:ByteArray) (w:World) :
  Calls Tryz.prog 117 #[.string t] w fun e w'=>e=.returned (.func (.func 160) #[] #[.pointer (some ⟨w.heap.size,0,none⟩)])/\w'.cell? ⟨w.heap.size,0,none⟩=some (.string t)/\w'.heap.size=w.heap.size+1/\Below w.heap.size w w':=by
 refine (oneOf_any t w).mono ?_
 rintro e w' ⟨rfl,rfl⟩
 exact⟨rfl,by simp,by simp,(Below.refl _ _).alloc (Nat.le_refl _) _⟩
theorem bl_mk (l:List UInt8):bl ⟨l.toArray⟩=l:=rfl
theorem pass_noneE (s t:ByteArray) (P:UInt8->Bool)(hP:∀ x,(!(bl t).contains x)=P x)(hs:s.size<=1099511627776) :
  ∃ A C:ByteArray,Hid (bl A=(bl s).takeWhile P)/\Hid (bl C=(bl s).dropWhile P)/\A.size+C.size=s.size/\Hid (∀ B w,w.cell? ⟨B,0,none⟩=some (.string t)->Calls Tryz.prog 114 #[.string s,.func (.func 159) #[] #[.pointer (some ⟨B,0,none⟩)]] w fun e w'=>e=.returned (.tuple #[.string A,.string C])/\Below w.heap.size w w'):=by
 have e:(fun x=>!(bl t).contains x)=P:=funext hP
 refine⟨⟨((bl s).takeWhile P).toArray⟩,⟨((bl s).dropWhile P).toArray⟩,hide rfl,hide rfl,?_,hide fun B w h=>?_⟩
 ·have:=congrArg List.length (List.takeWhile_append_dropWhile (p:=P) (l:=bl s))
  rw[List.length_append,bl_len] at this
  rw[size_mk,size_mk]
  exact this
 ·have:=pass_none s t B w hs h
  rw[e] at this
  exact this
theorem pass_oneE (s t:ByteArray) (P:UInt8->Bool)(hP:∀ x,(bl t).contains x=P x)(hs:s.size<=1099511627776) :
  ∃ A C:ByteArray,Hid (bl A=(bl s).takeWhile P)/\Hid (bl C=(bl s).dropWhile P)/\A.size+C.size=s.size/\Hid (∀ B w,w.cell? ⟨B,0,none⟩=some (.string t)->Calls Tryz.prog 114 #[.string s,.func (.func 160) #[] #[.pointer (some ⟨B,0,none⟩)]] w fun e w'=>e=.returned (.tuple #[.string A,.string C])/\Below w.heap.size w w'):=by
 have e:(fun x=>(bl t).contains x)=P:=funext hP
 refine⟨⟨((bl s).takeWhile P).toArray⟩,⟨((bl s).dropWhile P).toArray⟩,hide rfl,hide rfl,?_,hide fun B w h=>?_⟩
 ·have:=congrArg List.length (List.takeWhile_append_dropWhile (p:=P) (l:=bl s))
  rw[List.length_append,bl_len] at this
  rw[size_mk,size_mk]
  exact this
 ·have:=pass_one s t B w hs h
  rw[e] at this
  exact this
theorem pass_firstE (s t:ByteArray) (c0:UInt8) (tl:List UInt8) (P:UInt8->Bool)(hP:∀ x,(!(bl t).contains x)=P x)(hs:s.size<=1099511627776)(hc0:bl s=c0 :: tl) :
  ∃ A C:ByteArray,Hid (bl A=c0 :: tl.takeWhile P)/\Hid (bl C=tl.dropWhile P)/\A.size+C.size=s.size/\1<=A.size/\Hid (∀ K a O B w,w.heap[a]?=some (.cells #[.bool false] 4 (0,0))->w.cell? ⟨O,0,none⟩=some (.func (.func 159) #[] #[.pointer (some ⟨B,0,none⟩)])->w.cell? ⟨B,0,none⟩=some (.string t)->K<=a->O≠a->B≠a->Calls Tryz.prog 114 #[.string s,.func (.func 161) #[] #[.pointer (some ⟨a,0,none⟩),.pointer (some ⟨O,0,none⟩)]] w fun e w'=>e=.returned (.tuple #[.string A,.string C])/\Below K w w'):=by
 have e:(fun x=>!(bl t).contains x)=P:=funext hP
 refine⟨⟨(c0 :: tl.takeWhile P).toArray⟩,⟨(tl.dropWhile P).toArray⟩,hide rfl,hide rfl,?_,?_,hide fun K a O B w h1 h2 h3 h4 h5 h6=>?_⟩
 ·have:=congrArg List.length (List.takeWhile_append_dropWhile (p:=P) (l:=tl))
  rw[List.length_append] at this
  rw[size_mk,size_mk,<-bl_len,hc0]
  simp only[List.length_cons]
  omega
 ·rw[size_mk]
  simp
 ·have:=pass_first s t c0 tl K a O B w hs hc0 h1 h2 h3 h4 h5 h6
  rw[e] at this
  exact this
theorem empty_of {s:ByteArray}(h:bl s=[]):s.toList.isEmpty=true:=by
 have h:s.data.toList=_:=h
 rw[ByteArray.toList_eq,h]
 rfl
theorem nonempty_of {s:ByteArray}{c:UInt8}{t:List UInt8}(h:bl s=c :: t):s.toList.isEmpty=false:=by
 have h:s.data.toList=_:=h
 rw[ByteArray.toList_eq,h]
 rfl
theorem ext_one {s:ByteArray}{c:UInt8}{t:List UInt8}(h:bl s=c :: t):bl (s.extract 1 s.size)=t:=by
 rw[ext_drop,bl_mk,h]
 rfl
theorem ext_head {s:ByteArray}{c:UInt8}{t:List UInt8}(h:bl s=c :: t):bl (s.extract 0 1)=[c]:=by
 rw[extract_take,bl_mk,h]
 rfl
theorem size_ext_one (s:ByteArray):(s.extract 1 s.size).size=s.size - 1:=by simp
theorem to_label {J:Nat->Act->World->Prop}{J':Nat->Nat->Act->World->Prop}{P:Program}{Q:Exit->Act->World->Prop}{l:Nat}{b c:Code}{a:Act}{w:World}{n:Nat}
  (hk:∀ n a w,J n a w->∃ rest,findLabel b l=some (.seq .skip rest)/\rest.wp P (jumps (fun l' a' w'=>∃ n',n' < n/\J' n' l' a' w') Q) a w)(hf:findLabel b l=some (.seq .skip c)) (m:Nat)(hm:m<=n)(hJ:J m a w):c.wp P (jumps (fun l' a' w'=>∃ n',n' < n/\J' n' l' a' w') Q) a w:=by
 obtain⟨rest,h1,h2⟩:=hk m a w hJ
 rw[hf] at h1
 cases h1
 exact Code.wp_mono (jumps_mono (fun l a w ⟨n',h1,h2⟩=>⟨n',by omega,h2⟩)) h2
theorem of_label {P:Program}{Q:Exit->Act->World->Prop}{l:Nat}{b:Code}{a:Act}{w:World}(h:∃ rest,findLabel b l=some (.seq .skip rest)/\rest.wp P Q a w):∃ rest,findLabel b l=some rest/\rest.wp P Q a w:=by
 obtain⟨rest,h1,h2⟩:=h
 exact⟨_,h1,wp_seq (wp_skip h2)⟩
theorem bel_drew {w w1:World}(h:Below w.drew.heap.size w.drew w1):Below w.heap.size w w1:=((Below.refl w.heap.size w).drew).trans h
end Go.Proofs.YtkiofbikkhhdfaaGreatDoor.To
namespace Go.Proofs.YtkiofbikkhhdfaaGreatDoor.To
open Go.RowKit
open Utf1
theorem set_gap (x:UInt8):(bl ⟨#[9,10,12,13,32,47]⟩).contains x=isGap x:=by
 show [9,10,12,13,32,47].contains x=_
 simp only[List.contains_cons,List.contains_nil,Bool.or_false,isGap,isBl,Bool.or_assoc]
theorem set_bl (x:UInt8):(bl ⟨#[9,10,12,13,32]⟩).contains x=isBl x:=by
 show [9,10,12,13,32].contains x=_
 simp only[List.contains_cons,List.contains_nil,Bool.or_false,isBl,Bool.or_assoc]
theorem set_nm (x:UInt8):(!(bl ⟨#[9,10,12,13,32,47,62]⟩).contains x)=!isNm x:=by
 show (![9,10,12,13,32,47,62].contains x)=_
 simp only[List.contains_cons,List.contains_nil,Bool.or_false,isNm,isBl,Bool.or_assoc]
theorem set_at (x:UInt8):(!(bl ⟨#[9,10,12,13,32,47,62,61]⟩).contains x)=!isAt x:=by
 show (![9,10,12,13,32,47,62,61].contains x)=_
 simp only[List.contains_cons,List.contains_nil,Bool.or_false,isAt,isBl,Bool.or_assoc]
theorem set_va (x:UInt8):(!(bl ⟨#[9,10,12,13,32,62]⟩).contains x)=!isVa x:=by
 show (![9,10,12,13,32,62].contains x)=_
 simp only[List.contains_cons,List.contains_nil,Bool.or_false,isVa,isBl,Bool.or_assoc]
theorem pre_c (s:ByteArray) (p:UInt8) (b:Bool)(h:[p].isPrefixOf (bl s)=b) (w:World):Calls Tryz.prog 103 #[.string s,.string ⟨#[p]⟩] w fun e w'=>e=.returned (.bool b)/\w'=w:=by
 subst h
 exact Tryz.strings_HasPrefix s ⟨#[p]⟩ w
theorem first_c (B:Nat) (t:ByteArray) (w:World)(h:w.cell? ⟨B,0,none⟩=some (.string t)) :
  Calls Tryz.prog 118 #[.func (.func 159) #[] #[.pointer (some ⟨B,0,none⟩)]] w fun e w'=>e=.returned (.func (.func 161) #[] #[.pointer (some ⟨w.heap.size+1,0,none⟩),.pointer (some ⟨w.heap.size,0,none⟩)])/\w'.heap[w.heap.size+1]?=some (.cells #[.bool false] 4 (0,0))/\w'.cell? ⟨w.heap.size,0,none⟩=some (.func (.func 159) #[] #[.pointer (some ⟨B,0,none⟩)])/\w'.cell? ⟨B,0,none⟩=some (.string t)/\Below w.heap.size w w':=by
 refine (first_any (.func 159) #[.pointer (some ⟨B,0,none⟩)] w).mono ?_
 rintro e w' ⟨rfl,rfl⟩
 have hB:B < w.heap.size:=cell_lt h
 have hbel:Below w.heap.size w ((w.alloc (.cells #[.func (.func 159) #[] #[.pointer (some ⟨B,0,none⟩)]] 124)).alloc (.cells #[.bool false] 4)):=((Below.refl _ _).alloc (Nat.le_refl _) _).alloc (by simp) _
 refine⟨rfl,?_,?_,(hbel.cell (p:=⟨B,0,none⟩) hB).trans h,hbel⟩
 ·show ((w.heap.push _).push _)[w.heap.size+1]?=_
  rw[Array.getElem?_push,if_pos (by simp)]
 ·show World.cell? _ _=_
  rw[World.cell?_of_block (w:=w.alloc (.cells #[.func (.func 159) #[] #[.pointer (some ⟨B,0,none⟩)]] 124)) (Below.heap_alloc _ _ _ (by simp))]
  simp
theorem idx0 {s:ByteArray}{c:UInt8}{t:List UInt8}(h:bl s=c :: t) (w:World):(Instr.index 9 (.string s) (.int .i64 0)).run Tryz.prog w=.ok (.int .u8 (c.toNat:Int)) w:=by
 have hl:0+0 < s.size:=by
  rw[<-bl_len,h]
  simp
 have:=idx_run s 0 0 hl w
 rw[List.drop_zero,h] at this
 exact this
theorem one_plain (c:UInt8) (t s3:List UInt8)(h:(t.dropWhile (fun x=>!isAt x)).dropWhile isBl=s3)(hn:[61].isPrefixOf s3=false):oneAt c t=some (c :: t.takeWhile (fun x=>!isAt x),[],s3):=by
 unfold oneAt
 rw[h]
 split
 ·rename_i u
  simp at hn
 ·rfl
theorem one_none (c:UInt8) (t u:List UInt8)(h:(t.dropWhile (fun x=>!isAt x)).dropWhile isBl=61 :: u)(h2:u.dropWhile isBl=[]):oneAt c t=some (c :: t.takeWhile (fun x=>!isAt x),[],[]):=by
 unfold oneAt
 rw[h]
 simp only
 rw[h2]
theorem one_bare (c q:UInt8) (t u v:List UInt8)(h:(t.dropWhile (fun x=>!isAt x)).dropWhile isBl=61 :: u)(h2:u.dropWhile isBl=q :: v)(hq:¬ (q=34\/q=39)):oneAt c t=some (c :: t.takeWhile (fun x=>!isAt x),(q :: v).takeWhile (fun x=>!isVa x),(q :: v).dropWhile (fun x=>!isVa x)):=by
 unfold oneAt
 rw[h]
 simp only
 rw[h2]
 simp only
 rw[if_neg hq]
theorem one_quote (c q:UInt8) (t u v:List UInt8)(h:(t.dropWhile (fun x=>!isAt x)).dropWhile isBl=61 :: u)(h2:u.dropWhile isBl=q :: v)(hq:q=34\/q=39):oneAt c t=(match v.dropWhile (fun x=>x != q) with | []=>none | _ :: r=>some (c :: t.takeWhile (fun x=>!isAt x),v.takeWhile (fun x=>x != q),r)):=by
 unfold oneAt
 rw[h]
 simp only
 rw[h2]
 simp only
 rw[if_pos hq]
 cases v.dropWhile (fun x=>x != q) <;> rfl
theorem attrs_quote (acc:List (List UInt8 × List UInt8)) (s t u v:List UInt8) (c q:UInt8)(hs:s.dropWhile isGap=c :: t)(hc:c≠62)(h:(t.dropWhile (fun x=>!isAt x)).dropWhile isBl=61 :: u)(h2:u.dropWhile isBl=q :: v)(hq:q=34\/q=39) :
  attrsOf acc s=match v.dropWhile (fun x=>x != q) with | []=>none | _ :: r=>attrsOf (addAt acc (lower (c :: t.takeWhile (fun x=>!isAt x))) (res (v.takeWhile (fun x=>x != q)))) r:=by
 have h1:=one_quote c q t u v h h2 hq
 cases hd:v.dropWhile (fun x=>x != q) with
 | nil =>
  rw[hd] at h1
  exact attrsOf_none acc s t c hs hc h1
 | cons z r =>
  rw[hd] at h1
  exact attrsOf_one acc s t c _ _ _ hs hc h1
end Go.Proofs.YtkiofbikkhhdfaaGreatDoor.To
namespace Go.Proofs.YtkiofbikkhhdfaaGreatDoor.To
open Go.RowKit
open Utf1
def GlobM (w:World):Prop:=∃ m,w.cell? ⟨0,0,none⟩=some (.int .i64 m)
theorem GlobM.below {w w':World}(h:GlobM w)(hb:Below w.heap.size w w'):GlobM w':=by
 obtain⟨m,hc⟩:=h
 exact⟨m,(hb.cell (p:=⟨0,0,none⟩) (cell_lt hc)).trans hc⟩
theorem index_first (sub:List UInt8)(hs:sub≠[]) (l:List UInt8)(h:0<=Lib.index l sub):(Lib.index l sub).toNat < l.length/\sub.isPrefixOf (l.drop (Lib.index l sub).toNat)=true/\∀ j,j < (Lib.index l sub).toNat->sub.isPrefixOf (l.drop j)=false:=by
 induction l with
 | nil =>
  unfold Lib.index at h
  rw[if_neg (by simpa using hs)] at h
  omega
 | cons b t ih =>
  unfold Lib.index at h ⊢
  cases hp:sub.isPrefixOf (b :: t) with
  | true=>simpa using hp
  | false =>
   rw[hp,if_neg (by simp)] at h
   rw[if_neg (by simp)]
   split at h
   ·omega
   ·rename_i hne
    have hne':Lib.index t sub≠-1:=by simpa using hne
    have hge:=Lib.index_ge t sub
    rw[if_neg hne]
    obtain⟨h1,h2,h3⟩:=ih (by omega)
    have e:(Lib.index t sub+1).toNat=(Lib.index t sub).toNat+1:=by omega
    rw[e]
    refine⟨by simp;omega,by simpa using h2,?_⟩
    intro j hj
    cases j with
    | zero=>exact hp
    | succ j=>exact h3 j (by omega)
theorem index_never (sub:List UInt8)(hs:sub≠[]) (l:List UInt8)(h:Lib.index l sub < 0):∀ j,sub.isPrefixOf (l.drop j)=false:=by
 induction l with
 | nil =>
  intro j
  cases sub with
  | nil=>exact absurd rfl hs
  | cons a r=>simp
 | cons b t ih =>
  have hge:=Lib.index_ge t sub
  unfold Lib.index at h
  cases hp:sub.isPrefixOf (b :: t) with
  | true =>
   rw[hp,if_pos rfl] at h
   omega
  | false =>
   rw[hp,if_neg (by simp)] at h
   intro j
   cases j with
   | zero=>exact hp
   | succ j =>
    refine ih ?_ j
    split at h
    ·rename_i he
     have:Lib.index t sub=-1:=by simpa using he
     omega
    ·omega
theorem raw_skip (nm:List UInt8):∀ (k:Nat) (l:List UInt8),k<=l.length->(∀ j,j < k->rawEnds nm (l.drop j)=false)->rawStop nm l=k+rawStop nm (l.drop k)
 | 0,l,_,_=>by simp
 | k+1,[],h,_=>by simp at h
 | k+1,c :: t,h,hno=>by
  have h0:rawEnds nm (c :: t)=false:=hno 0 (by omega)
  have:=raw_skip nm k t (by simpa using h) (fun j hj=>hno (j+1) (by omega))
  rw[List.drop_succ_cons,rawStop,if_neg (by rw[h0];simp),this]
  omega
theorem raw_pre (nm l:List UInt8)(h:[60,47].isPrefixOf l=false):rawEnds nm l=false:=by
 unfold rawEnds
 rw[h]
 rfl
theorem raw_at (nm l:List UInt8)(h:[60,47].isPrefixOf l=true):rawEnds nm l=(decide (2+nm.length < l.length) && decide (lower ((l.drop 2).take nm.length)=nm) && isNm (l.getD (2+nm.length) 0)):=by
 unfold rawEnds
 rw[h]
 rfl
theorem set_nm1 (x:UInt8):(bl ⟨#[9,10,12,13,32,47,62]⟩).contains x=isNm x:=by
 show [9,10,12,13,32,47,62].contains x=_
 simp only[List.contains_cons,List.contains_nil,Bool.or_false,isNm,isBl,Bool.or_assoc]
set_option maxRecDepth 100000 in
set_option maxHeartbeats 8000000 in
theorem rawLen_any (s name:ByteArray) (w:World)(hs:s.size<=4294967280)(hn:name.size<=4294967280)(hg:GlobM w) :
  Calls Tryz.prog 120 #[.string s,.string name] w fun e w'=>e=.returned (.int .i64 (rawLen (bl name) (bl s):Int))/\Below w.heap.size w w':=by
 have hl:=bl_len s
 have hnl:=bl_len name
 have fp:=eq_lit name [112,108,97,105,110,116,101,120,116]
 by_cases hp:bl name=plainText
 ·rw[show decide (bl name=[112,108,97,105,110,116,101,120,116])=true from decide_eq_true hp] at fp
  have HR:Hid (rawLen (bl name) (bl s)=s.size):=hide (by
   unfold rawLen
   rw[if_pos hp,hl])
  rw[HR.out]
  clear hp HR hl hnl
  go_enter Tryz.func120,Tryz.ntmps120
  go_wp2
  go_ret
  exact⟨rfl,Below.refl _ _⟩
 rw[show decide (bl name=[112,108,97,105,110,116,101,120,116])=false from decide_eq_false hp] at fp
 have HR:Hid (rawLen (bl name) (bl s)=rawStop (bl name) (bl s)):=hide (by
  unfold rawLen
  rw[if_neg hp])
 rw[HR.out]
 clear hp HR
 have HG:=hide hg
 clear hg
 go_enter Tryz.func120,Tryz.ntmps120
 go_wp2_with fail
 refine (oneOf_c _ _).mono ?_
 rintro e w1 ⟨rfl,hc1,-,hb1⟩
 have HB1:=hide hb1
 have HC1:=hide hc1
 have HG1:=hide (HG.out.below hb1)
 clear hb1 hc1 HG fp
 go_wp2_with fail
 go_loopg [6] s.size (fun g v wr=>∃ p:Nat,p+g=s.size/\v=.int .i64 (p:Int)/\Below w1.heap.size w1 wr/\Hid (rawStop (bl name) (bl s)=p+rawStop (bl name) ((bl s).drop p)))
 case atStart=>exact⟨0,by omega,rfl,Below.refl _ _,hide (by simp)⟩
 case round =>
  obtain⟨p,hpg,rfl,hbw,HS⟩:=hrel
  obtain⟨m,hm⟩:=HG1.out.below hbw
  have hix:=Tryz.strings_Index (s.extract p s.size) ⟨#[60,47]⟩ m wr (by simp;omega) hm
  have hbe:bl (s.extract p s.size)=(bl s).drop p:=by rw[ext_drop]
  have hnev:=index_never [60,47] (by simp) ((bl s).drop p)
  have hfir:=index_first [60,47] (by simp) ((bl s).drop p)
  obtain⟨k,hk⟩:∃ k,k=Lib.index ((bl s).drop p) [60,47]:=⟨_,rfl⟩
  rw[<-hk] at hnev hfir
  have hix:Calls Tryz.prog 163 #[.string (s.extract p s.size),.string ⟨#[60,47]⟩] wr fun e w'=>e=.returned (.int .i64 k)/\w'=wr:=by
   rw[hk,<-hbe]
   exact hix
  have HBW:=hide hbw
  clear hk hbe hm hbw
  by_cases hk0:0<=k
  case neg =>
   have hkn:k < 0:=by omega
   have HF:Hid (rawStop (bl name) (bl s)=s.size):=hide (by
    rw[HS.out,raw_skip (bl name) (s.size - p) ((bl s).drop p) (by rw[List.length_drop,hl];exact Nat.le_refl _) (fun j _=>raw_pre _ _ (hnev hkn j)),List.drop_of_length_le (by rw[List.length_drop,hl];exact Nat.le_refl _)]
    simp[rawStop]
    omega)
   clear hnev hfir HS hk0
   go_wp2_with fail
   refine hix.mono ?_
   rintro e w2 ⟨rfl,rfl⟩
   go_wp2_with fail
   go_ret
   rw[HF.out]
   exact⟨rfl,bel2 HB1.out HBW.out⟩
  obtain⟨kn,rfl⟩:∃ kn:Nat,k=(kn:Int):=⟨k.toNat,by omega⟩
  obtain⟨h1,h2,h3⟩:=hfir hk0
  rw[Int.toNat_natCast] at h1 h2 h3
  rw[List.length_drop,hl] at h1
  rw[List.drop_drop] at h2
  have hst:rawStop (bl name) (bl s)=p+(kn+rawStop (bl name) ((bl s).drop (p+kn))):=by
   rw[HS.out,raw_skip (bl name) kn ((bl s).drop p) (by rw[List.length_drop,hl];omega) (fun j hj=>raw_pre _ _ (h3 j hj)),List.drop_drop]
  have hdc:=drop_cons s (p+kn) (by omega)
  generalize (bl s)[p+kn]'(by rw[bl_len];omega)=c at hdc
  have hat:=raw_at (bl name) _ h2
  rw[List.length_drop,hl,hnl,List.drop_drop] at hat
  have HNX:rawEnds (bl name) ((bl s).drop (p+kn))=false->Hid (rawStop (bl name) (bl s)=p+kn+1+rawStop (bl name) ((bl s).drop (p+kn+1))):=fun h=>hide (by
   rw[hst,hdc,rawStop,if_neg (by rw[<-hdc,h];simp)]
   omega)
  have HHT:rawEnds (bl name) ((bl s).drop (p+kn))=true->Hid (rawStop (bl name) (bl s)=p+kn):=fun h=>hide (by
   rw[hst,hdc,rawStop,if_pos (by rw[<-hdc];exact h)]
   omega)
  clear hnev hfir HS hk0 h2 h3 hst hdc
  by_cases hend:p+kn+2+name.size < s.size
  case neg =>
   have HN:=HNX (by rw[hat,decide_eq_false (by omega)];rfl)
   clear hat HNX HHT
   go_wp2_with fail
   refine hix.mono ?_
   rintro e w2 ⟨rfl,rfl⟩
   go_wp2_with fail
   go_roundg (gk - (kn+1))
   case measure=>omega
   case rel=>exact⟨p+kn+1,by omega,by first | rfl | simp,HBW.out,HN⟩
  have hlo:=fun w=>lower_any (s.extract (p+kn+2) (p+kn+2+name.size)) w
  have hbx:bl (s.extract (p+kn+2) (p+kn+2+name.size))=((bl s).drop (p+kn+2)).take name.size:=by
   rw[extract_bl]
   congr 1
   omega
  rw[hbx] at hlo
  have hLb:bl ⟨(lower (((bl s).drop (p+kn+2)).take name.size)).toArray⟩=lower (((bl s).drop (p+kn+2)).take name.size):=rfl
  generalize (⟨(lower (((bl s).drop (p+kn+2)).take name.size)).toArray⟩:ByteArray)=LW at hlo hLb
  rw[<-hLb] at hat
  clear hbx hLb
  by_cases heq:bl LW=bl name
  case neg =>
   have HN:=HNX (by rw[hat,decide_eq_false heq];simp)
   have hq:=beq_ne heq
   clear hat HNX HHT heq
   go_wp2_with fail
   refine hix.mono ?_
   rintro e w2 ⟨rfl,rfl⟩
   go_wp2_with fail
   refine (hlo _).mono ?_
   rintro e w3 ⟨rfl,hb3⟩
   go_wp2_with fail
   go_roundg (gk - (kn+1))
   case measure=>omega
   case rel=>exact⟨p+kn+1,by omega,by first | rfl | simp,bel2 HBW.out hb3,HN⟩
  have hq:=beq_same heq
  have hge:(bl s)[p+kn+2+name.size]?=some ((bl s)[p+kn+2+name.size]'(by rw[hl];exact hend)):=List.getElem?_eq_getElem _
  have hgd:((bl s).drop (p+kn)).getD (2+name.size) 0=(bl s)[p+kn+2+name.size]'(by rw[hl];exact hend):=by
   rw[List.getD_eq_getElem?_getD,List.getElem?_drop,show p+kn+(2+name.size)=p+kn+2+name.size by omega,hge]
   rfl
  rw[hgd] at hat
  clear hgd
  generalize (bl s)[p+kn+2+name.size]'(by rw[hl];exact hend)=f at hat hge
  have ie0:=fun w=>idxK hge w
  have hcl:∀ w',Below w1.heap.size w1 w'->Calls Tryz.prog 160 #[.int .u8 (f.toNat:Int),.pointer (some ⟨w.heap.size,0,none⟩)] w' fun e w''=>e=.returned (.bool (isNm f))/\w''=w':=by
   intro w' hb
   rw[<-set_nm1]
   exact one1_any ⟨#[9,10,12,13,32,47,62]⟩ f w.heap.size w' ((hb.cell (p:=⟨w.heap.size,0,none⟩) (cell_lt HC1.out)).trans HC1.out)
  rw[decide_eq_true (by omega),decide_eq_true heq] at hat
  have hat:rawEnds (bl name) ((bl s).drop (p+kn))=isNm f:=by rw[hat];rfl
  obtain⟨x,hx⟩:∃ x:Int,x=(f.toNat:Int):=⟨_,rfl⟩
  have ie:∀ w,(Instr.index 9 (.string s) (.int .i64 ((p:Int)+(kn:Int)+2+(name.size:Int)))).run Tryz.prog w=.ok (.int .u8 x) w:=by
   rw[hx,show ((p:Int)+(kn:Int)+2+(name.size:Int))=((p+kn+2+name.size:Nat):Int) by omega]
   exact ie0
  clear ie0
  rw[<-hx] at hcl
  have HCL:=hide hcl
  clear hx heq hge hcl
  cases hF:isNm f with
  | true =>
   have HN:=HHT (by rw[hat,hF])
   rw[hF] at HCL
   clear hat HNX HHT hF
   go_wp2_with fail
   refine hix.mono ?_
   rintro e w2 ⟨rfl,rfl⟩
   go_wp2_with fail
   refine (hlo _).mono ?_
   rintro e w3 ⟨rfl,hb3⟩
   go_wp2_with fail
   refine (HCL.out _ (bel2 HBW.out hb3)).mono ?_
   rintro e w4 ⟨rfl,rfl⟩
   go_wp2_with fail
   go_ret
   rw[HN.out]
   exact⟨by first | rfl | simp,bel2 HB1.out (bel2 HBW.out hb3)⟩
  | false =>
   have HN:=HNX (by rw[hat,hF])
   rw[hF] at HCL
   clear hat HNX HHT hF
   go_wp2_with fail
   refine hix.mono ?_
   rintro e w2 ⟨rfl,rfl⟩
   go_wp2_with fail
   refine (hlo _).mono ?_
   rintro e w3 ⟨rfl,hb3⟩
   go_wp2_with fail
   refine (HCL.out _ (bel2 HBW.out hb3)).mono ?_
   rintro e w4 ⟨rfl,rfl⟩
   go_wp2_with fail
   go_roundg (gk - (kn+1))
   case measure=>omega
   case rel=>exact⟨p+kn+1,by omega,by first | rfl | simp,bel2 HBW.out hb3,HN⟩
end Go.Proofs.YtkiofbikkhhdfaaGreatDoor.To
namespace Go.Proofs.YtkiofbikkhhdfaaGreatDoor.To
open Go.RowKit
open Utf1
set_option maxHeartbeats 1000000 in
theorem tag_none (w0:World) (start:Bool) (nm:ByteArray) (tg:Option (Tk × List UInt8)) (N n:Nat) (a:Act) (wr:World)(hJ:JNon w0 tg n a wr) :
  ∃ rest,findLabel tagCode 1=some rest/\rest.wp Tryz.prog (jumps (fun l' a' w'=>∃ n',n' < n/\tagJ w0 start nm tg N n' l' a' w') (bodyPost Tryz.prog Tryz.f62 (TagPost tg w0))) a wr:=by
 unfold JNon at hJ
 obtain⟨u0,hJ⟩:=hJ;obtain⟨u1,hJ⟩:=hJ;obtain⟨u5,hJ⟩:=hJ;obtain⟨u6,hJ⟩:=hJ;obtain⟨u7,hJ⟩:=hJ;obtain⟨u8,hJ⟩:=hJ;obtain⟨u11,hJ⟩:=hJ;obtain⟨u12,hJ⟩:=hJ;obtain⟨u13,hJ⟩:=hJ;obtain⟨u14,hJ⟩:=hJ;obtain⟨u15,hJ⟩:=hJ;obtain⟨u16,hJ⟩:=hJ;obtain⟨u17,hJ⟩:=hJ;obtain⟨u18,hJ⟩:=hJ;obtain⟨u19,hJ⟩:=hJ;obtain⟨u20,hJ⟩:=hJ;obtain⟨u21,hJ⟩:=hJ;obtain⟨u22,hJ⟩:=hJ;obtain⟨u23,hJ⟩:=hJ;obtain⟨u24,hJ⟩:=hJ;obtain⟨u25,hJ⟩:=hJ;obtain⟨u26,hJ⟩:=hJ;obtain⟨u27,hJ⟩:=hJ;obtain⟨u28,hJ⟩:=hJ;obtain⟨u29,hJ⟩:=hJ;obtain⟨u30,hJ⟩:=hJ;obtain⟨u31,hJ⟩:=hJ;obtain⟨u32,hJ⟩:=hJ;obtain⟨u33,hJ⟩:=hJ;obtain⟨u34,hJ⟩:=hJ;obtain⟨u35,hJ⟩:=hJ;obtain⟨u36,hJ⟩:=hJ;obtain⟨u37,hJ⟩:=hJ;obtain⟨u38,hJ⟩:=hJ;obtain⟨u39,hJ⟩:=hJ;obtain⟨u40,hJ⟩:=hJ;obtain⟨u41,hJ⟩:=hJ;obtain⟨u42,hJ⟩:=hJ;obtain⟨u43,hJ⟩:=hJ;obtain⟨u44,hJ⟩:=hJ;obtain⟨u45,hJ⟩:=hJ;obtain⟨u46,hJ⟩:=hJ;obtain⟨u47,hJ⟩:=hJ;obtain⟨u48,hJ⟩:=hJ;obtain⟨u49,hJ⟩:=hJ;obtain⟨u50,hJ⟩:=hJ;obtain⟨u51,hJ⟩:=hJ;obtain⟨u52,hJ⟩:=hJ;obtain⟨u53,hJ⟩:=hJ;obtain⟨u54,hJ⟩:=hJ;obtain⟨u55,hJ⟩:=hJ;obtain⟨u56,hJ⟩:=hJ;obtain⟨u57,hJ⟩:=hJ;obtain⟨u58,hJ⟩:=hJ;obtain⟨u59,hJ⟩:=hJ;obtain⟨u60,hJ⟩:=hJ;obtain⟨u61,hJ⟩:=hJ;obtain⟨u62,hJ⟩:=hJ;obtain⟨u63,hJ⟩:=hJ;obtain⟨u64,hJ⟩:=hJ;obtain⟨u65,hJ⟩:=hJ;obtain⟨u66,hJ⟩:=hJ;obtain⟨u67,hJ⟩:=hJ;obtain⟨u68,hJ⟩:=hJ;obtain⟨u69,hJ⟩:=hJ;obtain⟨u70,hJ⟩:=hJ;obtain⟨u71,hJ⟩:=hJ;obtain⟨u72,hJ⟩:=hJ;obtain⟨u73,hJ⟩:=hJ;obtain⟨u74,hJ⟩:=hJ;obtain⟨u75,hJ⟩:=hJ;obtain⟨u76,hJ⟩:=hJ;obtain⟨u77,hJ⟩:=hJ;obtain⟨u78,hJ⟩:=hJ;obtain⟨u79,hJ⟩:=hJ;obtain⟨u80,hJ⟩:=hJ;obtain⟨u81,hJ⟩:=hJ;obtain⟨u82,hJ⟩:=hJ;obtain⟨u83,hJ⟩:=hJ;obtain⟨u84,hJ⟩:=hJ;obtain⟨u85,hJ⟩:=hJ;obtain⟨u86,hJ⟩:=hJ;obtain⟨u87,hJ⟩:=hJ;obtain⟨u88,hJ⟩:=hJ;obtain⟨u89,hJ⟩:=hJ;obtain⟨u90,hJ⟩:=hJ;obtain⟨u91,hJ⟩:=hJ;obtain⟨u92,hJ⟩:=hJ;obtain⟨u93,hJ⟩:=hJ;obtain⟨u94,hJ⟩:=hJ;obtain⟨u95,hJ⟩:=hJ;obtain⟨u96,hJ⟩:=hJ;obtain⟨u97,hJ⟩:=hJ;obtain⟨u98,hJ⟩:=hJ;obtain⟨u99,hJ⟩:=hJ;obtain⟨u100,hJ⟩:=hJ;obtain⟨u101,hJ⟩:=hJ;obtain⟨u102,hJ⟩:=hJ;obtain⟨u103,hJ⟩:=hJ;obtain⟨u104,hJ⟩:=hJ;obtain⟨u105,hJ⟩:=hJ;obtain⟨u106,hJ⟩:=hJ;obtain⟨u107,hJ⟩:=hJ;obtain⟨u108,hJ⟩:=hJ;obtain⟨u109,hJ⟩:=hJ;obtain⟨u110,hJ⟩:=hJ;obtain⟨u111,hJ⟩:=hJ;obtain⟨u112,hJ⟩:=hJ;obtain⟨u113,hJ⟩:=hJ;obtain⟨u114,hJ⟩:=hJ;obtain⟨u115,hJ⟩:=hJ;obtain⟨u116,hJ⟩:=hJ;obtain⟨u117,hJ⟩:=hJ;obtain⟨u118,hJ⟩:=hJ;obtain⟨u119,hJ⟩:=hJ;obtain⟨u120,hJ⟩:=hJ;obtain⟨u121,hJ⟩:=hJ;obtain⟨u122,hJ⟩:=hJ;obtain⟨u123,hJ⟩:=hJ;obtain⟨u124,hJ⟩:=hJ;obtain⟨u125,hJ⟩:=hJ;obtain⟨hrel,ha⟩:=hJ;subst ha
 obtain⟨rfl,hR,hb,HT⟩:=hrel
 have c0:=tag_cell hR 0 _ rfl
 have c1:=tag_cell hR 1 _ rfl
 have c2:=tag_cell hR 2 _ rfl
 have c3:=tag_cell hR 3 _ rfl
 have c4:=tag_cell hR 4 _ rfl
 have f0:=tag_free hR 0
 have f1:=tag_free hR 1
 have f2:=tag_free hR 2
 have f3:=tag_free hR 3
 have f4:=tag_free hR 4
 have hR:=hide hR
 refine⟨_,rfl,?_⟩
 go_wp2
 simp only[jumps]
 refine ret_tag w0.heap.size _ _ _ _ _ _ _ rfl rfl rfl rfl (tok_five hR.out _ _ _ _ _) ?_
 rw[HT.out]
 exact⟨rfl,below_five hb (Nat.le_refl _) _ _ _ _ _⟩
set_option maxHeartbeats 2000000 in
theorem tag_end (w0:World) (start:Bool) (nm:ByteArray) (tg:Option (Tk × List UInt8)) (N n:Nat) (a:Act) (wr:World)(hN:N<=4294967280)(hJ:JEnd w0 start nm tg N n a wr) :
  ∃ rest,findLabel tagCode 2=some rest/\rest.wp Tryz.prog (jumps (fun l' a' w'=>∃ n',n' < n/\tagJ w0 start nm tg N n' l' a' w') (bodyPost Tryz.prog Tryz.f62 (TagPost tg w0))) a wr:=by
 unfold JEnd at hJ
 obtain⟨s,hJ⟩:=hJ;obtain⟨gap,hJ⟩:=hJ;obtain⟨acc,hJ⟩:=hJ;obtain⟨k,hJ⟩:=hJ;obtain⟨av,hJ⟩:=hJ;obtain⟨u1,hJ⟩:=hJ;obtain⟨u6,hJ⟩:=hJ;obtain⟨u7,hJ⟩:=hJ;obtain⟨u8,hJ⟩:=hJ;obtain⟨u11,hJ⟩:=hJ;obtain⟨u12,hJ⟩:=hJ;obtain⟨u13,hJ⟩:=hJ;obtain⟨u14,hJ⟩:=hJ;obtain⟨u15,hJ⟩:=hJ;obtain⟨u16,hJ⟩:=hJ;obtain⟨u17,hJ⟩:=hJ;obtain⟨u18,hJ⟩:=hJ;obtain⟨u19,hJ⟩:=hJ;obtain⟨u20,hJ⟩:=hJ;obtain⟨u21,hJ⟩:=hJ;obtain⟨u22,hJ⟩:=hJ;obtain⟨u23,hJ⟩:=hJ;obtain⟨u24,hJ⟩:=hJ;obtain⟨u25,hJ⟩:=hJ;obtain⟨u26,hJ⟩:=hJ;obtain⟨u27,hJ⟩:=hJ;obtain⟨u28,hJ⟩:=hJ;obtain⟨u29,hJ⟩:=hJ;obtain⟨u30,hJ⟩:=hJ;obtain⟨u31,hJ⟩:=hJ;obtain⟨u32,hJ⟩:=hJ;obtain⟨u33,hJ⟩:=hJ;obtain⟨u34,hJ⟩:=hJ;obtain⟨u35,hJ⟩:=hJ;obtain⟨u36,hJ⟩:=hJ;obtain⟨u37,hJ⟩:=hJ;obtain⟨u38,hJ⟩:=hJ;obtain⟨u39,hJ⟩:=hJ;obtain⟨u40,hJ⟩:=hJ;obtain⟨u41,hJ⟩:=hJ;obtain⟨u42,hJ⟩:=hJ;obtain⟨u43,hJ⟩:=hJ;obtain⟨u44,hJ⟩:=hJ;obtain⟨u45,hJ⟩:=hJ;obtain⟨u46,hJ⟩:=hJ;obtain⟨u47,hJ⟩:=hJ;obtain⟨u48,hJ⟩:=hJ;obtain⟨u49,hJ⟩:=hJ;obtain⟨u50,hJ⟩:=hJ;obtain⟨u51,hJ⟩:=hJ;obtain⟨u52,hJ⟩:=hJ;obtain⟨u53,hJ⟩:=hJ;obtain⟨u54,hJ⟩:=hJ;obtain⟨u55,hJ⟩:=hJ;obtain⟨u56,hJ⟩:=hJ;obtain⟨u57,hJ⟩:=hJ;obtain⟨u58,hJ⟩:=hJ;obtain⟨u59,hJ⟩:=hJ;obtain⟨u60,hJ⟩:=hJ;obtain⟨u61,hJ⟩:=hJ;obtain⟨u62,hJ⟩:=hJ;obtain⟨u63,hJ⟩:=hJ;obtain⟨u64,hJ⟩:=hJ;obtain⟨u65,hJ⟩:=hJ;obtain⟨u66,hJ⟩:=hJ;obtain⟨u67,hJ⟩:=hJ;obtain⟨u68,hJ⟩:=hJ;obtain⟨u69,hJ⟩:=hJ;obtain⟨u70,hJ⟩:=hJ;obtain⟨u71,hJ⟩:=hJ;obtain⟨u72,hJ⟩:=hJ;obtain⟨u73,hJ⟩:=hJ;obtain⟨u74,hJ⟩:=hJ;obtain⟨u75,hJ⟩:=hJ;obtain⟨u76,hJ⟩:=hJ;obtain⟨u77,hJ⟩:=hJ;obtain⟨u78,hJ⟩:=hJ;obtain⟨u79,hJ⟩:=hJ;obtain⟨u80,hJ⟩:=hJ;obtain⟨u81,hJ⟩:=hJ;obtain⟨u82,hJ⟩:=hJ;obtain⟨u83,hJ⟩:=hJ;obtain⟨u84,hJ⟩:=hJ;obtain⟨u85,hJ⟩:=hJ;obtain⟨u86,hJ⟩:=hJ;obtain⟨u87,hJ⟩:=hJ;obtain⟨u88,hJ⟩:=hJ;obtain⟨u89,hJ⟩:=hJ;obtain⟨u90,hJ⟩:=hJ;obtain⟨u91,hJ⟩:=hJ;obtain⟨u92,hJ⟩:=hJ;obtain⟨u93,hJ⟩:=hJ;obtain⟨u94,hJ⟩:=hJ;obtain⟨u95,hJ⟩:=hJ;obtain⟨u96,hJ⟩:=hJ;obtain⟨u97,hJ⟩:=hJ;obtain⟨u98,hJ⟩:=hJ;obtain⟨u99,hJ⟩:=hJ;obtain⟨u100,hJ⟩:=hJ;obtain⟨u101,hJ⟩:=hJ;obtain⟨u102,hJ⟩:=hJ;obtain⟨u103,hJ⟩:=hJ;obtain⟨u104,hJ⟩:=hJ;obtain⟨u105,hJ⟩:=hJ;obtain⟨u106,hJ⟩:=hJ;obtain⟨u107,hJ⟩:=hJ;obtain⟨u108,hJ⟩:=hJ;obtain⟨u109,hJ⟩:=hJ;obtain⟨u110,hJ⟩:=hJ;obtain⟨u111,hJ⟩:=hJ;obtain⟨u112,hJ⟩:=hJ;obtain⟨u113,hJ⟩:=hJ;obtain⟨u114,hJ⟩:=hJ;obtain⟨u115,hJ⟩:=hJ;obtain⟨u116,hJ⟩:=hJ;obtain⟨u117,hJ⟩:=hJ;obtain⟨u118,hJ⟩:=hJ;obtain⟨u119,hJ⟩:=hJ;obtain⟨u120,hJ⟩:=hJ;obtain⟨u121,hJ⟩:=hJ;obtain⟨u122,hJ⟩:=hJ;obtain⟨u123,hJ⟩:=hJ;obtain⟨u124,hJ⟩:=hJ;obtain⟨u125,hJ⟩:=hJ;obtain⟨hrel,ha⟩:=hJ;subst ha
 obtain⟨rfl,hgap,hs1,hsN,hst,HT⟩:=hrel
 obtain⟨hR,hT,hown,-,-,hb⟩:=hst
 have hsf:=fun w=>Tryz.strings_HasSuffix gap ⟨#[47]⟩ w (by omega)
 obtain⟨cl,hcl⟩:∃ cl,cl=[47].isSuffixOf (bl gap):=⟨_,rfl⟩
 have hsf:∀ w,Calls Tryz.prog 119 #[.string gap,.string ⟨#[47]⟩] w fun e w'=>e=.returned (.bool cl)/\w'=w:=by
  intro w
  rw[hcl]
  exact hsf w
 rw[<-hcl] at HT
 clear hcl
 have hex:=hide (ext_drop s 1)
 obtain⟨ap,am,ac,rfl⟩:=own_slice hown
 refine⟨_,rfl,?_⟩
 cases start
 ·have t0:wr.cell? ⟨w0.heap.size+1,0,none⟩=some (.int .i64 3):=tag_cell hT 0 _ rfl
  have t1:wr.cell? ⟨w0.heap.size+1,1,none⟩=some (.string nm):=tag_cell hT 1 _ rfl
  have t2:wr.cell? ⟨w0.heap.size+1,2,none⟩=some (.slice ap am ac):=tag_cell hT 2 _ rfl
  have t3:wr.cell? ⟨w0.heap.size+1,3,none⟩=some (.bool false):=tag_cell hT 3 _ rfl
  have t4:wr.cell? ⟨w0.heap.size+1,4,none⟩=some (.string ⟨#[]⟩):=tag_cell hT 4 _ rfl
  have g3:=tag_free hT 3
  have c0:=tag_cell hR 0 _ rfl
  have c1:=tag_cell hR 1 _ rfl
  have c2:=tag_cell hR 2 _ rfl
  have c3:=tag_cell hR 3 _ rfl
  have c4:=tag_cell hR 4 _ rfl
  have f0:=tag_free hR 0
  have f1:=tag_free hR 1
  have f2:=tag_free hR 2
  have f3:=tag_free hR 3
  have f4:=tag_free hR 4
  have hne:∀ v,(wr.setCell ⟨w0.heap.size+1,3,none⟩ v).heap[w0.heap.size]?=wr.heap[w0.heap.size]?:=fun v=>Below.heap_setCell _ _ _ _ (by simp)
  have HB:=fun v=>(hne v).trans hR
  have HO:=fun v=>own_set hown hT (by decide) 3 v
  have hb2:=fun v=>hb.setCell (p:=⟨w0.heap.size+1,3,none⟩) (Nat.le_succ _) v
  clear hR hT hown hne
  have HB:=hide HB
  have HO:=hide HO
  have hb2:=hide hb2
  go_wp2
  go_region
  all_goals (try go_wp2)
  all_goals simp only[jumps]
  all_goals refine ret_tagd w0.heap.size _ _ _ _ _ _ _ rfl rfl rfl rfl (tok_five (HB.out _) _ _ _ _ _) ?_
  all_goals rw[HT.out,hex.out]
  all_goals exact⟨_,rfl,(own_five (HO.out _) (HB.out _) (by decide) _ _ _ _ _).drew,(below_five (hb2.out _) (Nat.le_refl _) _ _ _ _ _).drew⟩
 ·have t0:wr.cell? ⟨w0.heap.size+1,0,none⟩=some (.int .i64 2):=tag_cell hT 0 _ rfl
  have t1:wr.cell? ⟨w0.heap.size+1,1,none⟩=some (.string nm):=tag_cell hT 1 _ rfl
  have t2:wr.cell? ⟨w0.heap.size+1,2,none⟩=some (.slice ap am ac):=tag_cell hT 2 _ rfl
  have t3:wr.cell? ⟨w0.heap.size+1,3,none⟩=some (.bool false):=tag_cell hT 3 _ rfl
  have t4:wr.cell? ⟨w0.heap.size+1,4,none⟩=some (.string ⟨#[]⟩):=tag_cell hT 4 _ rfl
  have g3:=tag_free hT 3
  have c0:=tag_cell hR 0 _ rfl
  have c1:=tag_cell hR 1 _ rfl
  have c2:=tag_cell hR 2 _ rfl
  have c3:=tag_cell hR 3 _ rfl
  have c4:=tag_cell hR 4 _ rfl
  have f0:=tag_free hR 0
  have f1:=tag_free hR 1
  have f2:=tag_free hR 2
  have f3:=tag_free hR 3
  have f4:=tag_free hR 4
  have hne:∀ v,(wr.setCell ⟨w0.heap.size+1,3,none⟩ v).heap[w0.heap.size]?=wr.heap[w0.heap.size]?:=fun v=>Below.heap_setCell _ _ _ _ (by simp)
  have HB:=fun v=>(hne v).trans hR
  have HO:=fun v=>own_set hown hT (by decide) 3 v
  have hb2:=fun v=>hb.setCell (p:=⟨w0.heap.size+1,3,none⟩) (Nat.le_succ _) v
  clear hR hT hown hne
  have HB:=hide HB
  have HO:=hide HO
  have hb2:=hide hb2
  go_wp2_with fail
  refine (hsf _).mono ?_
  rintro e w1 ⟨rfl,rfl⟩
  go_wp2_with fail
  go_region
  all_goals (try go_wp2)
  all_goals simp only[jumps]
  all_goals refine ret_tagd w0.heap.size _ _ _ _ _ _ _ rfl rfl rfl rfl (tok_five (HB.out _) _ _ _ _ _) ?_
  all_goals rw[HT.out,hex.out]
  all_goals exact⟨_,rfl,(own_five (HO.out _) (HB.out _) (by decide) _ _ _ _ _).drew,(below_five (hb2.out _) (Nat.le_refl _) _ _ _ _ _).drew⟩
end Go.Proofs.YtkiofbikkhhdfaaGreatDoor.To
namespace Go.Proofs.YtkiofbikkhhdfaaGreatDoor.To
open Go.RowKit
open Utf1
set_option maxHeartbeats 4000000 in
theorem tag_quoted (w0:World) (start:Bool) (nm:ByteArray) (tg:Option (Tk × List UInt8)) (N n:Nat) (a:Act) (wr:World)(hN:N<=4294967280)(hJ:JQuo w0 start nm tg N n a wr)
  (hkeep:∀ n a w,JKeep w0 start nm tg N n a w->∃ rest,findLabel tagCode 3=some (.seq .skip rest)/\rest.wp Tryz.prog (jumps (fun l' a' w'=>∃ n',n' < n/\tagJ w0 start nm tg N n' l' a' w') (bodyPost Tryz.prog Tryz.f62 (TagPost tg w0))) a w) :
  ∃ rest,findLabel tagCode 4=some rest/\rest.wp Tryz.prog (jumps (fun l' a' w'=>∃ n',n' < n/\tagJ w0 start nm tg N n' l' a' w') (bodyPost Tryz.prog Tryz.f62 (TagPost tg w0))) a wr:=by
 unfold JQuo at hJ
 obtain⟨s,hJ⟩:=hJ;obtain⟨name,hJ⟩:=hJ;obtain⟨q,hJ⟩:=hJ;obtain⟨v,hJ⟩:=hJ;obtain⟨acc,hJ⟩:=hJ;obtain⟨k,hJ⟩:=hJ;obtain⟨av,hJ⟩:=hJ;obtain⟨u1,hJ⟩:=hJ;obtain⟨u5,hJ⟩:=hJ;obtain⟨u7,hJ⟩:=hJ;obtain⟨u8,hJ⟩:=hJ;obtain⟨u11,hJ⟩:=hJ;obtain⟨u12,hJ⟩:=hJ;obtain⟨u13,hJ⟩:=hJ;obtain⟨u14,hJ⟩:=hJ;obtain⟨u15,hJ⟩:=hJ;obtain⟨u16,hJ⟩:=hJ;obtain⟨u17,hJ⟩:=hJ;obtain⟨u18,hJ⟩:=hJ;obtain⟨u19,hJ⟩:=hJ;obtain⟨u20,hJ⟩:=hJ;obtain⟨u21,hJ⟩:=hJ;obtain⟨u22,hJ⟩:=hJ;obtain⟨u23,hJ⟩:=hJ;obtain⟨u24,hJ⟩:=hJ;obtain⟨u25,hJ⟩:=hJ;obtain⟨u26,hJ⟩:=hJ;obtain⟨u27,hJ⟩:=hJ;obtain⟨u28,hJ⟩:=hJ;obtain⟨u29,hJ⟩:=hJ;obtain⟨u30,hJ⟩:=hJ;obtain⟨u31,hJ⟩:=hJ;obtain⟨u32,hJ⟩:=hJ;obtain⟨u33,hJ⟩:=hJ;obtain⟨u34,hJ⟩:=hJ;obtain⟨u35,hJ⟩:=hJ;obtain⟨u36,hJ⟩:=hJ;obtain⟨u37,hJ⟩:=hJ;obtain⟨u38,hJ⟩:=hJ;obtain⟨u39,hJ⟩:=hJ;obtain⟨u40,hJ⟩:=hJ;obtain⟨u41,hJ⟩:=hJ;obtain⟨u42,hJ⟩:=hJ;obtain⟨u43,hJ⟩:=hJ;obtain⟨u44,hJ⟩:=hJ;obtain⟨u45,hJ⟩:=hJ;obtain⟨u46,hJ⟩:=hJ;obtain⟨u47,hJ⟩:=hJ;obtain⟨u48,hJ⟩:=hJ;obtain⟨u49,hJ⟩:=hJ;obtain⟨u50,hJ⟩:=hJ;obtain⟨u51,hJ⟩:=hJ;obtain⟨u52,hJ⟩:=hJ;obtain⟨u53,hJ⟩:=hJ;obtain⟨u54,hJ⟩:=hJ;obtain⟨u55,hJ⟩:=hJ;obtain⟨u56,hJ⟩:=hJ;obtain⟨u57,hJ⟩:=hJ;obtain⟨u58,hJ⟩:=hJ;obtain⟨u59,hJ⟩:=hJ;obtain⟨u60,hJ⟩:=hJ;obtain⟨u61,hJ⟩:=hJ;obtain⟨u62,hJ⟩:=hJ;obtain⟨u63,hJ⟩:=hJ;obtain⟨u64,hJ⟩:=hJ;obtain⟨u65,hJ⟩:=hJ;obtain⟨u66,hJ⟩:=hJ;obtain⟨u67,hJ⟩:=hJ;obtain⟨u68,hJ⟩:=hJ;obtain⟨u69,hJ⟩:=hJ;obtain⟨u70,hJ⟩:=hJ;obtain⟨u71,hJ⟩:=hJ;obtain⟨u72,hJ⟩:=hJ;obtain⟨u73,hJ⟩:=hJ;obtain⟨u74,hJ⟩:=hJ;obtain⟨u75,hJ⟩:=hJ;obtain⟨u76,hJ⟩:=hJ;obtain⟨u77,hJ⟩:=hJ;obtain⟨u78,hJ⟩:=hJ;obtain⟨u79,hJ⟩:=hJ;obtain⟨u80,hJ⟩:=hJ;obtain⟨u81,hJ⟩:=hJ;obtain⟨u82,hJ⟩:=hJ;obtain⟨u83,hJ⟩:=hJ;obtain⟨u84,hJ⟩:=hJ;obtain⟨u85,hJ⟩:=hJ;obtain⟨u86,hJ⟩:=hJ;obtain⟨u87,hJ⟩:=hJ;obtain⟨u88,hJ⟩:=hJ;obtain⟨u89,hJ⟩:=hJ;obtain⟨u90,hJ⟩:=hJ;obtain⟨u91,hJ⟩:=hJ;obtain⟨u92,hJ⟩:=hJ;obtain⟨u93,hJ⟩:=hJ;obtain⟨u94,hJ⟩:=hJ;obtain⟨u95,hJ⟩:=hJ;obtain⟨u96,hJ⟩:=hJ;obtain⟨u97,hJ⟩:=hJ;obtain⟨u98,hJ⟩:=hJ;obtain⟨u99,hJ⟩:=hJ;obtain⟨u100,hJ⟩:=hJ;obtain⟨u101,hJ⟩:=hJ;obtain⟨u102,hJ⟩:=hJ;obtain⟨u103,hJ⟩:=hJ;obtain⟨u104,hJ⟩:=hJ;obtain⟨u105,hJ⟩:=hJ;obtain⟨u106,hJ⟩:=hJ;obtain⟨u107,hJ⟩:=hJ;obtain⟨u108,hJ⟩:=hJ;obtain⟨u109,hJ⟩:=hJ;obtain⟨u110,hJ⟩:=hJ;obtain⟨u111,hJ⟩:=hJ;obtain⟨u112,hJ⟩:=hJ;obtain⟨u113,hJ⟩:=hJ;obtain⟨u114,hJ⟩:=hJ;obtain⟨u115,hJ⟩:=hJ;obtain⟨u116,hJ⟩:=hJ;obtain⟨u117,hJ⟩:=hJ;obtain⟨u118,hJ⟩:=hJ;obtain⟨u119,hJ⟩:=hJ;obtain⟨u120,hJ⟩:=hJ;obtain⟨u121,hJ⟩:=hJ;obtain⟨u122,hJ⟩:=hJ;obtain⟨u123,hJ⟩:=hJ;obtain⟨u124,hJ⟩:=hJ;obtain⟨u125,hJ⟩:=hJ;obtain⟨hrel,ha⟩:=hJ;subst ha
 obtain⟨hn,hsk,hname,hst,HS,HT⟩:=hrel
 have hs1:1<=s.size:=by
  rw[<-bl_len,HS.out]
  simp
 have hq:=ext_head HS.out
 have hr:=ext_one HS.out
 have hqs:(s.extract 0 1).size=1:=by rw[<-bl_len,hq];rfl
 have hrs:=size_ext_one s
 obtain⟨V,C,HV,HC,hVC,HP⟩:=pass_noneE (s.extract 1 s.size) (s.extract 0 1) (fun x=>x != q) (by intro x;rw[hq];simp only[List.contains_cons,List.contains_nil,Bool.or_false];rfl) (by omega)
 rw[hr] at HV HC
 have HST:=hide hst
 have HK:=hide hkeep
 clear hq hr hkeep hst
 refine⟨_,rfl,?_⟩
 go_wp2
 refine wp_region_any (by kernel_rfl) ?_
 try (change wpAny _ _ _ _ _ _ _ (World.drew _))
 refine wpAny_to (i:=0) (v:=.string s) (a':=?ax0) rfl (by kernel_rfl) (by kernel_rfl) (by kernel_rfl) (fun _ _ _ h=>h) (Or.inl ⟨by rfl,?yi⟩) ?ha ?_
 case yi=>intro w;go_simp
 case ha=>go_simp;exact rfl
 refine wpAny_to (i:=1) (v:=.string (s.extract 1 s.size)) (a':=?ax1) rfl (by kernel_rfl) (by kernel_rfl) (by kernel_rfl) (fun _ _ _ h=>h) (Or.inl ⟨by rfl,?yi⟩) ?ha ?_
 case yi=>intro w;go_simp;intro h;exfalso;omega
 case ha=>go_simp;exact rfl
 refine wpAny_to (i:=2) (v:=.string (s.extract 0 1)) (a':=?ax2) rfl (by kernel_rfl) (by kernel_rfl) (by kernel_rfl) (fun _ _ _ h=>h) (Or.inl ⟨by rfl,?yi⟩) ?ha ?_
 case yi=>intro w;go_simp
 case ha=>go_simp;exact rfl
 refine wpAny_ready (rs:=[3]) (by kernel_rfl) (by simp) ?_
 refine AllReady.cons rfl (fun K hK=>?_) AllReady.nil
 go_simp
 go_wp2_with fail
 refine (noneOf_c (s.extract 0 1) _).mono ?_
 rintro e w1 ⟨rfl,hc1,hz1,hb1⟩
 go_wp2_with fail
 refine wpAny_ready (rs:=[4]) (by kernel_rfl) (by simp) ?_
 refine AllReady.cons rfl (fun K hK=>?_) AllReady.nil
 go_simp
 go_wp2_with fail
 refine (HP.out _ _ hc1).mono ?_
 rintro e w2 ⟨rfl,hb2⟩
 go_wp2_with fail
 refine wpAny_to (i:=5) (v:=.tuple #[.string V,.string C]) (a':=?ax5) rfl (by kernel_rfl) (by kernel_rfl) (by kernel_rfl) (fun _ _ _ h=>h) (Or.inl ⟨by rfl,?yi⟩) ?ha ?_
 case yi=>intro w;go_simp
 case ha=>go_simp;exact rfl
 refine wpAny_to (i:=6) (v:=.string V) (a':=?ax6) rfl (by kernel_rfl) (by kernel_rfl) (by kernel_rfl) (fun _ _ _ h=>h) (Or.inl ⟨by rfl,?yi⟩) ?ha ?_
 case yi=>intro w;go_simp
 case ha=>go_simp;exact rfl
 refine wpAny_to (i:=7) (v:=.string C) (a':=?ax7) rfl (by kernel_rfl) (by kernel_rfl) (by kernel_rfl) (fun _ _ _ h=>h) (Or.inl ⟨by rfl,?yi⟩) ?ha ?_
 case yi=>intro w;go_simp
 case ha=>go_simp;exact rfl
 refine wpAny_to (i:=8) (v:=.string V) (a':=?ax8) rfl (by kernel_rfl) (by kernel_rfl) (by kernel_rfl) (fun _ _ _ h=>h) (Or.inl ⟨by rfl,?yi⟩) ?ha ?_
 case yi=>intro w;go_simp
 case ha=>go_simp;exact rfl
 refine wpAny_to (i:=9) (v:=.string C) (a':=?ax9) rfl (by kernel_rfl) (by kernel_rfl) (by kernel_rfl) (fun _ _ _ h=>h) (Or.inl ⟨by rfl,?yi⟩) ?ha ?_
 case yi=>intro w;go_simp
 case ha=>go_simp;exact rfl
 refine wpAny_done (by kernel_rfl) ?_ _
 have hst2:=hide (HST.out.below (w1:=w2) (bel2 (bel_drew hb1) hb2))
 clear hb1 hb2 hc1 hz1 HP
 have HD:=HC.out
 rcases hD:v.dropWhile (fun x=>x != q) with _ | ⟨z,r⟩
 ·rw[hD] at HD
  have hE:=empty_of HD
  have HT2:Hid (tg=none):=hide (by rw[HT.out,hD];rfl)
  clear hD HD HT HC HV HS HK
  obtain⟨hR,_,_,_,_,hb⟩:=hst2.out
  have HR:=hide (And.intro hR hb)
  clear hR hb hst2 HST
  go_wp2_with fail
  go_step3
  refine (⟨0,by omega,?_⟩:∃ n',n' < n/\tagJ w0 start nm tg N n' 1 _ _)
  show JNon _ _ _ _ _
  unfold JNon
  (repeat apply Exists.intro)
  refine⟨⟨rfl,HR.out.1,HR.out.2,HT2⟩,rfl⟩
 ·rw[hD] at HD
  have hE:=nonempty_of HD
  have hr:=ext_one HD
  have hC1:1<=C.size:=by rw[<-bl_len,HD];simp
  have hrs2:=size_ext_one C
  have HT2:Hid (tg=(attrsOf (addAt acc (lower (bl name)) (res (bl V))) (bl (C.extract 1 C.size))).map (mkTk start nm)):=hide (by rw[HT.out,hD,HV.out,hr])
  clear hD HD HT HC HV HS hr
  go_wp2_with fail
  go_step3
  go_step
  go_step
  refine to_label (n:=n) HK.out rfl (4*(C.extract 1 C.size).size+4) (by omega) ?_
  unfold JKeep
  (repeat apply Exists.intro)
  refine⟨⟨rfl,by omega,hname,by omega,hst2.out,HT2⟩,rfl⟩
end Go.Proofs.YtkiofbikkhhdfaaGreatDoor.To
