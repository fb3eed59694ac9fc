import PyProof.Rows.All
import Wide.All
import OpenK.AllK
import Wide.FinOn
import Lean
import PyProof.EqAt
import PyProof.EqKinds
import PyProof.TupleCall
import PyProof.AttrMissHeap
import KE.KDictOf
import PyProof.Rows.MinMaxN
import KE.KMinBuiltin
import PyProof.Rows.CallKwBuiltin
import KE.KUnpack
import PySem.Challenge.RW_firnfall_k35_whole_each_round_adds_alike
set_option Elab.async false
set_option linter.all false
set_option maxRecDepth 100000
set_option maxHeartbeats 0
section
namespace HO
open PySem PySem.W PyProof.Rows PySem.Calls PySem.Spec
def view:Program:={ PySem.Challenge.pw_firnfall_k35_whole_each_round_adds_alike with main:={ PySem.Challenge.pw_firnfall_k35_whole_each_round_adds_alike.main with body:=(PySem.Challenge.pw_firnfall_k35_whole_each_round_adds_alike.main.body).drop 63 } }
def loose:List Str:=[Str.ofString "_wall",Str.ofString "FirnError",Str.ofString "BadValley",Str.ofString "BadRound",Str.ofString "BadWeather",Str.ofString "BadYear",Str.ofString "BadSurge",Str.ofString "NoLane",Str.ofString "NoPlace",Str.ofString "MOST_REACHES",Str.ofString "MOST_HEIGHTS",Str.ofString "GREATEST_HEIGHT",Str.ofString "MOST_LANES",Str.ofString "LONGEST_LANE",Str.ofString "is_valley",Str.ofString "is_reach",Str.ofString "leads_on",Str.ofString "fits",Str.ofString "lanes",Str.ofString "way_down",Str.ofString "way_of",Str.ofString "count_places",Str.ofString "heights",Str.ofString "HIGHEST_LINE",Str.ofString "MOST_HANDS",Str.ofString "MOST_ROWS",Str.ofString "is_weather",Str.ofString "is_round",Str.ofString "change",Str.ofString "LAST_TOLD",Str.ofString "LAST_ASKED",Str.ofString "GREATEST_SURGE",Str.ofString "check_told",Str.ofString "check_asked",Str.ofString "check_round",Str.ofString "Ice",Str.ofString "settled",Str.ofString "course",Str.ofString "so_far",Str.ofString "total",Str.ofString "_law_box",Str.ofString "_law_mixed",Str.ofString "_law_take",Str.ofString "_law_whole",Str.ofString "_law_alike",Str.ofString "_law_weather",Str.ofString "_law_round",Str.ofString "_law_ground_drawn",Str.ofString "_law_reaches",Str.ofString "_law_roads",Str.ofString "_law_ground",Str.ofString "_law_year",Str.ofString "_law_scene",Str.ofString "_law_made",Str.ofString "_law_news",Str.ofString "_law_spot"]
section
local macro_rules | `(tactic| o_head $H)=>`(tactic| (have hook:=$H;assumption))
theorem frag (hyp:(OpenLaw.row PySem.Challenge.rw_firnfall_k35_whole_each_round_adds_alike).Holds):(OpenLaw.row PySem.Challenge.rw_firnfall_k35_whole_each_round_adds_alike).Holds:=by
 k_head
end
def asL:List Addr:=[2,3,15,17,18,20,21,22,29,30,31,32,35,42,43,44,47,54,55,56,59,66,67,68,71,78,79,80,83,90,91,92,95,102,103,104,107,114,115,116,119,122,123,124,127,128,129,131,132,134,135,136,139,140,141,144,145,146,148,149,151,152,153,155,156,158,159,160,163,164,165,168,169,170,172,173,175,176,177,180,181,182,184,185,187,188,189,191,192,194,195,196,198,199,201,202,203,205,206,208,209,217,220,221,222,224,225,227,228,229,231,232,234,235,236,238,239,241,242,243,245,246,248,249,250,252,253,255,256,257,259,260,262,263,264,266,267,269,270,271,273,274,276,277,278,280,281,283,284,285,287,288,290,291,292,294,295,297,298,299,301,302,304,305,306,309,310,311,314,315,316,318,319,321,322,323,325,326,328,329,330,332,333,335,336,337,338,339,340,341,344,347,348,349,352,353,354,357,358,359,362,363,364,366,367,369,370,371,373,374,376,377,378,380,381,383,384,385,387,388,390,391,392,395,396,397,399,400,402,403,404,407,408,409,412,413,414,417,418,419,422,423,424,426,427,429,430,431,433,434,436,437,438,441,442,443,445,446,448,449,450,452,453,455,456,457,459,460,462,463,464,467,468]
theorem asE (P:Params):asL=(frag.heap_1 P).map (·.1):=by kernel_rfl
noncomputable def top (w:World) (os:OsState):Option Shared:=PySem.W.Fast.tw14082659384304107361 PySem.W.Fast.tw14364793385576792824 PySem.Challenge.pw_firnfall_k35_whole_each_round_adds_alike w (boot_heap w.params).objs.size ((boot_heap w.params).nsMap mainGlobals "__annotations__") 9000 ⟨boot_heap w.params,Array.mk [],boot_drawn,boot_toks,os⟩ (topStub PySem.Challenge.pw_firnfall_k35_whole_each_round_adds_alike)
def xt (s:Shared):Bool:=xlAt view [] s && recOk (RowW.records (OpenRow.toRowW (OpenLaw.row PySem.Challenge.rw_firnfall_k35_whole_each_round_adds_alike))) s
theorem ran2 (w:World) (os:OsState):(top w os).map (fun s=>(asL.map s.heap.get?,[142].map s.heap.get?))=some ((frag.heap_1 w.params).map fun p=>some p.2,[142].map fun _=>some (tabObj #[])):=by kernel_rfl
theorem ws:OpenLaw.wellSaid PySem.Challenge.rw_firnfall_k35_whole_each_round_adds_alike=true:=by kernel_rfl
theorem ran1 (w:World) (os:OsState):(top w os).map (fun s=>openSeen view loose (importedModules PySem.Challenge.pw_firnfall_k35_whole_each_round_adds_alike.main.body) xt true s)=some (openGood view loose):=by kernel_rfl
theorem ran0 (w:World) (os:OsState):(top w os).map (fun s=>staticsOk (importedModules PySem.Challenge.pw_firnfall_k35_whole_each_round_adds_alike.main.body) (boot_heap w.params) s.heap && namesBound PySem.Challenge.pw_firnfall_k35_whole_each_round_adds_alike s.heap && gensDone s && laidKept (boot_heap w.params) s.heap)=some true:=by kernel_rfl
theorem Ub (w:World) (os:OsState):topRun treeTable PySem.Challenge.pw_firnfall_k35_whole_each_round_adds_alike w (boot_heap w.params).objs.size ((boot_heap w.params).nsMap mainGlobals "__annotations__") 9000 ⟨boot_heap w.params,Array.mk [],boot_drawn,boot_toks,os⟩ (topStub PySem.Challenge.pw_firnfall_k35_whole_each_round_adds_alike)=top w os:=by
 rw [PySem.W.Fast.te14082659384304107361,PySem.W.Fast.te14364793385576792824]
 rfl
theorem Uq (w:World):((boot_heap w.params).isNs mainGlobals && (Array.mk []:Array GenState).size == 0)=true:=by kernel_rfl
theorem gS {tb:String->Option Builtin}{p:Program}{w:World}{N:Nat}{s:Shared}{h:Heap}{gs d k os}(hb:(h.isNs mainGlobals && gs.size == 0)=true) (hr:topRun tb p w h.objs.size (h.nsMap mainGlobals "__annotations__") N ⟨h,gs,d,k,os⟩ (topStub p)=some s) (hl:(staticsOk (importedModules p.main.body) h s.heap && namesBound p s.heap && gensDone s && laidKept h s.heap)=true):topFrom tb p w N ⟨h,gs,d,k,os⟩=some s:=by
 unfold topFrom
 rw [hb]
 show ((topRun tb p w h.objs.size (h.nsMap mainGlobals "__annotations__") N ⟨h,gs,d,k,os⟩ (topStub p)).bind _)=_
 rw [hr]
 show (match staticsOk (importedModules p.main.body) h s.heap && namesBound p s.heap && gensDone s && laidKept h s.heap with | true=>some s | false=>none)=_
 rw [hl]
theorem Za {tb:String->Option Builtin}{p:Program}{w:World}{N:Nat}{s₀ s:Shared}(a:fencedOpening tb p w N=some s₀) (t:topFrom tb p w N s₀=some s):openEnds tb p w N=some s:=by
 unfold openEnds
 rw [a]
 exact t
theorem left:LeftO (OpenLaw.row PySem.Challenge.rw_firnfall_k35_whole_each_round_adds_alike).prog view loose xt (Hook.obs (kmHook frag.heap_1 asL asE [142])) (Hook.val (kmHook frag.heap_1 asL asE [142])) 9000:=fun w=>by
 obtain ⟨⟨h,gs,d,k,os⟩,a,b⟩:=Option.map_eq_some_iff.mp (boot_open (p:=PySem.Challenge.pw_firnfall_k35_whole_each_round_adds_alike) (N:=9000) (by kernel_rfl) (by decide) (fun s=>by kernel_rfl) w)
 obtain ⟨rfl,rfl,rfl,rfl⟩:h=boot_heap w.params/\gs=Array.mk []/\d=boot_drawn/\k=boot_toks:=by simpa using b
 have h0:=ran0 w os
 have h1:=ran1 w os
 have h2:=ran2 w os
 cases e:top w os with
 | none=>rw [e] at h1;cases h1
 | some s =>
  rw [e] at h0 h1 h2
  have l1:(staticsOk (importedModules PySem.Challenge.pw_firnfall_k35_whole_each_round_adds_alike.main.body) (boot_heap w.params) s.heap && namesBound PySem.Challenge.pw_firnfall_k35_whole_each_round_adds_alike s.heap && gensDone s && laidKept (boot_heap w.params) s.heap)=true:=Option.some.inj h0
  have l2:openSeen view loose (importedModules PySem.Challenge.pw_firnfall_k35_whole_each_round_adds_alike.main.body) xt true s=openGood view loose:=Option.some.inj h1
  obtain ⟨m1,m2⟩:=Prod.mk.inj (Option.some.inj h2)
  have m5:asL.map s.heap.get? = (frag.heap_1 w.params).map fun p=>some p.2:=m1
  have t:=Za a (gS (Uq w) ((Ub w os).trans e) l1)
  show (openEnds treeTable PySem.Challenge.pw_firnfall_k35_whole_each_round_adds_alike w 9000).map _=_
  rw [t]
  show some (openSeen view loose (importedModules PySem.Challenge.pw_firnfall_k35_whole_each_round_adds_alike.main.body) xt true s,(asL.map s.heap.get?,[142].map s.heap.get?))=some (openGood view loose,_)
  rw [l2,m5,m2]
  rfl
end HO
end
namespace L2
open PySem PySem.Spec PyProof.Rows
abbrev Key:=Sum Int Str
def kI:Key->Value->Bool
 | .inl k,v=>Value.isInt k v
 | .inr x,v=>Value.isStrOf x v
def keyH (w:World):Key->Int
 | .inl k=>hashInt k
 | .inr x=>hashStr w x
theorem qe:∀ {k:Key}{v:Value},kI k v=true->(∃ i t,k=Sum.inl i/\v=Value.int i t)\/(∃ x t,k=Sum.inr x/\v=Value.str x t)
 | .inl i,v,h=>by
  obtain ⟨t,e⟩:=Value.isInt_shape (k:=i) (v:=v) h
  exact .inl ⟨i,t,rfl,e⟩
 | .inr x,v,h=>by
  obtain ⟨t,e⟩:=Value.isStrOf_shape (x:=x) (v:=v) h
  exact .inr ⟨x,t,rfl,e⟩
theorem Zh (i:Int) (t:Tok):kI (.inl i) (.int i t)=true:=by simp [kI,Value.isInt]
theorem Zk (x:Str) (t:Tok):kI (.inr x) (.str x t)=true:=by simp [kI,Value.isStrOf]
theorem U4 (a b:Int):decide ((Sum.inl a:Key)=Sum.inl b)=(a == b):=by
 by_cases e:a=b
 ·subst e;simp
 ·have h:¬ (Sum.inl a:Key)=Sum.inl b:=fun q=>e (Sum.inl.inj q)
  rw [decide_eq_false h]
  exact (beq_eq_false_iff_ne.mpr e).symm
theorem VM (a b:Str):decide ((Sum.inr a:Key)=Sum.inr b)=decide (a=b):=by
 by_cases e:a=b
 ·subst e;simp
 ·have h:¬ (Sum.inr a:Key)=Sum.inr b:=fun q=>e (Sum.inr.inj q)
  rw [decide_eq_false h,decide_eq_false e]
theorem Uc (a:Int) (b:Str):decide ((Sum.inl a:Key)=Sum.inr b)=false:=decide_eq_false (fun q=>nomatch q)
theorem Ur (a:Str) (b:Int):decide ((Sum.inr a:Key)=Sum.inl b)=false:=decide_eq_false (fun q=>nomatch q)
def jx (prog:Program) (w:World):PySem.KeyKind prog w Key where
 is:=kI
 hash:=keyH w
 inj:=fun v a b ha hb=>by
  rcases qe ha with ⟨i,t,rfl,rfl⟩ | ⟨x,t,rfl,rfl⟩
  ·rcases qe hb with ⟨j,u,rfl,e⟩ | ⟨y,u,rfl,e⟩
   ·injection e with e1 _;rw [e1]
   ·exact nomatch e
  ·rcases qe hb with ⟨j,u,rfl,e⟩ | ⟨y,u,rfl,e⟩
   ·exact nomatch e
   ·injection e with e1 _;rw [e1]
 byValue:=fun k v h=>by
  rcases qe h with ⟨i,t,rfl,rfl⟩ | ⟨x,t,rfl,rfl⟩ <;> rfl
 pyHash:=fun hv h=>by
  rcases qe hv with ⟨i,t,rfl,rfl⟩ | ⟨x,t,rfl,rfl⟩
  ·exact wpAny_pyHash_int h
  ·exact wpAny_pyHash_str h
 eqBool:=fun hu hv h=>by
  rcases qe hu with ⟨i,t,rfl,rfl⟩ | ⟨x,t,rfl,rfl⟩
  ·rcases qe hv with ⟨j,u,rfl,rfl⟩ | ⟨y,u,rfl,rfl⟩
   ·rw [U4] at h;exact wpAny_eqBool_int h
   ·rw [Uc] at h;exact SeqAt.EqAt.int_str i t y u _ _ _ _ h
  ·rcases qe hv with ⟨j,u,rfl,rfl⟩ | ⟨y,u,rfl,rfl⟩
   ·rw [Ur] at h;exact SeqAt.EqAt.str_int x t j u _ _ _ _ h
   ·rw [VM] at h;exact wpAny_eqBool_str h
 «strs»:=fun k x t v h=>by
  rcases qe h with ⟨i,u,rfl,e⟩ | ⟨y,u,rfl,e⟩
  ·exact nomatch e
  ·injection e with e1 _
   subst e1
   cases v <;> rfl
theorem Ji (prog:Program) (w:World) (i:Int) (t:Tok):(jx prog w).is (.inl i) (.int i t)=true:=Zh i t
theorem J9 (prog:Program) (w:World) (x:Str) (t:Tok):(jx prog w).is (.inr x) (.str x t)=true:=Zk x t
end L2
namespace L2
open PySem PySem.Spec PyProof.Rows
inductive V where
 | non | bl (b:Bool) | int (i:Int) | str (x:Str) | byt (b:Array UInt8) | flt (b:UInt64) | ref (a:Addr) | ty (n:String)
 deriving DecidableEq
def jy:V->Value->Prop
 | .non,u=>u=Value.none
 | .bl b,u=>u=Value.bool b
 | .int i,u=>∃ t,u=Value.int i t
 | .str x,u=>∃ t,u=Value.str x t
 | .byt b,u=>∃ t,u=Value.bytes b t
 | .flt b,u=>∃ t,u=Value.float b t
 | .ref a,u=>u=Value.ref a
 | .ty n,u=>u=Value.type n
abbrev jw:List V->List Value->Prop:=Paired jy
theorem jw.length {xs:List V}{us:List Value}(r:jw xs us):xs.length=us.length:=Paired.length r
theorem jw.get:∀ {xs:List V}{us:List Value}{i:Nat}{x:V},jw xs us->xs[i]? = some x->∃ u,us[i]? = some u/\jy x u
 | _,_,_,_,.nil,e=>by simp at e
 | _,_,0,_,.cons r _,e=>by simp at e;subst e;exact ⟨_,rfl,r⟩
 | _,_,i+1,x,.cons _ t,e=>by
  obtain ⟨u,h1,h2⟩:=jw.get (i:=i) (x:=x) t (by simpa using e)
  exact ⟨u,by simpa using h1,h2⟩
theorem jw.set {x:V}{u:Value}(r:jy x u):∀ {xs:List V}{us:List Value}(i:Nat),jw xs us->jw (xs.set i x) (us.set i u)
 | _,_,_,.nil=>.nil
 | _,_,0,.cons _ t=>.cons r t
 | _,_,i+1,.cons q t=>.cons q (jw.set r i t)
theorem jw.append:∀ {xs ys:List V}{us ws:List Value},jw xs us->jw ys ws->jw (xs++ys) (us++ws)
 | _,_,_,_,.nil,s=>s
 | _,_,_,_,.cons r t,s=>.cons r (jw.append t s)
theorem jw.take:∀ {xs:List V}{us:List Value}(n:Nat),jw xs us->jw (xs.take n) (us.take n)
 | _,_,0,_=>.nil
 | _,_,_+1,.nil=>.nil
 | _,_,n+1,.cons r t=>.cons r (jw.take n t)
theorem jw.drop:∀ {xs:List V}{us:List Value}(n:Nat),jw xs us->jw (xs.drop n) (us.drop n)
 | _,_,0,r=>r
 | _,_,_+1,.nil=>.nil
 | _,_,n+1,.cons _ t=>jw.drop n t
def zX:Option V->Option Value->Prop
 | some v,some u=>jy v u
 | none,none=>True
 | _,_=>False
def KV {κ:Type}:List (κ×V)->List (κ×Value)->Prop:=Paired fun (p:κ×V) (q:κ×Value)=>p.1=q.1/\jy p.2 q.2
def kV:Key->V
 | .inl i=>.int i
 | .inr x=>.str x
inductive HO where
  | lst (xs:List V)
  | tup (xs:List V)
  | dK (kvs:List (Key×V)) | dT (kvs:List (List Key×V))
  | set (S:Int->Bool) (n:Nat)
  | ins (C dx:Addr) (fs:List (Str×V))
  | own (x:Addr)
  | xd (fs:List (Str×V))
  | met (f x:Addr)
  | rng (lo hi:Int)
  | frz (o:Obj) (u:HO)
  | tbl (ps:Array Value)
  | ext (φ:Heap->Prop)
abbrev Hp:=Addr->Option HO
def upd (H:Hp) (a:Addr) (o:HO):Hp:=fun b=>if b=a then some o else H b
theorem j4 {H:Hp}{a:Addr}{o:HO}:upd H a o a=some o:=by unfold upd;rw [if_pos rfl]
theorem j5 {H:Hp}{a b:Addr}{o:HO}(h:b≠a):upd H a o b=H b:=by unfold upd;rw [if_neg h]
theorem jk {H:Hp}{a b:Addr}{o u:HO}(h:H a=some o) (h':H b=some u) (d:o≠u):a≠b:=by
 intro e;subst e;rw [h] at h';exact d (Option.some.inj h')
theorem j1 {H:Hp}{a b:Addr}{o:HO}(h:H a=some o) (h':H b=none):a≠b:=by
 intro e;subst e;rw [h] at h';cases h'
section
variable (P:Program) (w:World)
def jW (H:Hp) (h:Heap) (a:Addr):HO->Prop
 | .lst xs=>xs.length<=sizeLine/\∃ (its:List Value) (n:Nat),jw xs its/\h.get? a=some { cls:=.type "list",data:=.seq its.toArray n }
 | .tup xs=>xs.length<=sizeLine/\∃ its:List Value,jw xs its/\IsTup h a its.toArray
 | .dK kvs=>kvs.length<=sizeLine/\(a == sysModules)=false/\∃ vs,KV kvs vs/\h.DictOf (jx P w) a vs
 | .dT kvs=>kvs.length<=sizeLine/\(a == sysModules)=false/\∃ xs:List (List Key×Addr×Value),
   Paired (fun (p:List Key×V) (q:List Key×Addr×Value)=>p.1=q.1/\H q.2.1=some (.tup (p.1.map kV))/\jy p.2 q.2.2) kvs xs /\
   ∃ o es ep,h.get? a=some o/\o.ExactDict/\o.data = .dict es ep/\es.toList=xs.map (entryOfKey (tupleKind (jx P w)))/\(xs.map (·.1)).Nodup
 | .set S n=>h.SetOf (intKind P w) a S n
 | .ins C dx fs=>H dx=some (.own a)/\fs.length<=1000/\dx≠a/\h.get? a=some (PySem.W.instObj C dx) /\
   ∃ mA,h.Ns1 dx mA/\(∀ f,zX (fs.lookup f) (mA f))/\PySem.Within mA (fs.map (·.1))
 | .own _=>∃ o,h.get? a=some o
 | .xd fs=>∃ mA,h.Ns1 a mA/\∀ f,zX (fs.lookup f) (mA f)
 | .rng lo hi=>∃ t u v,h.get? a=some { cls:=.type "range",data:=.fields #[.int lo t,.int hi u,.int 1 v] }
 | .frz o u=>h.get? a=some o/\jW H h a u
 | .tbl ps=>h.get? a=some { cls:=.none,data:=.fields ps }
 | .met f x=>h.get? a=some (PySem.W.methodObj (.ref f) (.ref x))
 | .ext φ=>φ h/\(∃ o,h.get? a=some o)/\∀ h1 h2:Heap,φ h1->(∀ o,h1.get? a=some o->h2.get? a=some o)->φ h2
def HOk (H:Hp) (h:Heap):Prop:=∀ a o,H a=some o->jW P w H h a o
end
section
variable {P:Program}{w:World}{H H':Hp}{h h':Heap}{a:Addr}{o:HO}
theorem jW.lt (x:jW P w H h a o):a<h.objs.size:=by
 cases o with
 | lst xs=>obtain ⟨_,_,_,_,e⟩:=x;exact Heap.lt_size e
 | tup xs=>obtain ⟨_,_,_,p⟩:=x;exact p.lt
 | dK kvs=>obtain ⟨_,_,_,_,o,_,_,e,_⟩:=x;exact Heap.lt_size e
 | dT kvs=>obtain ⟨_,_,_,_,o,_,_,e,_⟩:=x;exact Heap.lt_size e
 | set S n=>obtain ⟨o,_,_,_,e,_⟩:=x;exact Heap.lt_size e
 | ins C dx fs=>obtain ⟨_,_,_,e,_⟩:=x;exact Heap.lt_size e
 | own y=>obtain ⟨_,e⟩:=x;exact Heap.lt_size e
 | xd fs=>obtain ⟨_,⟨_,_,_,e,_⟩,_⟩:=x;exact Heap.lt_size e
 | rng lo hi=>obtain ⟨_,_,_,e⟩:=x;exact Heap.lt_size e
 | frz ob u=>obtain ⟨e,_⟩:=x;exact Heap.lt_size e
 | tbl ps=>exact Heap.lt_size (show h.get? a=some _ from x)
 | met f y=>exact Heap.lt_size (show h.get? a=some _ from x)
 | ext φ=>obtain ⟨_,⟨_,e⟩,_⟩:=x;exact Heap.lt_size e
theorem Paired.mapP {α β:Type}{F G:α->β->Prop}:∀ {l₁:List α}{l₂:List β},Paired F l₁ l₂->(∀ a b,F a b->G a b)->Paired G l₁ l₂
 | _,_,.nil,_=>.nil
 | _,_,.cons r t,f=>.cons (f _ _ r) (Paired.mapP t f)
theorem jW.stay (x:jW P w H h a o) (k:∀ b u,(b=a\/H b=some (.own a))->h.get? b=some u->h'.get? b=some u)
  (ho:∀ b,H b=some (.own a)->H' b=some (.own a)) (ht:∀ b xs,H b=some (.tup xs)->H' b=some (.tup xs)):jW P w H' h' a o:=by
 induction o with
 | lst xs=>obtain ⟨z,its,n,r,e⟩:=x;exact ⟨z,its,n,r,k _ _ (.inl rfl) e⟩
 | tup xs=>obtain ⟨z,its,r,ob,e,c⟩:=x;exact ⟨z,its,r,ob,k _ _ (.inl rfl) e,c⟩
 | dK kvs=>obtain ⟨z,y,vs,r,ob,es,ep,e,c⟩:=x;exact ⟨z,y,vs,r,ob,es,ep,k _ _ (.inl rfl) e,c⟩
 | dT kvs =>
  obtain ⟨z,y,xs,r,ob,es,ep,e,c⟩:=x
  exact ⟨z,y,xs,Paired.mapP r fun p q z=>⟨z.1,ht _ _ z.2.1,z.2.2⟩,ob,es,ep,k _ _ (.inl rfl) e,c⟩
 | set S n=>obtain ⟨ob,es,ep,t,e,c⟩:=x;exact ⟨ob,es,ep,t,k _ _ (.inl rfl) e,c⟩
 | ins C dx fs =>
  obtain ⟨d,z,ne,e,mA,⟨od,es,ep,e2,c⟩,r⟩:=x
  exact ⟨ho _ d,z,ne,k _ _ (.inl rfl) e,mA,⟨od,es,ep,k _ _ (.inr d) e2,c⟩,r⟩
 | own y=>obtain ⟨ob,e⟩:=x;exact ⟨ob,k _ _ (.inl rfl) e⟩
 | xd fs=>obtain ⟨mA,⟨od,es,ep,e,c⟩,r⟩:=x;exact ⟨mA,⟨od,es,ep,k _ _ (.inl rfl) e,c⟩,r⟩
 | rng lo hi=>obtain ⟨t,u,v,e⟩:=x;exact ⟨t,u,v,k _ _ (.inl rfl) e⟩
 | frz ob u ih=>obtain ⟨e,q⟩:=x;exact ⟨k _ _ (.inl rfl) e,ih q⟩
 | tbl ps =>
  have e:h.get? a=some { cls:=.none,data:=.fields ps }:=x
  show h'.get? a=some { cls:=.none,data:=.fields ps }
  exact k a _ (.inl rfl) e
 | met f y =>
  have e:h.get? a=some (PySem.W.methodObj (.ref f) (.ref y)):=x
  show h'.get? a=some (PySem.W.methodObj (.ref f) (.ref y))
  exact k a _ (.inl rfl) e
 | ext φ=>obtain ⟨p,⟨o,e⟩,st⟩:=x;exact ⟨st _ _ p fun o q=>k _ _ (.inl rfl) q,⟨o,k _ _ (.inl rfl) e⟩,st⟩
theorem HOk.lt (x:HOk P w H h) (e:H a=some o):a<h.objs.size:=(x a o e).lt
theorem HOk.fresh (x:HOk P w H h) (e:h.objs.size<=a):H a=none:=by
 cases q:H a with
 | none=>rfl
 | some u=>exact absurd (Nat.lt_of_lt_of_le (x.lt q) e) (Nat.lt_irrefl _)
theorem HOk.kept (x:HOk P w H h) (k:∀ b u,h.get? b=some u->h'.get? b=some u):HOk P w H h':=fun a o e =>
 (x a o e).stay (fun b u _ q=>k b u q) (fun _ q=>q) fun _ _ q=>q
theorem HOk.laid (x:HOk P w H h) (k:∀ b u,h.get? b=some u->h'.get? b=some u) (hp:h.objs.size<=a) (new:jW P w (upd H a o) h' a o):HOk P w (upd H a o) h':=fun b u e=>by
 have hn:=x.fresh hp
 by_cases hb:b=a
 ·subst hb;rw [j4] at e;cases e;exact new
 ·rw [j5 hb] at e
  exact (x b u e).stay (fun c v _ q=>k c v q) (fun c q=>by rw [j5 (j1 q hn)];exact q) fun c xs q=>by rw [j5 (j1 q hn)];exact q
end
def Rd (H:Hp) (a:Addr) (u:HO):Prop:=H a=some u\/∃ o,H a=some (.frz o u)
theorem Rd.ok {P:Program}{w:World}{H:Hp}{h:Heap}{a:Addr}{u:HO}(r:Rd H a u) (x:HOk P w H h):jW P w H h a u:=by
 rcases r with r | ⟨o,r⟩
 ·exact x a u r
 ·obtain ⟨_,q⟩:=x a _ r
  exact q
def Mut:Option HO->Prop
 | some (.lst _)=>True
 | some (.dK _)=>True
 | some (.dT _)=>True
 | some (.set _ _)=>True
 | some (.ins _ _ _)=>True
 | some (.ext _)=>True
 | _=>False
section
variable {P:Program}{w:World}{H:Hp}{h h':Heap}{x e:Addr}{o':HO}
theorem HOk.write (ok:HOk P w H h) (mu:Mut (H x)) (he:e=x\/H e=some (.own x)) (k:∀ b u,b≠e->h.get? b=some u->h'.get? b=some u) (heo:∃ u,h'.get? e=some u)
  (new:jW P w (upd H x o') h' x o'):HOk P w (upd H x o') h':=fun b u q=>by
 have nown:∀ c y,H c=some (.own y)->c≠x:=fun c y r z=>by subst z;rw [r] at mu;exact mu
 have ntup:∀ c xs,H c=some (.tup xs)->c≠x:=fun c xs r z=>by subst z;rw [r] at mu;exact mu
 by_cases hb:b=x
 ·subst hb;rw [j4] at q;cases q;exact new
 ·rw [j5 hb] at q
  by_cases hbe:b=e
  ·have q':H b=some (.own x):=by
    rcases he with z | z
    ·exact absurd (hbe.trans z) hb
    ·rw [hbe];exact z
   rw [q] at q';cases q'
   obtain ⟨v,hv⟩:=heo
   exact ⟨v,by rw [hbe];exact hv⟩
  ·refine (ok b u q).stay (fun c v hc r=>k c v ?_ r) (fun c r=>by rw [j5 (nown c b r)];exact r) fun c xs r=>by rw [j5 (ntup c xs r)];exact r
   rcases hc with rfl | hc
   ·exact hbe
   ·rintro rfl
    rcases he with z | z
    ·exact nown c b hc z
    ·rw [hc] at z;cases z;exact hb rfl
end
structure Un (fs ex:List Addr) (H H':Hp) (h h':Heap):Prop where
 keep:∀ b o,h.get? b=some o->H b=none->b∉fs->b∉ex->h'.get? b=some o
 slot:∀ b o,h.get? b=some o->H b=none->b∈fs->b∉ex->∃ sl,h'.get? b=some { o with slots:=sl }
 free:∀ b o,h.get? b=some o->H b=none->b∉ex->H' b=none
 there:∀ b o,h.get? b=some o->b∉ex->∃ o',h'.get? b=some o'
 tups:∀ b xs,H b=some (.tup xs)->H' b=some (.tup xs)
 frzs:∀ b o u,H b=some (.frz o u)->H' b=some (.frz o u)
 tbls:∀ b ps,H b=some (.tbl ps)->∃ more,H' b=some (.tbl (ps++more))
section
variable {fs fs' ex ex':List Addr}{H H1 H2:Hp}{h h1 h2 h':Heap}{a x e:Addr}{o:HO}
theorem Un.any (u:Un fs ex H H1 h h1) {b:Addr}{ob:Obj}(q:h.get? b=some ob) (n:H b=none) (hx:b∉ex):∃ sl,h1.get? b=some { ob with slots:=sl }:=by
 by_cases hb:b∈fs
 ·exact u.slot b ob q n hb hx
 ·exact ⟨ob.slots,u.keep b ob q n hb hx⟩
theorem Un.kept (k:∀ b u,h.get? b=some u->h'.get? b=some u):Un fs ex H H h h' :=
 ⟨fun b ob q _ _ _=>k b ob q,fun b ob q _ _ _=>⟨ob.slots,k b ob q⟩,fun _ _ _ n _=>n,fun b ob q _=>⟨ob,k b ob q⟩,fun _ _ q=>q,fun _ _ _ q=>q,fun _ ps q=>⟨#[],by rw [q];simp⟩⟩
theorem Un.refl:Un fs ex H H h h:=Un.kept fun _ _ q=>q
theorem Un.laid (k:∀ b u,h.get? b=some u->h'.get? b=some u) (hp:h.objs.size<=a) (hn:H a=none):Un fs ex H (upd H a o) h h' where
 keep:=fun b u q _ _ _=>k b u q
 slot:=fun b u q _ _ _=>⟨u.slots,k b u q⟩
 free:=fun b u q n _=>by rw [j5 (Nat.ne_of_lt (Nat.lt_of_lt_of_le (Heap.lt_size q) hp))];exact n
 there:=fun b u q _=>⟨u,k b u q⟩
 tups:=fun b xs q=>by rw [j5 (j1 q hn)];exact q
 frzs:=fun b u xs q=>by rw [j5 (j1 q hn)];exact q
 tbls:=fun b ps q=>⟨#[],by rw [j5 (j1 q hn),q];simp⟩
theorem Un.write (mu:Mut (H x)) (he:e=x\/H e=some (.own x)) (k:∀ b u,b≠e->h.get? b=some u->h'.get? b=some u) (heo:∃ u,h'.get? e=some u):Un fs ex H (upd H x o) h h':=by
 have hx:∀ b,H b=none->b≠x:=fun b n z=>by subst z;rw [n] at mu;exact mu
 have hb:∀ b,H b=none->b≠e:=fun b n z=>by
  subst z
  rcases he with r | r
  ·exact hx b n r
  ·rw [n] at r;cases r
 have hm:∀ b u,H b=some u->¬ Mut (some u)->b≠x:=fun b u q nm z=>by subst z;rw [q] at mu;exact nm mu
 refine ⟨fun b u q n _ _=>k b u (hb b n) q,fun b u q n _ _=>⟨u.slots,k b u (hb b n) q⟩,fun b u q n _=>by rw [j5 (hx b n)];exact n,fun b u q _=>?_,
  fun b xs q=>by rw [j5 (hm b _ q fun z=>z)];exact q,fun b u xs q=>by rw [j5 (hm b _ q fun z=>z)];exact q,fun b ps q=>⟨#[],by rw [j5 (hm b _ q fun z=>z),q];simp⟩⟩
 by_cases hbe:b=e
 ·subst hbe;exact heo
 ·exact ⟨u,k b u hbe q⟩
end
def trk (h:Heap) (H:Hp):List Addr:=(List.range h.objs.size).filter fun a=>(H a).isSome
def k9 (h:Heap) (H:Hp):Heap:=PySem.W.hideAll h (trk h H)
theorem XN (h:Heap) (H:Hp):(k9 h H).objs.size=h.objs.size:=PySem.W.hideAll_size _ _
theorem Zw {h:Heap}{H:Hp}{b:Addr}{o:Obj}(e:h.get? b=some o) (n:H b=none):(k9 h H).get? b=some o :=
 PySem.W.hideAll_get _ e fun hm=>by
  have q:(H b).isSome=true:=(List.mem_filter.mp hm).2
  rw [n] at q;simp at q
theorem YN {h:Heap}{H:Hp}{b:Addr}{o:Obj}(e:(k9 h H).get? b=some o):h.get? b=some o/\H b=none:=by
 have e':h.get? b=some o:=PySem.W.of_hideAll (trk h H) e
 refine ⟨e',?_⟩
 cases q:H b with
 | none=>rfl
 | some x =>
  have hm:b∈trk h H:=List.mem_filter.mpr ⟨List.mem_range.mpr (Heap.lt_size e'),by simp [q]⟩
  have z:(k9 h H).get? b=none:=PySem.W.hideAll_none (trk h H) hm
  rw [z] at e;cases e
def Yz (g h:Heap) (L:Addr):List (Addr×Obj):=(List.range h.objs.size).filterMap fun a=>if a=L\/(g.get? a).isSome=true then none else (h.get? a).map fun o=>(a,o)
def yS (g h:Heap) (L d:Addr):List (Addr×Obj):=(Yz g h L).filter fun p=>decide (p.1≠d)
end L2
namespace L2
open PySem PySem.Spec PyProof.Rows
structure Mod (K:PySem.W.Frag) (mg:Str->Option Value) (base:Heap):Prop where
 kin:K.In base
 glob:base.Ns mainGlobals mg
 blt:∃ mb,base.Ns builtinsNs mb/\∀ x:Str,x ≠ "__name__" -> mb x=bootBuiltins x
 nolimit:base.NoLimit
structure Cx where
 prog:Program
 w:World
 K:PySem.W.Frag
 mg:Str->Option Value
 base:Heap
 A:Around
 N:List Str
 s₀:Shared
 H₀:Hp
 env:Env
 outer:List Env
 stack:List Env
 ex:List Addr
 fn:Str->Bool
 calm:Bool
 pn:List (Addr×Obj)
 xe:Value->Shared->Prop
def frs (l:List Env):List Addr:=l.filterMap (·.frame)
abbrev Cx.fs (X:Cx):List Addr:=frs X.outer
def Vis (sc:Scope) (x:Str):Prop:=sc.names.lookup x=some .local\/sc.names.lookup x=some .cell\/sc.names.lookup x=some .free
def Loc (sc:Scope) (x:Str):Prop:=sc.names.lookup x=some .local\/sc.names.lookup x=some .cell
def Look (env:Env) (h:Heap) (m:Str->Option Value) (x:Str) (u:Value):Prop :=
 (env.kindOf x=some .local/\m x=some u)\/((env.kindOf x=some .cell\/env.kindOf x=some .free)/\∃ c,env.cells.lookup x=some c/\h.IsCell c (some u))
structure Cx.Ok (X:Cx):Prop where
 mod:Mod X.K X.mg X.base
 kind:X.env.scope.kind = .function
 glob:X.env.globals=mainGlobals
 blt:X.env.builtins=builtinsNs
 above:X.s₀.heap.objs.size<=X.env.locals
 inj:∀ x y c,X.env.cells.lookup x=some c->X.env.cells.lookup y=some c->x=y
 has:∀ x,(X.env.kindOf x=some .cell\/X.env.kindOf x=some .free)->∃ c,X.env.cells.lookup x=some c
 cab:∀ x c,X.fn x=true->X.env.cells.lookup x=some c->X.s₀.heap.objs.size<=c
 hd:X.calm=true->X.A.handled=none
 frames:X.A.frames=some X.stack
 stk:X.stack=X.outer\/(X.stack=X.env::X.outer/\X.env.frame=some X.env.locals)
 exf:∀ b∈X.ex,b≠X.env.locals/\∀ x c,X.env.cells.lookup x=some c->c≠b
 bs:∀ b o,X.base.get? b=some o->X.s₀.heap.get? b=some o/\X.H₀ b=none
 bsz:X.base.objs.size<=X.s₀.heap.objs.size
 noex:∀ b o,X.base.get? b=some o->b∉X.ex
 exfs:∀ b∈X.ex,b∉X.fs
 funs:X.s₀.heap.FunFrames X.base X.outer
 frf:∀ b∈X.fs,X.H₀ b=none
structure Inv (X:Cx) (pins:List (Addr×Obj)) (σ:List (Option V)) (H:Hp) (s:Shared):Prop where
 ok:X.Ok
 os:s.os=X.s₀.os
 bare:AllBare s.gens
 base:Un X.fs X.ex X.H₀ H X.s₀.heap s.heap
 loc:∃ m,s.heap.Ns X.env.locals m/\∀ (i:Nat) (x:Str) (v:V),X.N[i]? = some x->σ[i]? = some (some v)->Vis X.env.scope x->∃ u,jy v u/\Look X.env s.heap m x u
 cell:∀ x c,X.env.cells.lookup x=some c->∃ v,s.heap.IsCell c v
 free:H X.env.locals=none
 freeC:∀ x c,X.env.cells.lookup x=some c->H c=none
 pin:∀ p∈X.pn++pins,s.heap.get? p.1=some p.2/\H p.1=none/\p.1≠X.env.locals/\p.1∉X.fs/\∀ v,p.2.data≠.cell v
 hok:HOk X.prog X.w H s.heap
 len:σ.length=X.N.length
section
variable {X:Cx}{pins:List (Addr×Obj)}{σ:List (Option V)}{H H':Hp}{s:Shared}{h':Heap}
theorem Cx.Ok.nofr (ok:X.Ok) {b:Addr}{o:Obj}(e:X.base.get? b=some o):b∉X.fs:=fun hb=>by
 have:=(ok.funs.mem hb).1
 rw [e] at this;cases this
theorem Inv.bs (I:Inv X pins σ H s):∀ b o,X.base.get? b=some o->s.heap.get? b=some o/\H b=none:=fun b o e =>
 ⟨I.base.keep b o (I.ok.bs b o e).1 (I.ok.bs b o e).2 (I.ok.nofr e) (I.ok.noex b o e),I.base.free b o (I.ok.bs b o e).1 (I.ok.bs b o e).2 (I.ok.noex b o e)⟩
theorem Inv.bk (I:Inv X pins σ H s):∀ b o,X.base.get? b=some o->s.heap.get? b=some o:=fun b o e=>(I.bs b o e).1
theorem Inv.mod (I:Inv X pins σ H s):Mod X.K X.mg X.base:=I.ok.mod
theorem Inv.kIn (I:Inv X pins σ H s):X.K.In s.heap:=I.ok.mod.kin.keeps I.bk
theorem Inv.lt (I:Inv X pins σ H s):X.env.locals<s.heap.objs.size:=let ⟨_,hn,_⟩:=I.loc;hn.lt
theorem Inv.sz (I:Inv X pins σ H s):X.s₀.heap.objs.size<=s.heap.objs.size:=Nat.le_trans I.ok.above (Nat.le_of_lt I.lt)
theorem Inv.nofs (I:Inv X pins σ H s) {a:Addr}(h:s.heap.objs.size<=a):a∉X.fs:=fun hb=>by
 obtain ⟨_,o,ho,_⟩:=I.ok.funs.mem hb
 exact absurd (Nat.lt_of_lt_of_le (Heap.lt_size ho) (Nat.le_trans I.sz h)) (Nat.lt_irrefl _)
theorem Inv.cne (I:Inv X pins σ H s):∀ x c,X.env.cells.lookup x=some c->c≠X.env.locals:=fun x c e z=>by
 obtain ⟨v,o,ho,hd⟩:=I.cell x c e
 obtain ⟨m,⟨o',es,ep,ho',hd',_⟩,_⟩:=I.loc
 rw [z,ho'] at ho;cases ho;rw [hd'] at hd;cases hd
theorem Inv.funs (I:Inv X pins σ H s):s.heap.FunFrames X.base X.outer:=by
 have all:∀ (l:List Env),(∀ b∈frs l,b∈X.fs)->X.s₀.heap.FunFrames X.base l->s.heap.FunFrames X.base l:=by
  intro l
  induction l with
  | nil=>intro _ _;trivial
  | cons env r ih =>
   intro hs hl
   obtain ⟨hk,⟨L,o,hf,hn,ho,hd⟩,hr⟩:=hl
   have hL:L∈X.fs:=hs L (by unfold frs;rw [List.filterMap_cons,hf];exact List.mem_cons_self)
   obtain ⟨sl,e⟩:=I.base.slot L o ho (I.ok.frf L hL) hL fun z=>I.ok.exfs L z hL
   exact ⟨hk,⟨L,_,hf,hn,e,hd⟩,ih (fun b hb=>hs b (by unfold frs;rw [List.filterMap_cons,hf];exact List.mem_cons_of_mem _ hb)) hr⟩
 exact all X.outer (fun _ hb=>hb) I.ok.funs
theorem Inv.stack (I:Inv X pins σ H s):s.heap.FunFrames X.base X.stack:=by
 rcases I.ok.stk with e | ⟨e,hf⟩
 ·rw [e];exact I.funs
 ·rw [e]
  obtain ⟨m,hn,_⟩:=I.loc
  refine .cons (by rw [I.ok.kind];decide) hf hn ?_ I.funs
  exact Heap.get?_none_of_le (Nat.le_trans I.ok.bsz I.ok.above)
theorem Inv.stkSub (I:Inv X pins σ H s):∀ b∈frs X.stack,b∈X.env.locals::X.fs:=fun b hb=>by
 rcases I.ok.stk with e | ⟨e,hf⟩
 ·rw [e] at hb;exact List.mem_cons_of_mem _ hb
 ·rw [e] at hb
  unfold frs at hb
  rw [List.filterMap_cons,hf] at hb
  exact hb
theorem Inv.stkFree (I:Inv X pins σ H s):∀ b∈frs X.stack,H b=none:=fun b hb=>by
 rcases List.mem_cons.mp (I.stkSub b hb) with e | hb
 ·rw [e];exact I.free
 ·obtain ⟨_,o,ho,_⟩:=I.ok.funs.mem hb
  exact I.base.free b o ho (I.ok.frf b hb) fun z=>I.ok.exfs b z hb
theorem Inv.step {g':Array GenState}{t':Nat}{d':Drawn}{ch:List Addr}(I:Inv X pins σ H s)
  (hch:∀ b∈ch,(b∈X.ex\/X.s₀.heap.objs.size<=b)/\b≠X.env.locals/\(∀ x c,X.env.cells.lookup x=some c->c≠b)/\∀ p∈X.pn++pins,p.1≠b)
  (keep:∀ b o,b≠X.env.locals->b∉X.fs->b∉ch->s.heap.get? b=some o->H b=none->h'.get? b=some o)
  (slot:∀ b o,b≠X.env.locals->b∈X.fs->b∉ch->s.heap.get? b=some o->H b=none->∃ sl,h'.get? b=some { o with slots:=sl }) (free:∀ b o,b∉ch->s.heap.get? b=some o->H b=none->H' b=none)
  (there:∀ b o,b∉ch->s.heap.get? b=some o->∃ o',h'.get? b=some o')
  (tups:∀ b xs,H b=some (.tup xs)->H' b=some (.tup xs)) (frzs:∀ b o u,H b=some (.frz o u)->H' b=some (.frz o u)) (tbls:∀ b ps,H b=some (.tbl ps)->∃ more,H' b=some (.tbl (ps++more)))
  (ns:∀ m,s.heap.Ns X.env.locals m->h'.Ns X.env.locals m) (hok:HOk X.prog X.w H' h') (hg:AllBare g') :
  Inv X pins σ H' { s with heap:=h',gens:=g',drawn:=d',toks:=t' }:=by
 have neL:∀ b o,X.s₀.heap.get? b=some o->b≠X.env.locals:=fun b o e=>Nat.ne_of_lt (Nat.lt_of_lt_of_le (Heap.lt_size e) I.ok.above)
 have neC:∀ b o,X.s₀.heap.get? b=some o->b∉X.ex->b∉ch:=fun b o e hx hb=>by
  rcases (hch b hb).1 with z | z
  ·exact hx z
  ·exact absurd (Nat.lt_of_lt_of_le (Heap.lt_size e) z) (Nat.lt_irrefl _)
 have cellK:∀ x c,X.env.cells.lookup x=some c->∀ v,s.heap.IsCell c v->h'.IsCell c v:=fun x c e v ⟨o,ho,hd⟩=>by
  have nch:c∉ch:=fun z=>(hch c z).2.2.1 x c e rfl
  by_cases hc:c∈X.fs
  ·obtain ⟨sl,q⟩:=slot c o (I.cne x c e) hc nch ho (I.freeC x c e)
   exact ⟨_,q,hd⟩
  ·exact ⟨o,keep c o (I.cne x c e) hc nch ho (I.freeC x c e),hd⟩
 refine ⟨I.ok,I.os,hg,⟨fun b o e n hb hx=>?_,fun b o e n hb hx=>?_,fun b o e n hx=>?_,fun b o e hx=>?_,fun b xs e=>tups b xs (I.base.tups b xs e),fun b o xs e=>frzs b o xs (I.base.frzs b o xs e),fun b ps e=>?_⟩,?_,fun x c e=>?_,?_,fun x c e=>?_,fun p hp=>?_,hok,I.len⟩
 ·exact keep b o (neL b o e) hb (neC b o e hx) (I.base.keep b o e n hb hx) (I.base.free b o e n hx)
 ·obtain ⟨sl,e1⟩:=I.base.slot b o e n hb hx
  obtain ⟨sl',e2⟩:=slot b _ (neL b o e) hb (neC b o e hx) e1 (I.base.free b o e n hx)
  exact ⟨sl',e2⟩
 ·obtain ⟨o',e1⟩:=I.base.there b o e hx
  exact free b o' (neC b o e hx) e1 (I.base.free b o e n hx)
 ·obtain ⟨o',e1⟩:=I.base.there b o e hx
  exact there b o' (neC b o e hx) e1
 ·obtain ⟨m1,e1⟩:=I.base.tbls b ps e
  obtain ⟨m2,e2⟩:=tbls b _ e1
  exact ⟨m1++m2,by rw [e2,Array.append_assoc]⟩
 ·obtain ⟨m,hn,hl⟩:=I.loc
  refine ⟨m,ns m hn,fun i x v e1 e2 e3=>?_⟩
  obtain ⟨u,r,l⟩:=hl i x v e1 e2 e3
  refine ⟨u,r,?_⟩
  rcases l with l | ⟨k,c,e,z⟩
  ·exact .inl l
  ·exact .inr ⟨k,c,e,cellK x c e _ z⟩
 ·obtain ⟨v,z⟩:=I.cell x c e
  exact ⟨v,cellK x c e v z⟩
 ·obtain ⟨m,⟨o,_,_,ho,_⟩,_⟩:=I.loc
  exact free _ o (fun z=>(hch _ z).2.1 rfl) ho I.free
 ·obtain ⟨v,o,ho,hd⟩:=I.cell x c e
  exact free c o (fun z=>(hch c z).2.2.1 x c e rfl) ho (I.freeC x c e)
 ·obtain ⟨e,n,ne,nf,d⟩:=I.pin p hp
  have nch:p.1∉ch:=fun z=>(hch p.1 z).2.2.2 p hp rfl
  exact ⟨keep p.1 p.2 ne nf nch e n,free p.1 p.2 nch e n,ne,nf,d⟩
theorem Inv.un {t':Nat}(I:Inv X pins σ H s) (u:Un X.fs [] H H' s.heap h') (hok:HOk X.prog X.w H' h'):Inv X pins σ H' { s with heap:=h',toks:=t' }:=by
 obtain ⟨m,⟨o,es,ep,ho,r⟩,_⟩:=id I.loc
 obtain ⟨sl,hL⟩:=u.any ho I.free (by simp)
 exact I.step (g':=s.gens) (d':=s.drawn) (ch:=[]) (fun _ z=>nomatch z) (fun b o _ hb _ e n=>u.keep b o e n hb (by simp)) (fun b o _ hb _ e n=>u.slot b o e n hb (by simp)) (fun b o _ e n=>u.free b o e n (by simp)) (fun b o _ e=>u.there b o e (by simp)) u.tups u.frzs u.tbls (fun m' hm=>by
  obtain ⟨o',es',ep',ho',r'⟩:=hm
  rw [ho] at ho';cases ho'
  exact ⟨_,es',ep',hL,r'⟩) hok I.bare
theorem Inv.call {g':Array GenState}{t':Nat}{d':Drawn}{ch:List Addr}(I:Inv X pins σ H s) (u:Un (frs X.stack) ch H H' s.heap h') (hok:HOk X.prog X.w H' h') (hg:AllBare g')
  (hch:∀ b∈ch,(b∈X.ex\/X.s₀.heap.objs.size<=b)/\b≠X.env.locals/\(∀ x c,X.env.cells.lookup x=some c->c≠b)/\∀ p∈X.pn++pins,p.1≠b) :
  Inv X pins σ H' { s with heap:=h',gens:=g',drawn:=d',toks:=t' }:=by
 obtain ⟨m,⟨o,es,ep,ho,r⟩,_⟩:=id I.loc
 obtain ⟨sl,hL⟩:=u.any ho I.free fun z=>(hch _ z).2.1 rfl
 exact I.step (ch:=ch) hch (fun b o hL hb hc e n=>u.keep b o e n (fun z=>(List.mem_cons.mp (I.stkSub b z)).elim hL hb) hc) (fun b o _ _ hc e n=>u.any e n hc) (fun b o hc e n=>u.free b o e n hc) (fun b o hc e=>u.there b o e hc) u.tups u.frzs u.tbls (fun m' hm=>by
  obtain ⟨o',es',ep',ho',r'⟩:=hm
  rw [ho] at ho';cases ho'
  exact ⟨_,es',ep',hL,r'⟩) hok hg
theorem Inv.turned {t':Nat}{it:Addr}(I:Inv X pins σ H s) (k:∀ b o,b≠it->s.heap.get? b=some o->h'.get? b=some o) (hn:H it=none) (hL:it≠X.env.locals)
  (h1:it∈X.ex\/X.s₀.heap.objs.size<=it) (h2:∀ x c,X.env.cells.lookup x=some c->c≠it) (h3:∀ p∈X.pn++pins,p.1≠it):Inv X pins σ H { s with heap:=h',toks:=t' }:=by
 have nit:∀ b u,H b=some u->b≠it:=fun b u e z=>by rw [z,hn] at e;cases e
 refine I.step (g':=s.gens) (d':=s.drawn) (ch:=[it]) (fun b hb=>?_) (fun b o _ _ hc e _=>k b o (fun z=>hc (by simp [z])) e) (fun b o _ _ hc e _=>⟨o.slots,k b o (fun z=>hc (by simp [z])) e⟩) (fun _ _ _ _ n=>n)
  (fun b o hc e=>⟨o,k b o (fun z=>hc (by simp [z])) e⟩) (fun _ _ e=>e) (fun _ _ _ e=>e) (fun b ps e=>⟨#[],by rw [e];simp⟩) (fun m hm=>?_) (fun b u e=>?_) I.bare
 ·have e:b=it:=by simpa using hb
  subst e
  exact ⟨h1,hL,h2,h3⟩
 ·obtain ⟨o,es,ep,ho,r⟩:=hm
  exact ⟨o,es,ep,k _ o (Ne.symm hL) ho,r⟩
 ·refine (I.hok b u e).stay (fun c v hc q=>k c v ?_ q) (fun _ q=>q) fun _ _ q=>q
  rcases hc with z | z
  ·rw [z];exact nit b u e
  ·exact nit c _ z
theorem Inv.tok (I:Inv X pins σ H s) (t:Nat):Inv X pins σ H { s with toks:=t }:=I.un (h':=s.heap) (t':=t) Un.refl I.hok
theorem Inv.kept {t':Nat}(I:Inv X pins σ H s) (k:∀ b u,s.heap.get? b=some u->h'.get? b=some u):Inv X pins σ H { s with heap:=h',toks:=t' }:=I.un (Un.kept k) (I.hok.kept k)
theorem Inv.laid {a:Addr}{o:HO}{t':Nat}(I:Inv X pins σ H s) (k:∀ b u,s.heap.get? b=some u->h'.get? b=some u) (hp:s.heap.objs.size<=a) (new:jW X.prog X.w (upd H a o) h' a o) :
  Inv X pins σ (upd H a o) { s with heap:=h',toks:=t' }:=I.un (Un.laid k hp (I.hok.fresh hp)) (I.hok.laid k hp new)
theorem Inv.write {x e:Addr}{o:HO}{t':Nat}(I:Inv X pins σ H s) (mu:Mut (H x)) (he:e=x\/H e=some (.own x)) (k:∀ b u,b≠e->s.heap.get? b=some u->h'.get? b=some u) (heo:∃ u,h'.get? e=some u)
  (new:jW X.prog X.w (upd H x o) h' x o):Inv X pins σ (upd H x o) { s with heap:=h',toks:=t' }:=I.un (Un.write mu he k heo) (I.hok.write mu he k heo new)
theorem Inv.pins_of {pins':List (Addr×Obj)}(I:Inv X pins σ H s) (h:∀ p∈pins',s.heap.get? p.1=some p.2/\H p.1=none/\p.1≠X.env.locals/\p.1∉X.fs/\∀ v,p.2.data≠.cell v):Inv X pins' σ H s :=
 ⟨I.ok,I.os,I.bare,I.base,I.loc,I.cell,I.free,I.freeC,fun p hp=>(List.mem_append.mp hp).elim (fun z=>I.pin p (List.mem_append_left _ z)) (h p),I.hok,I.len⟩
theorem JA {N:List Str}(hN:N.Nodup) {i j:Nat}{x:Str}(a:N[i]? = some x) (b:N[j]? = some x):i=j:=by
 obtain ⟨h1,e1⟩:=List.getElem?_eq_some_iff.mp a
 obtain ⟨h2,e2⟩:=List.getElem?_eq_some_iff.mp b
 exact (List.getElem_inj hN).mp (e1.trans e2.symm)
theorem kD {M:Model}{A:Around}{E:Value->Shared->Prop}{i:Nat}{x:Str}{v:V}{u:Value}{Q:Unit->Shared->Prop}(I:Inv X pins σ H s) (hN:X.N.Nodup) (hi:X.N[i]? = some x) (hx:Loc X.env.scope x) (r:jy v u)
  (h:∀ s',Inv X pins (σ.set i (some v)) H s'->(∃ a,Heap.SameBut a s.heap s'.heap/\(a=X.env.locals\/X.env.cells.lookup x=some a))->Q () s') (hf:X.fn x=true\/X.env.scope.names.lookup x=some .local:=by first | exact .inl rfl | exact .inr rfl | assumption):wpAny M A (storeName X.env x u) Q E s:=by
 obtain ⟨m,hn,hl⟩:=id I.loc
 have hcls:(X.env.scope.kind == .class || (X.env.scope.kind == .module && X.env.locals != X.env.globals))=false:=by rw [I.ok.kind];rfl
 have hiσ:i<σ.length:=by rw [I.len];exact (List.getElem?_eq_some_iff.mp hi).1
 have cne:=I.cne
 have tracked:∀ {a:Addr} {h':Heap},(∃ o,s.heap.get? a=some o/\H a=none)->Heap.SameBut a s.heap h'->HOk X.prog X.w H h':=fun {a h'} ha hs b ob e=>by
  obtain ⟨_,_,hfree⟩:=ha
  refine (I.hok b ob e).stay (fun c w' hc q=>(hs.2 c ?_).trans q) (fun _ q=>q) fun _ _ q=>q
  rintro rfl
  rcases hc with rfl | hc
  ·rw [hfree] at e;cases e
  ·rw [hfree] at hc;cases hc
 rcases hx with hk | hk
 ·refine wpAny_storeName_local hk hn (fun h' hn' hs=>?_) hcls
  obtain ⟨oL,_,_,hoL,_⟩:=id hn
  refine h _ ⟨I.ok,I.os,I.bare,⟨fun b o e n hb hx=>?_,fun b o e n hb hx=>?_,I.base.free,fun b o e hx=>?_,I.base.tups,I.base.frzs,I.base.tbls⟩,⟨_,hn',fun j y v' e1 e2 e3=>?_⟩,fun y c e=>?_,I.free,I.freeC,fun p hp=>?_,tracked ⟨oL,hoL,I.free⟩ hs,by simpa using I.len⟩ ⟨_,hs,.inl rfl⟩
  ·exact (hs.2 b (Nat.ne_of_lt (Nat.lt_of_lt_of_le (Heap.lt_size e) I.ok.above))).trans (I.base.keep b o e n hb hx)
  ·obtain ⟨sl,e1⟩:=I.base.slot b o e n hb hx
   exact ⟨sl,(hs.2 b (Nat.ne_of_lt (Nat.lt_of_lt_of_le (Heap.lt_size e) I.ok.above))).trans e1⟩
  ·obtain ⟨o',e1⟩:=I.base.there b o e hx
   exact ⟨o',(hs.2 b (Nat.ne_of_lt (Nat.lt_of_lt_of_le (Heap.lt_size e) I.ok.above))).trans e1⟩
  ·by_cases hj:j=i
   ·subst hj
    rw [hi] at e1;cases e1
    rw [List.getElem?_set_self hiσ] at e2
    cases e2
    exact ⟨u,r,.inl ⟨hk,by simp⟩⟩
   ·rw [List.getElem?_set_ne (Ne.symm hj)] at e2
    obtain ⟨u',r',q⟩:=hl j y v' e1 e2 e3
    refine ⟨u',r',?_⟩
    rcases q with ⟨k,e⟩ | ⟨k,c,e,z⟩
    ·refine .inl ⟨k,?_⟩
     have:y≠x:=fun e=>hj (JA hN e1 (e ▸ hi))
     simp [this,e]
    ·exact .inr ⟨k,c,e,z.sameBut hs (cne y c e)⟩
  ·obtain ⟨w',z⟩:=I.cell y c e
   exact ⟨w',z.sameBut hs (cne y c e)⟩
  ·obtain ⟨e,n,ne,nf,d⟩:=I.pin p hp
   exact ⟨(hs.2 p.1 ne).trans e,n,ne,nf,d⟩
 ·have hfn:X.fn x=true:=by
   rcases hf with z | z
   ·exact z
   ·rw [z] at hk;cases hk
  obtain ⟨c,hc⟩:=I.ok.has x (.inl hk)
  obtain ⟨w',z⟩:=I.cell x c hc
  refine wpAny_storeName_cell I.ok.kind hk hc z (fun h' hc' hs=>?_)
  obtain ⟨oc,hoc,hocd⟩:=id z
  refine h { s with heap:=h' } ⟨I.ok,I.os,I.bare,⟨fun b o e n hb hx=>?_,fun b o e n hb hx=>?_,I.base.free,fun b o e hx=>?_,I.base.tups,I.base.frzs,I.base.tbls⟩,⟨m,hn.sameBut hs (Ne.symm (cne x c hc)),fun j y v' e1 e2 e3=>?_⟩,fun y c' e=>?_,I.free,I.freeC,fun p hp=>?_,tracked ⟨oc,hoc,I.freeC x c hc⟩ hs,by simpa using I.len⟩ ⟨c,hs,.inr hc⟩
  ·exact (hs.2 b (Nat.ne_of_lt (Nat.lt_of_lt_of_le (Heap.lt_size e) (I.ok.cab x c hfn hc)))).trans (I.base.keep b o e n hb hx)
  ·obtain ⟨sl,e1⟩:=I.base.slot b o e n hb hx
   exact ⟨sl,(hs.2 b (Nat.ne_of_lt (Nat.lt_of_lt_of_le (Heap.lt_size e) (I.ok.cab x c hfn hc)))).trans e1⟩
  ·obtain ⟨o',e1⟩:=I.base.there b o e hx
   exact ⟨o',(hs.2 b (Nat.ne_of_lt (Nat.lt_of_lt_of_le (Heap.lt_size e) (I.ok.cab x c hfn hc)))).trans e1⟩
  ·by_cases hj:j=i
   ·subst hj
    rw [hi] at e1;cases e1
    rw [List.getElem?_set_self hiσ] at e2
    cases e2
    exact ⟨u,r,.inr ⟨.inl hk,c,hc,hc'⟩⟩
   ·rw [List.getElem?_set_ne (Ne.symm hj)] at e2
    obtain ⟨u',r',q⟩:=hl j y v' e1 e2 e3
    refine ⟨u',r',?_⟩
    rcases q with q | ⟨k,c',e,z'⟩
    ·exact .inl q
    ·refine .inr ⟨k,c',e,z'.sameBut hs ?_⟩
     rintro rfl
     exact hj (JA hN e1 (I.ok.inj _ _ _ e hc ▸ hi))
  ·by_cases hcc:c'=c
   ·subst hcc;exact ⟨_,hc'⟩
   ·obtain ⟨w2,z2⟩:=I.cell y c' e
    exact ⟨w2,z2.sameBut hs hcc⟩
  ·obtain ⟨e,n,ne,nf,d⟩:=I.pin p hp
   refine ⟨(hs.2 p.1 ?_).trans e,n,ne,nf,d⟩
   intro q
   rw [q,hoc] at e
   have q':oc=p.2:=Option.some.inj e
   exact d w' (by rw [<- q'];exact hocd)
theorem Q0 {M:Model}{A:Around}{E:Value->Shared->Prop}{i:Nat}{x:Str}{v:V}{u:Value}{Q:Unit->Shared->Prop}(I:Inv X pins σ H s) (hN:X.N.Nodup) (hi:X.N[i]? = some x) (hx:Loc X.env.scope x) (r:jy v u)
  (h:∀ s',Inv X pins (σ.set i (some v)) H s'->Q () s') (hf:X.fn x=true\/X.env.scope.names.lookup x=some .local:=by first | exact .inl rfl | exact .inr rfl | assumption):wpAny M A (storeName X.env x u) Q E s :=
 kD I hN hi hx r (fun s' I' _=>h s' I') hf
theorem Inv.call' {s':Shared}{ch:List Addr}(I:Inv X pins σ H s) (ho:s'.os=s.os) (u:Un (frs X.stack) ch H H' s.heap s'.heap) (hok:HOk X.prog X.w H' s'.heap) (hg:AllBare s'.gens)
  (hch:∀ b∈ch,(b∈X.ex\/X.s₀.heap.objs.size<=b)/\b≠X.env.locals/\(∀ x c,X.env.cells.lookup x=some c->c≠b)/\∀ p∈X.pn++pins,p.1≠b):Inv X pins σ H' s':=by
 obtain ⟨h',g',d',t',o'⟩:=s'
 have e:o'=s.os:=ho
 subst e
 exact I.call (g':=g') (t':=t') (d':=d') u hok hg hch
end
abbrev XK:=Value->Option Addr->Hp->Prop
abbrev St:=List (Option V)
abbrev VK:=V->Hp->Prop
abbrev TE:=St->Hp->VK->Prop
abbrev TT:=St->Hp->(Bool->Hp->Prop)->Prop
abbrev TA:=St->Hp->(List V->Hp->Prop)->Prop
structure Ends where
 nx:St->Hp->Prop
 rt:VK
 bk:St->Hp->Prop:=fun _ _=>False
 ct:St->Hp->Prop:=fun _ _=>False
abbrev TS:=Ends->St->Hp->Prop
def EP (X:Cx) (pins:List (Addr×Obj)) (σ:St) (Q:VK) (u:Value) (s':Shared):Prop:=∃ v H',Inv X pins σ H' s'/\jy v u/\Q v H'
def TP (X:Cx) (pins:List (Addr×Obj)) (σ:St) (Q:Bool->Hp->Prop) (b:Bool) (s':Shared):Prop:=∃ H',Inv X pins σ H' s'/\Q b H'
def AP (X:Cx) (pins:List (Addr×Obj)) (σ:St) (Q:List V->Hp->Prop) (us:List Value) (s':Shared):Prop:=∃ vs H',Inv X pins σ H' s'/\jw vs us/\Q vs H'
def SP (X:Cx) (pins:List (Addr×Obj)) (D:Ends) (f:Flow) (s':Shared):Prop :=
 match f with
 | .next=>∃ σ' H',Inv X pins σ' H' s'/\D.nx σ' H'
 | .brk=>∃ σ' H',Inv X pins σ' H' s'/\D.bk σ' H'
 | .cont=>∃ σ' H',Inv X pins σ' H' s'/\D.ct σ' H'
 | .ret u=>∃ v σ' H',Inv X pins σ' H' s'/\jy v u/\D.rt v H'
def PE (X:Cx) (e:Expr) (t:TE):Prop :=
 ∀ (pins:List (Addr×Obj)) (s:Shared) (σ:St) (H:Hp) (Q:VK),Inv X pins σ H s->t σ H Q->wpAny (model X.prog X.w) X.A (eval e X.env) (EP X pins σ Q) X.xe s
def PT (X:Cx) (e:Expr) (t:TT):Prop :=
 ∀ (pins:List (Addr×Obj)) (s:Shared) (σ:St) (H:Hp) (Q:Bool->Hp->Prop),Inv X pins σ H s->t σ H Q->wpAny (model X.prog X.w) X.A (isTrue e X.env (eval e X.env)) (TP X pins σ Q) X.xe s
def PW (X:Cx) (e:Expr) (t:TT):Prop :=
 ∀ (whole:Sem Value) (pins:List (Addr×Obj)) (s:Shared) (σ:St) (H:Hp) (Q:Bool->Hp->Prop),Inv X pins σ H s->t σ H Q->wpAny (model X.prog X.w) X.A (isTrue e X.env whole) (TP X pins σ Q) X.xe s
theorem PW.pt {X:Cx}{e:Expr}{t:TT}(h:PW X e t):PT X e t:=h _
def PA (X:Cx) (es:List Expr) (t:TA):Prop :=
 ∀ (pos:Pos) (pins:List (Addr×Obj)) (s:Shared) (σ:St) (H:Hp) (Q:List V->Hp->Prop),Inv X pins σ H s->t σ H Q->wpAny (model X.prog X.w) X.A (spliced (backTo pos (starEach es X.env))) (AP X pins σ Q) X.xe s
def PS (X:Cx) (st:Stmt) (t:TS):Prop :=
 ∀ (pins:List (Addr×Obj)) (s:Shared) (σ:St) (H:Hp) (D:Ends),Inv X pins σ H s->t D σ H->wpAny (model X.prog X.w) X.A (exec st X.env) (SP X pins D) X.xe s
def PSs (X:Cx) (st:List Stmt) (t:TS):Prop :=
 ∀ (pins:List (Addr×Obj)) (s:Shared) (σ:St) (H:Hp) (D:Ends),Inv X pins σ H s->t D σ H->wpAny (model X.prog X.w) X.A (execs st X.env) (SP X pins D) X.xe s
theorem thn {α:Type}{t:Sem α}{Q Q':α->Shared->Prop}{M:Model}{A:Around}{E:Value->Shared->Prop}{s:Shared}(h:wpAny M A t Q E s) (hQ:∀ a s,Q a s->Q' a s):wpAny M A t Q' E s:=wpAny_mono h hQ fun _ _ x=>x
end L2
namespace L2
open PySem PySem.Spec PyProof.Rows
section
variable {X:Cx}
theorem bin {a b:Expr}{ta tb:TE}(ha:PE X a ta) (hb:PE X b tb) {pins:List (Addr×Obj)}{s:Shared}{σ:St}{H:Hp}{R:V->V->Hp->Prop}(I:Inv X pins σ H s) (h:ta σ H fun x H1=>tb σ H1 fun y H2=>R x y H2)
  {α:Type} {Q:α->Shared->Prop} {f:Value->Value->Sem α}
  (hf:∀ v u s2 x y H2,Inv X pins σ H2 s2->jy x v->jy y u->R x y H2->wpAny (model X.prog X.w) X.A (f v u) Q X.xe s2) :
  wpAny (model X.prog X.w) X.A (eval a X.env) (fun v s₁=>wpAny (model X.prog X.w) X.A (eval b X.env) (fun u s₂=>wpAny (model X.prog X.w) X.A (f v u) Q X.xe s₂) X.xe s₁) X.xe s:=by
 refine thn (ha pins s σ H _ I h) fun v s1 ⟨x,H1,I1,r1,q1⟩=>?_
 refine thn (hb pins s1 σ H1 _ I1 q1) fun u s2 ⟨y,H2,I2,r2,q2⟩=>?_
 exact hf v u s2 x y H2 I2 r1 r2 q2
def U6 (i:Nat):TE:=fun σ H Q=>∃ v,σ[i]? = some (some v)/\Q v H
def tC (v:V):TE:=fun _ H Q=>Q v H
theorem VD {i:Nat}{x:Str}{pos:Pos}(hN:X.N[i]? = some x) (hv:Vis X.env.scope x) (hd:(x == ("__debug__" : Str))=false:=by decide) (hcd:(x == ("__classdict__" : Str))=false:=by decide):PE X (.Name x pos) (U6 i):=by
 intro pins s σ H Q I h
 obtain ⟨v,e,h⟩:=h
 obtain ⟨m,hn,hl⟩:=I.loc
 obtain ⟨u,r,l⟩:=hl i x v hN e hv
 have fin:EP X pins σ Q u s:=⟨v,H,I,r,h⟩
 rcases l with ⟨hk,hm⟩ | ⟨hk,c,hc,hcell⟩
 ·exact wpAny_Name (wpAny_loadName_local I.ok.kind hk hn hm fin) hd
 ·rcases hk with hk | hk
  ·exact wpAny_Name (wpAny_loadName_cell I.ok.kind hk hc hcell fin) hd
  ·exact wpAny_Name (wpAny_loadName_free I.ok.kind hk hc hcell fin hcd) hd
theorem j8 {i j pos}:PE X (.Constant (.int i) j pos) (tC (.int i)):=fun _ _ _ H _ I h=>wpAny_Constant_int ⟨.int i,H,I.tok _,⟨_,rfl⟩,h⟩
theorem kX {b j pos}:PE X (.Constant (.bool b) j pos) (tC (.bl b)):=fun _ _ _ H _ I h=>Constant_bool ⟨.bl b,H,I,rfl,h⟩
theorem Yt {j pos}:PE X (.Constant .none j pos) (tC .non):=fun _ _ _ H _ I h=>Constant_none ⟨.non,H,I,rfl,h⟩
theorem jH {x j pos}:PE X (.Constant (.str x) j pos) (tC (.str x)):=fun _ _ _ H _ I h=>Calls.Constant_str ⟨.str x,H,I.tok _,⟨_,rfl⟩,h⟩
def Gl (X:Cx) (x:Str):Prop:=X.env.kindOf x=some .globalImplicit
theorem v0 {E:Value->Shared->Prop}{pins:List (Addr×Obj)}{s:Shared}{σ:St}{H:Hp}{x:Str}{u:Value}{pos:Pos}{Q:Value->Shared->Prop}(I:Inv X pins σ H s) (hg:Gl X x) (hm:X.mg x=some u) (h:Q u s)
  (hd:(x == ("__debug__" : Str))=false:=by decide):wpAny (model X.prog X.w) X.A (eval (.Name x pos) X.env) Q E s :=
 Calls.Name_function_global I.ok.kind hg (Calls.loadGlobal_global (by rw [I.ok.glob];exact I.mod.glob.keeps I.bk) hm h) hd
theorem zh {E:Value->Shared->Prop}{pins:List (Addr×Obj)}{s:Shared}{σ:St}{H:Hp}{x:Str}{u:Value}{pos:Pos}{Q:Value->Shared->Prop}(I:Inv X pins σ H s) (hg:Gl X x) (hm:X.mg x=none) (hv:bootBuiltins x=some u) (h:Q u s)
  (hn:x ≠ "__name__":=by decide) (hd:(x == ("__debug__" : Str))=false:=by decide):wpAny (model X.prog X.w) X.A (eval (.Name x pos) X.env) Q E s:=by
 obtain ⟨mb,h1,h2⟩:=I.mod.blt
 exact Calls.Name_function_global I.ok.kind hg (Calls.loadGlobal_builtin (by rw [I.ok.glob];exact I.mod.glob.keeps I.bk) hm (by rw [I.ok.blt];exact h1.keeps I.bk) ((h2 x hn).trans hv) h) hd
theorem qR {x:Str}{v:V}{u:Value}{pos:Pos}(hg:Gl X x) (hm:X.mg x=some u) (r:jy v u) (hd:(x == ("__debug__" : Str))=false:=by decide):PE X (.Name x pos) (tC v) :=
 fun _ _ _ H _ I h=>v0 I hg hm ⟨v,H,I,r,h⟩ hd
theorem qX {x:Str}{v:V}{u:Value}{pos:Pos}(hg:Gl X x) (hm:X.mg x=none) (hv:bootBuiltins x=some u) (r:jy v u) (hn:x ≠ "__name__":=by decide) (hd:(x == ("__debug__" : Str))=false:=by decide):PE X (.Name x pos) (tC v) :=
 fun _ _ _ H _ I h=>zh I hg hm hv ⟨v,H,I,r,h⟩ hn hd
variable {a b:Expr}{ta tb:TE}{pos:Pos}
def PC (X:Cx) (op:CmpOp) (a b:Expr) (t:TE):Prop :=
 ∀ (pins:List (Addr×Obj)) (s:Shared) (σ:St) (H:Hp) (Q:VK),Inv X pins σ H s->t σ H Q ->
  wpAny (model X.prog X.w) X.A (eval a X.env) (fun v s₁=>wpAny (model X.prog X.w) X.A (eval b X.env) (fun u s₂=>wpAny (model X.prog X.w) X.A (compareOp op v u) (EP X pins σ Q) X.xe s₂) X.xe s₁) X.xe s
theorem Yp (b:Expr) {op:CmpOp}(h:op≠.In) (h2:op≠.NotIn):behindInMarks op b=false:=by
 have e1:(op == CmpOp.In)=false:=by cases op <;> first | rfl | exact absurd rfl h
 have e2:(op == CmpOp.NotIn)=false:=by cases op <;> first | rfl | exact absurd rfl h2
 cases b <;> simp [behindInMarks,e1,e2]
def tB (t:TE):TT:=fun σ H Q=>t σ H fun x H1=>∃ c,x = .bl c/\Q c H1
theorem pt_cmp {op:CmpOp}{t:TE}(h:PC X op a b t) (h1:behindInMarks op b=false:=by first | exact Yp _ (by decide) (by decide) | rfl):PT X (.Compare a [op] [b] pos) (tB t):=by
 intro pins s σ H Q I hw
 refine wpAny_isTrue_Compare1 (thn (h pins s σ H _ I hw) fun v s1 h1=>thn h1 fun u s2 h2=>thn h2 fun c s3 ⟨x,H1,I1,r1,q1⟩=>?_) h1
 obtain ⟨d,rfl,q⟩:=q1
 cases r1
 exact wpAny_truthy_bool ⟨H1,I1,q⟩
theorem zf {e:Expr}{t:TE}(h:PE X e t) (he:∀ whole,isTrue e X.env whole=(do let v <- whole;standAt e.pos;holding [v] (truthy v)):=by intro _;rfl):PT X e (tB t):=by
 intro pins s σ H Q I hw
 refine isTrue_plain (thn (h pins s σ H _ I hw) fun v s1 ⟨x,H1,I1,r1,q1⟩=>?_) (he _)
 obtain ⟨d,rfl,q⟩:=q1
 cases r1
 exact wpAny_truthy_bool ⟨H1,I1,q⟩
variable {tA tB':TT}{yS:List Expr}
def tAnd (t u:TT):TT:=fun σ H Q=>t σ H fun c H1=>if c=true then u σ H1 Q else Q false H1
def tOr (t u:TT):TT:=fun σ H Q=>t σ H fun c H1=>if c=true then Q true H1 else u σ H1 Q
def tNot (t:TT):TT:=fun σ H Q=>t σ H fun c H1=>Q (!c) H1
theorem YH (ha:PT X a tA):PW X (.BoolOp .And [a] pos) tA:=by
 intro wh pins s σ H Q I h
 refine isTrue_and (thn (ha pins s σ H Q I h) fun c s1 e=>?_)
 cases c with
 | true=>exact isTrue_and_nil e
 | false=>exact e
theorem QG (ha:PT X a tA):PW X (.BoolOp .Or [a] pos) tA:=by
 intro wh pins s σ H Q I h
 refine isTrue_or (thn (ha pins s σ H Q I h) fun c s1 e=>?_)
 cases c with
 | false=>exact isTrue_or_nil e
 | true=>exact e
theorem U0 (ha:PT X a tA) (hb:PW X (.BoolOp .And (b::yS) pos) tB'):PW X (.BoolOp .And (a::b::yS) pos) (tAnd tA tB'):=by
 intro wh pins s σ H Q I h
 refine isTrue_and (thn (ha pins s σ H _ I h) fun c s1 ⟨H1,I1,q1⟩=>?_)
 cases c with
 | true=>exact hb wh pins s1 σ H1 Q I1 q1
 | false=>exact ⟨H1,I1,q1⟩
theorem ZG (ha:PT X a tA) (hb:PW X (.BoolOp .Or (b::yS) pos) tB'):PW X (.BoolOp .Or (a::b::yS) pos) (tOr tA tB'):=by
 intro wh pins s σ H Q I h
 refine isTrue_or (thn (ha pins s σ H _ I h) fun c s1 ⟨H1,I1,q1⟩=>?_)
 cases c with
 | true=>exact ⟨H1,I1,q1⟩
 | false=>exact hb wh pins s1 σ H1 Q I1 q1
theorem qT (ha:PT X a tA):PT X (.UnaryOp .Not a pos) (tNot tA):=by
 intro pins s σ H Q I h
 exact isTrue_not (ha pins s σ H (fun c H1=>Q (!c) H1) I h)
def Wd (ta tb:TE):TE:=fun σ H Q=>ta σ H fun x H1=>∃ c,x = .bl c/\if c=true then tb σ H1 Q else Q (.bl false) H1
def UQ (ta:TE):TE:=fun σ H Q=>ta σ H fun x H1=>∃ c,x = .bl c/\Q (.bl (!c)) H1
theorem zZ {op}{t:TE}(h:PE X a t):PE X (.BoolOp op [a] pos) t:=fun pins s σ H Q I hw=>BoolOp_one (h pins s σ H Q I hw)
theorem zI (ha:PE X a ta) (hb:PE X (.BoolOp .And (b::yS) pos) tb):PE X (.BoolOp .And (a::b::yS) pos) (Wd ta tb):=by
 intro pins s σ H Q I h
 refine BoolOp_and (thn (ha pins s σ H _ I h) fun v s1 ⟨x,H1,I1,r1,q1⟩=>?_)
 obtain ⟨c,rfl,q1⟩:=q1
 cases r1
 refine wpAny_truthy_bool ?_
 cases c with
 | true=>exact hb pins s1 σ H1 Q I1 q1
 | false=>exact ⟨.bl false,H1,I1,rfl,q1⟩
theorem Ue (ha:PE X a ta):PE X (.UnaryOp .Not a pos) (UQ ta):=by
 intro pins s σ H Q I h
 refine UnaryOp_ (thn (ha pins s σ H _ I h) fun v s1 ⟨x,H1,I1,r1,q1⟩=>?_)
 obtain ⟨c,rfl,q1⟩:=q1
 cases r1
 exact not_of (wpAny_truthy_bool ⟨.bl (!c),H1,I1,rfl,q1⟩)
end
end L2
namespace L2
open PySem PySem.Spec PyProof.Rows
def SqL (K:PySem.W.Frag) (H:Hp) (a:Addr) (xs:List V):Prop :=
 Rd H a (.lst xs) \/
  ∃ (o:Obj) (its:Array Value) (n:Nat),K.lookup a=some o/\o.cls = .type "list" /\ o.dict=none/\o.data = .seq its n/\its.size<=sizeLine/\jw xs its.toList
def SqT (K:PySem.W.Frag) (H:Hp) (a:Addr) (xs:List V):Prop :=
 Rd H a (.tup xs) \/
  ∃ (o:Obj) (its:Array Value) (n:Nat),K.lookup a=some o/\o.cls = .type "tuple" /\ o.data = .seq its n/\its.size<=sizeLine/\jw xs its.toList
def absV:Value->Option V
 | .none=>some .non
 | .bool b=>some (.bl b)
 | .int i _=>some (.int i)
 | .str x _=>some (.str x)
 | .bytes b _=>some (.byt b)
 | .float b _=>some (.flt b)
 | .ref a=>some (.ref a)
 | .type n=>some (.ty n)
 | _=>none
theorem jy.abs {x:V}{u:Value}(r:jy x u):absV u=some x:=by
 cases x with
 | non=>cases r;rfl
 | bl _=>cases r;rfl
 | int _=>obtain ⟨t,rfl⟩:=r;rfl
 | str _=>obtain ⟨t,rfl⟩:=r;rfl
 | byt _=>obtain ⟨t,rfl⟩:=r;rfl
 | flt _=>obtain ⟨t,rfl⟩:=r;rfl
 | ref _=>cases r;rfl
 | ty _=>cases r;rfl
theorem jy.inj {x y:V}{u:Value}(r:jy x u) (q:jy y u):x=y:=Option.some.inj (r.abs.symm.trans q.abs)
theorem jw.inj:∀ {xs ys:List V}{us:List Value},jw xs us->jw ys us->xs=ys
 | _,_,_,.nil,.nil=>rfl
 | _,_,_,.cons r t,.cons r' t'=>by rw [r.inj r',jw.inj t t']
section
variable {X:Cx}{pins:List (Addr×Obj)}{σ:St}{H:Hp}{s:Shared}{a:Addr}{xs ys:List V}
theorem SqL.of {K:PySem.W.Frag}(h:H a=some (.lst xs)):SqL K H a xs:=.inl (.inl h)
theorem SqT.of {K:PySem.W.Frag}(h:H a=some (.tup xs)):SqT K H a xs:=.inl (.inl h)
theorem Inv.list (I:Inv X pins σ H s) (h:SqL X.K H a xs):∃ its:List Value,jw xs its/\PlainL s.heap a its.toArray/\xs.length<=sizeLine:=by
 rcases h with h | ⟨o,its,n,hk,hc,hd,hs,hz,r⟩
 ·obtain ⟨z,its,n,r,e⟩:=h.ok I.hok
  exact ⟨its,r,⟨_,n,e,rfl,rfl,rfl⟩,z⟩
 ·refine ⟨its.toList,r,⟨o,n,I.kIn a o hk,hc,hd,by simpa using hs⟩,?_⟩
  have e:=r.length
  simp only [Array.length_toList] at e
  omega
theorem Inv.tuple (I:Inv X pins σ H s) (h:SqT X.K H a xs):∃ its:List Value,jw xs its/\IsTup s.heap a its.toArray/\xs.length<=sizeLine:=by
 rcases h with h | ⟨o,its,n,hk,hc,hs,hz,r⟩
 ·obtain ⟨z,its,r,p⟩:=h.ok I.hok
  exact ⟨its,r,p,z⟩
 ·refine ⟨its.toList,r,⟨o,I.kIn a o hk,hc,n,by simpa using hs⟩,?_⟩
  have e:=r.length
  simp only [Array.length_toList] at e
  omega
theorem Inv.list_inj (I:Inv X pins σ H s) (h:SqL X.K H a xs) (h':SqL X.K H a ys):xs=ys:=by
 obtain ⟨its,r,⟨o,n,e,_,_,d⟩,_⟩:=I.list h
 obtain ⟨its',r',⟨o',n',e',_,_,d'⟩,_⟩:=I.list h'
 rw [e] at e';cases e'
 rw [d] at d'
 injection d' with d1 _
 have:its=its':=by simpa using congrArg Array.toList d1
 subst this
 exact r.inj r'
theorem Inv.tuple_inj (I:Inv X pins σ H s) (h:SqT X.K H a xs) (h':SqT X.K H a ys):xs=ys:=by
 obtain ⟨its,r,⟨o,e,_,n,d⟩,_⟩:=I.tuple h
 obtain ⟨its',r',⟨o',e',_,n',d'⟩,_⟩:=I.tuple h'
 rw [e] at e';cases e'
 rw [d] at d'
 injection d' with d1 _
 have:its=its':=by simpa using congrArg Array.toList d1
 subst this
 exact r.inj r'
end
abbrev Cx.wish (X:Cx) (E:Value->Shared->Prop):Cx:={ X with xe:=E }
abbrev Cx.nox (X:Cx):Cx:=X.wish fun _ _=>False
theorem Cx.Ok.wish {X:Cx}(ok:X.Ok) (E:Value->Shared->Prop):(X.wish E).Ok :=
 ⟨ok.mod,ok.kind,ok.glob,ok.blt,ok.above,ok.inj,ok.has,ok.cab,ok.hd,ok.frames,ok.stk,ok.exf,ok.bs,ok.bsz,ok.noex,ok.exfs,ok.funs,ok.frf⟩
theorem Cx.Ok.unwish {X:Cx}{E:Value->Shared->Prop}(ok:(X.wish E).Ok):X.Ok :=
 ⟨ok.mod,ok.kind,ok.glob,ok.blt,ok.above,ok.inj,ok.has,ok.cab,ok.hd,ok.frames,ok.stk,ok.exf,ok.bs,ok.bsz,ok.noex,ok.exfs,ok.funs,ok.frf⟩
section
variable {X:Cx}{pins:List (Addr×Obj)}{σ:St}{H:Hp}{s:Shared}{E:Value->Shared->Prop}
theorem Inv.wish (I:Inv X pins σ H s) (E:Value->Shared->Prop):Inv (X.wish E) pins σ H s:=⟨I.ok.wish E,I.os,I.bare,I.base,I.loc,I.cell,I.free,I.freeC,I.pin,I.hok,I.len⟩
theorem Inv.unwish (I:Inv (X.wish E) pins σ H s):Inv X pins σ H s:=⟨I.ok.unwish,I.os,I.bare,I.base,I.loc,I.cell,I.free,I.freeC,I.pin,I.hok,I.len⟩
theorem SP.unwish {D:Ends}{f:Flow}{s':Shared}(h:SP (X.wish E) pins D f s'):SP X pins D f s':=by
 cases f with
 | next=>obtain ⟨σ',H',I,q⟩:=h;exact ⟨σ',H',I.unwish,q⟩
 | brk=>obtain ⟨σ',H',I,q⟩:=h;exact ⟨σ',H',I.unwish,q⟩
 | cont=>obtain ⟨σ',H',I,q⟩:=h;exact ⟨σ',H',I.unwish,q⟩
 | ret u=>obtain ⟨v,σ',H',I,r,q⟩:=h;exact ⟨v,σ',H',I.unwish,r,q⟩
theorem PE.nox {e:Expr}{t:TE}(h:PE X.nox e t):PE X e t:=fun pins s σ H Q I hw =>
 wpAny_mono (h pins s σ H Q (I.wish _) hw) (fun _ _ ⟨v,H',I',r,q⟩=>⟨v,H',I'.unwish,r,q⟩) fun _ _ z=>False.elim z
theorem PSs.nox {st:List Stmt}{t:TS}(h:PSs X.nox st t):PSs X st t:=fun pins s σ H D I hw =>
 wpAny_mono (h pins s σ H D (I.wish _) hw) (fun _ _ q=>q.unwish) fun _ _ z=>False.elim z
end
section
variable {X:Cx}{st:Stmt}{yS:List Stmt}{t u:TS}{e:Expr}{te:TE}{pos:Pos}
def Uu:TS:=fun D σ H=>D.nx σ H
def tSeq (t u:TS):TS:=fun D σ H=>t { D with nx:=u D } σ H
theorem jB:PSs X [] Uu:=fun _ _ σ H _ I h=>wpAny_execs_nil ⟨σ,H,I,h⟩
theorem j7 (h1:PS X st t) (h2:PSs X yS u):PSs X (st::yS) (tSeq t u):=by
 intro pins s σ H D I h
 refine wpAny_execs_cons (thn (h1 pins s σ H { D with nx:=u D } I h) fun f s1 q=>?_)
 cases f with
 | next =>
  obtain ⟨σ',H',I',q⟩:=q
  exact h2 pins s1 σ' H' D I' q
 | ret v=>exact q
 | brk=>exact q
 | cont=>exact q
theorem j9 (h1:PS X st t):PSs X [st] t:=by
 intro pins s σ H D I h
 refine wpAny_execs_cons (thn (h1 pins s σ H D I h) fun f s1 q=>?_)
 cases f with
 | next=>exact wpAny_execs_nil q
 | ret v=>exact q
 | brk=>exact q
 | cont=>exact q
theorem Inv.quiet {pins:List (Addr×Obj)}{σ:St}{H:Hp}{s:Shared}(I:Inv X pins σ H s):interactive X.env=false:=by simp [interactive,I.ok.kind]
def UF (te:TE):TS:=fun D σ H=>te σ H fun _ H1=>D.nx σ H1
theorem jV (he:PE X e te) (hs:swapsWith e none pos.line X.env=pure false:=by rfl):PS X (.Expr e pos) (UF te):=by
 intro pins s σ H D I h
 exact wpAny_Expr_any (thn (he pins s σ H _ I h) fun v s1 ⟨x,H1,I1,r1,q1⟩=>⟨σ,H1,I1,q1⟩) I.quiet hs
def tRet (te:TE):TS:=fun D σ H=>te σ H D.rt
theorem jj (he:PE X e te):PS X (.Return (some e) pos) (tRet te):=by
 intro pins s σ H D I h
 exact wpAny_Return_some (thn (he pins s σ H _ I h) fun v s1 ⟨x,H1,I1,r1,q1⟩=>⟨x,σ,H1,I1,r1,q1⟩)
def tIfS (c:TT) (t u:TS):TS:=fun D σ H=>c σ H fun b H1=>if b=true then t D σ H1 else u D σ H1
theorem qj {c:Expr}{a b:List Stmt}{tc:TT}(hc:PT X c tc) (ha:PSs X a t) (hb:PSs X b u):PS X (.If c a b pos) (tIfS tc t u):=by
 intro pins s σ H D I h
 refine wpAny_If (thn (hc pins s σ H _ I h) fun d s1 ⟨H1,I1,q1⟩=>?_)
 cases d with
 | true=>exact ha pins s1 σ H1 D I1 q1
 | false=>exact hb pins s1 σ H1 D I1 q1
end
abbrev TG:=V->St->Hp->(St->Hp->Prop)->Prop
abbrev TGs:=List V->St->Hp->(St->Hp->Prop)->Prop
def PG (X:Cx) (target:Expr) (t:TG):Prop :=
 ∀ (pins:List (Addr×Obj)) (s:Shared) (σ:St) (H:Hp) (v:V) (u:Value) (Q:St->Hp->Prop),Inv X pins σ H s->jy v u->t v σ H Q ->
  wpAny (model X.prog X.w) X.A (assign target X.env u) (fun _ s'=>∃ σ' H',Inv X pins σ' H' s'/\Q σ' H') X.xe s
def PGs (X:Cx) (ts:List Expr) (t:TGs):Prop :=
 ∀ (pins:List (Addr×Obj)) (s:Shared) (σ:St) (H:Hp) (vs:List V) (us:List Value) (Q:St->Hp->Prop),Inv X pins σ H s->jw vs us->t vs σ H Q ->
  wpAny (model X.prog X.w) X.A (assignInOrder ((assignEach ts X.env).map (·.2)) us) (fun _ s'=>∃ σ' H',Inv X pins σ' H' s'/\Q σ' H') X.xe s
abbrev VY:=V->V->V->Hp->(Hp->Prop)->Prop
def Ut (X:Cx) (t:VY):Prop :=
 ∀ (pins:List (Addr×Obj)) (s:Shared) (σ:St) (H:Hp) (o i v:V) (ov iv u:Value) (Q:Hp->Prop),Inv X pins σ H s->jy o ov->jy i iv->jy v u->t o i v H Q ->
  wpAny (model X.prog X.w) X.A (setItem ov iv u) (fun _ s'=>∃ H',Inv X pins σ H' s'/\Q H') X.xe s
section
variable {X:Cx}{pos:Pos}
def JU (i:Nat):TG:=fun v σ H Q=>Q (σ.set i (some v)) H
theorem jb {i:Nat}{x:Str}(hN:X.N.Nodup) (hi:X.N[i]? = some x) (hx:Loc X.env.scope x) (hf:X.fn x=true\/X.env.scope.names.lookup x=some .local:=by first | exact .inl rfl | exact .inr rfl | assumption):PG X (.Name x pos) (JU i):=by
 intro pins s σ H v u Q I r h
 exact wpAny_assign_Name (Q0 I hN hi hx r (fun s' I'=>⟨_,H,I',h⟩) hf)
def gNil:TGs:=fun vs σ H Q=>vs=[]/\Q σ H
def Wj (t:TG) (u:TGs):TGs:=fun vs σ H Q=>∃ v r,vs=v::r/\t v σ H fun σ' H'=>u r σ' H' Q
theorem qA:PGs X [] gNil:=by
 intro pins s σ H vs us Q I r h
 obtain ⟨e,h⟩:=h
 subst e
 cases r
 exact assignInOrder_nil ⟨σ,H,I,h⟩
theorem js {e:Expr}{es:List Expr}{t:TG}{u:TGs}(h1:PG X e t) (h2:PGs X es u)
  (hs:(assignEach (e::es) X.env).map (·.2)=assign e X.env::(assignEach es X.env).map (·.2):=by rfl):PGs X (e::es) (Wj t u):=by
 intro pins s σ H vs us Q I r h
 obtain ⟨v,vr,e1,h⟩:=h
 subst e1
 cases r with
 | cons r rr =>
  rw [hs]
  refine assignInOrder_cons (thn (h1 pins s σ H _ _ _ I r h) fun _ s1 ⟨σ1,H1,I1,q1⟩=>?_)
  exact h2 pins s1 σ1 H1 _ _ Q I1 rr q1
def Wg (K:PySem.W.Frag) (n:Nat) (t:TGs):TG:=fun v σ H Q=>∃ a xs,v = .ref a/\SqT K H a xs/\xs.length=n/\t xs σ H Q
theorem Ui {es:List Expr}{k:Nat}{t:TGs}{n:Nat}(hc:X.calm=true) (h:PGs X es t)
  (hn:(assignEach es X.env).length=n:=by rfl) (hst:(assignEach es X.env).findIdx? (·.1)=none:=by rfl):PG X (.Tuple es k pos) (Wg X.K n t):=by
 intro pins s σ H v u Q I r hw
 obtain ⟨a,xs,e1,hq,hl,hw⟩:=hw
 subst e1
 cases r
 obtain ⟨its,rv,ht,hz⟩:=I.tuple hq
 refine assign_Tuple_tuple (I.ok.hd hc) ht (by simp [hn,<- hl,rv.length]) hst fun h' hx=>?_
 have I1:Inv X pins σ H { s with heap:=h' }:=I.kept (t':=s.toks) fun b o e=>hx b o (Nat.ne_of_lt (Heap.lt_size e)) e
 exact h pins _ σ H xs _ Q I1 (by simpa using rv) hw
def gSub (to ti:TE) (t:VY):TG:=fun v σ H Q=>to σ H fun o H1=>ti σ H1 fun i H2=>t o i v H2 fun H3=>Q σ H3
theorem gU {o i:Expr}{to ti:TE}{t:VY}(ho:PE X o to) (hi:PE X i ti) (hs:Ut X t)
  (ha:∀ v,assign (.Subscript o i pos) X.env v=(do
   let ov <- holding [v] (eval o X.env)
   let iv <- holding [v,ov] (eval i X.env)
   standAt pos
   holding [v,ov,iv] (setItem ov iv v)
   release [v,ov,iv] []):=by intro _;rfl):PG X (.Subscript o i pos) (gSub to ti t):=by
 intro pins s σ H v u Q I r h
 rw [ha]
 refine wpAny_bind (wpAny_holding (thn (ho pins s σ H _ I h) fun ov s1 ⟨x,H1,I1,r1,q1⟩=>?_))
 refine wpAny_bind (wpAny_holding (thn (hi pins s1 σ H1 _ I1 q1) fun iv s2 ⟨y,H2,I2,r2,q2⟩=>?_))
 refine wpAny_bind (wpAny_standAt (wpAny_bind (wpAny_holding (thn (hs pins s2 σ H2 x y v ov iv u _ I2 r1 r2 r q2) fun _ s3 ⟨H3,I3,q3⟩=>?_))))
 exact wpAny_release ⟨σ,H3,I3,q3⟩
def VE (te:TE) (g:TG):TS:=fun D σ H=>te σ H fun x H1=>g x σ H1 D.nx
theorem zS {tg e:Expr}{te:TE}{g:TG}(he:PE X e te) (hg:PG X tg g) (hs:swapsWithSole [tg] e pos.line X.env=pure false:=by rfl) (hw:swappedStores [tg] e X.env=pure none:=by rfl)
  (h1:(assignEach [tg] X.env).map (·.2)=[assign tg X.env]:=by rfl):PS X (.Assign [tg] e pos) (VE te g):=by
 intro pins s σ H D I h
 refine wpAny_Assign_stores (thn (he pins s σ H _ I h) fun v s1 ⟨x,H1,I1,r1,q1⟩=>?_) hs hw
 rw [h1]
 exact thn (hg pins s1 σ H1 x v _ I1 r1 q1) fun _ s2 q=>q
theorem jp {i:Nat}{x:Str}{e:Expr}{te:TE}{pos':Pos}(hN:X.N.Nodup) (hi:X.N[i]? = some x) (hx:Loc X.env.scope x) (he:PE X e te) (hs:swapsWith e (some (.Name x pos')) pos.line X.env=pure false:=by rfl) (hf:X.fn x=true\/X.env.scope.names.lookup x=some .local:=by first | exact .inl rfl | exact .inr rfl | assumption) :
  PS X (.Assign [.Name x pos'] e pos) (VE te (JU i)):=by
 intro pins s σ H D I h
 refine wpAny_Assign_Name (thn (he pins s σ H _ I h) fun v s1 ⟨y,H1,I1,r1,q1⟩=>?_) hs
 exact Q0 I1 hN hi hx r1 (fun s2 I2=>⟨_,H1,I2,q1⟩) hf
end
section
variable {X:Cx}{pos:Pos}
def Yc (c:TT) (tb:TS):TS:=fun D σ H=>∃ W:Nat->St->Hp->Prop,(∃ m,W m σ H)/\∀ m σ H,W m σ H ->
 c σ H fun b H1=>if b=true then ∃ N:St->Hp->Prop,(∀ σ' H',N σ' H'->∃ m',m'<m/\W m' σ' H')/\tb { D with nx:=N,ct:=N,bk:=D.nx } σ H1 else D.nx σ H1
theorem Jn {c:Expr}{body:List Stmt}{tc:TT}{tb:TS}(hp:PassesOwn (model X.prog X.w) X.A X.env X.xe) (hc:PT X c tc) (hb:PSs X body tb):PS X (.While c body [] pos) (Yc tc tb):=by
 intro pins s σ H D I h
 obtain ⟨W,⟨m0,w0⟩,turn⟩:=h
 refine wpAny_While (codeAny_whileLoop (fun n s'=>∃ σ' H',Inv X pins σ' H' s'/\W n σ' H') ?_ m0 ⟨σ,H,I,w0⟩)
 rintro n s1 ⟨σ1,H1,I1,w1⟩
 refine wpAny_passesOwn hp (thn (hc pins s1 σ1 H1 _ I1 (turn n σ1 H1 w1)) fun b s2 ⟨H2,I2,q2⟩=>?_)
 cases b with
 | true =>
  obtain ⟨N,hN,q2⟩:=q2
  rw [if_pos rfl]
  refine wpAny_passesOwn hp (thn (hb pins s2 σ1 H2 _ I2 q2) fun f s3 q3=>?_)
  cases f with
  | next =>
   obtain ⟨σ3,H3,I3,n3⟩:=q3
   obtain ⟨m',hm,w3⟩:=hN σ3 H3 n3
   exact ⟨m',hm,σ3,H3,I3,w3⟩
  | cont =>
   obtain ⟨σ3,H3,I3,n3⟩:=q3
   obtain ⟨m',hm,w3⟩:=hN σ3 H3 n3
   exact ⟨m',hm,σ3,H3,I3,w3⟩
  | brk=>exact q3
  | ret v=>exact q3
 | false =>
  rw [if_neg Bool.false_ne_true]
  exact wpAny_execs_nil ⟨σ1,H2,I2,q2⟩
end
structure It where
 go:Nat->Hp->Prop
 yld:Nat->Hp->V->Hp->Prop
 stop:Nat->Hp->Prop
def uh (X:Cx) (pins:List (Addr×Obj)) (H:Hp) (b:Addr):Prop :=
 H b=none/\b≠X.env.locals/\b∉X.fs/\(b∈X.ex\/X.s₀.heap.objs.size<=b)/\(∀ x c,X.env.cells.lookup x=some c->c≠b)/\∀ p∈X.pn++pins,p.1≠b
theorem Inv.fpOk {X:Cx}{pins:List (Addr×Obj)}{σ:St}{H H':Hp}{s:Shared}{b:Addr}(I:Inv X pins σ H s) (hb:s.heap.objs.size<=b) (hn:H' b=none):uh X pins H' b:=by
 refine ⟨hn,Nat.ne_of_gt (Nat.lt_of_lt_of_le I.lt hb),I.nofs hb,.inr (Nat.le_trans I.sz hb),fun x c e z=>?_,fun p hp z=>?_⟩
 ·obtain ⟨v,q⟩:=I.cell x c e
  exact absurd (Nat.lt_of_lt_of_le q.lt (by rw [z];exact hb)) (Nat.lt_irrefl _)
 ·exact absurd (Nat.lt_of_lt_of_le (Heap.lt_size (I.pin p hp).1) (by rw [z];exact hb)) (Nat.lt_irrefl _)
structure Turn (P:Program) (w:World) (K:PySem.W.Frag) (tg:Expr) (J:It) (fp:List Addr) (it:Addr) (tn:Nat->Heap->Prop):Prop where
 mem:it∈fp
 obj:∀ i h,tn i h->∀ b∈fp,∃ o,h.get? b=some o/\∀ v,o.data≠.cell v
 keep:∀ i h h',tn i h->(∀ b∈fp,∀ o,h.get? b=some o->h'.get? b=some o)->tn i h'
 item:∀ (X:Cx),X.prog=P->X.w=w->X.K=K->X.calm=true->∀ (i:Nat) (pins:List (Addr×Obj)) (s:Shared) (σ:St) (H:Hp) (E:Value->Shared->Prop),Inv X pins σ H s->(∀ b∈fp,uh X pins H b)->tn i s.heap->J.go i H ->
  wpAny (model P w) X.A (pyNext (.ref it)) (fun r s1=>∃ u,r=some u /\
   wpAny (model P w) X.A (letOwnedTupleGo tg (.ref it) u) (fun _ s2=>∃ x H',Inv X pins σ H' s2/\jy x u/\J.yld i H x H'/\tn (i+1) s2.heap/\∀ b∈fp,H' b=none) E s1) E s
 done:∀ (X:Cx),X.prog=P->X.w=w->X.K=K->X.calm=true->∀ (i:Nat) (pins:List (Addr×Obj)) (s:Shared) (σ:St) (H:Hp) (E:Value->Shared->Prop),Inv X pins σ H s->(∀ b∈fp,uh X pins H b)->tn i s.heap->J.stop i H ->
  wpAny (model P w) X.A (pyNext (.ref it)) (fun r s1=>r=none/\Inv X pins σ H s1) E s
 self:∀ (A:Around) (i:Nat) (s:Shared) (Q:Value->Shared->Prop) (E:Value->Shared->Prop),tn i s.heap->Q (.ref it) s->wpAny (model P w) A (pyIter (.ref it)) Q E s
abbrev TI:=St->Hp->(It->Hp->Prop)->Prop
def PIE (X:Cx) (pins:List (Addr×Obj)) (σ:St) (tg:Expr) (R:It->Hp->Prop) (itv:Value) (s2:Shared):Prop :=
 ∃ (it:Addr) (fp:List Addr) (tn:Nat->Heap->Prop) (J:It) (H':Hp),itv = .ref it/\Inv X pins σ H' s2/\Turn X.prog X.w X.K tg J fp it tn/\tn 0 s2.heap/\(∀ b∈fp,uh X pins H' b)/\R J H'
def PI (X:Cx) (tg iter:Expr) (wi:TI):Prop :=
 ∀ (pins:List (Addr×Obj)) (s:Shared) (σ:St) (H:Hp) (R:It->Hp->Prop),Inv X pins σ H s->wi σ H R ->
  wpAny (model X.prog X.w) X.A (eval iter X.env) (fun v s1=>wpAny (model X.prog X.w) X.A (pyIter v) (PIE X pins σ tg R) X.xe s1) X.xe s
theorem J7 {M:Model}{A:Around}{E:Value->Shared->Prop}{s:Shared}{tg:Expr}{it:Addr}{u:Value}{o:Obj}{n:String}{vs:Array Value}{Q:Unit->Shared->Prop}(ho:s.heap.get? it=some o) (hc:o.cls = .type n) (hd:o.data = .fields vs)
  (hn:["enumerate","zip","dict_itemiterator","dict_reverseitemiterator","odict_iterator","itertools.zip_longest","itertools.pairwise"].contains n=false) (hQ:Q () s):wpAny M A (letOwnedTupleGo tg (.ref it) u) Q E s:=by
 unfold letOwnedTupleGo
 cases tg <;> first
  | exact wpAny_pure hQ
  | (cases u <;> first
    | exact wpAny_pure hQ
    | (refine wpAny_bind (wpAny_load ho ?_)
       rw [hc,hd]
       show wpAny M A (if (["enumerate","zip","dict_itemiterator","dict_reverseitemiterator","odict_iterator","itertools.zip_longest","itertools.pairwise"].contains n && vs[0]? == some (rawInt _))=true then _ else _) Q E s
       rw [if_neg (by intro h;rw [hn,Bool.false_and] at h;cases h)]
       exact wpAny_pure hQ))
def Itl (K:PySem.W.Frag) (a:Addr):It :=
 ⟨fun i H=>∃ xs x,SqL K H a xs/\xs[i]? = some x,fun i H x H'=>H'=H/\∀ xs,SqL K H a xs->xs[i]? = some x,fun i H=>∃ xs,SqL K H a xs/\xs.length<=i⟩
def Itt (K:PySem.W.Frag) (a:Addr):It :=
 ⟨fun i H=>∃ xs x,SqT K H a xs/\xs[i]? = some x,fun i H x H'=>H'=H/\∀ xs,SqT K H a xs->xs[i]? = some x,fun i H=>∃ xs,SqT K H a xs/\xs.length<=i⟩
def Itr (lo:Int) (n:Nat):It:=⟨fun i _=>i<n,fun i H x H'=>H'=H/\x = .int (lo+i),fun i _=>n<=i⟩
theorem Z4 {P:Program}{w:World}{K:PySem.W.Frag}{tg:Expr}(a it:Addr):Turn P w K tg (Itl K a) [it] it (fun i h=>h.IsListIter it a i) where
 mem:=by simp
 obj:=fun i h st b hb=>by
  have e:b=it:=by simpa using hb
  subst e
  obtain ⟨o,e,c,d⟩:=st
  exact ⟨o,e,fun v z=>by rw [d] at z;cases z⟩
 keep:=fun i h h' st k=>st.at fun o e=>k it (by simp) o e
 item:=by
  intro X hP hw hK hc i pins s σ H E I hf st hg
  subst hP hw hK
  obtain ⟨xs,x,hq,hx⟩:=hg
  obtain ⟨its,rv,p,hz⟩:=I.list hq
  obtain ⟨u,hu,ru⟩:=rv.get hx
  obtain ⟨f0,f1,f2,f3,f4,f5⟩:=hf it (by simp)
  refine wpAny_pyNext_list_item st p.isList (x:=u) (by simpa using hu) fun h' st' sb=>?_
  have I1:Inv X pins σ H { s with heap:=h' }:=I.turned (t':=s.toks) (fun b o hb e=>(sb.2 b hb).trans e) f0 f1 f3 f4 f5
  obtain ⟨o,e,c,d⟩:=id st'
  exact ⟨u,rfl,J7 (s:={ s with heap:=h' }) e c d (by decide) ⟨x,H,I1,ru,⟨rfl,fun ys hy=>by rw [I.list_inj hy hq];exact hx⟩,st',fun b hb=>(hf b hb).1⟩⟩
 done:=by
  intro X hP hw hK hc i pins s σ H E I hf st hg
  subst hP hw hK
  obtain ⟨xs,hq,hx⟩:=hg
  obtain ⟨its,rv,p,hz⟩:=I.list hq
  obtain ⟨f0,f1,f2,f3,f4,f5⟩:=hf it (by simp)
  have hl:=rv.length
  exact wpAny_pyNext_list_end (I.ok.hd hc) st p.isList (by simp;omega) fun h' eb=>⟨rfl,I.turned (t':=s.toks) (fun b o hb e=>eb b o hb e) f0 f1 f3 f4 f5⟩
 self:=fun _ _ _ _ _ st h=>wpAny_pyIter_listiter st h
theorem Q9 {P:Program}{w:World}{K:PySem.W.Frag}{tg:Expr}(a it:Addr):Turn P w K tg (Itt K a) [it] it (fun i h=>h.IsTupleIter it a i) where
 mem:=by simp
 obj:=fun i h st b hb=>by
  have e:b=it:=by simpa using hb
  subst e
  obtain ⟨o,e,c,d⟩:=st
  exact ⟨o,e,fun v z=>by rw [d] at z;cases z⟩
 keep:=fun i h h' st k=>st.at fun o e=>k it (by simp) o e
 item:=by
  intro X hP hw hK hc i pins s σ H E I hf st hg
  subst hP hw hK
  obtain ⟨xs,x,hq,hx⟩:=hg
  obtain ⟨its,rv,p,hz⟩:=I.tuple hq
  obtain ⟨u,hu,ru⟩:=rv.get hx
  obtain ⟨f0,f1,f2,f3,f4,f5⟩:=hf it (by simp)
  refine wpAny_pyNext_tuple_item st (show s.heap.IsTuple a its.toArray from p) (x:=u) (by simpa using hu) fun h' st' sb=>?_
  have I1:Inv X pins σ H { s with heap:=h' }:=I.turned (t':=s.toks) (fun b o hb e=>(sb.2 b hb).trans e) f0 f1 f3 f4 f5
  obtain ⟨o,e,c,d⟩:=id st'
  exact ⟨u,rfl,J7 (s:={ s with heap:=h' }) e c d (by decide) ⟨x,H,I1,ru,⟨rfl,fun ys hy=>by rw [I.tuple_inj hy hq];exact hx⟩,st',fun b hb=>(hf b hb).1⟩⟩
 done:=by
  intro X hP hw hK hc i pins s σ H E I hf st hg
  subst hP hw hK
  obtain ⟨xs,hq,hx⟩:=hg
  obtain ⟨its,rv,p,hz⟩:=I.tuple hq
  obtain ⟨f0,f1,f2,f3,f4,f5⟩:=hf it (by simp)
  have hl:=rv.length
  exact wpAny_pyNext_tuple_end (I.ok.hd hc) st (show s.heap.IsTuple a its.toArray from p) (by simp;omega) fun h' eb=>⟨rfl,I.turned (t':=s.toks) (fun b o hb e=>eb b o hb e) f0 f1 f3 f4 f5⟩
 self:=fun _ _ _ _ _ st h=>wpAny_pyIter_tupleiter st h
theorem uV {P:Program}{w:World}{K:PySem.W.Frag}{tg:Expr}(it:Addr) (lo:Int) (n:Nat):Turn P w K tg (Itr lo n) [it] it (fun i h=>IsRangeIter h it (lo+(i:Nat)*1) ((n:Int)-(i:Nat)) 1) where
 mem:=by simp
 obj:=fun i h st b hb=>by
  have e:b=it:=by simpa using hb
  subst e
  exact ⟨_,st,fun v z=>by
   have z':Data.fields _=Data.cell v:=z
   cases z'⟩
 keep:=fun i h h' st k=>k it (by simp) _ st
 item:=by
  intro X hP hw hK hc i pins s σ H E I hf st hg
  subst hP hw hK
  obtain ⟨f0,f1,f2,f3,f4,f5⟩:=hf it (by simp)
  have W:=Walks.range (prog:=X.prog) (w:=X.w) (I.ok.hd hc) it lo 1 n
  refine W.item i s _ _ hg st fun v h' tk hv st' kk=>?_
  obtain ⟨t,rfl⟩:=hv
  have I1:Inv X pins σ H { s with heap:=h',toks:=tk }:=I.turned (fun b o hb e=>kk b o (by simpa using hb) e) f0 f1 f3 f4 f5
  refine ⟨_,rfl,J7 (s:={ s with heap:=h',toks:=tk }) (n:="range_iterator") st' rfl rfl (by decide) ⟨.int (lo+i),H,I1,⟨t,?_⟩,⟨rfl,rfl⟩,st',fun b hb=>(hf b hb).1⟩⟩
  rw [Int.mul_one]
 done:=by
  intro X hP hw hK hc i pins s σ H E I hf st hg
  subst hP hw hK
  obtain ⟨f0,f1,f2,f3,f4,f5⟩:=hf it (by simp)
  exact wpAny_pyNext_range_end (I.ok.hd hc) st (by have:n<=i:=hg;omega) fun h' eb=>⟨rfl,I.turned (t':=s.toks) (fun b o hb e=>eb b o hb e) f0 f1 f3 f4 f5⟩
 self:=fun _ _ _ _ _ st h=>wpAny_pyIter_rangeiter st h
end L2
namespace L2
open PySem PySem.Spec PyProof.Rows
section
variable {X:Cx}{tg:Expr}
def Vm (K:PySem.W.Frag) (tl:TE):TI:=fun σ H R=>tl σ H fun x H1=>∃ a,x = .ref a/\(∃ xs,SqL K H1 a xs)/\R (Itl K a) H1
def Wh (K:PySem.W.Frag) (tl:TE):TI:=fun σ H R=>tl σ H fun x H1=>∃ a,x = .ref a/\(∃ xs,SqT K H1 a xs)/\R (Itt K a) H1
theorem V1 {l:Expr}{tl:TE}(hl:PE X l tl):PI X tg l (Vm X.K tl):=by
 intro pins s σ H R I h
 refine thn (hl pins s σ H _ I h) fun v s1 ⟨x,H1,I1,r1,q1⟩=>?_
 obtain ⟨a,e,⟨xs,hq⟩,q⟩:=q1
 subst e
 cases r1
 obtain ⟨its,rv,p,hz⟩:=I1.list hq
 refine wpAny_pyIter_list p.isList ?_
 refine ⟨s1.heap.objs.size,[s1.heap.objs.size],_,_,H1,rfl,I1.kept (t':=s1.toks) fun b o e=>Heap.get?_push_of_some _ e,Z4 a _,⟨_,Heap.get?_push_size _ rfl,rfl,rfl⟩,fun b hb=>?_,q⟩
 have e:b=s1.heap.objs.size:=by simpa using hb
 subst e
 exact I1.fpOk (Nat.le_refl _) (I1.hok.fresh (Nat.le_refl _))
theorem VB {l:Expr}{tl:TE}(hl:PE X l tl):PI X tg l (Wh X.K tl):=by
 intro pins s σ H R I h
 refine thn (hl pins s σ H _ I h) fun v s1 ⟨x,H1,I1,r1,q1⟩=>?_
 obtain ⟨a,e,⟨xs,hq⟩,q⟩:=q1
 subst e
 cases r1
 obtain ⟨its,rv,p,hz⟩:=I1.tuple hq
 refine wpAny_pyIter_tuple (show s1.heap.IsTuple a its.toArray from p) ?_
 refine ⟨s1.heap.objs.size,[s1.heap.objs.size],_,_,H1,rfl,I1.kept (t':=s1.toks) fun b o e=>Heap.get?_push_of_some _ e,Q9 a _,⟨_,Heap.get?_push_size _ rfl,rfl,rfl⟩,fun b hb=>?_,q⟩
 have e:b=s1.heap.objs.size:=by simpa using hb
 subst e
 exact I1.fpOk (Nat.le_refl _) (I1.hok.fresh (Nat.le_refl _))
theorem Jh {pins:List (Addr×Obj)}{σ:St}{H:Hp}{s:Shared}{R:It->Hp->Prop}{E:Value->Shared->Prop}{lo hi:Int}{t u v:Tok}{tk:Nat}(I:Inv X pins σ H s) (h1 : -(2 ^ 62)<=lo) (h2:lo<2 ^ 62) (h3 : -(2 ^ 62)<=hi) (h4:hi<2 ^ 62)
  (q:R (Itr lo (hi-lo).toNat) H):wpAny (model X.prog X.w) X.A (pyIter (.ref s.heap.objs.size)) (PIE X pins σ tg R) E { s with heap:=s.heap.push { cls:=.type "range",data:=.fields #[.int lo t,.int hi u,.int 1 v] },toks:=tk }:=by
 refine wpAny_pyIter_range (IsRange.new ..) (small_one h1 h2 h3 h4) ?_
 have I1:Inv X pins σ H { s with heap:=s.heap.push { cls:=.type "range",data:=.fields #[.int lo t,.int hi u,.int 1 v] },toks:=tk }:=I.kept fun b o e=>Heap.get?_push_of_some _ e
 refine ⟨(s.heap.push { cls:=.type "range",data:=.fields #[.int lo t,.int hi u,.int 1 v] }).objs.size,[(s.heap.push { cls:=.type "range",data:=.fields #[.int lo t,.int hi u,.int 1 v] }).objs.size],_,_,H,rfl,
  I1.kept (t':=tk) fun b o e=>Heap.get?_push_of_some _ e,uV _ lo (hi-lo).toNat,?_,fun b hb=>?_,q⟩
 ·have e1:lo+((0:Nat):Int)*1=lo:=by simp
  have e2:(((hi-lo).toNat:Nat):Int)-((0:Nat):Int)=Builtin.Range.rangeSize lo hi 1:=by rw [rangeSize_one];split <;> omega
  show IsRangeIter _ _ (lo+((0:Nat):Int)*1) ((((hi-lo).toNat:Nat):Int)-((0:Nat):Int)) 1
  rw [e1,e2]
  exact Heap.get?_push_size _ rfl
 ·have e:b=(s.heap.push { cls:=.type "range",data:=.fields #[.int lo t,.int hi u,.int 1 v] }).objs.size:=by simpa using hb
  subst e
  exact I1.fpOk (Nat.le_refl _) (I1.hok.fresh (Nat.le_refl _))
def UN (ta:TA):TI:=fun σ H R=>ta σ H fun vs H1=>∃ j:Int,vs=[.int j] /\ -(2 ^ 62)<=j/\j<2 ^ 62/\R (Itr 0 j.toNat) H1
def UH (ta:TA):TI:=fun σ H R=>ta σ H fun vs H1=>∃ i j:Int,vs=[.int i,.int j]/\(-(2 ^ 62)<=i/\i<2 ^ 62 /\ -(2 ^ 62)<=j/\j<2 ^ 62)/\R (Itr i (j-i).toNat) H1
theorem jO {a:Expr}{ta:TA}{p pos:Pos}(hg:Gl X "range") (hm:X.mg "range" = none) (ha:PA X [a] ta) (hs:starEach [a] X.env=[(false,eval a X.env)]:=by rfl):PI X tg (.Call (.Name "range" p) [a] [] pos) (UN ta):=by
 intro pins s σ H R I h
 refine Call_ (zh I hg hm boot_range (PyProof.Rows.callWith_type1 (thn (ha pos pins s σ H _ I h) fun us s1 ⟨vs,H1,I1,r1,q1⟩=>?_) hs rfl))
 obtain ⟨j,e,q1,q2,q⟩:=q1
 subst e
 cases r1 with
 | cons r rr =>
  cases rr
  obtain ⟨t,rfl⟩:=r
  exact call_range_1 (Jh I1 (by omega) (by omega) q1 q2 (by simpa using q))
theorem Zi {a b:Expr}{ta:TA}{p pos:Pos}(hg:Gl X "range") (hm:X.mg "range" = none) (ha:PA X [a,b] ta) (hs:starEach [a,b] X.env=[(false,eval a X.env),(false,eval b X.env)]:=by rfl) (hs2:starEach [b] X.env=[(false,eval b X.env)]:=by rfl) :
  PI X tg (.Call (.Name "range" p) [a,b] [] pos) (UH ta):=by
 intro pins s σ H R I h
 refine Call_ (zh I hg hm boot_range (PyProof.Rows.callWith_type1 (thn (ha pos pins s σ H _ I h) fun us s1 ⟨vs,H1,I1,r1,q1⟩=>?_) (by rw [hs,hs2]) (by rw [hs2];rfl)))
 obtain ⟨i,j,e,⟨q1,q2,q3,q4⟩,q⟩:=q1
 subst e
 cases r1 with
 | cons r rr =>
  cases rr with
  | cons r' rr =>
   cases rr
   obtain ⟨t,rfl⟩:=r
   obtain ⟨t',rfl⟩:=r'
   exact call_range_2 (Jh I1 q1 q2 q3 q4 q)
def tFor (wi:TI) (g:TG) (tb:TS):TS:=fun D σ H=>wi σ H fun J H1=>∃ W:Nat->Nat->St->Hp->Prop,(∃ m,W 0 m σ H1)/\∀ i m σ H,W i m σ H ->
 (J.stop i H/\D.nx σ H)\/(J.go i H/\∃ N:St->Hp->Prop,(∀ σ' H',N σ' H'->∃ m',m'<m/\W (i+1) m' σ' H')/\∀ x H',J.yld i H x H'->g x σ H' fun σ2 H2=>tb { D with nx:=N,ct:=N,bk:=D.nx } σ2 H2)
def xO (fp:List Addr) (h:Heap):List (Addr×Obj):=fp.filterMap fun b=>(h.get? b).map fun o=>(b,o)
theorem qB {fp:List Addr}{h:Heap}{b:Addr}{o:Obj}(hb:b∈fp) (e:h.get? b=some o):(b,o)∈xO fp h:=List.mem_filterMap.mpr ⟨b,hb,by rw [e];rfl⟩
theorem Zo {fp:List Addr}{h:Heap}{p:Addr×Obj}(hp:p∈xO fp h):p.1∈fp/\h.get? p.1=some p.2:=by
 obtain ⟨b,hb,e⟩:=List.mem_filterMap.mp hp
 cases q:h.get? b with
 | none=>rw [q] at e;cases e
 | some o =>
  rw [q] at e
  have e':(b,o)=p:=Option.some.inj e
  subst e'
  exact ⟨hb,q⟩
theorem Inv.pinned {pins:List (Addr×Obj)}{σ:St}{H:Hp}{s:Shared}{fp:List Addr}(I:Inv X pins σ H s) (hf:∀ b∈fp,uh X pins H b) (ho:∀ b∈fp,∃ o,s.heap.get? b=some o/\∀ v,o.data≠.cell v):Inv X (pins++xO fp s.heap) σ H s :=
 I.pins_of fun p hp=>(List.mem_append.mp hp).elim (fun z=>I.pin p (List.mem_append_right _ z)) fun z=>by
  obtain ⟨hb,e⟩:=Zo z
  obtain ⟨f0,f1,f2,_⟩:=hf p.1 hb
  obtain ⟨o,e',d⟩:=ho p.1 hb
  rw [e] at e';cases e'
  exact ⟨e,f0,f1,f2,d⟩
theorem Inv.unpinned {pins pl:List (Addr×Obj)}{σ:St}{H:Hp}{s:Shared}(I:Inv X (pins++pl) σ H s):Inv X pins σ H s:=I.pins_of fun p hp=>I.pin p (List.mem_append_right _ (List.mem_append_left _ hp))
theorem xB {iter:Expr}{body:List Stmt}{wi:TI}{g:TG}{tb:TS}{pos:Pos}(hp:PassesOwn (model X.prog X.w) X.A X.env X.xe) (hc:X.calm=true) (hi:PI X tg iter wi) (hg:PG X tg g) (hb:PSs X body tb)
  (hs:∀ x,foldedSetIterable iter X.env x=pure x:=by intro _;rfl):PS X (.For tg iter body [] pos) (tFor wi g tb):=by
 intro pins s σ H D I h
 refine wpAny_For (thn (hi pins s σ H _ I h) fun v s1 h1=>thn h1 fun itv s2 h2=>?_) hs
 obtain ⟨it,fp,tn,J,H2,e,I2,T,st2,f2,W,⟨m0,w0⟩,turn⟩:=h2
 subst e
 have stat:∀ {H':Hp},(∀ b∈fp,H' b=none)->∀ b∈fp,uh X pins H' b:=fun hn b hb=>⟨hn b hb,(f2 b hb).2⟩
 refine codeAny_forLoop_any (fun n s'=>∃ i σ' H',Inv X pins σ' H' s'/\tn i s'.heap/\(∀ b∈fp,H' b=none)/\W i n σ' H') ?_ m0 ⟨0,σ,H2,I2,st2,fun b hb=>(f2 b hb).1,w0⟩
 rintro n s3 ⟨i,σ3,H3,I3,st3,fr3,w3⟩
 rcases turn i n σ3 H3 w3 with ⟨stop,qn⟩ | ⟨go,N,hN,step⟩
 ·refine wpAny_passesOwn hp (thn (T.done X rfl rfl rfl hc i pins s3 σ3 H3 X.xe I3 (stat fr3) st3 stop) fun r s4 ⟨hr,I4⟩=>?_)
  subst hr
  exact wpAny_execs_nil ⟨σ3,H3,I4,qn⟩
 ·refine wpAny_passesOwn hp (thn (T.item X rfl rfl rfl hc i pins s3 σ3 H3 X.xe I3 (stat fr3) st3 go) fun r s4 ⟨u,hr,h4⟩=>?_)
  subst hr
  refine wpAny_passesOwn hp (thn h4 fun _ s5 ⟨x,H5,I5,r5,y5,st5,fr5⟩=>?_)
  have I5':=I5.pinned (stat fr5) (T.obj _ _ st5)
  refine wpAny_passesOwn hp (thn (hg _ s5 σ3 H5 x u _ I5' r5 (step x H5 y5)) fun _ s6 ⟨σ6,H6,I6,q6⟩=>?_)
  refine wpAny_passesOwn hp (thn (hb _ s6 σ6 H6 _ I6 q6) fun f s7 q7=>?_)
  have again:∀ {σ7:St} {H7:Hp},Inv X (pins++xO fp s5.heap) σ7 H7 s7->N σ7 H7->∃ m,m<n/\∃ i σ' H',Inv X pins σ' H' s7/\tn i s7.heap/\(∀ b∈fp,H' b=none)/\W i m σ' H':=fun {σ7 H7} I7 n7=>by
   obtain ⟨m',hm,w7⟩:=hN σ7 H7 n7
   refine ⟨m',hm,i+1,σ7,H7,I7.unpinned,T.keep _ _ _ st5 fun b hb o e=>(I7.pin (b,o) (List.mem_append_right _ (List.mem_append_right _ (qB hb e)))).1,fun b hb=>?_,w7⟩
   obtain ⟨o,e,d⟩:=T.obj _ _ st5 b hb
   exact (I7.pin (b,o) (List.mem_append_right _ (List.mem_append_right _ (qB hb e)))).2.1
  cases f with
  | next=>obtain ⟨σ7,H7,I7,n7⟩:=q7;exact again I7 n7
  | cont=>obtain ⟨σ7,H7,I7,n7⟩:=q7;exact again I7 n7
  | brk=>obtain ⟨σ7,H7,I7,q7⟩:=q7;exact ⟨σ7,H7,I7.unpinned,q7⟩
  | ret v=>obtain ⟨x7,σ7,H7,I7,r7,q7⟩:=q7;exact ⟨x7,σ7,H7,I7.unpinned,r7,q7⟩
end
theorem JJ {K:PySem.W.Frag}{a:Addr}{xs:List V}{g:TG}{tb:TS}{D:Ends}{σ:St}{H:Hp}(Pv:Nat->St->Hp->Prop) (h0:Pv 0 σ H) (hl:∀ i σ H,i<=xs.length->Pv i σ H->SqL K H a xs)
  (hs:∀ i x σ H,xs[i]? = some x->Pv i σ H->g x σ H fun σ2 H2=>tb { D with nx:=Pv (i+1),ct:=Pv (i+1),bk:=D.nx } σ2 H2) (hd:∀ σ H,Pv xs.length σ H->D.nx σ H) :
  ∃ W:Nat->Nat->St->Hp->Prop,(∃ m,W 0 m σ H)/\∀ i m σ H,W i m σ H ->
   ((Itl K a).stop i H/\D.nx σ H)\/((Itl K a).go i H/\∃ N:St->Hp->Prop,(∀ σ' H',N σ' H'->∃ m',m'<m/\W (i+1) m' σ' H')/\∀ x H',(Itl K a).yld i H x H'->g x σ H' fun σ2 H2=>tb { D with nx:=N,ct:=N,bk:=D.nx } σ2 H2):=by
 refine ⟨fun i m σ H=>m=xs.length-i/\i<=xs.length/\Pv i σ H,⟨xs.length,by simp,Nat.zero_le _,h0⟩,?_⟩
 rintro i m σ H ⟨rfl,hi,p⟩
 have q:=hl i σ H hi p
 by_cases hlt:i<xs.length
 ·refine .inr ⟨⟨xs,xs[i],q,by simp [hlt]⟩,Pv (i+1),fun σ' H' p'=>⟨xs.length-(i+1),by omega,rfl,hlt,p'⟩,fun x H' y=>?_⟩
  obtain ⟨e,y⟩:=y
  subst e
  exact hs i x σ _ (y xs q) p
 ·have e:i=xs.length:=by omega
  subst e
  exact .inl ⟨⟨xs,q,Nat.le_refl _⟩,hd σ H p⟩
theorem Vj {K:PySem.W.Frag}{a:Addr}{xs:List V}{g:TG}{tb:TS}{D:Ends}{σ:St}{H:Hp}(Pv:Nat->St->Hp->Prop) (h0:Pv 0 σ H) (hl:∀ i σ H,i<=xs.length->Pv i σ H->SqT K H a xs)
  (hs:∀ i x σ H,xs[i]? = some x->Pv i σ H->g x σ H fun σ2 H2=>tb { D with nx:=Pv (i+1),ct:=Pv (i+1),bk:=D.nx } σ2 H2) (hd:∀ σ H,Pv xs.length σ H->D.nx σ H) :
  ∃ W:Nat->Nat->St->Hp->Prop,(∃ m,W 0 m σ H)/\∀ i m σ H,W i m σ H ->
   ((Itt K a).stop i H/\D.nx σ H)\/((Itt K a).go i H/\∃ N:St->Hp->Prop,(∀ σ' H',N σ' H'->∃ m',m'<m/\W (i+1) m' σ' H')/\∀ x H',(Itt K a).yld i H x H'->g x σ H' fun σ2 H2=>tb { D with nx:=N,ct:=N,bk:=D.nx } σ2 H2):=by
 refine ⟨fun i m σ H=>m=xs.length-i/\i<=xs.length/\Pv i σ H,⟨xs.length,by simp,Nat.zero_le _,h0⟩,?_⟩
 rintro i m σ H ⟨rfl,hi,p⟩
 have q:=hl i σ H hi p
 by_cases hlt:i<xs.length
 ·refine .inr ⟨⟨xs,xs[i],q,by simp [hlt]⟩,Pv (i+1),fun σ' H' p'=>⟨xs.length-(i+1),by omega,rfl,hlt,p'⟩,fun x H' y=>?_⟩
  obtain ⟨e,y⟩:=y
  subst e
  exact hs i x σ _ (y xs q) p
 ·have e:i=xs.length:=by omega
  subst e
  exact .inl ⟨⟨xs,q,Nat.le_refl _⟩,hd σ H p⟩
theorem xI {lo:Int}{n:Nat}{g:TG}{tb:TS}{D:Ends}{σ:St}{H:Hp}(Pv:Nat->St->Hp->Prop) (h0:Pv 0 σ H)
  (hs:∀ i σ H,i<n->Pv i σ H->g (.int (lo+i)) σ H fun σ2 H2=>tb { D with nx:=Pv (i+1),ct:=Pv (i+1),bk:=D.nx } σ2 H2) (hd:∀ σ H,Pv n σ H->D.nx σ H) :
  ∃ W:Nat->Nat->St->Hp->Prop,(∃ m,W 0 m σ H)/\∀ i m σ H,W i m σ H ->
   ((Itr lo n).stop i H/\D.nx σ H)\/((Itr lo n).go i H/\∃ N:St->Hp->Prop,(∀ σ' H',N σ' H'->∃ m',m'<m/\W (i+1) m' σ' H')/\∀ x H',(Itr lo n).yld i H x H'->g x σ H' fun σ2 H2=>tb { D with nx:=N,ct:=N,bk:=D.nx } σ2 H2):=by
 refine ⟨fun i m σ H=>m=n-i/\i<=n/\Pv i σ H,⟨n,by simp,Nat.zero_le _,h0⟩,?_⟩
 rintro i m σ H ⟨rfl,hi,p⟩
 by_cases hlt:i<n
 ·refine .inr ⟨hlt,Pv (i+1),fun σ' H' p'=>⟨n-(i+1),by omega,rfl,hlt,p'⟩,fun x H' y=>?_⟩
  obtain ⟨e,y⟩:=y
  subst e y
  exact hs i σ _ hlt p
 ·have e:i=n:=by omega
  subst e
  exact .inl ⟨Nat.le_refl _,hd σ H p⟩
theorem JY {c:TT}{tb:TS}{D:Ends}{σ:St}{H:Hp}(Pv:St->Hp->Prop) (μ:St->Hp->Nat) (h0:Pv σ H)
  (hs:∀ σ H,Pv σ H->c σ H fun b H1=>if b=true then tb { D with nx:=fun σ' H'=>Pv σ' H'/\μ σ' H'<μ σ H,ct:=fun σ' H'=>Pv σ' H'/\μ σ' H'<μ σ H,bk:=D.nx } σ H1 else D.nx σ H1)
  (mono:∀ σ H Q Q',(∀ b H1,Q b H1->Q' b H1)->c σ H Q->c σ H Q'):Yc c tb D σ H:=by
 refine ⟨fun m σ H=>m=μ σ H/\Pv σ H,⟨_,rfl,h0⟩,?_⟩
 rintro m σ H ⟨rfl,p⟩
 refine mono σ H _ _ (fun b H1 q=>?_) (hs σ H p)
 cases b with
 | true=>exact ⟨_,fun σ' H' ⟨p',l⟩=>⟨_,l,rfl,p'⟩,q⟩
 | false=>exact q
end L2
namespace L2
open PySem PySem.Spec PyProof.Rows
abbrev R2:=V->V->Hp->VK->Prop
def OpR (X:Cx) (f:Value->Value->Sem Value) (r:R2):Prop :=
 ∀ (pins:List (Addr×Obj)) (s:Shared) (σ:St) (H:Hp) (x y:V) (v u:Value) (Q:VK),Inv X pins σ H s->jy x v->jy y u->r x y H Q ->
  wpAny (model X.prog X.w) X.A (f v u) (EP X pins σ Q) X.xe s
def UnR (X:Cx) (f:Value->Sem Value) (r:V->Hp->VK->Prop):Prop :=
 ∀ (pins:List (Addr×Obj)) (s:Shared) (σ:St) (H:Hp) (x:V) (v:Value) (Q:VK),Inv X pins σ H s->jy x v->r x H Q ->
  wpAny (model X.prog X.w) X.A (f v) (EP X pins σ Q) X.xe s
def qy (X:Cx) (f:Value) (r:List V->Hp->VK->Prop):Prop :=
 ∀ (pins:List (Addr×Obj)) (s:Shared) (σ:St) (H:Hp) (xs:List V) (us:List Value) (Q:VK),Inv X pins σ H s->jw xs us->r xs H Q ->
  wpAny (model X.prog X.w) X.A (call f us) (EP X pins σ Q) X.xe s
def tOp (r:R2) (ta tb:TE):TE:=fun σ H Q=>ta σ H fun x H1=>tb σ H1 fun y H2=>r x y H2 Q
def tUn (r:V->Hp->VK->Prop) (ta:TE):TE:=fun σ H Q=>ta σ H fun x H1=>r x H1 Q
def rI (C:Int->Int->Prop) (g:Int->Int->V):R2:=fun x y H Q=>∃ i j,x = .int i/\y = .int j/\C i j/\Q (g i j) H
def rI0 (g:Int->Int->V):R2:=fun x y H Q=>∃ i j,x = .int i/\y = .int j/\Q (g i j) H
def rU (g:Int->V):V->Hp->VK->Prop:=fun x H Q=>∃ i,x = .int i/\Q (g i) H
section
variable {X:Cx}{a b c:Expr}{ta tb tc:TE}{pos:Pos}
theorem Uf (ha:PE X a ta) (hb:PE X b tb) {pins:List (Addr×Obj)}{s:Shared}{σ:St}{H:Hp}{R:V->V->Hp->Prop}(I:Inv X pins σ H s)
  (h:ta σ H fun x H1=>tb σ H1 fun y H2=>R x y H2) {Q:Value->Shared->Prop} {f:Value->Value->Sem Value}
  (hf:∀ v u s2 x y H2,Inv X pins σ H2 s2->jy x v->jy y u->R x y H2->wpAny (model X.prog X.w) X.A (f v u) Q X.xe s2) :
  wpAny (model X.prog X.w) X.A (eval a X.env) (fun v s₁=>wpAny (model X.prog X.w) X.A (eval b X.env) (fun u s₂=>wpAny (model X.prog X.w) X.A (f v u) Q X.xe s₂) X.xe s₁) X.xe s:=by
 refine thn (ha pins s σ H _ I h) fun v s1 ⟨x,H1,I1,r1,q1⟩=>?_
 refine thn (hb pins s1 σ H1 _ I1 q1) fun u s2 ⟨y,H2,I2,r2,q2⟩=>?_
 exact hf v u s2 x y H2 I2 r1 r2 q2
theorem ji {op:Operator}{r:R2}(ho:OpR X (binaryOp op) r) (ha:PE X a ta) (hb:PE X b tb):PE X (.BinOp a op b pos) (tOp r ta tb):=by
 intro pins s σ H Q I h
 exact wpAny_BinOp (Uf ha hb I h fun v u s2 x y H2 I2 rx ry q=>ho pins s2 σ H2 x y v u Q I2 rx ry q)
theorem yE {op:UnaryOp}{r:V->Hp->VK->Prop}(ho:UnR X (unaryOp op) r) (ha:PE X a ta):PE X (.UnaryOp op a pos) (tUn r ta):=by
 intro pins s σ H Q I h
 exact UnaryOp_ (thn (ha pins s σ H _ I h) fun v s1 ⟨x,H1,I1,r1,q1⟩=>ho pins s1 σ H1 x v Q I1 r1 q1)
theorem opI {f:Value->Value->Sem Value}{C:Int->Int->Prop}{g:Int->Int->Int}
  (rule:∀ (i j:Int) (t u:Tok) (s:Shared) (Q:Value->Shared->Prop) (E:Value->Shared->Prop),C i j->Q (.int (g i j) s.toks) { s with toks:=s.toks+1 }->wpAny (model X.prog X.w) X.A (f (.int i t) (.int j u)) Q E s) :
  OpR X f (rI C fun i j=>.int (g i j)):=by
 intro pins s σ H x y v u Q I rx ry h
 obtain ⟨i,j,rfl,rfl,hc,q⟩:=h
 obtain ⟨t,rfl⟩:=rx
 obtain ⟨t',rfl⟩:=ry
 exact rule i j t t' s _ _ hc ⟨.int (g i j),H,I.tok _,⟨_,rfl⟩,q⟩
theorem UZ {f:Value->Value->Sem Value}{g:Int->Int->Int}
  (rule:∀ (i j:Int) (t u:Tok) (s:Shared) (Q:Value->Shared->Prop) (E:Value->Shared->Prop),Q (.int (g i j) s.toks) { s with toks:=s.toks+1 }->wpAny (model X.prog X.w) X.A (f (.int i t) (.int j u)) Q E s) :
  OpR X f (rI0 fun i j=>.int (g i j)):=by
 intro pins s σ H x y v u Q I rx ry h
 obtain ⟨i,j,rfl,rfl,q⟩:=h
 obtain ⟨t,rfl⟩:=rx
 obtain ⟨t',rfl⟩:=ry
 exact rule i j t t' s _ _ ⟨.int (g i j),H,I.tok _,⟨_,rfl⟩,q⟩
theorem YL {f:Value->Value->Sem Value}{g:Int->Int->Bool}
  (rule:∀ (i j:Int) (t u:Tok) (s:Shared) (Q:Value->Shared->Prop) (E:Value->Shared->Prop),Q (.bool (g i j)) s->wpAny (model X.prog X.w) X.A (f (.int i t) (.int j u)) Q E s) :
  OpR X f (rI0 fun i j=>.bl (g i j)):=by
 intro pins s σ H x y v u Q I rx ry h
 obtain ⟨i,j,rfl,rfl,q⟩:=h
 obtain ⟨t,rfl⟩:=rx
 obtain ⟨t',rfl⟩:=ry
 exact rule i j t t' s _ _ ⟨.bl (g i j),H,I,rfl,q⟩
def ZE (i j:Int):Prop:=0<=j/\j<=1000000/\i.natAbs<2 ^ 64
def uZ (i j:Int):Prop:=(-(2 ^ 64)<i/\i<2 ^ 64)\/(-(2 ^ 64)<j/\j<2 ^ 64)
theorem uZ.ok {i j:Int}(h:uZ i j):IntMulOk i j:=by
 rcases h with ⟨h1,h2⟩ | ⟨h1,h2⟩
 ·exact .of_left (intBits_le_64 h1 h2)
 ·exact .of_right (intBits_le_64 h1 h2)
theorem jA:OpR X (binaryOp .Add) (rI0 fun i j=>.int (i+j)):=UZ fun _ _ _ _ _ _ _ q=>add_int q
theorem xC:OpR X (binaryOp .Sub) (rI0 fun i j=>.int (i-j)):=UZ fun _ _ _ _ _ _ _ q=>sub_int q
theorem zo:OpR X (binaryOp .Mult) (rI uZ fun i j=>.int (i*j)):=opI fun _ _ _ _ _ _ _ hc q=>mul_int q hc.ok
theorem xM:OpR X (binaryOp .Mod) (rI (fun _ j=>0<j) fun i j=>.int (i % j)):=opI fun i j _ _ _ _ _ hc q=>by
 have h1:(0:Int)<j:=hc
 exact mod_int' (by omega) (by rw [Int.fmod_eq_emod_of_nonneg i (by omega)];exact q)
theorem Yv:OpR X (binaryOp .Pow) (rI ZE fun i j=>.int (i ^ j.toNat)):=opI fun _ _ _ _ _ _ _ hc q=>pow_int_small hc.1 hc.2.1 hc.2.2 q
theorem unI {f:Value->Sem Value}{g:Int->Int}
  (rule:∀ (i:Int) (t:Tok) (s:Shared) (Q:Value->Shared->Prop) (E:Value->Shared->Prop),Q (.int (g i) s.toks) { s with toks:=s.toks+1 }->wpAny (model X.prog X.w) X.A (f (.int i t)) Q E s) :
  UnR X f (rU fun i=>.int (g i)):=by
 intro pins s σ H x v Q I rx h
 obtain ⟨i,rfl,q⟩:=h
 obtain ⟨t,rfl⟩:=rx
 exact rule i t s _ _ ⟨.int (g i),H,I.tok _,⟨_,rfl⟩,q⟩
theorem zq:UnR X (unaryOp .USub) (rU fun i=>.int (-i)):=unI fun _ _ _ _ _ q=>neg_int q
end
def UX:V->V->Bool
 | .non,.non=>true | .non,.int _=>true | .int _,.non=>true | .non,.bl _=>true | .bl _,.non=>true | .non,.str _=>true | .str _,.non=>true
 | .int _,.int _=>true | .bl _,.bl _=>true | .str _,.str _=>true | .byt _,.byt _=>true
 | .int _,.str _=>true | .str _,.int _=>true | .bl _,.str _=>true | .str _,.bl _=>true
 | _,_=>false
def rEq:R2:=fun x y H Q=>UX x y=true/\Q (.bl (decide (x=y))) H
def rNe:R2:=fun x y H Q=>UX x y=true/\Q (.bl (!decide (x=y))) H
theorem QR {i j:Int}:decide (V.int i=V.int j)=(i == j):=by
 rw [Bool.eq_iff_iff]
 simp
theorem Zy {i j:Bool}:decide (V.bl i=V.bl j)=(i == j):=by
 rw [Bool.eq_iff_iff]
 simp
theorem Xi {i j:Str}:decide (V.str i=V.str j)=(i == j):=by
 rw [Bool.eq_iff_iff]
 simp
theorem Xh {i j:Array UInt8}:decide (V.byt i=V.byt j)=(i.toList == j.toList):=by
 rw [Bool.eq_iff_iff]
 cases i
 cases j
 simp
section
variable {X:Cx}{a b c:Expr}{ta tb tc:TE}{pos:Pos}
theorem jD {pins:List (Addr×Obj)}{σ:St}{H:Hp}{s:Shared}{Q:VK}{k k':Bool}(I:Inv X pins σ H s) (q:Q (.bl k) H) (e:k=k'):EP X pins σ Q (.bool k') s:=by
 subst e
 exact ⟨.bl k,H,I,rfl,q⟩
theorem uq:OpR X (compareOp .Eq) rEq:=by
 intro pins s σ H x y v u Q I rx ry h
 obtain ⟨hs,q⟩:=h
 cases x with
 | non =>
  cases rx
  cases y with
  | non=>cases ry;exact PySem.EqNone.eq_none_none (jD I q (by simp))
  | bl j=>cases ry;exact PySem.EqNone.eq_none_bool (jD I q (by simp))
  | int j=>obtain ⟨t',rfl⟩:=ry;exact PySem.EqNone.eq_none_int (jD I q (by simp))
  | str j=>obtain ⟨t',rfl⟩:=ry;exact PySem.EqNone.eq_none_str (jD I q (by simp))
  | _=>exact absurd (show false=true from hs) Bool.false_ne_true
 | bl i =>
  cases rx
  cases y with
  | non=>cases ry;exact PySem.EqNone.eq_bool_none (jD I q (by simp))
  | bl j=>cases ry;exact eq_bool (jD I q Zy)
  | str j=>obtain ⟨t',rfl⟩:=ry;exact PySem.EqMixed.eq_bool_str (jD I q (by simp))
  | _=>exact absurd (show false=true from hs) Bool.false_ne_true
 | int i =>
  obtain ⟨t,rfl⟩:=rx
  cases y with
  | non=>cases ry;exact PySem.EqNone.eq_int_none (jD I q (by simp))
  | int j=>obtain ⟨t',rfl⟩:=ry;exact eq_int (jD I q QR)
  | str j=>obtain ⟨t',rfl⟩:=ry;exact PySem.EqMixed.eq_int_str (jD I q (by simp))
  | _=>exact absurd (show false=true from hs) Bool.false_ne_true
 | str i =>
  obtain ⟨t,rfl⟩:=rx
  cases y with
  | non=>cases ry;exact PySem.EqNone.eq_str_none (jD I q (by simp))
  | bl j=>cases ry;exact PySem.EqMixed.eq_str_bool (jD I q (by simp))
  | int j=>obtain ⟨t',rfl⟩:=ry;exact PySem.EqMixed.eq_str_int (jD I q (by simp))
  | str j=>obtain ⟨t',rfl⟩:=ry;exact eq_str (jD I q Xi)
  | _=>exact absurd (show false=true from hs) Bool.false_ne_true
 | byt i =>
  obtain ⟨t,rfl⟩:=rx
  cases y with
  | byt j=>obtain ⟨t',rfl⟩:=ry;exact PySem.W.eq_bytes (jD I q Xh)
  | _=>exact absurd (show false=true from hs) Bool.false_ne_true
 | _=>cases y <;> exact absurd (show false=true from hs) Bool.false_ne_true
theorem Zr:OpR X (compareOp .NotEq) rNe:=by
 intro pins s σ H x y v u Q I rx ry h
 obtain ⟨hs,q⟩:=h
 cases x with
 | non =>
  cases rx
  cases y with
  | non=>cases ry;exact PySem.EqNone.ne_none_none (jD I q (by simp))
  | bl j=>cases ry;exact PySem.EqNone.ne_none_bool (jD I q (by simp))
  | int j=>obtain ⟨t',rfl⟩:=ry;exact PySem.EqNone.ne_none_int (jD I q (by simp))
  | str j=>obtain ⟨t',rfl⟩:=ry;exact PySem.EqNone.ne_none_str (jD I q (by simp))
  | _=>exact absurd (show false=true from hs) Bool.false_ne_true
 | bl i =>
  cases rx
  cases y with
  | non=>cases ry;exact PySem.EqNone.ne_bool_none (jD I q (by simp))
  | bl j=>cases ry;exact ne_bool (jD I q (congrArg not Zy))
  | str j=>obtain ⟨t',rfl⟩:=ry;exact PySem.EqMixed.ne_bool_str (jD I q (by simp))
  | _=>exact absurd (show false=true from hs) Bool.false_ne_true
 | int i =>
  obtain ⟨t,rfl⟩:=rx
  cases y with
  | non=>cases ry;exact PySem.EqNone.ne_int_none (jD I q (by simp))
  | int j=>obtain ⟨t',rfl⟩:=ry;exact ne_int (jD I q (congrArg not QR))
  | str j=>obtain ⟨t',rfl⟩:=ry;exact PySem.EqMixed.ne_int_str (jD I q (by simp))
  | _=>exact absurd (show false=true from hs) Bool.false_ne_true
 | str i =>
  obtain ⟨t,rfl⟩:=rx
  cases y with
  | non=>cases ry;exact PySem.EqNone.ne_str_none (jD I q (by simp))
  | bl j=>cases ry;exact PySem.EqMixed.ne_str_bool (jD I q (by simp))
  | int j=>obtain ⟨t',rfl⟩:=ry;exact PySem.EqMixed.ne_str_int (jD I q (by simp))
  | str j=>obtain ⟨t',rfl⟩:=ry;exact ne_str (jD I q (congrArg not Xi))
  | _=>exact absurd (show false=true from hs) Bool.false_ne_true
 | byt i =>
  obtain ⟨t,rfl⟩:=rx
  cases y with
  | byt j=>obtain ⟨t',rfl⟩:=ry;exact PySem.W.ne_bytes (jD I q (congrArg not Xh))
  | _=>exact absurd (show false=true from hs) Bool.false_ne_true
 | _=>cases y <;> exact absurd (show false=true from hs) Bool.false_ne_true
theorem kF:OpR X (compareOp .Lt) (rI0 fun i j=>.bl (decide (i<j))):=YL fun _ _ _ _ _ _ _ q=>lt_int q
theorem qp:OpR X (compareOp .LtE) (rI0 fun i j=>.bl (decide (i<=j))):=YL fun _ _ _ _ _ _ _ q=>le_int q
theorem Vu:OpR X (compareOp .Gt) (rI0 fun i j=>.bl (decide (j<i))):=YL fun _ _ _ _ _ _ _ q=>gt_int q
theorem Yl:OpR X (compareOp .GtE) (rI0 fun i j=>.bl (decide (j<=i))):=YL fun _ _ _ _ _ _ _ q=>ge_int q
theorem ZX:OpR X (compareOp .Is) (fun x y H Q=>y = .non/\Q (.bl (decide (x = .non))) H):=by
 intro pins s σ H x y v u Q I rx ry h
 obtain ⟨rfl,q⟩:=h
 cases ry
 refine is_none_gen (jD I q ?_)
 cases x <;> first
  | (cases rx;rfl)
  | (obtain ⟨t,rfl⟩:=rx;rfl)
theorem qd (b:Expr) {op:CmpOp}(h:op≠.In:=by decide) (h2:op≠.NotIn:=by decide):behindInMarks op b=false:=by
 have e1:(op == CmpOp.In)=false:=by cases op <;> first | rfl | exact absurd rfl h
 have e2:(op == CmpOp.NotIn)=false:=by cases op <;> first | rfl | exact absurd rfl h2
 cases b <;> simp [behindInMarks,e1,e2]
theorem xS {op:CmpOp}{r:R2}(ho:OpR X (compareOp op) r) (ha:PE X a ta) (hb:PE X b tb) (hm:behindInMarks op b=false):PE X (.Compare a [op] [b] pos) (tOp r ta tb):=by
 intro pins s σ H Q I h
 exact wpAny_Compare1 (Uf ha hb I h fun v u s2 x y H2 I2 rx ry q=>ho pins s2 σ H2 x y v u Q I2 rx ry q) hm
def Xe (t:TE):TT:=fun σ H Q=>t σ H fun x H'=>∃ k,x = .bl k/\Q k H'
theorem qc {op:CmpOp}{r:R2}(ho:OpR X (compareOp op) r) (ha:PE X a ta) (hb:PE X b tb) (hm:behindInMarks op b=false):PT X (.Compare a [op] [b] pos) (Xe (tOp r ta tb)):=by
 intro pins s σ H Q I h
 refine wpAny_isTrue_Compare1 (thn (ha pins s σ H _ I h) fun v s1 ⟨x,H1,I1,r1,q1⟩=>thn (hb pins s1 σ H1 _ I1 q1) fun u s2 ⟨y,H2,I2,r2,q2⟩ =>
  thn (ho pins s2 σ H2 x y v u _ I2 r1 r2 q2) fun c s3 ⟨z,H3,I3,r3,k,e,q3⟩=>?_) hm
 subst e
 cases r3
 exact wpAny_truthy_bool ⟨H3,I3,q3⟩
def ZS (r r':R2) (ta tb tc:TE):TE:=fun σ H Q=>ta σ H fun x H1=>tb σ H1 fun y H2=>r x y H2 fun z H3=>∃ k,z = .bl k /\
 (if k=true then tc σ H3 fun w' H4=>r' y w' H4 Q else Q (.bl false) H3)
theorem zx {op op':CmpOp}{r r':R2}(ho:OpR X (compareOp op) r) (ho':OpR X (compareOp op') r') (ha:PE X a ta) (hb:PE X b tb) (hc:PE X c tc)
  (hm:lastMarks [op,op'] [b,c]=false:=by with_unfolding_all rfl):PE X (.Compare a [op,op'] [b,c] pos) (ZS r r' ta tb tc):=by
 intro pins s σ H Q I h
 refine Compare_chain (thn (ha pins s σ H _ I h) fun v s1 ⟨x,H1,I1,r1,q1⟩=>chain_link (thn (hb pins s1 σ H1 _ I1 q1) fun u s2 ⟨y,H2,I2,r2,q2⟩ =>
  thn (ho pins s2 σ H2 x y v u _ I2 r1 r2 q2) fun d s3 ⟨z,H3,I3,r3,k,e,q3⟩=>?_)) hm
 subst e
 cases r3
 refine wpAny_truthy_bool ?_
 cases k with
 | false=>exact ite_ff ⟨.bl false,H3,I3,rfl,q3⟩
 | true=>exact ite_tt (chain_last (thn (hc pins s3 σ H3 _ I3 q3) fun w' s4 ⟨z',H4,I4,r4,q4⟩=>ho' pins s4 σ H4 y z' u w' Q I4 r2 r4 q4))
theorem xr {op op':CmpOp}{r r':R2}(ho:OpR X (compareOp op) r) (ho':OpR X (compareOp op') r') (ha:PE X a ta) (hb:PE X b tb) (hc:PE X c tc)
  (hm:lastMarks [op,op'] [b,c]=false:=by with_unfolding_all rfl):PT X (.Compare a [op,op'] [b,c] pos) (Xe (ZS r r' ta tb tc)):=by
 intro pins s σ H Q I h
 refine isTrue_chain (thn (ha pins s σ H _ I h) fun v s1 ⟨x,H1,I1,r1,q1⟩=>test_link (thn (hb pins s1 σ H1 _ I1 q1) fun u s2 ⟨y,H2,I2,r2,q2⟩ =>
  thn (ho pins s2 σ H2 x y v u _ I2 r1 r2 q2) fun d s3 ⟨z,H3,I3,r3,k,e,q3⟩=>?_)) hm
 subst e
 cases r3
 refine wpAny_truthy_bool ?_
 cases k with
 | false =>
  obtain ⟨k',e',q'⟩:=q3
  cases e'
  exact ite_ff ⟨H3,I3,q'⟩
 | true =>
  refine ite_tt (test_last (thn (hc pins s3 σ H3 _ I3 q3) fun w' s4 ⟨z',H4,I4,r4,q4⟩=>thn (ho' pins s4 σ H4 y z' u w' _ I4 r2 r4 q4) fun d' s5 ⟨z2,H5,I5,r5,k2,e2,q5⟩=>?_))
  subst e2
  cases r5
  exact wpAny_truthy_bool ⟨H5,I5,q5⟩
theorem J4:(sizeLine:Nat)<2 ^ 63:=by rw [sizeLine_eq];decide
theorem xX {x:V}{us:List Value}(r:jw [x] us):∃ u,us=[u]/\jy x u:=by
 cases r with
 | cons r1 r2=>cases r2;exact ⟨_,rfl,r1⟩
theorem X0 {x y:V}{us:List Value}(r:jw [x,y] us):∃ u w',us=[u,w']/\jy x u/\jy y w':=by
 cases r with
 | cons r1 r2 =>
  cases r2 with
  | cons r3 r4=>cases r4;exact ⟨_,_,rfl,r1,r3⟩
theorem ui (hc:X.calm=true):qy X (.builtin "max") (fun xs H Q=>∃ i j,xs=[.int i,.int j]/\Q (.int (if j > i then j else i)) H):=by
 intro pins s σ H xs us Q I r h
 obtain ⟨i,j,rfl,q⟩:=h
 obtain ⟨u,w',rfl,⟨t,rfl⟩,⟨t',rfl⟩⟩:=X0 r
 refine max_two_ints (I.ok.hd hc) fun h' tk k=>⟨_,H,I.kept k,?_,q⟩
 by_cases hj:j > i
 ·rw [if_pos hj,if_pos hj];exact ⟨_,rfl⟩
 ·rw [if_neg hj,if_neg hj];exact ⟨_,rfl⟩
theorem uc (hc:X.calm=true):qy X (.builtin "min") (fun xs H Q=>∃ i j,xs=[.int i,.int j]/\Q (.int (if j<i then j else i)) H):=by
 intro pins s σ H xs us Q I r h
 obtain ⟨i,j,rfl,q⟩:=h
 obtain ⟨u,w',rfl,⟨t,rfl⟩,⟨t',rfl⟩⟩:=X0 r
 refine min_two_ints (I.ok.hd hc) fun h' tk k=>⟨_,H,I.kept k,?_,q⟩
 by_cases hj:j<i
 ·rw [if_pos hj,if_pos hj];exact ⟨_,rfl⟩
 ·rw [if_neg hj,if_neg hj];exact ⟨_,rfl⟩
end
end L2
namespace L2
open PySem PySem.Spec PyProof.Rows
structure ObjM (h:Heap) (x dx C:Addr) (mA:Str->Option Value):Prop where
 obj:h.get? x=some (PySem.W.instObj C dx)
 ns:h.Ns1 dx mA
 ne:dx≠x
theorem Z0 {h:Heap}{dx:Addr}{mA:Str->Option Value}(n:h.Ns1 dx mA):∃ od,h.get? dx=some od/\∀ name,PySem.W.lookIn name od=some (mA name):=by
 obtain ⟨o,es,ep,ho,hd,hk,_,hm⟩:=n
 refine ⟨o,ho,fun name=>?_⟩
 have e:=hm name
 unfold nsFind findBy at e
 rw [<- Array.find?_toList] at e
 unfold PySem.W.lookIn
 rw [hd]
 dsimp only
 split
 ·rename_i y q
  rw [q] at e
  exact congrArg some e
 ·rename_i q
  rw [q] at e
  have a:es.toList.any (·.refKey)=false:=by
   rw [List.any_eq_false]
   intro y hy
   obtain ⟨z,t,hkey⟩:=hk y (Array.mem_toList_iff.mp hy)
   simp [DictEntry.refKey,hkey]
  have a':¬ es.toList.any (·.refKey)=true:=by rw [a];exact Bool.false_ne_true
  rw [if_neg a']
  exact congrArg some e
theorem ObjM.look {h:Heap}{x dx C:Addr}{mA:Str->Option Value}(I:ObjM h x dx C mA):∃ od,PySem.W.InstAt h x (PySem.W.instObj C dx) C (some od)/\∀ name,PySem.W.lookIn name od=some (mA name) :=
 let ⟨od,ho,hl⟩:=Z0 I.ns
 ⟨od,⟨I.obj,rfl,rfl,ho⟩,hl⟩
section
variable {prog:Program}{w:World}{A:Around}{E:Value->Shared->Prop}{s:Shared}{K:PySem.W.Frag}{x dx C f:Addr}{mA:Str->Option Value}{name:Str}{v:Value}
theorem Vl {expr:Bool}{Q:Value->Shared->Prop}(X:K.In s.heap) (I:ObjM s.heap x dx C mA) (hg:PySem.W.plainGet K C name=true) (hh:PySem.W.hasDictIn K C=true)
  (ha:PySem.W.findIn K (.ref C) name=some none) (hv:mA name=some v) (hv':PySem.W.handedIn v=true) (h:Q v { s with toks:=s.toks+1 }) :
  wpAny (model prog w) A (getAttr (.ref x) name expr) Q E s:=by
 obtain ⟨od,J,hl⟩:=I.look
 exact PySem.W.get_value X J (PySem.W.plainGet_of hg).1 (PySem.W.findObj_own hh ha rfl (by rw [hl,hv])) hv' h
theorem Y7 {pl:Sem Bool}{Q:Value×List Value->Shared->Prop}(X:K.In s.heap) (I:ObjM s.heap x dx C mA) (hg:PySem.W.plainGet K C name=true)
  (hf:PySem.W.findIn K (.ref C) name=some (some (.ref f))) (ht:PySem.W.isFn K (.ref f)=true) (hv:mA name=none) (h:Q (.ref f,[.ref x]) s) :
  wpAny (model prog w) A (getMethod (.ref x) name pl) Q E s:=by
 obtain ⟨od,J,hl⟩:=I.look
 exact PySem.W.method_fn X J (PySem.W.plainGet_of hg).1 (PySem.W.plainGet_of hg).2 hf (beq_iff_eq.mp ht) (by show (PySem.W.lookIn name od).map (·.isSome)=some false;rw [hl,hv];rfl) h
theorem YW {ns:List Str}{Q:Unit->Shared->Prop}(X:K.In s.heap) (I:ObjM s.heap x dx C mA)
  (hs:PySem.W.findIn K (.ref C) "__setattr__" = some (some (.builtin "object.__setattr__"))) (hp:PySem.W.plainOver K C=true) (ht:PySem.W.takerIn K C name=some none) (hh:PySem.W.hasDictIn K C=true)
  (hw:PySem.Within mA ns) (hsz:ns.length<=sizeLine)
  (h:∀ h',ObjM h' x dx C (fun y=>if y=name then some v else mA y)->Heap.SameBut dx s.heap h'->Q () { s with heap:=h',toks:=s.toks+2 }) :
  wpAny (model prog w) A (setAttr (.ref x) name v) Q E s:=by
 obtain ⟨od,J,hl⟩:=I.look
 refine PySem.W.set_plain X J hs (PySem.W.osa_open (s:={ s with toks:=s.toks+1 }) (r:=none) X J hp ht fun b=>?_)
 obtain ⟨cd,hc,hd'⟩:=PySem.W.any_some hh
 have hx:s.heap.get? x=some ⟨.ref C,some dx,.plain,#[]⟩:=I.obj
 refine wpAny_bind (wpAny_pure (wpAny_bind (wpAny_bind (wpAny_loadPart hx (wpAny_bind (PySem.W.Looks.here (s:={ s with toks:=s.toks+1 }) (PySem.W.looks_clsIn X hc) ?_))))))
 rw [hd']
 refine wpAny_pure (a:=some dx) (wpAny_bind (wpAny_pure (wpAny_bind ?_)))
 refine wpAny_nsSet1 (s:={ s with toks:=s.toks+1 }) I.ns fun h' hn2 hs2=>?_
 obtain ⟨oD,esD,epD,hoD,hdD,hcD⟩:=hn2.count (PySem.Within.cons name v hw)
 refine wpAny_bind (wpAny_lookBehind hoD (by rw [hdD];exact pastItsLine_dict (Nat.le_trans hcD (by rw [List.length_cons];omega))) ?_)
 exact wpAny_pure (h _ ⟨(hs2.2 _ (Ne.symm I.ne)).trans I.obj,hn2,I.ne⟩ hs2)
theorem ZW {R:Result->Shared->Prop}{vs:List Value}{kw:List (Str×Value)}(X:K.In s.heap) (hm:PySem.W.makesIn K C=true)
  (hi:PySem.W.findIn K (.ref C) "__init__" = some (some (.ref f))) (hf:PySem.W.typeIn K (.ref f)=some (.type "function"))
  (h:codeAny (model prog w) (A.under (.builtin "type.__call__" ⟨.ref C::vs,kw⟩)) (.call (.ref f) ⟨.ref (s.heap.objs.size+1)::vs,kw⟩) (PySem.W.InitBack (s.heap.objs.size+1) R)
   { s with heap:=(s.heap.push PySem.W.emptyDict).push (PySem.W.instObj C s.heap.objs.size) }) :
  codeAny (model prog w) A (.call (.ref C) ⟨vs,kw⟩) R s:=by
 obtain ⟨hh,g,d,t,os⟩:=s
 exact PySem.W.make_core (PySem.W.makes_of X hm) (PySem.W.looks_findIn X hi) (fun self=>PySem.W.bind_fn X self hf) (.inl rfl) h
end
def jm (f:Str) (v:V):List (Str×V)->List (Str×V)
 | []=>[(f,v)]
 | (g,x)::r=>if g=f then (g,v)::r else (g,x)::jm f v r
theorem ju (f g:Str) (v:V):∀ fs:List (Str×V),(jm f v fs).lookup g=if g=f then some v else fs.lookup g
 | []=>by
  show List.lookup g [(f,v)]=_
  by_cases h:g=f
  ·have hb:(g == f)=true:=beq_iff_eq.mpr h
   simp only [List.lookup,hb,if_pos h]
  ·have hb:(g == f)=false:=beq_eq_false_iff_ne.mpr h
   simp only [List.lookup,hb,if_neg h]
 | (k,x)::r=>by
  have ih:=ju f g v r
  rw [show jm f v ((k,x)::r)=(if k=f then (k,v)::r else (k,x)::jm f v r) from rfl]
  by_cases hk:k=f
  ·rw [if_pos hk]
   by_cases h:g=k
   ·have hb:(g == k)=true:=beq_iff_eq.mpr h
    simp only [List.lookup,hb,if_pos (h.trans hk)]
   ·have hb:(g == k)=false:=beq_eq_false_iff_ne.mpr h
    simp only [List.lookup,hb,if_neg (fun e:g=f=>h (e.trans hk.symm))]
  ·rw [if_neg hk]
   by_cases h:g=k
   ·have hb:(g == k)=true:=beq_iff_eq.mpr h
    simp only [List.lookup,hb,if_neg (fun e:g=f=>hk (h.symm.trans e))]
   ·have hb:(g == k)=false:=beq_eq_false_iff_ne.mpr h
    simp only [List.lookup,hb]
    exact ih
theorem vP (f:Str) (v:V):∀ fs:List (Str×V),f∈(jm f v fs).map (·.1)/\∀ g,g∈fs.map (·.1)->g∈(jm f v fs).map (·.1)
 | []=>⟨by simp [jm],fun g h=>by simp at h⟩
 | (k,x)::r=>by
  obtain ⟨i1,i2⟩:=vP f v r
  rw [show jm f v ((k,x)::r)=(if k=f then (k,v)::r else (k,x)::jm f v r) from rfl]
  by_cases hk:k=f
  ·rw [if_pos hk]
   subst hk
   exact ⟨by simp,fun g h=>by simpa using h⟩
  ·rw [if_neg hk]
   refine ⟨?_,fun g h=>?_⟩
   ·rw [List.map_cons]
    exact List.mem_cons_of_mem _ i1
   ·rw [List.map_cons] at h ⊢
    rcases List.mem_cons.mp h with e | e
    ·exact List.mem_cons.mpr (.inl e)
    ·exact List.mem_cons_of_mem _ (i2 g e)
theorem jJ (f:Str) (v:V):∀ fs:List (Str×V),(jm f v fs).length<=fs.length+1
 | []=>by simp [jm]
 | (k,x)::r=>by
  have ih:=jJ f v r
  rw [show jm f v ((k,x)::r)=(if k=f then (k,v)::r else (k,x)::jm f v r) from rfl]
  by_cases hk:k=f
  ·rw [if_pos hk,List.length_cons,List.length_cons];omega
  ·rw [if_neg hk,List.length_cons,List.length_cons];omega
theorem zX.some_of {v:V}{o:Option Value}(r:zX (some v) o):∃ u,o=some u/\jy v u:=by
 cases o with
 | none=>exact (show False from r).elim
 | some u=>exact ⟨u,rfl,r⟩
theorem zX.none_of {o:Option Value}(r:zX none o):o=none:=by
 cases o with
 | none=>rfl
 | some u=>exact (show False from r).elim
theorem Xz {v:V}{u:Value}(r:jy v u):PySem.W.handedIn u=true:=by
 cases v with
 | non=>cases (show u=Value.none from r);rfl
 | bl b=>cases (show u=Value.bool b from r);rfl
 | int i=>obtain ⟨t,e⟩:=(show ∃ t,u=Value.int i t from r);cases e;rfl
 | str x=>obtain ⟨t,e⟩:=(show ∃ t,u=Value.str x t from r);cases e;rfl
 | byt b=>obtain ⟨t,e⟩:=(show ∃ t,u=Value.bytes b t from r);cases e;rfl
 | flt b=>obtain ⟨t,e⟩:=(show ∃ t,u=Value.float b t from r);cases e;rfl
 | ref a=>cases (show u=Value.ref a from r);rfl
 | ty n=>cases (show u=Value.type n from r);rfl
section
variable {P:Program}{w:World}{H H':Hp}{h h':Heap}{a C dx:Addr}{fs fs':List (Str×V)}
theorem uH (hok:HOk P w H h) (e:H a=some (.ins C dx fs)):∃ mA,ObjM h a dx C mA/\(∀ f,zX (fs.lookup f) (mA f))/\PySem.Within mA (fs.map (·.1))/\fs.length<=1000/\H dx=some (.own a):=by
 obtain ⟨d,z,ne,ob,mA,n,r,q⟩:=(show jW P w H h a (.ins C dx fs) from hok a _ e)
 exact ⟨mA,⟨ob,n,ne⟩,r,q,z,d⟩
end
structure Cls (K:PySem.W.Frag) (C:Addr):Prop where
 pg:PySem.W.plainGet K C Str.empty=true
 hd:PySem.W.hasDictIn K C=true
 po:PySem.W.plainOver K C=true
 sa:PySem.W.findIn K (.ref C) "__setattr__" = some (some (.builtin "object.__setattr__"))
theorem Cls.get {K:PySem.W.Frag}{C:Addr}(c:Cls K C) (f:Str):PySem.W.plainGet K C f=true:=c.pg
def xQ (K:PySem.W.Frag) (C:Addr) (f:Str):Prop:=PySem.W.findIn K (.ref C) f=some none
theorem xQ.taker {K:PySem.W.Frag}{C:Addr}{f:Str}(n:xQ K C f):PySem.W.takerIn K C f=some none:=by
 unfold PySem.W.takerIn
 rw [show PySem.W.findIn K (.ref C) f=some none from n]
 rfl
structure Meth (K:PySem.W.Frag) (C:Addr) (m:Str) (f:Addr):Prop where
 at_:PySem.W.findIn K (.ref C) m=some (some (.ref f))
 fn:PySem.W.isFn K (.ref f)=true
 kp:PySem.W.keepIn K (.ref f)=true
section
variable {X:Cx}{pins:List (Addr×Obj)}{σ:St}{H:Hp}{s:Shared}{a C dx:Addr}{fs:List (Str×V)}{f:Str}{v:V}{A:Around}{E:Value->Shared->Prop}
theorem Qr {b:Bool}{Q:Value->Shared->Prop}(I:Inv X pins σ H s) (e:H a=some (.ins C dx fs)) (c:Cls X.K C) (n:xQ X.K C f) (l:fs.lookup f=some v)
  (h:∀ u s',Inv X pins σ H s'->jy v u->Q u s'):wpAny (model X.prog X.w) A (getAttr (.ref a) f b) Q E s:=by
 obtain ⟨mA,O,r,_,_,_⟩:=uH I.hok e
 obtain ⟨u,hu,ru⟩:=zX.some_of (v:=v) (o:=mA f) (by rw [<- l];exact r f)
 exact Vl I.kIn O (c.get f) c.hd n hu (Xz ru) (h u _ (I.tok _) ru)
theorem zE {m:Str}{g:Addr}{pl:Sem Bool}{Q:Value×List Value->Shared->Prop}(I:Inv X pins σ H s) (e:H a=some (.ins C dx fs)) (c:Cls X.K C) (k:Meth X.K C m g) (l:fs.lookup m=none)
  (h:Q (.ref g,[.ref a]) s):wpAny (model X.prog X.w) A (getMethod (.ref a) m pl) Q E s:=by
 obtain ⟨mA,O,r,_,_,_⟩:=uH I.hok e
 have hn:mA m=none:=zX.none_of (by rw [<- l];exact r m)
 exact Y7 I.kIn O (c.get m) k.at_ k.fn hn h
theorem Qf {y:V}{u:Value}{Q:Unit->Shared->Prop}(I:Inv X pins σ H s) (e:H a=some (.ins C dx fs)) (c:Cls X.K C) (n:xQ X.K C f) (hl:fs.length<1000) (ry:jy y u)
  (h:∀ s',Inv X pins σ (upd H a (.ins C dx (jm f y fs))) s'->Q () s'):wpAny (model X.prog X.w) A (setAttr (.ref a) f u) Q E s:=by
 obtain ⟨mA,O,r,wi,_,ho⟩:=uH I.hok e
 have hz:(fs.map (·.1)).length<=sizeLine:=by rw [List.length_map,sizeLine_eq];omega
 refine YW I.kIn O c.sa c.po n.taker c.hd wi hz fun h' O' sb=>h _ ?_
 have hd:∃ o,h'.get? dx=some o:=let ⟨o,_,_,e',_⟩:=O'.ns;⟨o,e'⟩
 refine I.write (x:=a) (e:=dx) (by rw [e];exact True.intro) (.inr ho) (fun b q hb z=>(sb.2 b hb).trans z) hd ?_
 refine ⟨by rw [j5 O.ne];exact ho,?_,O.ne,O'.obj,_,O'.ns,fun g=>?_,fun g hg=>?_⟩
 ·have:=jJ f y fs;omega
 ·show zX ((jm f y fs).lookup g) (if g=f then some u else mA g)
  rw [ju]
  by_cases q:g=f
  ·rw [if_pos q,if_pos q];exact ry
  ·rw [if_neg q,if_neg q];exact r g
 ·by_cases q:g=f
  ·rw [q];exact (vP f y fs).1
  ·refine (vP f y fs).2 g (wi g fun z=>hg ?_)
   show (if g=f then some u else mA g)=none
   rw [if_neg q];exact z
theorem Inv.made (I:Inv X pins σ H s):Inv X pins σ (upd (upd H s.heap.objs.size (.own (s.heap.objs.size+1))) (s.heap.objs.size+1) (.ins C s.heap.objs.size []))
  { s with heap:=(s.heap.push PySem.W.emptyDict).push (PySem.W.instObj C s.heap.objs.size) }:=by
 have e1:(s.heap.push PySem.W.emptyDict).get? s.heap.objs.size=some PySem.W.emptyDict:=Heap.get?_push_size s.heap rfl
 have e2:((s.heap.push PySem.W.emptyDict).push (PySem.W.instObj C s.heap.objs.size)).get? (s.heap.objs.size+1)=some (PySem.W.instObj C s.heap.objs.size):=by
  have:=Heap.get?_push_size (s.heap.push PySem.W.emptyDict) (o:=PySem.W.instObj C s.heap.objs.size) rfl
  rwa [Heap.size_push] at this
 have e3:(s.heap.push PySem.W.emptyDict).Ns s.heap.objs.size (fun _=>none):=⟨PySem.W.emptyDict,#[],_,e1,rfl,(fun e he=>absurd he (by simp)),fun _=>rfl⟩
 have I1:=I.laid (a:=s.heap.objs.size) (o:=.own (s.heap.objs.size+1)) (h':=s.heap.push PySem.W.emptyDict) (t':=s.toks) (fun b u q=>Heap.get?_push_of_some _ q) (Nat.le_refl _) ⟨_,e1⟩
 refine I1.laid (a:=s.heap.objs.size+1) (o:=.ins C s.heap.objs.size []) (t':=s.toks) (fun b u q=>Heap.get?_push_of_some _ q) (Nat.le_of_eq (Heap.size_push _ _)) ?_
 have ne:s.heap.objs.size≠s.heap.objs.size+1:=Nat.ne_of_lt (Nat.lt_succ_self _)
 refine ⟨by rw [j5 ne,j4],Nat.zero_le _,ne,e2,fun _=>none,(Heap.Ns1.of_empty e3).at fun o q=>Heap.get?_push_of_some _ q,fun _=>True.intro,fun y hy=>absurd rfl hy⟩
theorem Vf {prog:Program}{w:World}{env:Env}{e:Expr}{f:Str}{pos:Pos}{s:Shared}{Q:Value->Shared->Prop}(hb:attributeBase e f env (eval e env)=eval e env)
  (h:wpAny (model prog w) A (eval e env) (fun o s₁=>wpAny (model prog w) A (getAttr o f true) Q E s₁) E s):wpAny (model prog w) A (eval (.Attribute e f pos) env) Q E s :=
 Attribute_any_ h (by rw [arm_eval_Attribute,hb])
end
def UI (K:PySem.W.Frag) (ta:TE) (f:Str):TE:=fun σ H Q=>ta σ H fun x H1=>∃ a C dx fs v,x = .ref a/\H1 a=some (.ins C dx fs)/\Cls K C/\xQ K C f/\fs.lookup f=some v/\Q v H1
def Wa (K:PySem.W.Frag) (ta tv:TE) (f:Str):TS:=fun D σ H=>tv σ H fun y H1=>ta σ H1 fun x H2=>∃ a C dx fs,x = .ref a/\H2 a=some (.ins C dx fs)/\Cls K C/\xQ K C f/\fs.length<1000 /\
 D.nx σ (upd H2 a (.ins C dx (jm f y fs)))
section
variable {X:Cx}{o e value:Expr}{f:Str}{pos pos' tpos:Pos}{ta tv:TE}
theorem VR (he:PE X e ta) (hb:attributeBase e f X.env (eval e X.env)=eval e X.env):PE X (.Attribute e f pos) (UI X.K ta f):=by
 intro pins s σ H Q I h
 refine Vf hb (thn (he pins s σ H _ I h) fun u s1 ⟨x,H1,I1,rx,a,C,dx,fs,v,ex,ea,c,n,l,q⟩=>?_)
 subst ex
 obtain rfl:u=Value.ref a:=rx
 exact Qr I1 ea c n l fun u' s2 I2 ru=>⟨v,H1,I2,ru,q⟩
theorem VO (ha:PE X o ta) (hv:PE X value tv) (hs:swapsWith value (some (.Attribute o f pos')) pos.line X.env=pure false):PS X (.Assign [.Attribute o f pos'] value pos) (Wa X.K ta tv f):=by
 intro pins s σ H D I h
 refine plainObj_wpAny_Assign_Attribute (thn (hv pins s σ H _ I h) fun u s1 ⟨y,H1,I1,ry,q⟩=>thn (ha pins s1 σ H1 _ I1 q) fun ov s2 ⟨x,H2,I2,rx,a,C,dx,fs,ex,ea,c,n,l,q2⟩=>?_) hs
 subst ex
 obtain rfl:ov=Value.ref a:=rx
 exact Qf I2 ea c n l ry fun s3 I3=>⟨σ,_,I3,q2⟩
theorem Vo {pl:Sem Bool}{m:Str}{apos:Pos}{args:List Expr}{pins:List (Addr×Obj)}{s:Shared}{σ:St}{H:Hp}{Q:Value->Shared->Prop}{te:TE}(he:PE X e te) (I:Inv X pins σ H s)
  (h:te σ H fun x H1=>∃ a C dx fs g,x = .ref a/\H1 a=some (.ins C dx fs)/\Cls X.K C/\Meth X.K C m g/\fs.lookup m=none /\
   ∀ s1,Inv X pins σ H1 s1->wpAny (model X.prog X.w) X.A (callWith pos (.ref g) [.ref a] (backTo pos (starEach args X.env)) (backToKw pos (keywordEach [] X.env))) Q X.xe s1)
  (ht:eval (.Call (.Attribute e m apos) args [] pos) X.env=(do
   let ov <- eval e X.env
   standAt apos.atName
   let (f,first) <- holding [ov] (getMethod ov m pl)
   callWith pos f first (backTo pos (starEach args X.env)) (backToKw pos (keywordEach [] X.env)))) :
  wpAny (model X.prog X.w) X.A (eval (.Call (.Attribute e m apos) args [] pos) X.env) Q X.xe s:=by
 refine PySem.W.methodCall_KW (pl:=pl) (thn (he pins s σ H _ I h) fun u s1 ⟨x,H1,I1,rx,a,C,dx,fs,g,ex,ea,c,k,l,q⟩=>?_) ht
 subst ex
 obtain rfl:u=Value.ref a:=rx
 exact zE I1 ea c k l (q s1 I1)
end
section
variable {X:Cx}{pins:List (Addr×Obj)}{σ:St}{H:Hp}{s:Shared}{A:Around}{E:Value->Shared->Prop}{Q:Value->Shared->Prop}{c:Value}{b:Bool}
inductive TyOf (K:PySem.W.Frag) (H:Hp):V->Value->Prop where
 | non:TyOf K H .non (.type "NoneType")
 | bl (x:Bool):TyOf K H (.bl x) (.type "bool")
 | int (i:Int):TyOf K H (.int i) (.type "int")
 | str (x:Str):TyOf K H (.str x) (.type "str")
 | flt (x:UInt64):TyOf K H (.flt x) (.type "float")
 | lst {a:Addr} {xs:List V} (e:H a=some (.lst xs)):TyOf K H (.ref a) (.type "list")
 | frz {a:Addr} {o:Obj} {xs:List V} (e:H a=some (.frz o (.lst xs))):TyOf K H (.ref a) (.type "list")
 | tup {a:Addr} {xs:List V} (e:H a=some (.tup xs)):TyOf K H (.ref a) (.type "tuple")
 | dK {a:Addr} {kvs:List (Key×V)} (e:H a=some (.dK kvs)):TyOf K H (.ref a) (.type "dict")
 | dT {a:Addr} {kvs:List (List Key×V)} (e:H a=some (.dT kvs)):TyOf K H (.ref a) (.type "dict")
 | ins {a C dx:Addr} {fs:List (Str×V)} (e:H a=some (.ins C dx fs)) (cl:Cls K C) (ha:PySem.W.findIn K (.ref C) "__class__" = some (some (.builtin "object.__class__")))
   (hn:PySem.W.specialIn K (.builtin "object.__class__") "__get__" = some (some (.builtin "getset_descriptor.__get__"))) (htk:PySem.W.takesIn K (.builtin "object.__class__")=some true)
   (hm:PySem.W.mroIn K C (.type "object")=some true):TyOf K H (.ref a) (.ref C)
theorem XC {x:V}{u t:Value}(I:Inv X pins σ H s) (rx:jy x u) (ty:TyOf X.K H x t) (e:PySem.W.kitOne X.K t c=some b) (h:∀ tk,Q (.bool b) { s with toks:=tk }) :
  wpAny (model X.prog X.w) A (call (.builtin "isinstance") [u,c]) Q E s:=by
 cases ty with
 | non=>cases (show u=Value.none from rx);exact PySem.W.kia_one PySem.W.kitx_none I.kIn True.intro e (fun z=>nomatch z) h
 | bl y=>cases (show u=Value.bool y from rx);exact PySem.W.kia_one PySem.W.kitx_bool I.kIn True.intro e (fun z=>nomatch z) h
 | int i=>obtain ⟨t,q⟩:=(show ∃ t,u=Value.int i t from rx);cases q;exact PySem.W.kia_one PySem.W.kitx_int I.kIn True.intro e (fun z=>nomatch z) h
 | str y=>obtain ⟨t,q⟩:=(show ∃ t,u=Value.str y t from rx);cases q;exact PySem.W.kia_one PySem.W.kitx_str I.kIn True.intro e (fun z=>nomatch z) h
 | flt y=>obtain ⟨t,q⟩:=(show ∃ t,u=Value.float y t from rx);cases q;exact PySem.W.kia_one PySem.W.kitx_float I.kIn True.intro e (fun z=>nomatch z) h
 | @lst a xs ea =>
  cases (show u=Value.ref a from rx)
  obtain ⟨_,_,n,_,h1⟩:=(show jW X.prog X.w H s.heap a (.lst xs) from I.hok a _ ea)
  exact PySem.W.kia_one PySem.W.kitx_list I.kIn ⟨_,h1,rfl⟩ e (fun z=>nomatch z) h
 | @frz a ob xs ea =>
  cases (show u=Value.ref a from rx)
  obtain ⟨_,_,_,n,_,h1⟩:=(show jW X.prog X.w H s.heap a (.frz ob (.lst xs)) from I.hok a _ ea)
  exact PySem.W.kia_one PySem.W.kitx_list I.kIn ⟨_,h1,rfl⟩ e (fun z=>nomatch z) h
 | @tup a xs ea =>
  cases (show u=Value.ref a from rx)
  obtain ⟨_,_,_,p⟩:=(show jW X.prog X.w H s.heap a (.tup xs) from I.hok a _ ea)
  obtain ⟨o,h1,h2,_⟩:=p
  exact PySem.W.kia_one PySem.W.kitx_tuple I.kIn ⟨o,h1,h2⟩ e (fun z=>nomatch z) h
 | @dK a kvs ea =>
  cases (show u=Value.ref a from rx)
  obtain ⟨_,_,vs,_,p⟩:=(show jW X.prog X.w H s.heap a (.dK kvs) from I.hok a _ ea)
  obtain ⟨o,es,ep,h1,h2,_⟩:=p
  exact PySem.W.kia_one PySem.W.kitx_dict I.kIn ⟨o,h1,h2.1⟩ e (fun z=>nomatch z) h
 | @dT a kvs ea =>
  cases (show u=Value.ref a from rx)
  obtain ⟨_,_,xs,_,o,es,ep,h1,h2,_⟩:=(show jW X.prog X.w H s.heap a (.dT kvs) from I.hok a _ ea)
  exact PySem.W.kia_one PySem.W.kitx_dict I.kIn ⟨o,h1,h2.1⟩ e (fun z=>nomatch z) h
 | @ins a C dx fs ea cl ha hn htk hm =>
  cases (show u=Value.ref a from rx)
  obtain ⟨mA,O,_⟩:=uH I.hok ea
  obtain ⟨od,J,_⟩:=O.look
  exact PySem.W.kia_one (PySem.W.kitx_own (cl.get _) cl.hd ha hn htk hm) I.kIn J e (fun z=>nomatch z) h
end
end L2
namespace L2
open PySem PySem.Spec PyProof.Rows
structure Room (k:Nat) (A:Around):Prop where
 hd:A.handled=none
 dp:A.depth+3*k+5<recursionLimit
 un:A.units+16*k+200<cLine
theorem Room.mono {j k:Nat}{A:Around}(r:Room k A) (h:j<=k):Room j A:=⟨r.hd,by have:=r.dp;omega,by have:=r.un;omega⟩
theorem Room.deeper {k:Nat}{A:Around}(r:Room (k+1) A) (env:Env):Room k (A.deeper env) :=
 ⟨r.hd,by have:=r.dp;show A.depth+1+3*k+5<_;omega,by have:=r.un;show A.units+3+16*k+200<_;omega⟩
theorem Room.in1 {k:Nat}{A:Around}(r:Room (k+1) A):Room k A.in1 :=
 ⟨r.hd,by have:=r.dp;show A.depth+3*k+5<_;omega,by have:=r.un;show A.units+1+16*k+200<_;omega⟩
theorem QF {A:Around}{C:Addr}{us:List Value}{kw:List (Str×Value)}:(A.under (.builtin "type.__call__" ⟨.ref C::us,kw⟩)).depth=A.depth+1:=by
 first | rfl | simp [Around.under,Code.weight,Code.isCreation,Code.isGuard,Code.isCaller,Code.frames,Code.isFrame,guardIds]
theorem QL {A:Around}{C:Addr}{us:List Value}{kw:List (Str×Value)}:(A.under (.builtin "type.__call__" ⟨.ref C::us,kw⟩)).units=A.units+1:=by
 first | rfl | simp [Around.under,Code.cUnits,Code.frames,Code.isFrame]
theorem Room.make {k:Nat}{A:Around}(r:Room (k+1) A) (C:Addr) (us:List Value) (kw:List (Str×Value)):Room k (A.under (.builtin "type.__call__" ⟨.ref C::us,kw⟩)) :=
 ⟨r.hd,by have:=r.dp;rw [QF];omega,by have:=r.un;rw [QL];omega⟩
theorem Room.depth {k:Nat}{A:Around}(r:Room k A):A.depth<recursionLimit:=by have:=r.dp;omega
theorem Room.units {k:Nat}{A:Around}(r:Room k A):A.units+64<cLine:=by have:=r.un;omega
def JS:TA:=fun _ H Q=>Q [] H
def UL (ta:TE) (tr:TA):TA:=fun σ H Q=>ta σ H fun x H1=>tr σ H1 fun xs H2=>Q (x::xs) H2
section
variable {X:Cx}{e:Expr}{es:List Expr}{te:TE}{t:TA}{pos:Pos}
theorem j2:PA X [] JS:=fun _ _ _ _ H Q I h=>Calls.spliced_nil ⟨[],H,I,.nil,h⟩
theorem j0 (ha:PE X e te) (hr:PA X es t) (hs:starEach (e::es) X.env=(false,eval e X.env)::starEach es X.env:=by rfl):PA X (e::es) (UL te t):=by
 intro pos pins s σ H Q I h
 rw [hs]
 show wpAny _ _ (spliced ((false,eval e X.env)::backTo pos (starEach es X.env))) _ _ s
 refine Calls.spliced_cons (thn (ha pins s σ H _ I h) fun u s1 ⟨x,H1,I1,r1,q1⟩=>?_)
 exact thn (hr pos pins s1 σ H1 _ I1 q1) fun us s2 ⟨xs,H2,I2,r2,q2⟩=>⟨x::xs,H2,I2,.cons r1 r2,q2⟩
end
abbrev Sp:=List V->Hp->VK->XK->Prop
abbrev CXT:=List Env->Hp->Shared->XK->Value->Shared->Prop
structure Env0 (P:Program) (w:World) (K:PySem.W.Frag) (mg:Str->Option Value) (base:Heap) (A:Around) (outer:List Env) (s:Shared) (H:Hp):Prop where
 frames:A.frames=some outer
 mod:Mod K mg base
 bs:∀ b o,base.get? b=some o->s.heap.get? b=some o/\H b=none
 bsz:base.objs.size<=s.heap.objs.size
 funs:s.heap.FunFrames base outer
 frf:∀ b∈frs outer,H b=none
 hok:HOk P w H s.heap
 bare:AllBare s.gens
def CE (outer:List Env) (P:Program) (w:World) (H:Hp) (s:Shared) (Q:VK) (u:Value) (s':Shared):Prop :=
 ∃ v H',s'.os=s.os/\AllBare s'.gens/\Un (frs outer) [] H H' s.heap s'.heap/\HOk P w H' s'.heap/\jy v u/\Q v H'
def CR (CX:CXT) (outer:List Env) (P:Program) (w:World) (H:Hp) (s:Shared) (Q:VK) (E:XK) (r:Result) (s':Shared):Prop :=
 match r with
 | .ok (.ret u)=>CE outer P w H s Q u s'
 | .ok _=>False
 | .error e=>CX outer H s E e s'
structure FnOk (P:Program) (w:World) (K:PySem.W.Frag) (mg:Str->Option Value) (base:Heap) (CX:CXT) (k:Nat) (f:Addr) (fd:FuncData) (ps:List Str) (sp:Sp):Prop where
 len:∀ vs H Q E,sp vs H Q E->vs.length=ps.length
 run:∀ (A:Around) (outer:List Env) (s:Shared) (H:Hp) (args:Args) (us:List Value) (vs:List V) (Q:VK) (E:XK),Room k A->Env0 P w K mg base A outer s H->BindsTo s fd args (ps.zip us)->jw vs us->sp vs H Q E ->
  codeAny (model P w) A (.call (.ref f) args) (CR CX outer P w H s Q E) s
theorem Env0.make {P:Program}{w:World}{K:PySem.W.Frag}{mg:Str->Option Value}{base:Heap}{A:Around}{outer:List Env}{s:Shared}{H:Hp}(e:Env0 P w K mg base A outer s H) (C:Addr) (us:List Value) (kw:List (Str×Value)) :
  Env0 P w K mg base (A.under (.builtin "type.__call__" ⟨.ref C::us,kw⟩)) outer s H:=⟨by first | exact e.frames | (simpa [Around.under,Code.envs,Code.isFrame,pushEnvs] using e.frames),e.mod,e.bs,e.bsz,e.funs,e.frf,e.hok,e.bare⟩
theorem Env0.in1 {P:Program}{w:World}{K:PySem.W.Frag}{mg:Str->Option Value}{base:Heap}{A:Around}{outer:List Env}{s:Shared}{H:Hp}(e:Env0 P w K mg base A outer s H) :
  Env0 P w K mg base A.in1 outer s H:=⟨e.frames,e.mod,e.bs,e.bsz,e.funs,e.frf,e.hok,e.bare⟩
section
variable {X:Cx}{pins:List (Addr×Obj)}{σ:St}{H:Hp}{s s':Shared}
theorem Inv.env0 (I:Inv X pins σ H s):Env0 X.prog X.w X.K X.mg X.base X.A X.stack s H :=
 ⟨I.ok.frames,I.ok.mod,I.bs,Nat.le_trans I.ok.bsz I.sz,I.stack,I.stkFree,I.hok,I.bare⟩
theorem Inv.after {Q:VK}{u:Value}(I:Inv X pins σ H s) (h:CE X.stack X.prog X.w H s Q u s'):EP X pins σ Q u s':=by
 obtain ⟨v,H',os,bare,un,hok,r,q⟩:=h
 obtain ⟨hh,g,d,t,os'⟩:=s'
 obtain rfl:os'=s.os:=os
 exact ⟨v,H',I.call (h':=hh) (g':=g) (d':=d) (t':=t) (ch:=[]) un hok bare (fun b z=>absurd z (by simp)),r,q⟩
end
def Vp (sp:Sp) (dvs:List V) (E:XK) (t:TA):TE:=fun σ H Q=>t σ H fun vs H1=>sp (vs++dvs) H1 Q E
def Xo (C:Addr) (m:Str) (sp:Sp) (dvs:List V) (E:XK) (ta:TE) (t:TA):TE:=fun σ H Q=>ta σ H fun x H1=>∃ a dx fs,x = .ref a/\H1 a=some (.ins C dx fs)/\fs.lookup m=none /\
 t σ H1 fun vs H2=>sp (x::(vs++dvs)) H2 Q E
def zr (K:PySem.W.Frag) (fd:FuncData) (ps:List Str) (ds:List Value):Prop :=
 ∀ (s:Shared) (us:List Value),K.In s.heap->(us++ds).length=ps.length->BindsTo s fd ⟨us,[]⟩ (ps.zip (us++ds))
theorem zr.all {K:PySem.W.Frag}{fd:FuncData}{ps:List Str}(h:∀ us:List Value,us.length=ps.length->bindArgs fd ⟨us,[]⟩=pure (ps.zip us)):zr K fd ps []:=fun s us _ hl=>by
 rw [List.append_nil] at hl ⊢
 exact .of_eq (h us hl)
def wt (CX:CXT) (X:Cx) (E:XK):Prop:=∀ (pins:List (Addr×Obj)) (σ:St) (H:Hp) (s:Shared) (e:Value) (s':Shared),Inv X pins σ H s->CX X.stack H s E e s'->X.xe e s'
section
variable {X:Cx}{CX:CXT}{k:Nat}{f C:Addr}{fd:FuncData}{ps:List Str}{sp:Sp}{dvs:List V}{ds:List Value}{E:XK}{x m:Str}{p pos apos:Pos}{e o:Expr}{es:List Expr}{ta:TE}{t:TA}
theorem Qx {pins:List (Addr×Obj)}{σ:St}{H:Hp}{s:Shared}{Q:VK}{us:List Value}{vs:List V}(F:FnOk X.prog X.w X.K X.mg X.base CX k f fd ps sp) (hr:Room k X.A) (hb:zr X.K fd ps ds) (hd:jw dvs ds) (hx:wt CX X E)
  (I:Inv X pins σ H s) (r:jw vs us) (h:sp (vs++dvs) H Q E):wpAny (model X.prog X.w) X.A (call (.ref f) us) (EP X pins σ Q) X.xe s:=by
 have r2:jw (vs++dvs) (us++ds):=r.append hd
 have hl:(us++ds).length=ps.length:=by rw [<- r2.length];exact F.len _ _ _ _ h
 refine wpAny_call (codeAny_mono (F.run X.A X.stack s H ⟨us,[]⟩ (us++ds) (vs++dvs) Q E hr I.env0 (hb s us I.kIn hl) r2 h) fun r s' hq=>?_)
 cases r with
 | error e=>exact hx pins σ H s e s' I hq
 | ok fl =>
  cases fl with
  | ret u=>exact I.after hq
  | next=>exact False.elim hq
  | brk=>exact False.elim hq
  | cont=>exact False.elim hq
theorem YG (F:FnOk X.prog X.w X.K X.mg X.base CX k f fd ps sp) (hr:Room k X.A) (hg:Gl X x) (hm:X.mg x=some (.ref f)) (hk:PySem.W.keepIn X.K (.ref f)=true) (hb:zr X.K fd ps ds) (hd:jw dvs ds) (hx:wt CX X E)
  (ha:PA X (e::es) t) (hdb:(x == ("__debug__" : Str))=false:=by decide) (he:starEach (e::es) X.env=(false,eval e X.env)::starEach es X.env:=by rfl) (hpl:(backTo pos (starEach es X.env)).any (·.1)=false:=by rfl) :
  PE X (.Call (.Name x p) (e::es) [] pos) (Vp sp dvs E t):=by
 intro pins s σ H Q I h
 refine wpAny_Call_Name_kw (v0 I hg hm ?_ hdb)
 refine PySem.W.callWith_K (h₀:=X.base) I.ok.mod.kin hk (thn (ha pos pins s σ H _ I h) fun us s1 ⟨vs,H1,I1,r,q⟩=>⟨I1.kIn,?_⟩) he hpl
 exact Qx F hr hb hd hx I1 r q
theorem Vc {pl:Sem Bool}(he:PE X o ta) (c:Cls X.K C) (hm:Meth X.K C m f) (F:FnOk X.prog X.w X.K X.mg X.base CX k f fd ps sp) (hr:Room k X.A) (hb:zr X.K fd ps ds) (hd:jw dvs ds) (hx:wt CX X E) (ha:PA X (e::es) t)
  (hst:starEach (e::es) X.env=(false,eval e X.env)::starEach es X.env:=by rfl) (hpl:(backTo pos (starEach es X.env)).any (·.1)=false:=by rfl)
  (ht:eval (.Call (.Attribute o m apos) (e::es) [] pos) X.env=(do
   let ov <- eval o X.env
   standAt apos.atName
   let (f,first) <- holding [ov] (getMethod ov m pl)
   callWith pos f first (backTo pos (starEach (e::es) X.env)) (backToKw pos (keywordEach [] X.env))):=by rfl) :
  PE X (.Call (.Attribute o m apos) (e::es) [] pos) (Xo C m sp dvs E ta t):=by
 intro pins s σ H Q I h
 refine PySem.W.methodCall_KW (pl:=pl) (thn (he pins s σ H _ I h) fun u s1 ⟨x,H1,I1,rx,a,dx,fs,ex,ea,l,q⟩=>?_) ht
 subst ex
 obtain rfl:u=Value.ref a:=rx
 refine zE I1 ea c hm l ?_
 refine PySem.W.callWith_K (first:=[.ref a]) (h₀:=X.base) I.ok.mod.kin hm.kp (thn (ha pos pins s1 σ H1 _ I1 q) fun us s2 ⟨vs,H2,I2,r,q2⟩=>⟨I2.kIn,?_⟩) hst hpl
 exact Qx (us:=.ref a::us) (vs:=.ref a::vs) F hr hb hd hx I2 (.cons rfl r) q2
theorem ZU {pl:Sem Bool}(he:PE X o ta) (c:Cls X.K C) (hm:Meth X.K C m f) (F:FnOk X.prog X.w X.K X.mg X.base CX k f fd ps sp) (hr:Room k X.A) (hb:zr X.K fd ps ds) (hd:jw dvs ds) (hx:wt CX X E)
  (ht:eval (.Call (.Attribute o m apos) [] [] pos) X.env=(do
   let ov <- eval o X.env
   standAt apos.atName
   let (f,first) <- holding [ov] (getMethod ov m pl)
   callWith pos f first (backTo pos (starEach [] X.env)) (backToKw pos (keywordEach [] X.env))):=by rfl) :
  PE X (.Call (.Attribute o m apos) [] [] pos) (Xo C m sp dvs E ta JS):=by
 intro pins s σ H Q I h
 refine PySem.W.methodCall_KW (pl:=pl) (thn (he pins s σ H _ I h) fun u s1 ⟨x,H1,I1,rx,a,dx,fs,ex,ea,l,q⟩=>?_) ht
 subst ex
 obtain rfl:u=Value.ref a:=rx
 refine zE I1 ea c hm l ?_
 exact PySem.W.callWith_K0 (first:=[.ref a]) I1.kIn hm.kp (Qx (us:=[.ref a]) (vs:=[.ref a]) F hr hb hd hx I1 (.cons rfl .nil) q)
structure Mk (K:PySem.W.Frag) (C f:Addr):Prop where
 makes:PySem.W.makesIn K C=true
 init:PySem.W.findIn K (.ref C) "__init__" = some (some (.ref f))
 fn:PySem.W.isFn K (.ref f)=true
 kp:PySem.W.keepIn K (.ref C)=true
end
section
variable {X:Cx}{CX:CXT}{k:Nat}{f C:Addr}{fd:FuncData}{ps ks:List Str}{sp:Sp}{E:XK}{x m:Str}{p pos apos kpos:Pos}{e o:Expr}{es:List Expr}{kws:List Keyword}{te ta:TE}{t tk:TA}{nm:Option Str}
variable {g:List Value->List Value->List Value}{gV:List V->List V->List V}
end
structure FnScope (N P:List Str) (sc:Scope):Prop where
 kind:sc.kind = .function
 co:sc.isCoroutine=false
 gen:sc.isGenerator=false
 nd:N.Nodup
 pre:N.take P.length=P
 par:∀ x∈P,sc.names.lookup x=some .local\/sc.names.lookup x=some .cell
 nofree:∀ y∈sc.names,y.2≠.free
theorem kT {kindOf:Str->Option NameKind}{x:Str}:∀ {binds:List (Str×Value)}{m:Str->Option Value},(∀ v,(x,v)∉binds)->bindL kindOf binds m x=m x
 | [],_,_=>rfl
 | (n,v)::r,m,h=>by
  unfold bindL
  rw [kT fun w hw=>h w (List.mem_cons_of_mem _ hw)]
  split
  ·have:x≠n:=by rintro rfl;exact h v List.mem_cons_self
   simp [this]
  ·rfl
theorem kC {kindOf:Str->Option NameKind}{x:Str}:∀ {binds:List (Str×Value)}{m:Str->Option Value},(∀ v,(x,v)∉binds)->bindC kindOf binds m x=m x
 | [],_,_=>rfl
 | (n,v)::r,m,h=>by
  unfold bindC
  rw [kC fun w hw=>h w (List.mem_cons_of_mem _ hw)]
  split
  ·rfl
  ·have:x≠n:=by rintro rfl;exact h v List.mem_cons_self
   simp [this]
theorem kA {kindOf:Str->Option NameKind}{x:Str}{v:Value}:∀ {P:List Str}{vs:List Value}{i:Nat}{m:Str->Option Value},P.Nodup->P[i]? = some x->vs[i]? = some v->kindOf x=some .local ->
  bindL kindOf (P.zip vs) m x=some v
 | [],_,_,_,_,h,_,_=>by simp at h
 | _::_,[],_,_,_,_,h,_=>by simp at h
 | p::P,w::vs,0,m,nd,h1,h2,hk=>by
  simp at h1 h2;subst h1;subst h2
  show bindL kindOf ((p,w)::P.zip vs) m p=_
  unfold bindL
  rw [kT fun v hv=>(List.nodup_cons.mp nd).1 (List.of_mem_zip hv).1,if_pos hk]
  simp
 | p::P,w::vs,i+1,m,nd,h1,h2,hk=>by
  show bindL kindOf ((p,w)::P.zip vs) m x=_
  unfold bindL
  exact kA (i:=i) (List.nodup_cons.mp nd).2 (by simpa using h1) (by simpa using h2) hk
theorem kR {kindOf:Str->Option NameKind}{x:Str}{v:Value}:∀ {P:List Str}{vs:List Value}{i:Nat}{m:Str->Option Value},P.Nodup->P[i]? = some x->vs[i]? = some v->kindOf x≠some .local ->
  bindC kindOf (P.zip vs) m x=some v
 | [],_,_,_,_,h,_,_=>by simp at h
 | _::_,[],_,_,_,_,h,_=>by simp at h
 | p::P,w::vs,0,m,nd,h1,h2,hk=>by
  simp at h1 h2;subst h1;subst h2
  show bindC kindOf ((p,w)::P.zip vs) m p=_
  unfold bindC
  rw [kC fun v hv=>(List.nodup_cons.mp nd).1 (List.of_mem_zip hv).1,if_neg hk]
  simp
 | p::P,w::vs,i+1,m,nd,h1,h2,hk=>by
  show bindC kindOf ((p,w)::P.zip vs) m x=_
  unfold bindC
  exact kR (i:=i) (List.nodup_cons.mp nd).2 (by simpa using h1) (by simpa using h2) hk
def start (N:List Str) (vs:List V):St:=vs.map some++List.replicate (N.length-vs.length) none
def yY (CX:CXT) (P:Program) (w:World) (K:PySem.W.Frag) (mg:Str->Option Value) (base:Heap) (N:List Str) (qual:Str) (scope:Scope) (f:Addr) (cd:Value) (A:Around) (outer:List Env) (s:Shared) (H:Hp) (E:XK):Cx where
 prog:=P
 w:=w
 K:=K
 mg:=mg
 base:=base
 A:=A.deeper (envOfC qual scope s.heap.objs.size f cd)
 N:=N
 s₀:=s
 H₀:=H
 env:=envOfC qual scope s.heap.objs.size f cd
 outer:=outer
 stack:=envOfC qual scope s.heap.objs.size f cd::outer
 ex:=[]
 calm:=true
 fn:=fun _=>true
 pn:=[]
 xe:=fun e s'=>wpAny (model P w) (A.deeper (envOfC qual scope s.heap.objs.size f cd)) (leaving (envOfC qual scope s.heap.objs.size f cd) e) (fun _ s''=>CX outer H s E e s'') (fun e' s''=>CX outer H s E e' s'') s'
theorem JW {sc:Scope}{n:Nat}{x:Str}(h:sc.names.lookup x=some .cell):∃ c,(cellsFrom n sc.names []).lookup x=some c:=by
 have q:=PySem.W.cellsFrom_some sc.names n [] (.inl h)
 exact Option.isSome_iff_exists.mp q
theorem kj {CX:CXT}{P:Program}{w:World}{K:PySem.W.Frag}{mg:Str->Option Value}{base:Heap}{N ps:List Str}{qual:Str}{scope:Scope}{f:Addr}{cd:Value}{A:Around}{outer:List Env}{s s1:Shared}{H:Hp}{E:XK}{us:List Value}{vs:List V}
  (S:FnScope N ps scope) (hd:A.handled=none) (e0:Env0 P w K mg base A outer s H) (hl:vs.length=ps.length) (r:jw vs us)
  (x:InCallC s s.heap.objs.size (bindL (envOfC qual scope s.heap.objs.size f cd).kindOf (ps.zip us) fun _=>none) (cellsFrom (s.heap.objs.size+1) scope.names []) (bindC (envOfC qual scope s.heap.objs.size f cd).kindOf (ps.zip us) fun _=>none) s1) :
  Inv (yY CX P w K mg base N qual scope f cd A outer s H E) [] (start N vs) H s1:=by
 have hpl:ps.length<=N.length:=by have:=congrArg List.length S.pre;rw [List.length_take] at this;omega
 obtain ⟨h1,tk,rfl,hk⟩:=x.done
 have noA:∀ b:Addr,b∉(yY CX P w K mg base N qual scope f cd A outer s H E).ex:=fun b z=>absurd (show b∈([]:List Addr) from z) (by simp)
 refine ⟨⟨e0.mod,S.kind,rfl,rfl,Nat.le_refl _,fun y z c h1 h2=>?_,fun y hy=>?_,fun y c _ h=>?_,fun _=>hd,Around.frames_deeper e0.frames,.inr ⟨rfl,rfl⟩,fun b z=>absurd z (noA b),e0.bs,e0.bsz,fun b _ _=>noA b,fun b z=>absurd z (noA b),e0.funs,e0.frf⟩,
  rfl,e0.bare,Un.kept hk,⟨_,x.toInCall.ns,fun i y v h1 h2 h3=>?_⟩,fun y c h=>⟨_,x.cell y c h⟩,e0.hok.fresh (Nat.le_refl _),fun y c h=>?_,fun p hp=>absurd (show p∈([]:List (Addr×Obj)) from hp) (by simp),e0.hok.kept hk,?_⟩
 ·exact name_of_addr x.apart (PySem.mem_of_lookup h1) (PySem.mem_of_lookup h2)
 ·have hy:scope.names.lookup y=some .cell\/scope.names.lookup y=some .free:=hy
  rcases hy with hy | hy
  ·exact JW hy
  ·exact absurd rfl (S.nofree _ (PySem.mem_of_lookup hy))
 ·exact Nat.le_of_lt (x.above y c (PySem.mem_of_lookup h))
 ·have hi:i<vs.length:=by
   unfold start at h2
   by_cases hi:i<vs.length
   ·exact hi
   ·rw [List.getElem?_append_right (by simpa using hi)] at h2
    rw [List.getElem?_replicate] at h2
    split at h2 <;> cases h2
  have ha:vs[i]? = some v:=by
   unfold start at h2
   rw [List.getElem?_append_left (by simpa using hi),List.getElem?_map] at h2
   cases e:vs[i]? with
   | none=>rw [e] at h2;cases h2
   | some a=>rw [e] at h2;cases h2;rfl
  obtain ⟨u,hu,rv⟩:=r.get ha
  have hp:ps[i]? = some y:=by
   rw [<- S.pre,List.getElem?_take_of_lt (by omega)];exact h1
  have ndP:ps.Nodup:=by rw [<- S.pre];exact S.nd.sublist (List.take_sublist _ _)
  refine ⟨u,rv,?_⟩
  rcases S.par y (List.mem_of_getElem? hp) with k | k
  ·exact .inl ⟨k,kA ndP hp hu k⟩
  ·obtain ⟨c,e⟩:=JW (n:=s.heap.objs.size+1) k
   refine .inr ⟨.inl k,c,e,?_⟩
   have q:=x.cell y c e
   rw [kR ndP hp hu (by show scope.names.lookup y≠_;rw [k];decide)] at q
   exact q
 ·exact e0.hok.fresh (Nat.le_of_lt (x.above y c (PySem.mem_of_lookup h)))
 ·unfold start
  show _=N.length
  rw [List.length_append,List.length_map,List.length_replicate]
  omega
theorem Yk {CX:CXT}{P:Program}{w:World}{K:PySem.W.Frag}{mg:Str->Option Value}{base:Heap}{k:Nat}{f:Addr}{name qual:Str}{params:Arguments}{body:List Stmt}{scope:Scope}{dV kV doc pm cdv ct oc:Value}{an od:Option Addr}
  {osl:Array (Option Value)} {N ps:List Str} {sp:Sp} (lk:K.lookup f=some ⟨oc,od,.func (PySem.W.fnOf name qual params body scope dV kV doc pm an cdv ct),osl⟩) (hcd:PySem.W.codeIn K cdv qual=true) (S:FnScope N ps scope)
  (len:∀ vs H Q E,sp vs H Q E->vs.length=ps.length)
  (hbody:∀ (A:Around) (outer:List Env) (s:Shared) (H:Hp) (vs:List V) (Q:VK) (E:XK),Room k (A.deeper (envOfC qual scope s.heap.objs.size f cdv))->sp vs H Q E ->
   ∃ t,PSs (yY CX P w K mg base N qual scope f cdv A outer s H E) body t/\t { nx:=fun _ H'=>Q .non H',rt:=Q } (start N vs) H) :
  FnOk P w K mg base CX (k+1) f (PySem.W.fnOf name qual params body scope dV kV doc pm an cdv ct) ps sp:=by
 refine ⟨len,fun A outer s H args us vs Q E hr e0 hb r hsp=>?_⟩
 have hl:=len _ _ _ _ hsp
 have KX:K.In s.heap:=e0.mod.kin.keeps fun b o e=>(e0.bs b o e).1
 have lim:s.heap.NoLimit:=e0.mod.nolimit.keeps fun b o e=>(e0.bs b o e).1
 have hkind:∀ y∈ps.zip us,scope.names.lookup y.1=some .local\/(scope.names.lookup y.1=some .cell/\((cellsFrom (s.heap.objs.size+1) scope.names []).lookup y.1).isSome=true):=fun ⟨n,v⟩ hy=>by
  rcases S.par n (List.of_mem_zip hy).1 with q | q
  ·exact .inl q
  ·exact .inr ⟨q,PySem.W.cellsFrom_some _ _ _ (.inl q)⟩
 refine codeAny_call_function hr.depth (KX _ _ lk) rfl S.co S.gen rfl (PySem.W.codeRec_of KX hcd) (hb _ _ _ _ ?_)
 refine wpAny_newFunctionEnv_cells S.kind hkind fun env he s1 x=>?_
 subst he
 refine ⟨lim.keeps x.toInCall.keep,codeAny_func ?_⟩
 obtain ⟨t,ht,hq⟩:=hbody A outer s H vs Q E (hr.deeper _) hsp
 have I:Inv (yY CX P w K mg base N qual scope f cdv A outer s H E) [] (start N vs) H s1:=kj S hr.hd e0 hl r x
 refine wpAny_mono (ht [] s1 (start N vs) H _ I hq) (fun fl s' hs=>?_) fun e s' hs=>hs
 have fin:∀ {σ':St} {H':Hp} {v:V} {u:Value},Inv (yY CX P w K mg base N qual scope f cdv A outer s H E) [] σ' H' s'->jy v u->Q v H'->CE outer P w H s Q u s' :=
  fun {σ' H' v u} J rv q=>⟨v,H',J.os,J.bare,J.base,J.hok,rv,q⟩
 cases fl with
 | ret u =>
  obtain ⟨v,σ',H',J,rv,q⟩:=hs
  exact fin J rv q
 | next =>
  obtain ⟨σ',H',J,q⟩:=hs
  exact fin (v:=V.non) (u:=Value.none) J rfl q
 | brk =>
  obtain ⟨_,_,_,q⟩:=hs
  exact False.elim q
 | cont =>
  obtain ⟨_,_,_,q⟩:=hs
  exact False.elim q
end L2
namespace L2
open PySem PySem.Spec PyProof.Rows
section
variable {X:Cx}{x:Str}{p pos:Pos}{e:Expr}{es:List Expr}{t:TA}{id T:String}{r:List V->Hp->VK->Prop}
def tCB (r:List V->Hp->VK->Prop) (t:TA):TE:=fun σ H Q=>t σ H fun vs H1=>r vs H1 Q
theorem jc (hc:qy X (.builtin id) r) (hg:Gl X x) (hm:X.mg x=none) (hv:bootBuiltins x=some (.builtin id)) (ha:PA X (e::es) t) (hn:x ≠ "__name__":=by decide) (hdb:(x == ("__debug__" : Str))=false:=by decide)
  (he:starEach (e::es) X.env=(false,eval e X.env)::starEach es X.env:=by rfl) (hpl:(backTo pos (starEach es X.env)).any (·.1)=false:=by rfl):PE X (.Call (.Name x p) (e::es) [] pos) (tCB r t):=by
 intro pins s σ H Q I h
 refine wpAny_Call_Name_kw (zh I hg hm hv ?_ hn hdb)
 exact PyProof.Rows.callWith_builtin1 (thn (ha pos pins s σ H _ I h) fun us s1 ⟨vs,H1,I1,r1,q1⟩=>hc pins s1 σ H1 vs us Q I1 r1 q1) he hpl
theorem jY (hc:qy X (.type T) r) (hg:Gl X x) (hm:X.mg x=none) (hv:bootBuiltins x=some (.type T)) (ha:PA X (e::es) t) (hn:x ≠ "__name__":=by decide) (hdb:(x == ("__debug__" : Str))=false:=by decide)
  (he:starEach (e::es) X.env=(false,eval e X.env)::starEach es X.env:=by rfl) (hpl:(backTo pos (starEach es X.env)).any (·.1)=false:=by rfl):PE X (.Call (.Name x p) (e::es) [] pos) (tCB r t):=by
 intro pins s σ H Q I h
 refine wpAny_Call_Name_kw (zh I hg hm hv ?_ hn hdb)
 exact PyProof.Rows.callWith_type1 (thn (ha pos pins s σ H _ I h) fun us s1 ⟨vs,H1,I1,r1,q1⟩=>hc pins s1 σ H1 vs us Q I1 r1 q1) he hpl
end
end L2
namespace HT
open PySem PyProof.Rows
section
open PySem.SeqAt
open PySem.AutoSeq1 (wpAny_loadPart')
open PySem.MeetsSeq PySem.MeetsSeq2 PySem.MeetsSeq3
end
section
variable {prog:Program}{w:World}{A:Around}{E:Value->Shared->Prop}{s:Shared}
theorem cat_tup {t b:Addr}{vs ws:List Value}{Q:Value->Shared->Prop}(ht:IsTup s.heap t vs.toArray) (hb:IsTup s.heap b ws.toArray) (hv:vs≠[])
  (h1:ws=[]->Q (.ref t) s) (h2:ws≠[]->Q (.ref s.heap.objs.size) { s with heap:=s.heap.push { cls:=.type "tuple",data:=.seq (vs++ws).toArray } })
  (hsz:vs.length+ws.length<=sizeLine):wpAny (model prog w) A (binaryOp .Add (.ref t) (.ref b)) Q E s:=by
 obtain ⟨⟨cls,dd,data,sl⟩,ho,hc,n,hd⟩:=id ht
 obtain ⟨⟨cls2,dd2,data2,sl2⟩,ho2,hc2,n2,hd2⟩:=id hb
 simp only at hc hd hc2 hd2
 subst hc hd hc2 hd2
 have e:vs.toArray++ws.toArray=(vs++ws).toArray:=by simp
 by_cases hw:ws=[]
 ·exact concat_meets ⟨_,ho,rfl⟩ ⟨_,ho2,rfl⟩ noFill_tuple_add seq_tuple_add PySem.F.slot_tuple_add PySem.F.entry_tuple_add (PySem.F.args_tuple_add_2 _ _)
   (tuple_addW1 t b vs.toArray ws.toArray n n2 dd dd2 sl sl2 (by simpa using hv) (by simp [hw])) ⟨ho,ho2,h1 hw⟩
 ·refine concat_meets ⟨_,ho,rfl⟩ ⟨_,ho2,rfl⟩ noFill_tuple_add seq_tuple_add PySem.F.slot_tuple_add PySem.F.entry_tuple_add (PySem.F.args_tuple_add_2 _ _)
   (tuple_addW2 t b vs.toArray ws.toArray n n2 dd dd2 sl sl2 (by simpa using hv) (by simpa using hw) (by rw [List.size_toArray,List.size_toArray];exact hsz)) ⟨ho,ho2,?_⟩
  rw [e]
  exact h2 hw
def sIx (n d:Nat):Option Int->Nat
 | none=>d
 | some v=>if v<0 then (v+(n:Int)).toNat else min v.toNat n
theorem sIx_none (n d:Nat):sIx n d none=d:=rfl
theorem sIx_nat (n d k:Nat):sIx n d (some (k:Int))=min k n:=by
 show (if (k:Int)<0 then ((k:Int)+(n:Int)).toNat else min (k:Int).toNat n)=min k n
 rw [if_neg (by omega),Int.toNat_natCast]
theorem slicePart_ {v:Value}{o:Option Int}{Q:Option Int->Shared->Prop}(p:IsPart v o) (h:Q o s):wpAny (model prog w) A (Builtin.Slice.slicePartIndex v) Q E s:=by
 cases p with
 | none=>exact slicePart_none h
 | int i t=>exact slicePart_int h
end
end HT
namespace L2
open PySem PySem.Spec PyProof.Rows
abbrev TO:=St->Hp->(Option Int->Hp->Prop)->Prop
def PO (X:Cx) (e:Option Expr) (t:TO):Prop :=
 ∀ (pins:List (Addr×Obj)) (s:Shared) (σ:St) (H:Hp) (Q:Option Int->Hp->Prop),Inv X pins σ H s->t σ H Q ->
  wpAny (model X.prog X.w) X.A (evalPart e X.env) (fun u s'=>∃ o H',Inv X pins σ H' s'/\IsPart u o/\Q o H') X.xe s
def YA:TO:=fun _ H Q=>Q none H
def UA (t:TE):TO:=fun σ H Q=>t σ H fun x H1=>∃ i,x = .int i/\Q (some i) H1
section
variable {X:Cx}{e:Expr}{te:TE}{lo hi:Option Expr}{tl th:TO}{pos p2:Pos}
theorem uJ:PO X none YA:=by
 intro pins s σ H Q I h
 rw [evalPart_none]
 exact wpAny_pure ⟨none,H,I,.none,h⟩
theorem uF (h:PE X e te):PO X (some e) (UA te):=by
 intro pins s σ H Q I hw
 rw [evalPart_some]
 refine thn (h pins s σ H _ I hw) fun u s1 ⟨x,H1,I1,r1,q1⟩=>?_
 obtain ⟨i,rfl,q⟩:=q1
 obtain ⟨t,rfl⟩:=r1
 exact ⟨some i,H1,I1,.int i t,q⟩
def SlR (X:Cx) (r:V->Option Int->Option Int->Hp->VK->Prop):Prop :=
 ∀ (pins:List (Addr×Obj)) (s:Shared) (σ:St) (H:Hp) (x:V) (v vl vu:Value) (lo hi:Option Int) (sl:Addr) (Q:VK),Inv X pins σ H s->jy x v->s.heap.IsSliceOf sl vl vu .none->IsPart vl lo->IsPart vu hi->r x lo hi H Q ->
  ∃ T id,typeLookup (.type T) "__getitem__" = pure (some (.builtin id))/\s.TypeIs v T/\wpAny (model X.prog X.w) X.A (getItem v (.ref sl)) (EP X pins σ Q) X.xe s
def tSl (r:V->Option Int->Option Int->Hp->VK->Prop) (te:TE) (tl th:TO):TE:=fun σ H Q=>te σ H fun x H1=>tl σ H1 fun l H2=>th σ H2 fun u H3=>r x l u H3 Q
theorem vq {r:V->Option Int->Option Int->Hp->VK->Prop}(hr:SlR X r) (he:PE X e te) (hl:PO X lo tl) (hu:PO X hi th):PE X (.Subscript e (.Slice lo hi none p2) pos) (tSl r te tl th):=by
 intro pins s σ H Q I h
 refine Subscript_ (thn (he pins s σ H _ I h) fun v s1 ⟨x,H1,I1,r1,q1⟩=>?_)
 refine wpAny_Slice (thn (hl pins s1 σ H1 _ I1 q1) fun vl s2 ⟨l,H2,I2,pl,q2⟩=>thn (hu pins s2 σ H2 _ I2 q2) fun vu s3 ⟨u,H3,I3,pu,q3⟩=>?_)
 rw [evalPart_none]
 refine wpAny_pure ?_
 have I4:Inv X pins σ H3 { s3 with heap:=s3.heap.push { cls:=.type "slice",data:=.fields #[vl,vu,.none] } }:=I3.kept (t':=s3.toks) fun b ob q=>Heap.get?_push_of_some _ q
 obtain ⟨T,id,hT,ht,hg⟩:=hr pins { s3 with heap:=s3.heap.push { cls:=.type "slice",data:=.fields #[vl,vu,.none] } } σ H3 x v vl vu l u s3.heap.objs.size Q I4 r1 (Heap.IsSliceOf.new ..) pl pu q3
 show wpAny (model X.prog X.w) X.A (subscriptTail e (.Slice lo hi none p2) v (.ref s3.heap.objs.size)) (EP X pins σ Q) X.xe { s3 with heap:=s3.heap.push { cls:=.type "slice",data:=.fields #[vl,vu,.none] } }
 exact tail_any (ops:=[.ref s3.heap.objs.size,v]) ht hT hg (by with_unfolding_all rfl)
def vO (xs:List V) (lo hi:Option Int):List V:=(xs.drop (HT.sIx xs.length 0 lo)).take (HT.sIx xs.length xs.length hi-HT.sIx xs.length 0 lo)
theorem JR (xs:List V) (lo hi:Option Int):(vO xs lo hi).length<=xs.length:=by
 unfold vO
 rw [List.length_take,List.length_drop]
 omega
def Wc (K:PySem.W.Frag):R2:=fun x y H Q=>∃ a b xs ys,x = .ref a/\y = .ref b/\SqT K H a xs/\SqT K H b ys/\xs≠[]/\xs.length+ys.length<=sizeLine /\
 (ys=[]->Q (.ref a) H)/\(ys≠[]->∀ p,H p=none->Q (.ref p) (upd H p (.tup (xs++ys))))
theorem jw.nil_iff {xs:List V}{us:List Value}(r:jw xs us):us=[]↔xs=[]:=by
 cases r with
 | nil=>simp
 | cons _ _=>simp
theorem V3:OpR X (binaryOp .Add) (Wc X.K):=by
 intro pins s σ H x y v u Q I rx ry h
 obtain ⟨a,b,xs,ys,rfl,rfl,ha,hb,hx,hz,q1,q2⟩:=h
 cases rx
 cases ry
 obtain ⟨its,r1,p1,_⟩:=I.tuple ha
 obtain ⟨its2,r2,p2,_⟩:=I.tuple hb
 refine HT.cat_tup p1 p2 (fun z=>hx (r1.nil_iff.mp z)) (fun z=>⟨.ref a,H,I,rfl,q1 (r2.nil_iff.mp z)⟩) (fun z=>?_) (by rw [<- r1.length,<- r2.length];exact hz)
 refine ⟨.ref s.heap.objs.size,_,I.laid (t':=s.toks) (o:=.tup (xs++ys)) (fun b ob q=>Heap.get?_push_of_some _ q) (Nat.le_refl _) ?_,rfl,q2 (fun w=>z (r2.nil_iff.mpr w)) _ (I.hok.fresh (Nat.le_refl _))⟩
 exact ⟨by rw [List.length_append];exact hz,_,r1.append r2,IsTup.new _ _⟩
end
end L2
namespace L2
open PySem PySem.Spec PyProof.Rows
def ixN (n:Nat) (i:Int):Option Nat:=if 0<=i then (if i<n then some i.toNat else none) else if -(n:Int)<=i then some (i+n).toNat else none
def atI {α:Type}(xs:List α) (i:Int):Option α:=(ixN xs.length i).bind fun j=>xs[j]?
theorem Xr {n:Nat}{i:Int}{j:Nat}(h:ixN n i=some j):seqIndex? i n=some j/\j<n /\ -(n:Int)<=i/\i<n:=by
 unfold ixN at h
 by_cases h0:0<=i
 ·rw [if_pos h0] at h
  by_cases h1:i<n
  ·rw [if_pos h1] at h
   have e:i.toNat=j:=Option.some.inj h
   exact ⟨by rw [seqIndex_of h0 h1,e],by omega,by omega,h1⟩
  ·rw [if_neg h1] at h;cases h
 ·rw [if_neg h0] at h
  by_cases h1 : -(n:Int)<=i
  ·rw [if_pos h1] at h
   have e:(i+n).toNat=j:=Option.some.inj h
   exact ⟨by rw [seqIndex_neg (by omega) h1,e],by omega,h1,by omega⟩
  ·rw [if_neg h1] at h;cases h
theorem Xc {α:Type}{xs:List α}{i:Int}{v:α}(h:atI xs i=some v):∃ j,seqIndex? i xs.length=some j/\xs[j]? = some v/\j<xs.length /\ -(xs.length:Int)<=i/\i<xs.length:=by
 unfold atI at h
 cases e:ixN xs.length i with
 | none=>rw [e] at h;cases h
 | some j =>
  rw [e] at h
  obtain ⟨h1,h2,h3,h4⟩:=Xr e
  exact ⟨j,h1,h,h2,h3,h4⟩
theorem xW {α:Type}{xs:List α}{j:Nat}{v:α}(h:xs[j]? = some v):atI xs (j:Int)=some v:=by
 have hj:j<xs.length:=(List.getElem?_eq_some_iff.mp h).1
 have e:ixN xs.length (j:Int)=some j:=by
  unfold ixN
  rw [if_pos (by omega),if_pos (by omega)];simp
 unfold atI;rw [e];exact h
theorem Q3 {α:Type}(xs:List α) (v:α):atI (xs++[v]) (-1)=some v:=by
 have hl:(xs++[v]).length=xs.length+1:=by simp
 have e:ixN (xs++[v]).length (-1)=some xs.length:=by
  unfold ixN
  rw [hl,if_neg (by decide),if_pos (by omega)]
  congr 1
  omega
 unfold atI
 rw [e]
 show (xs++[v])[xs.length]? = some v
 simp
def YU (b:Expr):Prop:=∀ o i,subscripted b false o i=operate [o,i] (getItem o i)
def IxR (X:Cx) (r:R2):Prop :=
 ∀ (value slice:Expr) (pins:List (Addr×Obj)) (s:Shared) (σ:St) (H:Hp) (x y:V) (v u:Value) (Q:VK),Inv X pins σ H s->jy x v->jy y u->r x y H Q ->
  subscripted slice false v u=operate [v,u] (getItem v u)->wpAny (model X.prog X.w) X.A (subscriptTail value slice v u) (EP X pins σ Q) X.xe s
def MtR (X:Cx) (id:String) (r:V->List V->Hp->VK->Prop):Prop :=
 ∀ (pins:List (Addr×Obj)) (s:Shared) (σ:St) (H:Hp) (x:V) (xs:List V) (v:Value) (us:List Value) (Q:VK),Inv X pins σ H s->jy x v->jw xs us->r x xs H Q ->
  wpAny (model X.prog X.w) X.A (call (.builtin id) (v::us)) (EP X pins σ Q) X.xe s
section
variable {X:Cx}{a b:Expr}{ta tb:TE}{pos:Pos}
theorem jq {r:R2}(hr:IxR X r) (ha:PE X a ta) (hb:PE X b tb) (hs:YU b):PE X (.Subscript a b pos) (tOp r ta tb):=by
 intro pins s σ H Q I h
 exact Subscript_ (Uf ha hb I h fun v u s2 x y H2 I2 rx ry q=>hr a b pins s2 σ H2 x y v u Q I2 rx ry q (hs _ _))
def VI (K:PySem.W.Frag):R2:=fun x y H Q=>∃ p xs i v,x = .ref p/\y = .int i/\SqL K H p xs/\atI xs i=some v/\Q v H
def VW (K:PySem.W.Frag):R2:=fun x y H Q=>∃ p xs i v,x = .ref p/\y = .int i/\SqT K H p xs/\atI xs i=some v/\Q v H
theorem YT:IxR X (VI X.K):=by
 intro value slice pins s σ H x y v u Q I rx ry h hs
 obtain ⟨p,xs,i,z,rfl,rfl,hq,he,q⟩:=h
 cases rx
 obtain ⟨t,rfl⟩:=ry
 obtain ⟨its,r,pl,hz⟩:=I.list hq
 obtain ⟨j,h1,h2,h3,h4,h5⟩:=Xc he
 obtain ⟨w,ew,rw'⟩:=r.get h2
 have hl:=r.length
 have hn:=J4
 have fin:EP X pins σ Q w s:=⟨z,H,I,rw',q⟩
 by_cases h0:0<=i
 ·have hj:i.toNat=j:=by
   rw [seqIndex_of h0 h5] at h1
   exact Option.some.inj h1
  exact item_listR pl.isList h0 (by omega) (by rw [hj];simpa using ew) fin hs
 ·have hj:(i+(its.toArray.size:Int)).toNat=j:=by
   rw [seqIndex_neg (by omega) h4] at h1
   rw [List.size_toArray,<- hl]
   exact Option.some.inj h1
  exact subscriptTail_builtinR (x:=w) pl.isList.typeIs slot_list_getitem.lookup
   (wpAny_getItem_list_neg (Q:=fun r s'=>r=w/\EP X pins σ Q r s') pl.isList (by omega) (by rw [List.size_toArray] <;> omega) (by omega) (by rw [hj];simpa using ew) ⟨rfl,fin⟩) hs
theorem VT:IxR X (VW X.K):=by
 intro value slice pins s σ H x y v u Q I rx ry h hs
 obtain ⟨p,xs,i,z,rfl,rfl,hq,he,q⟩:=h
 cases rx
 obtain ⟨t,rfl⟩:=ry
 obtain ⟨its,r,pl,hz⟩:=I.tuple hq
 obtain ⟨j,h1,h2,h3,h4,h5⟩:=Xc he
 obtain ⟨w,ew,rw'⟩:=r.get h2
 have hl:=r.length
 have hn:=J4
 have fin:EP X pins σ Q w s:=⟨z,H,I,rw',q⟩
 exact subscriptTail_builtinR (x:=w) pl.typeIs slot_tuple_getitem.lookup
  (getItem_tuple (j:=j) (Q:=fun r s'=>r=w/\EP X pins σ Q r s') pl (by omega) (by omega) (by rw [List.size_toArray,<- hl];exact h1) (by simpa using ew) ⟨rfl,fin⟩) hs
theorem Qy (its:List Value) (n j:Nat) (u:Value):Obj.mapSeq (·.setIfInBounds j u) { cls:=.type "list",data:=.seq its.toArray n }={ cls:=.type "list",data:=.seq (its.set j u).toArray n }:=by
 simp [Obj.mapSeq]
theorem Inv.lst {pins:List (Addr×Obj)}{σ:St}{H:Hp}{s:Shared}{p:Addr}{xs:List V}(I:Inv X pins σ H s) (h:H p=some (.lst xs)) :
  ∃ (its:List Value) (n:Nat),jw xs its/\s.heap.get? p=some { cls:=.type "list",data:=.seq its.toArray n }/\xs.length<=sizeLine:=by
 obtain ⟨z,its,n,r,e⟩:=I.hok p _ h
 exact ⟨its,n,r,e,z⟩
theorem Inv.lstUpd {pins:List (Addr×Obj)}{σ:St}{H:Hp}{s:Shared}{p:Addr}{xs ys:List V}{its its':List Value}{n n':Nat}{f:Obj->Obj}(I:Inv X pins σ H s) (h:H p=some (.lst xs))
  (ho:s.heap.get? p=some { cls:=.type "list",data:=.seq its.toArray n }) (hf:f { cls:=.type "list",data:=.seq its.toArray n }={ cls:=.type "list",data:=.seq its'.toArray n' }) (r:jw ys its') (hz:ys.length<=sizeLine) (t:Nat) :
  Inv X pins σ (upd H p (.lst ys)) { s with heap:=s.heap.update p f,toks:=t }:=by
 have e:(s.heap.update p f).get? p=some { cls:=.type "list",data:=.seq its'.toArray n' }:=by
  rw [Heap.get?_update_self f ho (by rw [hf] <;> rfl),hf]
 refine I.write (x:=p) (e:=p) (by rw [h];trivial) (.inl rfl) (fun b u hb q=>(Heap.get?_update_other _ _ (Ne.symm hb)).trans q) ⟨_,e⟩ ?_
 exact ⟨hz,its',n',r,e⟩
def US:V->V->V->Hp->(Hp->Prop)->Prop:=fun o i v H Q=>∃ p xs k j,o = .ref p/\i = .int k/\H p=some (.lst xs)/\ixN xs.length k=some j/\Q (upd H p (.lst (xs.set j v)))
theorem vH:Ut X US:=by
 intro pins s σ H o i v ov iv u Q I ro ri rv h
 obtain ⟨p,xs,k,j,rfl,rfl,hp,hj,q⟩:=h
 cases ro
 obtain ⟨t,rfl⟩:=ri
 obtain ⟨its,n,r,ho,hz⟩:=I.lst hp
 obtain ⟨h1,h2,h3,h4⟩:=Xr hj
 have hl:=r.length
 have hn:=J4
 have I':Inv X pins σ (upd H p (.lst (xs.set j v))) { s with heap:=s.heap.update p (Obj.mapSeq (·.setIfInBounds j u)) } :=
  I.lstUpd hp ho (Qy its n j u) (r.set rv j) (by rw [List.length_set];exact hz) s.toks
 by_cases h0:0<=k
 ·have hk:k.toNat=j:=by
   rw [seqIndex_of h0 h4] at h1
   exact Option.some.inj h1
  exact PySem.W.ki_setAt ho h0 (by omega) (by rw [List.size_toArray,<- hl];exact h4) (by rw [hk];exact ⟨_,I',q⟩)
 ·have hk:(k+(its.toArray.size:Int)).toNat=j:=by
   rw [seqIndex_neg (by omega) h3] at h1
   rw [List.size_toArray,<- hl]
   exact Option.some.inj h1
  exact PySem.W.ki_setBack ho (by omega) (by rw [List.size_toArray,<- hl];exact h3) (by omega) (by rw [hk];exact ⟨_,I',q⟩)
theorem gy (lo hi:Option Int) (n:Nat):(sliceBounds lo hi none n).1=((HT.sIx n 0 lo:Nat):Int)/\(sliceBounds lo hi none n).2.1=((HT.sIx n n hi:Nat):Int)/\(sliceBounds lo hi none n).2.2=1:=by
 refine ⟨?_,?_,rfl⟩
 ·cases lo with
  | none=>simp [sliceBounds,HT.sIx]
  | some i =>
   simp only [sliceBounds,HT.sIx,Option.getD_none,show (1:Int) > 0 by decide,if_true]
   by_cases h:i<0
   ·simp only [h,if_true] <;> omega
   ·simp only [h,if_false] <;> omega
 ·cases hi with
  | none=>simp [sliceBounds,HT.sIx]
  | some i =>
   simp only [sliceBounds,HT.sIx,Option.getD_none,show (1:Int) > 0 by decide,if_true]
   by_cases h:i<0
   ·simp only [h,if_true] <;> omega
   ·simp only [h,if_false] <;> omega
theorem wT (its:List Value) (lo hi:Option Int):slicePick its.toArray lo hi none=((its.drop (HT.sIx its.length 0 lo)).take (HT.sIx its.length its.length hi-HT.sIx its.length 0 lo)).toArray:=by
 obtain ⟨h1,h2,h3⟩:=gy lo hi its.toArray.size
 unfold slicePick
 rw [h1,h2,h3]
 simp only [sliceRange_one,pick_run,List.size_toArray] <;> rfl
def rSlL (K:PySem.W.Frag):V->Option Int->Option Int->Hp->VK->Prop:=fun x lo hi H Q=>∃ a xs,x = .ref a/\SqL K H a xs/\∀ p,H p=none->Q (.ref p) (upd H p (.lst (vO xs lo hi)))
theorem V7:SlR X (rSlL X.K):=by
 intro pins s σ H x v vl vu lo hi sl Q I rx hs pl pu h
 obtain ⟨a,xs,rfl,hx,q⟩:=h
 cases rx
 obtain ⟨its,r,ht,hz⟩:=I.list hx
 have hlen:=r.length
 refine ⟨"list",_,slot_list_getitem.lookup,ht.isList.typeIs,?_⟩
 refine wpAny_getItem_list_slice ht.isList hs pl pu .none (by simp) ?_ (by rw [List.size_toArray] <;> omega)
 rw [wT,<- hlen]
 refine ⟨.ref s.heap.objs.size,_,I.laid (t':=s.toks) (o:=.lst (vO xs lo hi)) (fun b ob q=>Heap.get?_push_of_some _ q) (Nat.le_refl _) ?_,rfl,q _ (I.hok.fresh (Nat.le_refl _))⟩
 exact ⟨Nat.le_trans (JR xs lo hi) hz,_,0,(r.drop (HT.sIx xs.length 0 lo)).take (HT.sIx xs.length xs.length hi-HT.sIx xs.length 0 lo),Heap.get?_push_size _ rfl⟩
def vt:V->Bool
 | .non=>true
 | .bl _=>true
 | .int _=>true
 | .str _=>true
 | _=>false
def eqV:V->V->Bool
 | .non,.non=>true
 | .bl a,.bl b=>a == b
 | .bl a,.int b=>(if a then 1 else 0) == b
 | .int a,.bl b=>a == (if b then 1 else 0)
 | .int a,.int b=>a == b
 | .str a,.str b=>a == b
 | _,_=>false
theorem VN {A:Around}{s:Shared}{y x:V}{u v:Value}(ry:jy y u) (rx:jy x v) (fy:vt y=true) (fx:vt x=true):SeqAt.EqAt A s u v (eqV y x):=by
 cases y with
 | non =>
  cases ry
  cases x with
  | non=>cases rx;exact SeqAt.EqAt.same _
  | bl b=>cases rx;exact SeqAt.EqAt.none_bool b
  | int b=>obtain ⟨t,rfl⟩:=rx;exact SeqAt.EqAt.none_int b t
  | str b=>obtain ⟨t,rfl⟩:=rx;exact SeqAt.EqAt.none_str b t
  | _=>exact absurd (show false=true from fx) Bool.false_ne_true
 | bl a =>
  cases ry
  cases x with
  | non=>cases rx;exact SeqAt.EqAt.bool_none a
  | bl b=>cases rx;exact SeqAt.EqAt.bool_bool a b
  | int b=>obtain ⟨t,rfl⟩:=rx;exact SeqAt.EqAt.bool_int a b t
  | str b=>obtain ⟨t,rfl⟩:=rx;exact SeqAt.EqAt.bool_str a b t
  | _=>exact absurd (show false=true from fx) Bool.false_ne_true
 | int a =>
  obtain ⟨t',rfl⟩:=ry
  cases x with
  | non=>cases rx;exact SeqAt.EqAt.int_none a t'
  | bl b=>cases rx;exact SeqAt.EqAt.int_bool a t' b
  | int b=>obtain ⟨t,rfl⟩:=rx;exact SeqAt.EqAt.int_int a t' b t
  | str b=>obtain ⟨t,rfl⟩:=rx;exact SeqAt.EqAt.int_str a t' b t
  | _=>exact absurd (show false=true from fx) Bool.false_ne_true
 | str a =>
  obtain ⟨t',rfl⟩:=ry
  cases x with
  | non=>cases rx;exact SeqAt.EqAt.str_none a t'
  | bl b=>cases rx;exact SeqAt.EqAt.str_bool a t' b
  | int b=>obtain ⟨t,rfl⟩:=rx;exact SeqAt.EqAt.str_int a t' b t
  | str b=>obtain ⟨t,rfl⟩:=rx;exact SeqAt.EqAt.str_str a t' b t
  | _=>exact absurd (show false=true from fx) Bool.false_ne_true
 | _=>exact absurd (show false=true from fy) Bool.false_ne_true
def eqU (x:V) (u:Value):Bool:=match u with
 | .none=>eqV .non x
 | .bool b=>eqV (.bl b) x
 | .int i _=>eqV (.int i) x
 | .str z _=>eqV (.str z) x
 | _=>false
theorem Yj {x y:V}{u:Value}(r:jy y u) (f:vt y=true):eqU x u=eqV y x:=by
 cases y with
 | non=>cases r;rfl
 | bl b=>cases r;rfl
 | int i=>obtain ⟨t,rfl⟩:=r;rfl
 | str z=>obtain ⟨t,rfl⟩:=r;rfl
 | _=>exact absurd (show false=true from f) Bool.false_ne_true
theorem vC {x:V}:∀ {xs:List V}{us:List Value},jw xs us->xs.all vt=true->us.any (eqU x)=xs.any fun y=>eqV y x
 | _,_,.nil,_=>rfl
 | y::xs,u::us,.cons r t,f=>by
  rw [List.all_cons,Bool.and_eq_true] at f
  rw [List.any_cons,List.any_cons,Yj r f.1,vC t f.2]
theorem y7 {A:Around}{s:Shared}{x:V}{v:Value}(rx:jy x v) (fx:vt x=true):∀ {xs:List V}{us:List Value},jw xs us->xs.all vt=true->∀ u∈us,SeqAt.EqAt A s u v (eqU x u)
 | _,_,.nil,_=>fun u hu=>by cases hu
 | y::xs,u::us,.cons r t,f=>fun u' hu=>by
  rw [List.all_cons,Bool.and_eq_true] at f
  rcases List.mem_cons.mp hu with rfl | hu
  ·rw [Yj r f.1];exact VN r rx f.1 fx
  ·exact y7 rx fx t f.2 u' hu
def inV (x:V) (xs:List V):Bool:=xs.any fun y=>eqV y x
def rIn (K:PySem.W.Frag) (neg:Bool):R2:=fun x y H Q=>∃ p xs,y = .ref p/\(SqL K H p xs\/SqT K H p xs)/\vt x=true/\xs.all vt=true/\Q (.bl (if neg then !inV x xs else inV x xs)) H
theorem XR:OpR X (compareOp .In) (rIn X.K false):=by
 intro pins s σ H x y v u Q I rx ry h
 obtain ⟨p,xs,rfl,hq,fx,fs,q⟩:=h
 cases ry
 rcases hq with hq | hq
 ·obtain ⟨its,r,pl,hz⟩:=I.list hq
  refine SeqAt.in_listAt (eqU x) pl.isList (fun w hw=>y7 rx fx r fs w (by simpa using hw)) ⟨.bl _,H,I,rfl,?_⟩
  rw [show its.toArray.any (eqU x)=its.any (eqU x) by simp,vC r fs]
  exact q
 ·obtain ⟨its,r,pl,hz⟩:=I.tuple hq
  refine SeqAt.in_tupleAt (eqU x) pl (fun w hw=>y7 rx fx r fs w (by simpa using hw)) ⟨.bl _,H,I,rfl,?_⟩
  rw [show its.toArray.any (eqU x)=its.any (eqU x) by simp,vC r fs]
  exact q
theorem gv:OpR X (compareOp .NotIn) (rIn X.K true):=by
 intro pins s σ H x y v u Q I rx ry h
 obtain ⟨p,xs,rfl,hq,fx,fs,q⟩:=h
 cases ry
 rcases hq with hq | hq
 ·obtain ⟨its,r,pl,hz⟩:=I.list hq
  refine SeqAt.notIn_listAt (eqU x) pl.isList (fun w hw=>y7 rx fx r fs w (by simpa using hw)) ⟨.bl _,H,I,rfl,?_⟩
  rw [show its.toArray.any (eqU x)=its.any (eqU x) by simp,vC r fs]
  exact q
 ·obtain ⟨its,r,pl,hz⟩:=I.tuple hq
  refine SeqAt.notIn_tupleAt (eqU x) pl (fun w hw=>y7 rx fx r fs w (by simpa using hw)) ⟨.bl _,H,I,rfl,?_⟩
  rw [show its.toArray.any (eqU x)=its.any (eqU x) by simp,vC r fs]
  exact q
theorem kZ:qy X (.builtin "len") (fun xs H Q=>∃ p ys,xs=[.ref p]/\(SqL X.K H p ys\/SqT X.K H p ys)/\Q (.int ys.length) H):=by
 intro pins s σ H xs us Q I r h
 obtain ⟨p,ys,rfl,hq,q⟩:=h
 obtain ⟨u,rfl,rx⟩:=xX r
 cases rx
 have hn:=J4
 rcases hq with hq | hq
 ·obtain ⟨its,r',pl,hz⟩:=I.list hq
  have hlen:=r'.length
  exact Calls.call_len_list pl.isList (by simp only [List.size_toArray] <;> omega) ⟨.int ys.length,H,I.tok _,⟨s.toks+1,by rw [List.size_toArray,hlen]⟩,q⟩
 ·obtain ⟨its,r',pl,hz⟩:=I.tuple hq
  have hlen:=r'.length
  exact len_tuple pl (by simp only [List.size_toArray] <;> omega) ⟨.int ys.length,H,I.tok _,⟨s.toks+1,by rw [List.size_toArray,hlen]⟩,q⟩
theorem gX:qy X (.type "list") (fun xs H Q=>∃ p ys,xs=[.ref p]/\(SqL X.K H p ys\/SqT X.K H p ys)/\∀ l,H l=none->Q (.ref l) (upd H l (.lst ys))):=by
 intro pins s σ H xs us Q I r h
 obtain ⟨p,ys,rfl,hq,q⟩:=h
 obtain ⟨u,rfl,rx⟩:=xX r
 cases rx
 have fin:∀ (its:List Value),jw ys its->ys.length<=sizeLine->∀ (h':Heap) (c':Nat),(∀ b o',s.heap.get? b=some o'->h'.get? b=some o') ->
   h'.get? s.heap.objs.size=some { cls:=.type "list",dict:=none,data:=.seq its.toArray c',slots:=#[] }->EP X pins σ Q (.ref s.heap.objs.size) { s with heap:=h' }:=fun its r' hz h' c' kp e =>
  ⟨.ref s.heap.objs.size,_,I.laid (t':=s.toks) kp (Nat.le_refl _) (show jW X.prog X.w _ h' _ (.lst ys) from ⟨hz,its,c',r',e⟩),rfl,q _ (I.hok.fresh (Nat.le_refl _))⟩
 rcases hq with hq | hq
 ·obtain ⟨its,r',pl,hz⟩:=I.list hq
  have hlen:=r'.length
  obtain ⟨o,ho,hc,n,hd⟩:=pl.isList
  exact call_list_seq p (.inl rfl) ho hc hd (fun h' c' kp e=>fin its r' hz h' c' kp e) (by simp only [List.size_toArray] <;> omega)
 ·obtain ⟨its,r',pl,hz⟩:=I.tuple hq
  have hlen:=r'.length
  obtain ⟨o,ho,hc,n,hd⟩:=pl
  exact call_list_seq p (.inr rfl) ho hc hd (fun h' c' kp e=>fin its r' hz h' c' kp e) (by simp only [List.size_toArray] <;> omega)
theorem wU:qy X (.type "tuple") (fun xs H Q=>∃ p ys,xs=[.ref p]/\((SqL X.K H p ys/\∀ l,H l=none->Q (.ref l) (upd H l (.tup ys)))\/(SqT X.K H p ys/\Q (.ref p) H))):=by
 intro pins s σ H xs us Q I r h
 obtain ⟨p,ys,rfl,h⟩:=h
 obtain ⟨u,rfl,rx⟩:=xX r
 cases rx
 rcases h with ⟨hq,q⟩ | ⟨hq,q⟩
 ·obtain ⟨its,r',pl,hz⟩:=I.list hq
  have hlen:=r'.length
  refine call_tuple_list pl.isList (fun h' kp=>?_) (by simp only [List.size_toArray] <;> omega)
  have I1:Inv X pins σ H { s with heap:=h' }:=I.kept (t':=s.toks) kp
  have I2:Inv X pins σ (upd H h'.objs.size (.tup ys)) { s with heap:=h'.push { cls:=.type "tuple",data:=.seq its.toArray } } :=
   I1.laid (t':=s.toks) (fun b o e=>Heap.get?_push_of_some _ e) (Nat.le_refl _) (show jW X.prog X.w _ _ _ (.tup ys) from ⟨hz,its,r',IsTup.new _ _⟩)
  exact ⟨.ref h'.objs.size,_,I2,rfl,q _ (I1.hok.fresh (Nat.le_refl _))⟩
 ·obtain ⟨its,r',pl,hz⟩:=I.tuple hq
  exact call_tuple_same pl ⟨.ref p,H,I,rfl,q⟩
def tyV (K:PySem.W.Frag) (T:String) (x:V) (H:Hp):Prop:=match x with
 | .str _=>T = "str"
 | .int _=>T = "int"
 | .ref p=>(T = "list" /\ ∃ xs,SqL K H p xs)\/(T = "tuple" /\ ∃ o,K.lookup p=some o/\o.cls = .type "tuple" /\ o.dict=none) \/
   (T = "dict" /\ ((∃ kvs,H p=some (.dK kvs))\/∃ kvs,H p=some (.dT kvs)))\/(T = "set" /\ ∃ S n,H p=some (.set S n))
 | _=>False
theorem U3 {pins:List (Addr×Obj)}{σ:St}{H:Hp}{s:Shared}{T:String}{x:V}{v:Value}(I:Inv X pins σ H s) (r:jy x v) (ty:tyV X.K T x H) :
  s.TypeIs v T/\∀ a,v = .ref a->∃ ob,s.heap.get? a=some ob/\ob.dict=none:=by
 cases x with
 | str z =>
  obtain ⟨t,rfl⟩:=r
  cases (show T = "str" from ty)
  exact ⟨typeIs_str s z t,fun _ e=>nomatch e⟩
 | int i =>
  obtain ⟨t,rfl⟩:=r
  cases (show T = "int" from ty)
  exact ⟨typeIs_int s i t,fun _ e=>nomatch e⟩
 | ref p =>
  cases r
  rcases ty with ⟨rfl,xs,hq⟩ | ⟨rfl,o,hk,hc,hd⟩ | ⟨rfl,hk⟩ | ⟨rfl,S,n,hk⟩
  ·obtain ⟨its,_,pl,_⟩:=I.list hq
   refine ⟨pl.isList.typeIs,fun a e=>?_⟩
   cases e
   obtain ⟨o,n,e,c,hd,_⟩:=pl
   exact ⟨o,e,hd⟩
  ·refine ⟨⟨o,I.kIn p o hk,hc⟩,fun a e=>?_⟩
   cases e
   exact ⟨o,I.kIn _ o hk,hd⟩
  ·have z:∃ o,s.heap.get? p=some o/\o.ExactDict:=by
    rcases hk with ⟨kvs,hk⟩ | ⟨kvs,hk⟩
    ·obtain ⟨_,_,_,_,o,_,_,e,ex,_⟩:=I.hok p _ hk
     exact ⟨o,e,ex⟩
    ·obtain ⟨_,_,_,_,o,_,_,e,ex,_⟩:=I.hok p _ hk
     exact ⟨o,e,ex⟩
   obtain ⟨o,e,ex⟩:=z
   refine ⟨⟨o,e,ex.1⟩,fun a e2=>?_⟩
   cases e2
   exact ⟨o,e,ex.2.1⟩
  ·obtain ⟨o,_,_,_,e,ex,_⟩:=I.hok p _ hk
   refine ⟨⟨o,e,ex.1⟩,fun a e2=>?_⟩
   cases e2
   exact ⟨o,e,ex.2.1⟩
 | _=>exact False.elim ty
def tBM (K:PySem.W.Frag) (T:String) (r:V->List V->Hp->VK->Prop) (to:TE) (t:TA):TE:=fun σ H Q=>to σ H fun x H1=>tyV K T x H1/\t σ H1 fun xs H2=>r x xs H2 Q
variable {o e:Expr}{es:List Expr}{to:TE}{t:TA}{name:Str}{apos cpos:Pos}{T id:String}{r:V->List V->Hp->VK->Prop}
theorem UK (pa:PlainAttrs T) (slot:Slot T name id) (hty:typeOf (.builtin id)=pure (.type "method_descriptor")) (hm:MtR X id r) (ho:PE X o to) (ha:PA X (e::es) t)
  (hbase:attributeBase o name X.env (eval o X.env)=eval o X.env:=by rfl)
  (hfew:((backTo cpos (starEach (e::es) X.env)).all (fun x=>!x.1) && (backToKw cpos (keywordEach [] X.env)).all (fun x=>x.1.isSome)
   && decide ((e::es).length+([]:List Keyword).length+(if ([]:List Keyword).isEmpty then 0 else 1)<30))=true:=by rfl)
  (hline:(apos.endLine == cpos.line)=true:=by rfl) (hs:starEach (e::es) X.env=(false,eval e X.env)::starEach es X.env:=by rfl) (hplain:(backTo cpos (starEach es X.env)).any (·.1)=false:=by rfl) :
  PE X (.Call (.Attribute o name apos) (e::es) [] cpos) (tBM X.K T r to t):=by
 intro pins s σ H Q I h
 refine wpAny_Call_method_late hbase hfew hline rfl (thn (ho pins s σ H _ I h) fun v s1 ⟨x,H1,I1,r1,ty,q1⟩=>?_)
 obtain ⟨h1,h2⟩:=U3 I1 r1 ty
 refine ⟨T,id,pa,slot,hty,h1,h2,?_⟩
 have hA:=ha cpos pins s1 σ H1 _ I1 q1
 rw [hs] at hA ⊢
 refine Calls.callWith_builtin (by show (false || (backTo cpos (starEach es X.env)).any (·.1))=false;rw [hplain] <;> rfl) (Calls.evalArgs_plain ?_)
 exact thn hA fun us s2 ⟨vs,H2,I2,r2,q2⟩=>hm pins s2 σ H2 x vs v us Q I2 r1 r2 q2
end
end L2
namespace L2
open PySem PySem.Spec PyProof.Rows
def MtM (X:Cx) (id:String) (r:V->List V->Hp->VK->Prop):Prop :=
 ∀ (pins:List (Addr×Obj)) (s:Shared) (σ:St) (H:Hp) (x:V) (xs:List V) (v:Value) (us:List Value) (Q:VK),Inv X pins σ H s->jy x v->jw xs us->r x xs H Q ->
  wpAny (model X.prog X.w) X.A (call (.builtin id) (v::us)) (EP X pins σ Q) X.xe s
theorem jw.one:∀ {x:V}{us:List Value},jw [x] us->∃ u,us=[u]/\jy x u
 | _,_,.cons r .nil=>⟨_,rfl,r⟩
theorem jw.dropLast {xs:List V}{us:List Value}(h:jw xs us):jw xs.dropLast us.dropLast:=by
 induction h with
 | nil=>exact .nil
 | cons r t ih =>
  cases t with
  | nil=>exact .nil
  | cons q t'=>exact .cons r ih
theorem jw.reverse {xs:List V}{us:List Value}(h:jw xs us):jw xs.reverse us.reverse:=by
 induction h with
 | nil=>exact .nil
 | cons r t ih=>rw [List.reverse_cons,List.reverse_cons];exact jw.append ih (.cons r .nil)
section
variable {X:Cx}{pins:List (Addr×Obj)}{σ:St}{H:Hp}{s:Shared}{l b:Addr}{xs ys zs:List V}
theorem Inv.lset {its its':List Value}{n:Nat}{f:Array Value->Array Value}{t':Nat}(I:Inv X pins σ H s) (hH:H l=some (.lst xs))
  (e:s.heap.get? l=some { cls:=.type "list",data:=.seq its.toArray n }) (hf:f its.toArray=its'.toArray) (hv:jw ys its') (hz:ys.length<=sizeLine) :
  Inv X pins σ (upd H l (.lst ys)) { s with heap:=s.heap.update l (Obj.mapSeq f),toks:=t' }:=by
 have q:=PySem.IsL.update e f
 rw [hf] at q
 refine I.write (x:=l) (e:=l) (by rw [hH];exact trivial) (.inl rfl) (fun b' u hb hu=>(Heap.get?_update_other s.heap (Obj.mapSeq f) (Ne.symm hb)).trans hu) ⟨_,q⟩ ?_
 exact ⟨hz,its',_,hv,q⟩
theorem Inv.lnew {its:List Value}{t':Nat}(I:Inv X pins σ H s) (hv:jw ys its) (hz:ys.length<=sizeLine) :
  Inv X pins σ (upd H s.heap.objs.size (.lst ys)) { s with heap:=s.heap.push { cls:=.type "list",data:=.seq its.toArray },toks:=t' } :=
 I.laid (fun _ _ q=>Heap.get?_push_of_some _ q) (Nat.le_refl _) ⟨hz,its,0,hv,Heap.get?_push_size _ rfl⟩
theorem Inv.fresh (I:Inv X pins σ H s):H s.heap.objs.size=none:=I.hok.fresh (Nat.le_refl _)
theorem Inv.lstM (I:Inv X pins σ H s) (hH:H l=some (.lst xs)):xs.length<=sizeLine/\∃ (its:List Value) (n:Nat),jw xs its/\xs.length=its.length/\s.heap.get? l=some { cls:=.type "list",data:=.seq its.toArray n }:=by
 obtain ⟨z,its,n,r,e⟩:=I.hok l _ hH
 exact ⟨z,its,n,r,r.length,e⟩
theorem Ym {n:Nat}(h:n<=sizeLine):Builtin.List.listTooLong n=false:=by
 unfold Builtin.List.listTooLong
 exact decide_eq_false (by omega)
end
section
variable {X:Cx}
def V6:V->List V->Hp->VK->Prop:=fun x vs H Q=>∃ l xs y,x = .ref l/\vs=[y]/\H l=some (.lst xs)/\xs.length<sizeLine/\Q .non (upd H l (.lst (xs++[y])))
theorem qK:MtM X "list.append" V6:=by
 intro pins s σ H x vs v us Q I rx rv h
 obtain ⟨l,xs,y,rfl,rfl,hH,hz,q⟩:=h
 cases rx
 obtain ⟨u,rfl,ru⟩:=rv.one
 obtain ⟨z,its,n,r,hl,e⟩:=I.lstM hH
 refine call_meets F.slot_list_append ⟨_,e,rfl⟩ F.entry_list_append (F.args_list_append_2 _ _) (PySem.list_append l its.toArray n u (by rw [List.size_toArray];omega)) ⟨e,?_⟩
 refine ⟨.non,_,I.lset (its':=its++[u]) hH e (by simp) (r.append (.cons ru .nil)) ?_,rfl,q⟩
 rw [List.length_append,List.length_singleton]
 omega
def YY:V->List V->Hp->VK->Prop:=fun x vs H Q=>∃ l b xs zs,x = .ref l/\vs=[.ref b]/\H l=some (.lst xs)/\H b=some (.lst zs)/\xs.length+zs.length<=sizeLine/\Q .non (upd H l (.lst (xs++zs)))
theorem Us:MtM X "list.extend" YY:=by
 intro pins s σ H x vs v us Q I rx rv h
 obtain ⟨l,b,xs,zs,rfl,rfl,hH,hB,hz,q⟩:=h
 cases rx
 obtain ⟨u,rfl,ru⟩:=rv.one
 cases ru
 obtain ⟨z,its,n,r,hl,e⟩:=I.lstM hH
 obtain ⟨z2,its2,n2,r2,hl2,e2⟩:=I.lstM hB
 have hsz:its.toArray.size+its2.toArray.size<=sizeLine:=by rw [List.size_toArray,List.size_toArray];omega
 have hlong:¬ (!its.toArray.isEmpty && Builtin.List.listTooLong (its.toArray.size+its2.toArray.size))=true:=by
  rw [Ym hsz,Bool.and_false]
  exact Bool.false_ne_true
 refine call_meets F.slot_list_extend ⟨_,e,rfl⟩ F.entry_list_extend (F.args_list_extend_2 _ _)
  (AutoSeq1.list_extend_list_list_0 l its.toArray n b its2.toArray n2 hlong (by rw [List.size_toArray];omega) (by omega)) ⟨e,e2,?_⟩
 refine ⟨.non,_,I.lset (its':=its++its2) hH e (by simp) (r.append r2) ?_,rfl,q⟩
 rw [List.length_append]
 omega
def rCat:R2:=fun x y H Q=>∃ l b xs zs,x = .ref l/\y = .ref b/\H l=some (.lst xs)/\H b=some (.lst zs)/\xs.length+zs.length<=sizeLine/\∀ p,H p=none->Q (.ref p) (upd H p (.lst (xs++zs)))
theorem VH:OpR X (binaryOp .Add) rCat:=by
 intro pins s σ H x y v u Q I rx ry h
 obtain ⟨l,b,xs,zs,rfl,rfl,hH,hB,hz,q⟩:=h
 cases rx
 cases ry
 obtain ⟨z,its,n,r,hl,e⟩:=I.lstM hH
 obtain ⟨z2,its2,n2,r2,hl2,e2⟩:=I.lstM hB
 refine PySem.P.add_list e e2 ?_ (by rw [List.size_toArray,List.size_toArray];omega)
 have ea:its.toArray++its2.toArray=(its++its2).toArray:=by simp
 rw [ea]
 exact ⟨.ref _,_,I.lnew (t':=s.toks) (r.append r2) (by rw [List.length_append];omega),rfl,q _ I.fresh⟩
end
section
variable {prog:Program}{w:World}{A:Around}{E:Value->Shared->Prop}{s:Shared}
set_option maxRecDepth 100000 in
end
section
variable {X:Cx}
end
end L2
namespace Att
open PySem PySem.W PySem.Calls PyProof.Rows
theorem uB {P:Params}{h:Heap}:∀ (ns:List Int) (vs:List Value),WellAll P h vs (ns.map WData.int)->IntsAre vs ns:=by
 intro ns
 induction ns with
 | nil =>
  intro vs w
  rw [List.map_nil] at w
  cases w
  exact .nil
 | cons n ns ih =>
  intro vs w
  rw [List.map_cons] at w
  cases w with
  | cons a b =>
   cases a
   exact .cons _ _ (ih _ b)
theorem Xy {l:OpenLaw}{n:Nat}(hn:l.most=some n) {P:Params}{h:Heap}{args:List WData}{vals:List Value}
  (hpre:l.row.toRowW.claim.pre args=true) (hwl:WellAll P h vals args) :
  ∃ a vs ns,vals=[Value.ref a]/\args=[WData.list (ns.map WData.int)]/\h.get? a=some { cls:=.type "list",data:=.seq vs.toArray }/\IntsAre vs ns/\ns.length<=n:=by
 have hsh:WShape.hasAll [] args [.list .int]=true:=(pre_splitW hpre).1
 have hc:l.pre.holds [] { args:=args }=true:=(pre_splitW hpre).2
 obtain ⟨d,r,rfl,h1,h2⟩:=hasAllW_cons hsh
 obtain rfl:=hasAllW_nil h2
 obtain ⟨xs,rfl,h3⟩:=hasW_list h1
 obtain ⟨ns,rfl⟩:=items_int h3
 have hlen:ns.length<=n:=by
  unfold OpenLaw.pre at hc
  have h4:(WTm.not (.lt (.lit (.int (n:Int))) (.len (.arg 0)))).holds [] { args:=[.list (ns.map .int)] }=true:=by
   have h4:=(holds_andW hc).1
   rw [hn] at h4
   exact h4
  have h5:=condW_of h4 (w_not (w_lt w_lit (w_len_list (w_arg rfl))))
  rw [List.length_map] at h5
  refine Nat.le_of_not_lt fun q=>?_
  have q':(n:Int)<((ns.length:Nat):Int):=by omega
  first
   | (rw [decide_eq_true q'] at h5;exact absurd h5 (by decide))
   | (simp at h5;omega)
 cases hwl with
 | cons w1 w2 =>
  cases w2
  cases w1 with
  | list ho hall=>exact ⟨_,_,ns,rfl,rfl,ho,uB ns _ hall,hlen⟩
theorem XX (l:OpenLaw) (args:List WData):l.row.toRowW.claim.post args (.bool true) args=true :=
 postW_of (r:=l.row.toRowW) (X:=(true == true))
  (show WShape.has [] (.bool true) .bool=true by first | rfl | decide | simp [WShape.has,WShape.arms,WShape.armsAll])
  (show (WTm.eq .res (.lit (.bool true))).value [] { args:=args,res:=some (.bool true),after:=args }=some (.bool (true == true)) from w_eq_bool (w_res rfl) w_lit) rfl
theorem attach_call {l:OpenLaw}{n:Nat}{q:Program}{loose:List Str}{XP:(Str->Option Value)->Heap->Prop}{YP:World->Heap->Prop}{d:DefRec}
  (hn:l.most=some n) (hdf:d.params.defaults=[])
  (call:∀ (w:World) (s₀ s₁:Shared) (mg mb:Str->Option Value) (fa:Addr) (o:Obj) (pm cd doc:Value) (a:Addr) (vs:List Value) (ns:List Int),
   Ground q loose [] XP w s₀ mg mb s₁.heap->YP w s₁.heap ->
   s₁.heap.get? fa=some o->o.data = .func (docDef d.name d.params d.body d.scope pm cd doc)->s₁.heap.CodeRec cd d.name->mg d.name=some (.ref fa) ->
   s₁.heap.get? a=some { cls:=.type "list",data:=.seq vs.toArray }->IntsAre vs ns->ns.length<=n->s₁.gens = #[] ->
   codeAny (model l.prog w) callerA (.call (.ref fa) ⟨[.ref a],[]⟩) (fun r s'=>r = .ok (.ret (.bool true))/\OldK s₁.heap s'.heap/\s'.os=s₁.os/\AllBare s'.gens) s₁) :
  WalkO q loose XP YP l.row.toRowW d [] (fun f vs=>PySem.call f vs):=by
 intro w s₀ s₁ mg mb G Y fa o pm cd doc dV kV ho hd hcd hD hmg hg args vals as hpre hlay hrd hwl hlo
 obtain rfl:dV = .none:=Dflts.none hD hdf
 obtain rfl:kV = .none:=Dflts.noKw hD
 obtain ⟨a,vs,ns,rfl,rfl,hobj,hints,hlen⟩:=Xy hn hpre hwl
 refine enter_call (codeAny_mono (call w s₀ s₁ mg mb fa o pm cd doc a vs ns G Y ho (fd_plain hd) hcd hmg hobj hints hlen hg) fun r s' hq=>?_)
 obtain ⟨rfl,h2,h3,h4⟩:=hq
 exact ⟨.inl ⟨.bool true,.bool true,[],rfl,fun _=>rfl,.bool true,XX l _,fun _=>⟨List.Pairwise.nil,fun _ hm=>(nomatch hm)⟩⟩,h2,h3,h4⟩
section
variable {prog:Program}{w:World}{A:Around}{E:Value->Shared->Prop}{s:Shared}{K:Frag}
def ledger (h:Heap) (L d:Addr):List (Addr×Obj):=(List.range h.objs.size).filterMap fun a=>if a=L\/a=d then none else (h.get? a).map fun o=>(a,o)
end
end Att
namespace L2
open PySem PySem.Spec PyProof.Rows
theorem ua:∀ {vs:List Value}{ns:List Int},IntsAre vs ns->jw (ns.map V.int) vs
 | _,_,.nil=>.nil
 | _,_,.cons n t h=>.cons ⟨t,rfl⟩ (ua h)
end L2
namespace L2
open PySem PySem.Spec PyProof.Rows
end L2
namespace L2
open PySem PySem.Spec PyProof.Rows
def qQ (s:Stmt) (j:Nat):Stmt:=match s with
 | .ClassDef _ _ _ body _ _ _ _ _ _ _=>body.getD j (.Pass ⟨0,0,0,0⟩)
 | _=>.Pass ⟨0,0,0,0⟩
def jN (s:Stmt):Arguments:=match s with
 | .FunctionDef _ a _ _ _ _ _ _ _ _=>a
 | _=>{ posonlyargs:=[],args:=[],vararg:=none,kwonlyargs:=[],kw_defaults:=[],kwarg:=none,defaults:=[] }
def jF (s:Stmt):List Stmt:=match s with
 | .FunctionDef _ _ b _ _ _ _ _ _ _=>b
 | _=>[]
def j6 (s:Stmt):Scope:=match s with
 | .FunctionDef _ _ _ _ _ _ sc _ _ _=>sc
 | _=>{ kind:=.function,names:=[],isGenerator:=false,isCoroutine:=false }
abbrev CX0:CXT:=fun _ _ _ _ _ _=>False
abbrev E0:XK:=fun _ _ _=>False
theorem Yi {X:Cx}:wt CX0 X E0:=fun _ _ _ _ _ _ _ h=>h.elim
structure Fun (K:PySem.W.Frag) (x qual:Str) (st:Stmt) (f:Addr) (fd:FuncData):Prop where
 ex:∃ (oc:Value) (od:Option Addr) (kV doc pm:Value) (an:Option Addr) (cdv ct:Value) (osl:Array (Option Value)),
  fd=PySem.W.fnOf x qual (jN st) (jF st) (j6 st) .none kV doc pm an cdv ct/\K.lookup f=some ⟨oc,od,.func fd,osl⟩/\PySem.W.codeIn K cdv qual=true
 kp:PySem.W.keepIn K (.ref f)=true
section
variable {P:Program}{w:World}{K:PySem.W.Frag}{mg:Str->Option Value}{base:Heap}
theorem Fun.ok {x qual:Str}{st:Stmt}{f:Addr}{fd:FuncData}{N ps:List Str}{k:Nat}{sp:Sp}(F:Fun K x qual st f fd) (S:FnScope N ps (j6 st)) (len:∀ vs H Q E,sp vs H Q E->vs.length=ps.length)
  (hbody:∀ (cdv:Value) (A:Around) (outer:List Env) (s:Shared) (H:Hp) (vs:List V) (Q:VK) (E:XK),Room k (A.deeper (envOfC qual (j6 st) s.heap.objs.size f cdv))->sp vs H Q E ->
   ∃ t,PSs (yY CX0 P w K mg base N qual (j6 st) f cdv A outer s H E).nox (jF st) t/\t { nx:=fun _ H'=>Q .non H',rt:=Q } (start N vs) H):FnOk P w K mg base CX0 (k+1) f fd ps sp:=by
 obtain ⟨oc,od,kV,doc,pm,an,cdv,ct,osl,rfl,lk,hcd⟩:=F.ex
 refine Yk lk hcd S len fun A outer s H vs Q E hr hsp=>?_
 obtain ⟨t,h,q⟩:=hbody cdv A outer s H vs Q E hr hsp
 exact ⟨t,h.nox,q⟩
theorem Fun.binds {x qual:Str}{st:Stmt}{f:Addr}{fd:FuncData}{ps:List Str}(F:Fun K x qual st f fd)
  (h:∀ (kV doc pm:Value) (an:Option Addr) (cdv ct:Value) (us:List Value),us.length=ps.length->bindArgs (PySem.W.fnOf x qual (jN st) (jF st) (j6 st) .none kV doc pm an cdv ct) ⟨us,[]⟩=pure (ps.zip us)):zr K fd ps []:=by
 obtain ⟨oc,od,kV,doc,pm,an,cdv,ct,osl,rfl,lk,hcd⟩:=F.ex
 exact .all (h kV doc pm an cdv ct)
theorem yR {x qual:Str}{st:Stmt}{f:Addr}{oc:Value}{od an:Option Addr}{osl:Array (Option Value)}{kV doc pm cdv ct:Value}(l:K.lookup f=some ⟨oc,od,.func (PySem.W.fnOf x qual (jN st) (jF st) (j6 st) .none kV doc pm an cdv ct),osl⟩)
  (c:PySem.W.codeIn K cdv qual=true) (k:PySem.W.keepIn K (.ref f)=true):Fun K x qual st f (PySem.W.fnOf x qual (jN st) (jF st) (j6 st) .none kV doc pm an cdv ct):=⟨⟨oc,od,kV,doc,pm,an,cdv,ct,osl,rfl,l,c⟩,k⟩
end
theorem ql {A:Around}{k:Nat}(hr:Room k A):A.units+1<cLine:=Nat.lt_of_le_of_lt (Nat.add_le_add_left (by decide:1<=64) _) hr.units
theorem ja {n:Nat}(h:n<=1000):n<sizeLine:=Nat.lt_of_le_of_lt h (by decide)
section
variable {X:Cx}
theorem pv (i:Nat) {x:Str}{pos:Pos}(hN:X.N[i]? = some x:=by rfl) (hv:Vis X.env.scope x:=by first | exact Or.inl rfl | exact Or.inr (Or.inl rfl) | exact Or.inr (Or.inr rfl)) (hd:(x == ("__debug__" : Str))=false:=by decide)
  (hcd:(x == ("__classdict__" : Str))=false:=by decide):PE X (.Name x pos) (U6 i):=VD hN hv hd hcd
end
theorem wG {A B:Prop}(h:B):if false=true then A else B:=by
 rw [if_neg Bool.false_ne_true]
 exact h
theorem yw {A B:Prop}(h:A):if true=true then A else B:=by
 rw [if_pos rfl]
 exact h
def jh (H H':Hp):Prop:=∀ b o,H b=some o->H' b=some o
theorem jh.refl (H:Hp):jh H H:=fun _ _ h=>h
theorem jh.trans {H H1 H2:Hp}(a:jh H H1) (b:jh H1 H2):jh H H2:=fun c o h=>b c o (a c o h)
theorem jh.free {H H':Hp}(e:jh H H') {l:Addr}(h:H' l=Option.none):H l=Option.none:=by
 cases q:H l with
 | none=>rfl
 | some o =>
  rw [e l o q] at h
  cases h
end L2
section
namespace L2
open PySem PySem.Spec PyProof.Rows
theorem Qz (env:Env) (f:Str×NameKind->List (Str×Addr)->Sem (ForInStep (List (Str×Addr))))
  (hf:∀ n k r,f (n,k) r=if (k == NameKind.free)=true then (cellOf env n >>= fun a=>pure (ForInStep.yield ((n,a)::r))) else pure (ForInStep.yield r)) :
  ∀ (names:List (Str×NameKind)) (acc:List (Str×Addr)),(∀ x∈names,x.2 = .free->∃ c,env.cells.lookup x.1=some c) ->
  ∃ cl,forIn names acc f=pure cl/\∀ x,cl.lookup x=if (x,NameKind.free)∈names then env.cells.lookup x else acc.lookup x:=by
 intro names
 induction names with
 | nil=>intro acc _;exact ⟨acc,rfl,fun x=>by rw [if_neg (by simp)]⟩
 | cons y r ih =>
  intro acc h
  obtain ⟨n,k⟩:=y
  have hr:∀ x∈r,x.2 = .free->∃ c,env.cells.lookup x.1=some c:=fun x hx=>h x (List.mem_cons_of_mem _ hx)
  by_cases hk:k = .free
  ·subst hk
   obtain ⟨c,hc⟩:=h (n,.free) List.mem_cons_self rfl
   obtain ⟨cl,e,p⟩:=ih ((n,c)::acc) hr
   refine ⟨cl,?_,fun x=>?_⟩
   ·rw [List.forIn_cons,hf,if_pos (by rfl)]
    have e1:cellOf env n=pure c:=by unfold cellOf;rw [hc]
    rw [e1]
    exact e
   ·rw [p x]
    by_cases hx:x=n
    ·subst hx
     rw [if_pos (List.mem_cons_self),List.lookup_cons,beq_self_eq_true]
     by_cases hm:(x,NameKind.free)∈r
     ·rw [if_pos hm]
     ·rw [if_neg hm];exact hc.symm
    ·have hb:(x == n)=false:=beq_eq_false_iff_ne.mpr hx
     rw [List.lookup_cons,hb]
     by_cases hm:(x,NameKind.free)∈r
     ·rw [if_pos hm,if_pos (List.mem_cons_of_mem _ hm)]
     ·rw [if_neg hm,if_neg (by
       intro z
       rcases List.mem_cons.mp z with z | z
       ·exact hx (congrArg Prod.fst z)
       ·exact hm z)]
  ·obtain ⟨cl,e,p⟩:=ih acc hr
   have hb:(k == NameKind.free)=false:=by simpa using hk
   refine ⟨cl,?_,fun x=>?_⟩
   ·rw [List.forIn_cons,hf,hb,if_neg Bool.false_ne_true]
    exact e
   ·rw [p x]
    by_cases hm:(x,NameKind.free)∈r
    ·rw [if_pos hm,if_pos (List.mem_cons_of_mem _ hm)]
    ·rw [if_neg hm,if_neg (by
      intro z
      rcases List.mem_cons.mp z with z | z
      ·exact hk (congrArg Prod.snd z).symm
      ·exact hm z)]
theorem yW {scope:Scope}{env:Env}(h:∀ x∈scope.names,x.2 = .free->∃ c,env.cells.lookup x.1=some c) :
  ∃ cl,closureFor scope env=pure cl/\∀ x,cl.lookup x=if (x,NameKind.free)∈scope.names then env.cells.lookup x else none:=by
 have hh:=Qz env (fun (x:Str×NameKind) r=>match x with | (n,k)=>if (k == NameKind.free)=true then (cellOf env n >>= fun a=>pure (ForInStep.yield ((n,a)::r))) else pure (ForInStep.yield r)) (fun _ _ _=>rfl) scope.names [] h
 obtain ⟨cl,e,p⟩:=hh
 refine ⟨cl,?_,fun x=>by rw [p x];rfl⟩
 unfold closureFor
 have e':forIn scope.names ([]:List (Str×Addr)) (fun (x:Str×NameKind) r=>match x with | (n,k)=>if (k == NameKind.free)=true then (cellOf env n >>= fun a=>pure (ForInStep.yield ((n,a)::r))) else pure (ForInStep.yield r))=(pure cl:Sem _):=e
 show (forIn scope.names ([]:List (Str×Addr)) _ >>= fun cs=>pure cs)=_
 first
  | (rw [e'];rfl)
  | (simp only [bind_pure];exact e')
structure CompSc (osc:Scope) (ON:List Str) (scope:Scope) (own:Nat) (N:List Str) (caps:List Nat):Prop where
 kind:scope.kind = .function
 nocell:∀ y∈scope.names,y.2≠.cell
 loc:∀ y∈scope.names,y.2 = .local->scope.names.lookup y.1=some .local
 fre:∀ y∈scope.names,y.2 = .free->scope.names.lookup y.1=some .free/\(osc.names.lookup y.1=some .cell\/osc.names.lookup y.1=some .free)
 len:N.length=own+caps.length
 cap:∀ p∈(N.drop own).zip caps,ON[p.2]? = some p.1/\(p.1,NameKind.free)∈scope.names
def yD (own:Nat) (caps:List Nat) (σ:St):St:=List.replicate own none++caps.map fun j=>(σ[j]?).getD none
def Cx.block (X:Cx) (scope:Scope) (cl:List (Str×Addr)) (C:Addr) (N:List Str) (s:Shared) (H:Hp) (ex:List Addr):Cx :=
 { X with N:=N,s₀:=s,H₀:=H,env:=compEnvC scope cl C X.env,outer:=X.stack,ex:=ex,fn:=fun x=>decide (scope.names.lookup x=some .local),pn:=[],xe:=fun _ _=>False }
theorem zD {env:Env}:∀ {names:List (Str×NameKind)}{x:Str}{k:NameKind},
  (names.map fun (n,k)=>if (k == NameKind.free && env.scope.kind == .function && env.kindOf n == some .cell) then (n,NameKind.cell) else (n,k)).lookup x=some k ->
  ∃ k',names.lookup x=some k'/\(k'=k\/(k' = .free/\k = .cell))
 | [],_,_,h=>by simp at h
 | (n,k0)::r,x,k,h=>by
  have ih:=@zD env r x k
  have h':List.lookup x ((if (k0 == NameKind.free && env.scope.kind == .function && env.kindOf n == some .cell)=true then (n,NameKind.cell) else (n,k0))::r.map fun (n,k)=>if (k == NameKind.free && env.scope.kind == .function && env.kindOf n == some .cell) then (n,NameKind.cell) else (n,k))=some k:=h
  cases hx:x == n with
  | true =>
   by_cases hc:(k0 == NameKind.free && env.scope.kind == .function && env.kindOf n == some .cell)=true
   ·rw [if_pos hc,List.lookup_cons,hx] at h'
    cases h'
    refine ⟨k0,by rw [List.lookup_cons,hx],.inr ⟨?_,rfl⟩⟩
    rw [Bool.and_eq_true,Bool.and_eq_true] at hc
    exact eq_of_beq hc.1.1
   ·rw [if_neg hc,List.lookup_cons,hx] at h'
    cases h'
    exact ⟨k0,by rw [List.lookup_cons,hx],.inl rfl⟩
  | false =>
   have h2:List.lookup x (r.map fun (n,k)=>if (k == NameKind.free && env.scope.kind == .function && env.kindOf n == some .cell) then (n,NameKind.cell) else (n,k))=some k:=by
    by_cases hc:(k0 == NameKind.free && env.scope.kind == .function && env.kindOf n == some .cell)=true
    ·rw [if_pos hc,List.lookup_cons,hx] at h';exact h'
    ·rw [if_neg hc,List.lookup_cons,hx] at h';exact h'
   obtain ⟨k',e,d⟩:=ih h2
   exact ⟨k',by rw [List.lookup_cons,hx];exact e,d⟩
def J5 (X:Cx) (ifs:List Expr) (t:TT):Prop :=
 ∀ (pins:List (Addr×Obj)) (s:Shared) (σ:St) (H:Hp) (Q:Bool->Hp->Prop),Inv X pins σ H s->t σ H Q ->
  wpAny (model X.prog X.w) X.A (forIn ifs true fun c r=>if r=true then do let ok <- isTrue c X.env (eval c X.env);pure (ForInStep.yield ok) else pure (ForInStep.yield r)) (TP X pins σ Q) X.xe s
def Wf:TT:=fun _ H Q=>Q true H
theorem jr {X:Cx}:J5 X [] Wf:=fun _ _ _ H _ I h=>wpAny_tests_nil ⟨H,I,h⟩
theorem wP {X:Cx}{c:Expr}{t:TT}(h:PT X c t):J5 X [c] t:=fun pins s σ H Q I hw=>wpAny_tests_one (h pins s σ H Q I hw)
section
variable {prog:Program}{w:World}{A:Around}{R:Result->Shared->Prop}{s:Shared}
theorem JX {elt target iter:Expr}{ifs:List Expr}{scope:Scope}{pos:Pos}{it acc:Value}{env:Env}(I:Nat->Shared->Prop)
  (turn:∀ n s,I n s->wpAny (model prog w) A (pyNext it) (fun r s₁=>match r with
   | none=>R (.ok .next) s₁
   | some v=>wpAny (model prog w) A (letOwnedTupleGo target it v) (fun _ s₂=>wpAny (model prog w) A (assign target env v) (fun _ s₃ =>
     wpAny (model prog w) A (forIn ifs true fun c r=>if r=true then do let ok <- isTrue c env (eval c env);pure (ForInStep.yield ok) else pure (ForInStep.yield r)) (fun ok s₄ =>
      if ok=true then wpAny (model prog w) A (eval elt env) (fun x s₅ =>
       wpAny (model prog w) A (call (.builtin "list.append") [acc,x]) (fun _ s₆=>∃ m,m<n/\I m s₆) (fun _ _=>False) s₅) (fun _ _=>False) s₄
      else ∃ m,m<n/\I m s₄) (fun _ _=>False) s₃) (fun _ _=>False) s₂) (fun _ _=>False) s₁) (fun _ _=>False) s)
  (n:Nat) (h:I n s) :
  codeAny (model prog w) A (.compLoop (.ListComp elt [⟨target,iter,ifs,0⟩] scope pos) 0 it acc env) R s:=by
 refine codeAny_loop rfl I (fun n s hI=>?_) n h
 show wpAny _ A ((compTurn (.ListComp elt [⟨target,iter,ifs,0⟩] scope pos) 0 it acc env).onRaise (fun x=>do noteFrame x env;theTreesLotGoes x)) _ _ s
 refine wpAny_noted ?_
 rw [compTurn_list]
 refine wpAny_bind (wpAny_standAt (wpAny_bind (wpAny_mono (turn n s hI) (fun r s₁ h₁=>?_) fun _ _ h'=>h'.elim)))
 cases r with
 | none=>exact wpAny_pure h₁
 | some v =>
  refine wpAny_bind (wpAny_mono h₁ (fun _ s₂ h₂=>?_) fun _ _ h'=>h'.elim)
  refine wpAny_bind (wpAny_mono h₂ (fun _ s₃ h₃=>wpAny_bind (wpAny_mono h₃ (fun ok s₄ h₄=>?_) fun _ _ h'=>h'.elim)) fun _ _ h'=>h'.elim)
  cases ok with
  | false=>exact wpAny_pure ⟨rfl,h₄⟩
  | true =>
   exact wpAny_bind (wpAny_bind (wpAny_mono h₄ (fun x s₅ h₅=>wpAny_bind (wpAny_mono h₅ (fun _ s₆ h₆=>wpAny_pure (wpAny_pure ⟨rfl,h₆⟩)) fun _ _ h'=>h'.elim)) fun _ _ h'=>h'.elim))
end
section
variable {X:Cx}{pos:Pos}
def Vn (own:Nat) (caps:List Nat) (wi:TI) (g:TG) (ti:TT) (te:TE):TE:=fun σ H Q=>wi σ H fun J H1=>∀ acc,H1 acc=none ->
 ∃ W:Nat->Nat->St->Hp->Prop,(∃ m,W 0 m (yD own caps σ) (upd H1 acc (.lst [])))/\∀ i m σ' H',W i m σ' H' ->
  (J.stop i H'/\Q (.ref acc) H') \/
  (J.go i H'/\∃ NX:St->Hp->Prop,(∀ σ2 H2,NX σ2 H2->∃ m',m'<m/\W (i+1) m' σ2 H2) /\
   ∀ x H2,J.yld i H' x H2->g x σ' H2 fun σ3 H3=>ti σ3 H3 fun ok H4=>if ok=true then te σ3 H4 fun v H5=>∃ ys,H5 acc=some (.lst ys)/\ys.length<sizeLine/\NX σ3 (upd H5 acc (.lst (ys++[v]))) else NX σ3 H4)
theorem Y3 {osc:Scope}{ON N:List Str}{scope:Scope}{own:Nat}{caps:List Nat}{cl:List (Str×Addr)}{C:Addr}{pins:List (Addr×Obj)}{σ:St}{H:Hp}{s:Shared}{fp:List Addr}
  (S:CompSc osc ON scope own N caps) (hsc:X.env.scope=osc) (hcl:∀ x,cl.lookup x=if (x,NameKind.free)∈scope.names then X.env.cells.lookup x else none)
  (I:Inv X pins σ H s) (hC:s.heap.objs.size<=C) (hf:∀ b∈fp,uh X pins H b) (hfs:∀ b∈fp,b<s.heap.objs.size):(X.block scope cl C N s H fp).Ok:=by
 have fromX:∀ x c,cl.lookup x=some c->X.env.cells.lookup x=some c/\(x,NameKind.free)∈scope.names:=fun x c e=>by
  rw [hcl x] at e
  by_cases hm:(x,NameKind.free)∈scope.names
  ·rw [if_pos hm] at e;exact ⟨e,hm⟩
  ·rw [if_neg hm] at e;cases e
 refine ⟨I.ok.mod,S.kind,I.ok.glob,I.ok.blt,hC,fun x y c h1 h2=>I.ok.inj x y c (fromX x c h1).1 (fromX y c h2).1,fun x hx=>?_,fun x c h1 h2=>?_,I.ok.hd,I.ok.frames,.inl rfl,fun b hb=>?_,I.bs,Nat.le_trans I.ok.bsz I.sz,fun b o e hb=>?_,fun b hb hb2=>?_,I.stack,I.stkFree⟩
 ·-- has
  have key:∀ k,(k=NameKind.cell\/k=NameKind.free)->(relabel scope X.env).names.lookup x=some k->∃ c,cl.lookup x=some c:=fun k hk e=>by
   obtain ⟨k',e',d⟩:=zD (env:=X.env) e
   have hmem:=PySem.mem_of_lookup e'
   have hfree:k' = .free:=by
    rcases d with d | d
    ·subst d
     rcases hk with z | z
     ·exact absurd z (S.nocell _ hmem)
     ·exact z
    ·exact d.1
   subst hfree
   obtain ⟨_,hk2⟩:=S.fre _ hmem rfl
   obtain ⟨c,hc⟩:=I.ok.has x (by unfold Env.kindOf;rw [hsc];exact hk2)
   exact ⟨c,by rw [hcl x,if_pos hmem];exact hc⟩
  rcases hx with z | z
  ·exact key _ (.inl rfl) z
  ·exact key _ (.inr rfl) z
 ·-- cab
  have h1':scope.names.lookup x=some .local:=of_decide_eq_true h1
  have hm:=(fromX x c h2).2
  have:=(S.fre _ hm rfl).1
  rw [h1'] at this
  cases this
 ·refine ⟨Nat.ne_of_lt (Nat.lt_of_lt_of_le (hfs b hb) hC),fun x c e=>(hf b hb).2.2.2.2.1 x c (fromX x c e).1⟩
 ·rcases (hf b hb).2.2.2.1 with z | z
  ·exact I.ok.noex b o e z
  ·exact absurd (Nat.lt_of_lt_of_le (Heap.lt_size e) (Nat.le_trans I.ok.bsz z)) (Nat.lt_irrefl _)
 ·rcases List.mem_cons.mp (I.stkSub b hb2) with z | z
  ·exact (hf b hb).2.1 z
  ·exact (hf b hb).2.2.1 z
theorem ul {osc:Scope}{ON N:List Str}{scope:Scope}{own:Nat}{caps:List Nat}{cl:List (Str×Addr)}{C D:Addr}{pins:List (Addr×Obj)}{σ:St}{H:Hp}{s:Shared}{h1:Heap}{fp:List Addr}
  (S:CompSc osc ON scope own N caps) (hsc:X.env.scope=osc) (hN:X.N=ON) (hcl:∀ x,cl.lookup x=if (x,NameKind.free)∈scope.names then X.env.cells.lookup x else none)
  (I:Inv X pins σ H s) (hf:∀ b∈fp,uh X pins H b) (hfs:∀ b∈fp,b<s.heap.objs.size) (hD:D=s.heap.objs.size) (hC:C=s.heap.objs.size+1)
  (k:∀ b o,s.heap.get? b=some o->h1.get? b=some o) (eD:h1.get? D=some { cls:=.type "list",data:=.seq #[] }) (hn:h1.Ns C fun _=>none) (t':Nat) :
  Inv (X.block scope cl C N s H fp) [] (yD own caps σ) (upd H D (.lst [])) { s with heap:=h1,toks:=t' }:=by
 subst hD
 subst hC
 have hCs:s.heap.objs.size<=s.heap.objs.size+1:=Nat.le_succ _
 have ok:=Y3 (C:=s.heap.objs.size+1) S hsc hcl I hCs hf hfs
 have fromX:∀ x c,cl.lookup x=some c->X.env.cells.lookup x=some c/\(x,NameKind.free)∈scope.names:=fun x c e=>by
  rw [hcl x] at e
  by_cases hm:(x,NameKind.free)∈scope.names
  ·rw [if_pos hm] at e;exact ⟨e,hm⟩
  ·rw [if_neg hm] at e;cases e
 have fr:∀ a,s.heap.objs.size<=a->H a=none:=fun a ha=>I.hok.fresh ha
 have newD:jW X.prog X.w (upd H s.heap.objs.size (.lst [])) h1 s.heap.objs.size (.lst []):=⟨Nat.zero_le _,[],0,.nil,eD⟩
 have cellK:∀ x c,X.env.cells.lookup x=some c->∀ v,s.heap.IsCell c v->h1.IsCell c v:=fun x c _ v ⟨o,ho,hd⟩=>⟨o,k c o ho,hd⟩
 refine ⟨ok,rfl,I.bare,Un.laid k (Nat.le_refl _) (fr _ (Nat.le_refl _)),⟨_,hn,fun i x v e1 e2 e3=>?_⟩,fun x c e=>?_,?_,fun x c e=>?_,fun p hp=>absurd (show p∈([]:List (Addr×Obj)) from hp) (by simp),I.hok.laid k (Nat.le_refl _) newD,?_⟩
 ·-- the captured names
  have e1':N[i]? = some x:=e1
  have hi:own<=i:=by
   by_cases hi:own<=i
   ·exact hi
   ·unfold yD at e2
    rw [List.getElem?_append_left (by simp;omega),List.getElem?_replicate] at e2
    split at e2 <;> cases e2
  obtain ⟨j',rfl⟩:∃ j',i=own+j':=⟨i-own,by omega⟩
  have e2':(caps.map fun j=>(σ[j]?).getD none)[j']? = some (some v):=by
   unfold yD at e2
   rw [List.getElem?_append_right (by simp)] at e2
   simpa using e2
  rw [List.getElem?_map] at e2'
  cases hj:caps[j']? with
  | none=>rw [hj] at e2';cases e2'
  | some j =>
   rw [hj] at e2'
   have e3':(σ[j]?).getD none=some v:=Option.some.inj e2'
   have e4:σ[j]? = some (some v):=by
    cases q:σ[j]? with
    | none=>rw [q] at e3';cases e3'
    | some z=>rw [q] at e3';exact congrArg some e3'
   have hz:(x,j)∈(N.drop own).zip caps:=by
    refine List.mem_of_getElem? (i:=j') ?_
    rw [List.getElem?_zip_eq_some]
    exact ⟨by rw [List.getElem?_drop];exact e1',hj⟩
   obtain ⟨c1,c2⟩:=S.cap _ hz
   obtain ⟨_,hk⟩:=S.fre _ c2 rfl
   have hkX:X.env.kindOf x=some .cell\/X.env.kindOf x=some .free:=by unfold Env.kindOf;rw [hsc];exact hk
   obtain ⟨m,hm,hl⟩:=I.loc
   obtain ⟨u,ru,l⟩:=hl j x v (by rw [hN];exact c1) e4 (by
    rcases hkX with z | z
    ·exact .inr (.inl z)
    ·exact .inr (.inr z))
   refine ⟨u,ru,?_⟩
   rcases l with ⟨l1,_⟩ | ⟨_,c,lc,lv⟩
   ·rcases hkX with z | z
    ·rw [z] at l1;cases l1
    ·rw [z] at l1;cases l1
   ·refine .inr ⟨?_,c,by show cl.lookup x=some c;rw [hcl x,if_pos c2];exact lc,cellK x c lc _ lv⟩
    rcases e3 with z | z
    ·obtain ⟨k',e',d⟩:=zD (env:=X.env) z
     have:=(S.fre _ c2 rfl).1
     rw [e'] at this
     cases this
     rcases d with d | d
     ·cases d
     ·cases d.2
    ·exact z
 ·obtain ⟨v,z⟩:=I.cell x c (fromX x c e).1
  exact ⟨v,cellK x c (fromX x c e).1 v z⟩
 ·show upd H s.heap.objs.size (.lst []) (s.heap.objs.size+1)=none
  rw [j5 (Nat.ne_of_gt (Nat.lt_succ_self _))]
  exact fr _ hCs
 ·have e':=(fromX x c e).1
  obtain ⟨v,z⟩:=I.cell x c e'
  rw [j5 (Nat.ne_of_lt z.lt)]
  exact I.freeC x c e'
 ·unfold yD
  show _=N.length
  rw [List.length_append,List.length_replicate,List.length_map,S.len]
structure BlockAt (X:Cx) (pins:List (Addr×Obj)) (H:Hp) (C:Addr):Prop where
 free:H C=none
 loc:C≠X.env.locals
 new:X.s₀.heap.objs.size<=C
 cell:∀ x c,X.env.cells.lookup x=some c->c≠C
 pin:∀ p∈X.pn++pins,p.1≠C
theorem BlockAt.gone {pins:List (Addr×Obj)}{σ:St}{H:Hp}{C:Addr}{s:Shared}{h':Heap}(B:BlockAt X pins H C) (I:Inv X pins σ H s) (hs:Heap.SameBut C s.heap h'):Inv X pins σ H { s with heap:=h' } :=
 I.turned (t':=s.toks) (fun b o hb e=>(hs.2 b hb).trans e) B.free B.loc (.inr B.new) B.cell B.pin
theorem Jp {osc:Scope}{ON N:List Str}{scope:Scope}{own:Nat}{caps:List Nat}{cl:List (Str×Addr)}{tg elt iter:Expr}{ifs:List Expr}{g:TG}{ti:TT}{te:TE}{pins:List (Addr×Obj)}{σ:St}{H:Hp}{s:Shared}{fp:List Addr}{it:Addr}
  {tn:Nat->Heap->Prop} {J:It} {Q:VK} {RR:Value->Addr->Result->Shared->Prop} {E:Value->Shared->Prop}
  (hc:X.calm=true) (S:CompSc osc ON scope own N caps) (hsc:X.env.scope=osc) (hN:X.N=ON) (hcl:∀ x,cl.lookup x=if (x,NameKind.free)∈scope.names then X.env.cells.lookup x else none)
  (hg:∀ cl C s H ex,PG (X.block scope cl C N s H ex) tg g) (hif:∀ cl C s H ex,J5 (X.block scope cl C N s H ex) ifs ti) (he:∀ cl C s H ex,PE (X.block scope cl C N s H ex) elt te)
  (I:Inv X pins σ H s) (T:Turn X.prog X.w X.K tg J fp it tn) (st:tn 0 s.heap) (hf:∀ b∈fp,uh X pins H b)
  (hw:∀ acc,H acc=none->∃ W:Nat->Nat->St->Hp->Prop,(∃ m,W 0 m (yD own caps σ) (upd H acc (.lst [])))/\∀ i m σ' H',W i m σ' H' ->
   (J.stop i H'/\Q (.ref acc) H')\/(J.go i H'/\∃ NX:St->Hp->Prop,(∀ σ2 H2,NX σ2 H2->∃ m',m'<m/\W (i+1) m' σ2 H2) /\
    ∀ x H2,J.yld i H' x H2->g x σ' H2 fun σ3 H3=>ti σ3 H3 fun ok H4=>if ok=true then te σ3 H4 fun v H5=>∃ ys,H5 acc=some (.lst ys)/\ys.length<sizeLine/\NX σ3 (upd H5 acc (.lst (ys++[v]))) else NX σ3 H4))
  (fin:∀ (D C:Addr) (H':Hp) (s':Shared),Inv X pins σ H' s'->BlockAt X pins H' C->(∃ m,s'.heap.Ns C m)->Q (.ref D) H'->RR (.ref D) C (.ok .next) s') :
  wpAny (model X.prog X.w) X.A (newList []) (fun acc s₃=>wpAny (model X.prog X.w) X.A (newFunctionEnv scope X.env.globals cl [] X.env.qual none .none (some X.env)) (fun cenv s₄ =>
   codeAny (model X.prog X.w) X.A (.compStart (.ListComp elt [⟨tg,iter,ifs,0⟩] scope pos) 0 (.ref it) acc { cenv with scope:=relabel scope X.env }) (RR acc cenv.locals) s₄) E s₃) E s:=by
 have hfs:∀ b∈fp,b<s.heap.objs.size:=fun b hb=>by
  obtain ⟨o,e,_⟩:=T.obj _ _ st b hb
  exact Heap.lt_size e
 refine wpAny_newObj_type (wpAny_newFunctionEnv S.nocell (by intro y hy;simp at hy) (fun h₁ hns₁ hsb₁=>?_) S.kind)
 dsimp only at hns₁ hsb₁ ⊢
 generalize hH2:s.heap.push { cls:=.type "list",dict:=none,data:=.seq ([]:List Value).toArray }=H2 at hns₁ hsb₁ ⊢
 have hCsz:H2.objs.size=s.heap.objs.size+1:=by rw [<- hH2,Heap.size_push]
 have old:∀ b o,s.heap.get? b=some o->h₁.get? b=some o:=fun b o e=>hsb₁.extBut b o (Nat.ne_of_lt (by rw [hCsz];exact Nat.lt_succ_of_lt (Heap.lt_size e))) (Heap.get?_push_of_some _ (hH2 ▸ Heap.get?_push_of_some _ e))
 have eD:h₁.get? s.heap.objs.size=some { cls:=.type "list",data:=.seq #[] }:=hsb₁.extBut _ _ (Nat.ne_of_lt (by omega)) (Heap.get?_push_of_some _ (hH2 ▸ Heap.get?_push_size _ rfl))
 have hDn:H s.heap.objs.size=none:=I.hok.fresh (Nat.le_refl _)
 obtain ⟨W,⟨m0,w0⟩,turn⟩:=hw s.heap.objs.size hDn
 have hns:h₁.Ns H2.objs.size fun _=>none:=hns₁
 have I1:Inv (X.block scope cl H2.objs.size N s H fp) [] (yD own caps σ) (upd H s.heap.objs.size (.lst [])) { s with heap:=h₁,toks:=s.toks+([]:List (Str×Value)).length } :=
  ul S hsc hN hcl I hf hfs rfl hCsz old eD hns _
 have st1:tn 0 h₁:=T.keep 0 _ _ st fun b _ o e=>old b o e
 have fpB:∀ {H':Hp},(∀ b∈fp,H' b=none)->∀ b∈fp,uh (X.block scope cl H2.objs.size N s H fp) [] H' b:=fun {H'} hn b hb=>by
  have ok:=I1.ok
  exact ⟨hn b hb,(ok.exf b hb).1,ok.exfs b hb,.inl hb,(ok.exf b hb).2,fun p hp=>absurd (show p∈([]:List (Addr×Obj)) from hp) (by simp)⟩
 have back:∀ {σ':St} {H':Hp} {s':Shared},Inv (X.block scope cl H2.objs.size N s H fp) [] σ' H' s'->Q (.ref s.heap.objs.size) H'->RR (.ref s.heap.objs.size) H2.objs.size (.ok .next) s':=fun {σ' H' s'} J1 q=>by
  have J2:Inv X pins σ H' s':=I.call' (ch:=fp) J1.os J1.base J1.hok J1.bare fun b hb=>⟨(hf b hb).2.2.2.1,(hf b hb).2.1,(hf b hb).2.2.2.2.1,(hf b hb).2.2.2.2.2⟩
  obtain ⟨m,hm,_⟩:=J1.loc
  refine fin _ _ H' s' J2 ⟨J1.free,Nat.ne_of_gt (Nat.lt_of_lt_of_le I.lt (by omega)),Nat.le_trans I.sz (by omega),fun x c e z=>?_,fun p hp z=>?_⟩ ⟨m,hm⟩ q
  ·obtain ⟨v,y⟩:=I.cell x c e
   have h1:H2.objs.size<s.heap.objs.size:=z ▸ y.lt
   exact absurd h1 (by omega)
  ·have h1:H2.objs.size<s.heap.objs.size:=z ▸ Heap.lt_size (I.pin p hp).1
   exact absurd h1 (by omega)
 have loop:∀ s₃:Shared,s₃={ s with heap:=h₁,toks:=s.toks+([]:List (Str×Value)).length } ->
   codeAny (model X.prog X.w) X.A (.compLoop (.ListComp elt [⟨tg,iter,ifs,0⟩] scope pos) 0 (.ref it) (.ref s.heap.objs.size) (compEnvC scope cl H2.objs.size X.env)) (RR (.ref s.heap.objs.size) H2.objs.size) s₃:=by
  rintro s₃ rfl
  refine JX (fun n s'=>∃ i σ' H',Inv (X.block scope cl H2.objs.size N s H fp) [] σ' H' s'/\tn i s'.heap/\(∀ b∈fp,H' b=none)/\W i n σ' H') ?_ m0
   ⟨0,_,_,I1,st1,fun b hb=>by rw [j5 (Nat.ne_of_lt (hfs b hb))];exact (hf b hb).1,w0⟩
  rintro n s3 ⟨i,σ3,H3,I3,st3,fr3,w3⟩
  rcases turn i n σ3 H3 w3 with ⟨stop,qn⟩ | ⟨go,NX,hNX,step⟩
  ·refine thn (T.done (X.block scope cl H2.objs.size N s H fp) rfl rfl rfl hc i [] s3 σ3 H3 _ I3 (fpB fr3) st3 stop) fun r s4 ⟨hr,I4⟩=>?_
   subst hr
   exact back I4 qn
  ·refine thn (T.item (X.block scope cl H2.objs.size N s H fp) rfl rfl rfl hc i [] s3 σ3 H3 _ I3 (fpB fr3) st3 go) fun r s4 ⟨u,hr,h4⟩=>?_
   subst hr
   refine thn h4 fun _ s5 ⟨x,H5,I5,r5,y5,st5,fr5⟩=>?_
   have I5':=I5.pinned (fpB fr5) (T.obj _ _ st5)
   refine thn (hg cl H2.objs.size s H fp _ s5 σ3 H5 x u _ I5' r5 (step x H5 y5)) fun _ s6 ⟨σ6,H6,I6,q6⟩=>?_
   refine thn (hif cl H2.objs.size s H fp _ s6 σ6 H6 _ I6 q6) fun ok s7 ⟨H7,I7,q7⟩=>?_
   have again:∀ {s8:Shared} {σ8:St} {H8:Hp},Inv (X.block scope cl H2.objs.size N s H fp) ([]++xO fp s5.heap) σ8 H8 s8->NX σ8 H8->∃ m,m<n/\∃ i σ' H',Inv (X.block scope cl H2.objs.size N s H fp) [] σ' H' s8/\tn i s8.heap/\(∀ b∈fp,H' b=none)/\W i m σ' H':=fun {s8 σ8 H8} I8 n8=>by
    obtain ⟨m',hm,w8⟩:=hNX σ8 H8 n8
    refine ⟨m',hm,i+1,σ8,H8,I8.unpinned,T.keep _ _ _ st5 fun b hb o e=>(I8.pin (b,o) (List.mem_append_right _ (List.mem_append_right _ (qB hb e)))).1,fun b hb=>?_,w8⟩
    obtain ⟨o,e,d⟩:=T.obj _ _ st5 b hb
    exact (I8.pin (b,o) (List.mem_append_right _ (List.mem_append_right _ (qB hb e)))).2.1
   cases ok with
   | false =>
    rw [if_neg Bool.false_ne_true] at q7 ⊢
    exact again I7 q7
   | true =>
    rw [if_pos rfl] at q7 ⊢
    refine thn (he cl H2.objs.size s H fp _ s7 σ6 H7 _ I7 q7) fun v s8 ⟨y,H8,I8,r8,ys,e8,z8,q8⟩=>?_
    refine thn (qK _ s8 σ6 H8 (.ref s.heap.objs.size) [y] _ [v] (fun _ H9=>NX σ6 H9) I8 rfl (.cons r8 .nil) ⟨_,ys,y,rfl,rfl,e8,z8,q8⟩) fun _ s9 ⟨_,H9,I9,_,q9⟩=>?_
    exact again I9 q9
 exact codeAny_compStart_list (loop _ rfl) (T.self _ 0 _ _ _ st1 (loop _ rfl))
theorem Qj {osc:Scope}{ON N:List Str}{scope:Scope}{own:Nat}{caps:List Nat}{pins:List (Addr×Obj)}{σ:St}{H:Hp}{s:Shared}(S:CompSc osc ON scope own N caps) (hsc:X.env.scope=osc) (I:Inv X pins σ H s) :
  ∀ x∈scope.names,x.2 = .free->∃ c,X.env.cells.lookup x.1=some c:=fun x hx hk=>I.ok.has x.1 (by unfold Env.kindOf;rw [hsc];exact (S.fre x hx hk).2)
theorem jC {osc:Scope}{ON N:List Str}{scope:Scope}{own:Nat}{caps:List Nat}{tg elt iter:Expr}{ifs:List Expr}{wi:TI}{g:TG}{ti:TT}{te:TE}(S:CompSc osc ON scope own N caps)
  (hc:X.calm=true) (hsc:X.env.scope=osc) (hN:X.N=ON) (hi:PI X tg iter wi)
  (hg:∀ cl C s H ex,PG (X.block scope cl C N s H ex) tg g) (hif:∀ cl C s H ex,J5 (X.block scope cl C N s H ex) ifs ti) (he:∀ cl C s H ex,PE (X.block scope cl C N s H ex) elt te)
  (hs:∀ x,foldedSetIterable iter X.env x=pure x:=by intro _;rfl):PE X (.ListComp elt [⟨tg,iter,ifs,0⟩] scope pos) (Vn own caps wi g ti te):=by
 intro pins s σ H Q I h
 obtain ⟨cl,hclos,hcl⟩:=yW (Qj S hsc I)
 rw [eval_ListComp]
 refine wpAny_comprehension_free (use:=none) rfl hs hclos S.kind S.loc (thn (hi pins s σ H _ I h) fun v s1 h1=>thn h1 fun itv s2 h2=>?_)
 obtain ⟨it,fp,tn,J,H2,e,I2,T,st2,f2,hw⟩:=h2
 subst e
 refine Jp (RR:=fun acc C=>compPost (model X.prog X.w) X.A X.xe none (EP X pins σ Q) acc C) hc S hsc hN hcl hg hif he I2 T st2 f2 hw fun D C H' s' J1 B ⟨m,hm⟩ q=>?_
 exact ⟨m,hm,fun h' hs'=>⟨.ref D,H',B.gone J1 hs',rfl,q⟩⟩
theorem zH {osc:Scope}{ON N:List Str}{scope:Scope}{own:Nat}{caps:List Nat}{tg elt iter:Expr}{ifs:List Expr}{wi:TI}{g:TG}{ti:TT}{te:TE}{j:Nat}{y:Str}{py spos:Pos}(S:CompSc osc ON scope own N caps)
  (hnd:X.N.Nodup) (hj:X.N[j]? = some y) (hy:Loc X.env.scope y)
  (hc:X.calm=true) (hsc:X.env.scope=osc) (hN:X.N=ON) (hi:PI X tg iter wi)
  (hg:∀ cl C s H ex,PG (X.block scope cl C N s H ex) tg g) (hif:∀ cl C s H ex,J5 (X.block scope cl C N s H ex) ifs ti) (he:∀ cl C s H ex,PE (X.block scope cl C N s H ex) elt te)
  (hsw:swapsWith (.ListComp elt [⟨tg,iter,ifs,0⟩] scope pos) (some (.Name y py)) spos.line X.env=pure true:=by rfl)
  (hf:X.fn y=true\/X.env.scope.names.lookup y=some .local:=by first | exact .inl rfl | exact .inr rfl | assumption)
  (hs:∀ x,foldedSetIterable iter X.env x=pure x:=by intro _;rfl):PS X (.Assign [.Name y py] (.ListComp elt [⟨tg,iter,ifs,0⟩] scope pos) spos) (VE (Vn own caps wi g ti te) (JU j)):=by
 intro pins s σ H D0 I h
 obtain ⟨cl,hclos,hcl⟩:=yW (Qj S hsc I)
 rw [exec_Assign_Name_used _ _ _ _ hsw]
 refine wpAny_bind (wpAny_standAt (wpAny_bind ?_))
 show wpAny _ X.A (do let _ <- comprehension (.ListComp elt [⟨tg,iter,ifs,0⟩] scope pos) scope X.env _ (newList []) false (eval iter X.env) (some (assign (.Name y py) X.env))) _ _ s
 refine wpAny_bind (wpAny_mono (wpAny_comprehension_free (use:=some (assign (.Name y py) X.env)) (Q:=fun _ s'=>SP X pins D0 .next s') rfl hs hclos S.kind S.loc
  (thn (hi pins s σ H _ I h) fun v s1 h1=>thn h1 fun itv s2 h2=>?_)) (fun _ s' hq=>wpAny_pure (wpAny_pure hq)) fun _ _ e=>e)
 obtain ⟨it,fp,tn,J,H2,e,I2,T,st2,f2,hw⟩:=h2
 subst e
 refine Jp (Q:=fun v H'=>D0.nx (σ.set j (some v)) H') (RR:=fun acc C=>compPost (model X.prog X.w) X.A X.xe (some (assign (.Name y py) X.env)) (fun _ s'=>SP X pins D0 .next s') acc C) hc S hsc hN hcl hg hif he I2 T st2 f2 hw fun D C H' s' J1 B ⟨m,hm⟩ q=>?_
 show wpAny _ X.A (assign (.Name y py) X.env (.ref D)) _ _ s'
 refine wpAny_assign_Name (kD (v:=V.ref D) J1 hnd hj hy rfl (fun s2 J2 ⟨a,hsame,ha⟩=>?_) hf)
 have hCa:C≠a:=by
  rcases ha with z | z
  ·rw [z];exact B.loc
  ·exact fun z2=>B.cell y a z z2.symm
 exact ⟨m,hm.sameBut hsame hCa,fun h' hs'=>⟨_,H',B.gone J2 hs',q⟩⟩
end
theorem jI {K:PySem.W.Frag}{a acc:Addr}{xs:List V}{g:TG}{ti:TT}{te:TE}{R:Hp->Prop}{σ:St}{H:Hp}(Pv:Nat->St->Hp->Prop) (h0:Pv 0 σ H) (hl:∀ i σ H,i<=xs.length->Pv i σ H->SqL K H a xs)
  (hs:∀ i x σ H,xs[i]? = some x->Pv i σ H->g x σ H fun σ3 H3=>ti σ3 H3 fun ok H4=>if ok=true then te σ3 H4 fun v H5=>∃ ys,H5 acc=some (.lst ys)/\ys.length<sizeLine/\Pv (i+1) σ3 (upd H5 acc (.lst (ys++[v]))) else Pv (i+1) σ3 H4)
  (hd:∀ σ H,Pv xs.length σ H->R H) :
  ∃ W:Nat->Nat->St->Hp->Prop,(∃ m,W 0 m σ H)/\∀ i m σ' H',W i m σ' H' ->
   ((Itl K a).stop i H'/\R H')\/((Itl K a).go i H'/\∃ NX:St->Hp->Prop,(∀ σ2 H2,NX σ2 H2->∃ m',m'<m/\W (i+1) m' σ2 H2) /\
    ∀ x H2,(Itl K a).yld i H' x H2->g x σ' H2 fun σ3 H3=>ti σ3 H3 fun ok H4=>if ok=true then te σ3 H4 fun v H5=>∃ ys,H5 acc=some (.lst ys)/\ys.length<sizeLine/\NX σ3 (upd H5 acc (.lst (ys++[v]))) else NX σ3 H4):=by
 refine ⟨fun i m σ H=>m=xs.length-i/\i<=xs.length/\Pv i σ H,⟨xs.length,by simp,Nat.zero_le _,h0⟩,?_⟩
 rintro i m σ H ⟨rfl,hi,p⟩
 have q:=hl i σ H hi p
 by_cases hlt:i<xs.length
 ·refine .inr ⟨⟨xs,xs[i],q,by simp [hlt]⟩,Pv (i+1),fun σ' H' p'=>⟨xs.length-(i+1),by omega,rfl,hlt,p'⟩,fun x H' y=>?_⟩
  obtain ⟨e,y⟩:=y
  subst e
  exact hs i x σ _ (y xs q) p
 ·have e:i=xs.length:=by omega
  subst e
  exact .inl ⟨⟨xs,q,Nat.le_refl _⟩,hd σ H p⟩
theorem Jf {K:PySem.W.Frag}{a acc:Addr}{xs:List V}{g:TG}{ti:TT}{te:TE}{R:Hp->Prop}{σ:St}{H:Hp}(Pv:Nat->St->Hp->Prop) (h0:Pv 0 σ H) (hl:∀ i σ H,i<=xs.length->Pv i σ H->SqT K H a xs)
  (hs:∀ i x σ H,xs[i]? = some x->Pv i σ H->g x σ H fun σ3 H3=>ti σ3 H3 fun ok H4=>if ok=true then te σ3 H4 fun v H5=>∃ ys,H5 acc=some (.lst ys)/\ys.length<sizeLine/\Pv (i+1) σ3 (upd H5 acc (.lst (ys++[v]))) else Pv (i+1) σ3 H4)
  (hd:∀ σ H,Pv xs.length σ H->R H) :
  ∃ W:Nat->Nat->St->Hp->Prop,(∃ m,W 0 m σ H)/\∀ i m σ' H',W i m σ' H' ->
   ((Itt K a).stop i H'/\R H')\/((Itt K a).go i H'/\∃ NX:St->Hp->Prop,(∀ σ2 H2,NX σ2 H2->∃ m',m'<m/\W (i+1) m' σ2 H2) /\
    ∀ x H2,(Itt K a).yld i H' x H2->g x σ' H2 fun σ3 H3=>ti σ3 H3 fun ok H4=>if ok=true then te σ3 H4 fun v H5=>∃ ys,H5 acc=some (.lst ys)/\ys.length<sizeLine/\NX σ3 (upd H5 acc (.lst (ys++[v]))) else NX σ3 H4):=by
 refine ⟨fun i m σ H=>m=xs.length-i/\i<=xs.length/\Pv i σ H,⟨xs.length,by simp,Nat.zero_le _,h0⟩,?_⟩
 rintro i m σ H ⟨rfl,hi,p⟩
 have q:=hl i σ H hi p
 by_cases hlt:i<xs.length
 ·refine .inr ⟨⟨xs,xs[i],q,by simp [hlt]⟩,Pv (i+1),fun σ' H' p'=>⟨xs.length-(i+1),by omega,rfl,hlt,p'⟩,fun x H' y=>?_⟩
  obtain ⟨e,y⟩:=y
  subst e
  exact hs i x σ _ (y xs q) p
 ·have e:i=xs.length:=by omega
  subst e
  exact .inl ⟨⟨xs,q,Nat.le_refl _⟩,hd σ H p⟩
theorem qf {lo:Int}{n:Nat}{acc:Addr}{g:TG}{ti:TT}{te:TE}{R:Hp->Prop}{σ:St}{H:Hp}(Pv:Nat->St->Hp->Prop) (h0:Pv 0 σ H)
  (hs:∀ i σ H,i<n->Pv i σ H->g (.int (lo+i)) σ H fun σ3 H3=>ti σ3 H3 fun ok H4=>if ok=true then te σ3 H4 fun v H5=>∃ ys,H5 acc=some (.lst ys)/\ys.length<sizeLine/\Pv (i+1) σ3 (upd H5 acc (.lst (ys++[v]))) else Pv (i+1) σ3 H4)
  (hd:∀ σ H,Pv n σ H->R H) :
  ∃ W:Nat->Nat->St->Hp->Prop,(∃ m,W 0 m σ H)/\∀ i m σ' H',W i m σ' H' ->
   ((Itr lo n).stop i H'/\R H')\/((Itr lo n).go i H'/\∃ NX:St->Hp->Prop,(∀ σ2 H2,NX σ2 H2->∃ m',m'<m/\W (i+1) m' σ2 H2) /\
    ∀ x H2,(Itr lo n).yld i H' x H2->g x σ' H2 fun σ3 H3=>ti σ3 H3 fun ok H4=>if ok=true then te σ3 H4 fun v H5=>∃ ys,H5 acc=some (.lst ys)/\ys.length<sizeLine/\NX σ3 (upd H5 acc (.lst (ys++[v]))) else NX σ3 H4):=by
 refine ⟨fun i m σ H=>m=n-i/\i<=n/\Pv i σ H,⟨n,by simp,Nat.zero_le _,h0⟩,?_⟩
 rintro i m σ H ⟨rfl,hi,p⟩
 by_cases hlt:i<n
 ·refine .inr ⟨hlt,Pv (i+1),fun σ' H' p'=>⟨n-(i+1),by omega,rfl,hlt,p'⟩,fun x H' y=>?_⟩
  obtain ⟨e,y⟩:=y
  subst e y
  exact hs i σ _ hlt p
 ·have e:i=n:=by omega
  subst e
  exact .inl ⟨Nat.le_refl _,hd σ H p⟩
end L2
end
section
namespace L2
open PySem PySem.Spec PyProof.Rows
structure Cal (P:Program) (w:World) (K:PySem.W.Frag) (mg:Str->Option Value) (base:Heap) (k:Nat) (x:Str) (ps:List Str) (sp:Sp):Prop where
 ex:∃ f fd,FnOk P w K mg base CX0 k f fd ps sp/\zr K fd ps []/\mg x=some (.ref f)/\PySem.W.keepIn K (.ref f)=true
theorem je {X:Cx}{k:Nat}{x:Str}{ps:List Str}{sp:Sp}{e:Expr}{es:List Expr}{t:TA}{p pos:Pos}(c:Cal X.prog X.w X.K X.mg X.base k x ps sp) (hr:Room k X.A) (hg:Gl X x) (ha:PA X (e::es) t)
  (hdb:(x == ("__debug__" : Str))=false:=by decide) (he:starEach (e::es) X.env=(false,eval e X.env)::starEach es X.env:=by rfl) (hpl:(backTo pos (starEach es X.env)).any (·.1)=false:=by rfl) :
  PE X (.Call (.Name x p) (e::es) [] pos) (Vp sp [] E0 t):=by
 obtain ⟨f,fd,F,hb,hm,hk⟩:=c.ex
 exact YG F hr hg hm hk hb .nil Yi ha hdb he hpl
theorem Cal.mk' {P:Program}{w:World}{K:PySem.W.Frag}{mg:Str->Option Value}{base:Heap}{k:Nat}{x:Str}{ps:List Str}{sp:Sp}{st:Stmt}{h:Heap}{f:Addr}{oc:Value}{od an:Option Addr}{osl:Array (Option Value)}{kV doc pm cdv ct:Value}
  (X:K.In h) (G:h.Ns mainGlobals mg) (a:PySem.W.nsIn K mainGlobals x=some (some (.ref f)))
  (l:K.lookup f=some ⟨oc,od,.func (PySem.W.fnOf x x (jN st) (jF st) (j6 st) .none kV doc pm an cdv ct),osl⟩) (c:PySem.W.codeIn K cdv x=true) (k':PySem.W.keepIn K (.ref f)=true)
  (hb:∀ (kV doc pm:Value) (an:Option Addr) (cdv ct:Value) (us:List Value),us.length=ps.length->bindArgs (PySem.W.fnOf x x (jN st) (jF st) (j6 st) .none kV doc pm an cdv ct) ⟨us,[]⟩=pure (ps.zip us))
  (ok:∀ {f:Addr} {fd:FuncData},Fun K x x st f fd->FnOk P w K mg base CX0 k f fd ps sp):Cal P w K mg base k x ps sp:=by
 have F:=yR (st:=st) l c k'
 exact ⟨f,_,ok F,F.binds hb,PySem.W.mg_of X G a,k'⟩
section
variable {X:Cx}
theorem Jc:qy X (.builtin "isinstance") (fun xs H Q=>∃ x n t b,xs=[x,.ty n]/\TyOf X.K H x t/\PySem.W.kitOne X.K t (.type n)=some b/\Q (.bl b) H):=by
 intro pins s σ H xs us Q I r h
 obtain ⟨x,n,t,b,rfl,ty,e,q⟩:=h
 obtain ⟨u,w',rfl,r1,r2⟩:=X0 r
 cases (show w'=Value.type n from r2)
 exact XC I r1 ty e fun tk=>⟨.bl b,H,I.tok tk,rfl,q⟩
def JQ (i j:Int):Prop:=0<j/\j<2 ^ 200
theorem zt:OpR X (binaryOp .FloorDiv) (rI JQ fun i j=>.int (i / j)):=opI fun i j _ _ _ _ _ hc q=>by
 have h1:(0:Int)<j:=hc.1
 have h2:j<2 ^ 200:=hc.2
 refine floordiv_int (by omega) (by rw [Int.fdiv_eq_ediv_of_nonneg i (by omega)];exact q) (.inl (PyProof.noPylong_of_log2 ?_))
 have h3:j.natAbs<2 ^ 200:=by omega
 have h4:j.natAbs≠0:=by omega
 have:=(Nat.log2_lt h4).mpr h3
 omega
theorem Zs (hc:X.calm=true):qy X (.builtin "all") (fun xs H Q=>∃ (p:Addr) (bs:List Bool),xs=[.ref p]/\SqL X.K H p (bs.map V.bl)/\Q (.bl (bs.all fun b=>b)) H):=by
 intro pins s σ H xs us Q I r h
 obtain ⟨p,bs,rfl,hq,q⟩:=h
 obtain ⟨u,rfl,ru⟩:=xX r
 cases ru
 obtain ⟨its,rv,pl,hz⟩:=I.list hq
 have hne:p≠s.heap.objs.size:=by
  obtain ⟨o,n,e,_⟩:=id pl
  exact Nat.ne_of_lt (Heap.lt_size e)
 have hlen:its.length=bs.length:=by rw [<- rv.length,List.length_map]
 have itsAt:∀ i v,its[i]? = some v->∃ b,bs[i]? = some b/\v=Value.bool b:=fun i v e=>by
  have hi:i<its.length:=(List.getElem?_eq_some_iff.mp e).1
  have hb:(bs.map V.bl)[i]? = some (V.bl (bs[i]'(by omega))):=by rw [List.getElem?_map,List.getElem?_eq_getElem (by omega)];rfl
  obtain ⟨u,h1,h2⟩:=rv.get hb
  rw [e] at h1
  cases h1
  exact ⟨bs[i]'(by omega),List.getElem?_eq_getElem (by omega),h2⟩
 refine call_all_walk (wpAny_pyIter_list pl.isList ?_)
 refine ⟨s.heap.objs.size,_,_,_,_,_,fun i=>bs.getD i true,rfl,Walks.list (show (X.A.in1).handled=none from I.ok.hd hc) s.heap.objs.size p hne its.toArray,⟨⟨_,Heap.get?_push_size _ rfl,rfl,rfl⟩,pl.isList.at fun o e=>Heap.get?_push_of_some _ e⟩,?_,?_⟩
 ·intro i v s' Q' E' hP hQ
  obtain ⟨b,hb,rfl⟩:=itsAt i v (by simpa using hP)
  have e:bs.getD i true=b:=by rw [List.getD_eq_getElem?_getD,hb];rfl
  have hQ:Q' (bs.getD i true) s':=hQ
  rw [e] at hQ
  exact wpAny_truthy_bool hQ
 ·intro h' tk hk
  have e:((List.range its.toArray.size).all fun i=>bs.getD i true)=bs.all fun b=>b:=by
   rw [List.size_toArray,hlen,Bool.eq_iff_iff,List.all_eq_true,List.all_eq_true]
   constructor
   ·intro z b hb
    obtain ⟨i,hi,rfl⟩:=List.mem_iff_getElem.mp hb
    have:=z i (List.mem_range.mpr hi)
    rw [List.getD_eq_getElem?_getD,List.getElem?_eq_getElem hi] at this
    exact this
   ·intro z i hi
    have hi':=List.mem_range.mp hi
    rw [List.getD_eq_getElem?_getD,List.getElem?_eq_getElem hi']
    exact z _ (List.getElem_mem hi')
  rw [e]
  refine ⟨.bl _,H,I.kept (t':=tk) fun b o eo=>hk b o (by
   intro z
   have:=List.mem_singleton.mp z
   subst this
   exact absurd (Heap.lt_size eo) (Nat.lt_irrefl _)) (Heap.get?_push_of_some _ eo),rfl,q⟩
end
def kitT (a b:String):Option Bool:=if (Value.type a == Value.type b)=true then some true else if PySem.W.kitMeta b=true then (fastBuiltinMro a).map (·.contains (.type b)) else none
theorem jQ (K:PySem.W.Frag) (a b:String):PySem.W.kitOne K (.type a) (.type b)=kitT a b:=rfl
theorem uw (K:PySem.W.Frag):PySem.W.kitOne K (.type "int") (.type "bool")=some false:=(jQ K _ _).trans (by decide +kernel)
theorem wO (K:PySem.W.Frag):PySem.W.kitOne K (.type "int") (.type "int")=some true:=(jQ K _ _).trans (by decide +kernel)
theorem vd (K:PySem.W.Frag):PySem.W.kitOne K (.type "bool") (.type "bool")=some true:=(jQ K _ _).trans (by decide +kernel)
theorem gj (K:PySem.W.Frag):PySem.W.kitOne K (.type "list") (.type "bool")=some false:=(jQ K _ _).trans (by decide +kernel)
theorem JV (K:PySem.W.Frag):PySem.W.kitOne K (.type "list") (.type "int")=some false:=(jQ K _ _).trans (by decide +kernel)
theorem JT (K:PySem.W.Frag):PySem.W.kitOne K (.type "list") (.type "str")=some false:=(jQ K _ _).trans (by decide +kernel)
theorem vm (K:PySem.W.Frag):PySem.W.kitOne K (.type "list") (.type "list")=some true:=(jQ K _ _).trans (by decide +kernel)
theorem yz (K:PySem.W.Frag):PySem.W.kitOne K (.type "list") (.type "tuple")=some false:=(jQ K _ _).trans (by decide +kernel)
theorem k7 (K:PySem.W.Frag):PySem.W.kitOne K (.type "tuple") (.type "bool")=some false:=(jQ K _ _).trans (by decide +kernel)
theorem gA (K:PySem.W.Frag):PySem.W.kitOne K (.type "tuple") (.type "int")=some false:=(jQ K _ _).trans (by decide +kernel)
theorem hE (K:PySem.W.Frag):PySem.W.kitOne K (.type "tuple") (.type "str")=some false:=(jQ K _ _).trans (by decide +kernel)
theorem yF (K:PySem.W.Frag):PySem.W.kitOne K (.type "tuple") (.type "list")=some false:=(jQ K _ _).trans (by decide +kernel)
theorem yl (K:PySem.W.Frag):PySem.W.kitOne K (.type "tuple") (.type "tuple")=some true:=(jQ K _ _).trans (by decide +kernel)
def Ext (b:Addr) (H H':Hp):Prop:=∀ c o,H c=some o->c≠b->H' c=some o
theorem Ext.refl {b:Addr}{H:Hp}:Ext b H H:=fun _ _ h _=>h
theorem Ext.trans {b:Addr}{H H1 H2:Hp}(x:Ext b H H1) (y:Ext b H1 H2):Ext b H H2:=fun c o h n=>y c o (x c o h n) n
theorem Ext.of_same {b:Addr}{H H':Hp}(x:jh H H'):Ext b H H':=fun c o h _=>x c o h
theorem Ext.put {b:Addr}{H:Hp}{o:HO}:Ext b H (upd H b o):=fun c _ h n=>by rw [j5 n];exact h
theorem jh.new {H:Hp}{p:Addr}{o:HO}(n:H p=none):jh H (upd H p o):=fun c u h=>by rw [j5 (j1 h n)];exact h
theorem Ext.new {b:Addr}{H:Hp}{p:Addr}{o:HO}(n:H p=none):Ext b H (upd H p o):=Ext.of_same (jh.new n)
theorem Ext.free {b:Addr}{H H':Hp}(x:Ext b H H') {p:Addr}(h:H' p=none) (n:p≠b):H p=none:=by
 cases q:H p with
 | none=>rfl
 | some o=>rw [x p o q n] at h;cases h
end L2
end
section
namespace L2
open PySem PySem.Spec PyProof.Rows
section
variable {X:Cx}
theorem jd (K:PySem.W.Frag) (h:X.K=K:=by rfl):IxR X (VI K):=by subst h;exact YT
theorem qt (K:PySem.W.Frag) (h:X.K=K:=by rfl):IxR X (VW K):=by subst h;exact VT
theorem jg (K:PySem.W.Frag) (h:X.K=K:=by rfl):qy X (.builtin "len") (fun xs H Q=>∃ p ys,xs=[.ref p]/\(SqL K H p ys\/SqT K H p ys)/\Q (.int ys.length) H):=by subst h;exact kZ
theorem Qb (K:PySem.W.Frag) (h:X.K=K:=by rfl):OpR X (compareOp .In) (rIn K false):=by subst h;exact XR
theorem zk (K:PySem.W.Frag) (h:X.K=K:=by rfl):OpR X (compareOp .NotIn) (rIn K true):=by subst h;exact gv
theorem jG (K:PySem.W.Frag) (h:X.K=K:=by rfl):qy X (.builtin "isinstance") (fun xs H Q=>∃ x n t b,xs=[x,.ty n]/\TyOf K H x t/\PySem.W.kitOne K t (.type n)=some b/\Q (.bl b) H):=by subst h;exact Jc
theorem zA (K:PySem.W.Frag) (hc:X.calm=true) (h:X.K=K:=by rfl):qy X (.builtin "all") (fun xs H Q=>∃ (p:Addr) (bs:List Bool),xs=[.ref p]/\SqL K H p (bs.map V.bl)/\Q (.bl (bs.all fun b=>b)) H):=by subst h;exact Zs hc
theorem jL {tg l:Expr}{tl:TE}(K:PySem.W.Frag) (hl:PE X l tl) (h:X.K=K:=by rfl):PI X tg l (Vm K tl):=by subst h;exact V1 hl
theorem vD {tg l:Expr}{tl:TE}(K:PySem.W.Frag) (hl:PE X l tl) (h:X.K=K:=by rfl):PI X tg l (Wh K tl):=by subst h;exact VB hl
theorem qL {es:List Expr}{k:Nat}{t:TGs}{n:Nat}{pos:Pos}(K:PySem.W.Frag) (hc:X.calm=true) (h:PGs X es t)
  (hn:(assignEach es X.env).length=n:=by rfl) (hst:(assignEach es X.env).findIdx? (·.1)=none:=by rfl) (hK:X.K=K:=by rfl):PG X (.Tuple es k pos) (Wg K n t):=by subst hK;exact Ui hc h hn hst
theorem yJ {T id:String}{name:Str}{r:V->List V->Hp->VK->Prop}{o e:Expr}{es:List Expr}{to:TE}{t:TA}{apos cpos:Pos}(K:PySem.W.Frag) (pa:PlainAttrs T) (slot:Slot T name id) (hty:typeOf (.builtin id)=pure (.type "method_descriptor")) (hm:MtR X id r) (ho:PE X o to) (ha:PA X (e::es) t)
  (hbase:attributeBase o name X.env (eval o X.env)=eval o X.env:=by rfl)
  (hfew:((backTo cpos (starEach (e::es) X.env)).all (fun x=>!x.1) && (backToKw cpos (keywordEach [] X.env)).all (fun x=>x.1.isSome)
   && decide ((e::es).length+([]:List Keyword).length+(if ([]:List Keyword).isEmpty then 0 else 1)<30))=true:=by rfl)
  (hline:(apos.endLine == cpos.line)=true:=by rfl) (hs:starEach (e::es) X.env=(false,eval e X.env)::starEach es X.env:=by rfl) (hplain:(backTo cpos (starEach es X.env)).any (·.1)=false:=by rfl) (hK:X.K=K:=by rfl) :
  PE X (.Call (.Attribute o name apos) (e::es) [] cpos) (tBM K T r to t):=by subst hK;exact UK pa slot hty hm ho ha hbase hfew hline hs hplain
end
def New (H:Hp) (o:HO) (Q:VK):Prop:=∀ p H',H p=none->H' p=some o->jh H H'->Q (.ref p) H'
theorem New.at {H:Hp}{o:HO}{Q:VK}(h:New H o Q):∀ p,H p=none->Q (.ref p) (upd H p o):=fun p n=>h p _ n j4 (jh.new n)
section
variable {X:Cx}{es:List Expr}{t:TA}{pos:Pos}
def UG (t:TA):TE:=fun σ H Q=>t σ H fun xs H1=>xs.length<=sizeLine/\New H1 (.tup xs) Q
def UC (t:TA):TE:=fun σ H Q=>t σ H fun xs H1=>xs.length<=sizeLine/\New H1 (.lst xs) Q
theorem xH {x1}(h:PA X es t):PE X (.Tuple es x1 pos) (UG t):=by
 intro pins s σ H Q I hq
 refine wpAny_Tuple_spliced (thn (h pos pins s σ H _ I hq) fun us s1 ⟨xs,H1,I1,r,z,q⟩=>⟨by rw [<- r.length];exact z,?_⟩)
 have hf:H1 s1.heap.objs.size=none:=I1.hok.fresh (Nat.le_refl _)
 refine ⟨.ref s1.heap.objs.size,upd H1 s1.heap.objs.size (.tup xs),I1.laid (t':=s1.toks) (fun b u e=>Heap.get?_push_of_some _ e) (Nat.le_refl _) ?_,rfl,q.at _ hf⟩
 exact ⟨z,us,r,⟨_,Heap.get?_push_size _ rfl,rfl,_,rfl⟩⟩
theorem jT (h:PA X es t):PE X (.List es pos) (UC t):=by
 intro pins s σ H Q I hq
 refine wpAny_List_spliced (thn (h pos pins s σ H _ I hq) fun us s1 ⟨xs,H1,I1,r,z,q⟩=>⟨by rw [<- r.length];exact z,?_⟩)
 have hf:H1 s1.heap.objs.size=none:=I1.hok.fresh (Nat.le_refl _)
 refine ⟨.ref s1.heap.objs.size,upd H1 s1.heap.objs.size (.lst xs),I1.laid (t':=s1.toks) (fun b u e=>Heap.get?_push_of_some _ e) (Nat.le_refl _) ?_,rfl,q.at _ hf⟩
 exact ⟨z,us,0,r,Heap.get?_push_size _ rfl⟩
theorem OpR.weak {f:Value->Value->Sem Value}{r r':R2}(h:OpR X f r) (w:∀ x y H Q,r' x y H Q->r x y H Q):OpR X f r':=fun pins s σ H x y v u Q I rx ry q=>h pins s σ H x y v u Q I rx ry (w _ _ _ _ q)
theorem qy.weak {f:Value}{r r':List V->Hp->VK->Prop}(h:qy X f r) (w:∀ x H Q,r' x H Q->r x H Q):qy X f r':=fun pins s σ H xs us Q I rx q=>h pins s σ H xs us Q I rx (w _ _ _ q)
theorem SlR.weak {r r':V->Option Int->Option Int->Hp->VK->Prop}(h:SlR X r) (w:∀ x lo hi H Q,r' x lo hi H Q->r x lo hi H Q):SlR X r':=fun pins s σ H x v vl vu lo hi sl Q I rx hs pl pu q=>h pins s σ H x v vl vu lo hi sl Q I rx hs pl pu (w _ _ _ _ _ q)
def Wb:R2:=fun x y H Q=>∃ l b xs zs,x = .ref l/\y = .ref b/\H l=some (.lst xs)/\H b=some (.lst zs)/\xs.length+zs.length<=sizeLine/\New H (.lst (xs++zs)) Q
theorem vk:OpR X (binaryOp .Add) Wb:=VH.weak fun _ _ _ _ ⟨l,b,xs,zs,h1,h2,h3,h4,h5,q⟩=>⟨l,b,xs,zs,h1,h2,h3,h4,h5,q.at⟩
theorem qh (K:PySem.W.Frag) (h:X.K=K:=by rfl):qy X (.type "list") (fun xs H Q=>∃ p ys,xs=[.ref p]/\(SqL K H p ys\/SqT K H p ys)/\New H (.lst ys) Q):=by
 subst h
 exact gX.weak fun _ _ _ ⟨p,ys,h1,h2,q⟩=>⟨p,ys,h1,h2,q.at⟩
theorem yn (K:PySem.W.Frag) (h:X.K=K:=by rfl):SlR X (fun x lo hi H Q=>∃ a xs,x = .ref a/\SqL K H a xs/\New H (.lst (vO xs lo hi)) Q):=by
 subst h
 exact V7.weak fun _ _ _ _ _ ⟨a,xs,h1,h2,q⟩=>⟨a,xs,h1,h2,q.at⟩
end
theorem xm {p A B:Prop} [Decidable p] (h1:p->A) (h2:¬ p->B):if decide p=true then A else B:=by
 by_cases h:p
 ·rw [if_pos (decide_eq_true h)];exact h1 h
 ·rw [if_neg (by rw [decide_eq_false h];exact Bool.false_ne_true)];exact h2 h
theorem zW {p A B:Prop} [Decidable p] (h1:¬ p->A) (h2:p->B):if (!decide p)=true then A else B:=by
 by_cases h:p
 ·rw [if_neg (by rw [decide_eq_true h];exact Bool.false_ne_true)];exact h2 h
 ·rw [if_pos (by rw [decide_eq_false h];rfl)];exact h1 h
theorem xk {α:Type}{xs:List α}{i:Int}{v:α}(h0:0<=i) (h:xs[i.toNat]? = some v):atI xs i=some v:=by
 obtain ⟨n,rfl⟩:=Int.eq_ofNat_of_zero_le h0
 exact xW (by simpa using h)
theorem xN {ns:List Int}{i:Int}(h0:0<=i) (h:i<ns.length):∃ z,atI (ns.map V.int) i=some (.int z):=by
 refine ⟨ns[i.toNat]'(by omega),xk h0 ?_⟩
 rw [List.getElem?_map,List.getElem?_eq_getElem (by omega)]
 rfl
theorem yj {ns:List Int}{i:Nat}{y:V}(h:(ns.map V.int)[i]? = some y):∃ z,y=V.int z:=by
 rw [List.getElem?_map] at h
 cases e:ns[i]? with
 | none=>rw [e] at h;cases h
 | some z=>rw [e] at h;exact ⟨z,(Option.some.inj h).symm⟩
def QY:Sp:=fun vs H Q _=>∃ a b:Int,vs=[.int a,.int b]/\∀ r:Int,Q (.int r) H
def QW:Sp:=fun vs H Q _=>∃ i:Int,vs=[.int i]/\Q (.bl true) H
structure Nb (mg:Str->Option Value):Prop where
 b_len:mg "len" = none
 b_range:mg "range" = none
 b_isinstance:mg "isinstance" = none
 b_int:mg "int" = none
 b_bool:mg "bool" = none
 b_str:mg "str" = none
 b_list:mg "list" = none
 b_tuple:mg "tuple" = none
 b_min:mg "min" = none
 b_max:mg "max" = none
 b_all:mg "all" = none
 b_zip:mg "zip" = none
end L2
end
section
namespace L2
open PySem PySem.Spec PyProof.Rows
def Yu (M:Addr->Prop) (H H':Hp):Prop:=∀ c o,H c=some o->¬ M c->H' c=some o
theorem Yu.of_same {M:Addr->Prop}{H H':Hp}(x:jh H H'):Yu M H H':=fun c o h _=>x c o h
section
variable {X:Cx}
end
end L2
end
section
namespace L2
open PySem PySem.Spec PyProof.Rows
def tCut (t u:TS):TS:=fun D σ H=>∃ P:St->Hp->Prop,t { D with nx:=P } σ H/\∀ σ' H',P σ' H'->u D σ' H'
theorem vI {X:Cx}{st:Stmt}{yS:List Stmt}{t u:TS}(h1:PS X st t) (h2:PSs X yS u):PSs X (st::yS) (tCut t u):=by
 intro pins s σ H D I h
 obtain ⟨P,h,hP⟩:=h
 refine wpAny_execs_cons (thn (h1 pins s σ H { D with nx:=P } I h) fun f s1 q=>?_)
 cases f with
 | next =>
  obtain ⟨σ',H',I',q⟩:=q
  exact h2 pins s1 σ' H' D I' (hP _ _ q)
 | ret v=>exact q
 | brk=>exact q
 | cont=>exact q
section
variable {X:Cx}
def U2:R2:=fun x y H Q=>∃ a b xs ys,x = .ref a/\y = .ref b/\H a=some (.tup xs)/\H b=some (.tup ys)/\xs.length+ys.length<=sizeLine /\
 ∀ p H',jh H H'->H' p=some (.tup (xs++ys))->Q (.ref p) H'
theorem ZM:OpR X (binaryOp .Add) U2:=by
 intro pins s σ H x y v u Q I rx ry h
 obtain ⟨a,b,xs,ys,rfl,rfl,ha,hb,hz,q⟩:=h
 by_cases hx:xs=[]
 ·subst hx
  cases rx
  cases ry
  obtain ⟨its,r1,p1,_⟩:=I.tuple (SqT.of ha)
  obtain ⟨its2,r2,p2,_⟩:=I.tuple (SqT.of hb)
  have hi:its=[]:=r1.nil_iff.mpr rfl
  subst hi
  obtain ⟨⟨cls,dd,data,sl⟩,ho,hc,n,hd⟩:=id p1
  obtain ⟨⟨cls2,dd2,data2,sl2⟩,ho2,hc2,n2,hd2⟩:=id p2
  simp only at hc hd hc2 hd2
  subst hc hd hc2 hd2
  exact concat_meets ⟨_,ho,rfl⟩ ⟨_,ho2,rfl⟩ noFill_tuple_add seq_tuple_add PySem.F.slot_tuple_add PySem.F.entry_tuple_add (PySem.F.args_tuple_add_2 _ _)
   (tuple_addW0 a b #[] its2.toArray n n2 dd dd2 sl sl2 (by simp)) ⟨ho,ho2,⟨.ref b,H,I,rfl,q b H (jh.refl H) hb⟩⟩
 ·refine V3 pins s σ H (.ref a) (.ref b) v u Q I rx ry ⟨a,b,xs,ys,rfl,rfl,SqT.of ha,SqT.of hb,hx,hz,fun z=>?_,fun _ p n=>q p _ (jh.new n) j4⟩
  subst z
  exact q a H (jh.refl H) (by rw [List.append_nil];exact ha)
end
def jS (L:Addr) (H:Hp) (b:Addr):Prop:=∃ (ns:List Int) (a r c d:Int),H b=some (.lst [.ref L,.int a,.int r,.int c,.int d])/\L≠b/\H L=some (.lst (ns.map V.int))/\0<=a
theorem jS.same {L:Addr}{H H':Hp}{b:Addr}(B:jS L H b) (s:jh H H'):jS L H' b:=by
 obtain ⟨ns,a,r,c,d,h1,h2,h3,h4⟩:=B
 exact ⟨ns,a,r,c,d,s _ _ h1,h2,s _ _ h3,h4⟩
theorem jS.ext {L:Addr}{H H':Hp}{b acc:Addr}(B:jS L H b) (n:acc≠b) (m:acc≠L) (e:Ext acc H H'):jS L H' b:=by
 obtain ⟨ns,a,r,c,d,h1,h2,h3,h4⟩:=B
 exact ⟨ns,a,r,c,d,e _ _ h1 n.symm,h2,e _ _ h3 m.symm,h4⟩
theorem jS.put {L:Addr}{H:Hp}{b acc:Addr}{o:HO}(B:jS L H b) (n:acc≠b) (m:acc≠L):jS L (upd H acc o) b:=B.ext n m Ext.put
theorem jS.ne {L:Addr}{H:Hp}{b p:Addr}(B:jS L H b) (n:H p=none):p≠b:=by
 obtain ⟨ns,a,r,c,d,h1,h2,h3,h4⟩:=B
 exact (j1 h1 n).symm
theorem jS.neL {L:Addr}{H:Hp}{b p:Addr}(B:jS L H b) (n:H p=none):p≠L:=by
 obtain ⟨ns,a,r,c,d,h1,h2,h3,h4⟩:=B
 exact (j1 h3 n).symm
theorem jS.ne_tup {L:Addr}{H:Hp}{b p:Addr}{xs:List V}(B:jS L H b) (n:H p=some (.tup xs)):p≠b:=by
 obtain ⟨ns,a,r,c,d,h1,h2,h3,h4⟩:=B
 exact jk n h1 (by intro z;cases z)
def xE:Sp:=fun vs H Q _=>∃ (L b:Addr) (n:Int),vs=[.ref b,.int n]/\jS L H b/\(0<n/\n<2 ^ 200)/\∀ (v:Int) (H':Hp),0<=v->v<n->jS L H' b->Ext b H H'->Q (.int v) H'
def Y4 (K:PySem.W.Frag):Sp:=fun vs H Q _=>∃ (a:Addr) (ns:List Int),vs=[.ref a]/\SqL K H a (ns.map V.int)/\∀ (L b:Addr) (H':Hp),H b=none->jS L H' b->jh H H'->Q (.ref b) H'
abbrev T3:=Int×Int×Int
abbrev yb (t:T3):HO:=.tup [.int t.1,.int t.2.1,.int t.2.2]
def Ul (H:Hp) (v:V) (t:T3):Prop:=∃ p,v = .ref p/\H p=some (yb t)
def qz (H:Hp) (vs:List V) (ts:List T3):Prop:=Paired (Ul H) vs ts
theorem qz.length {H:Hp}{vs:List V}{ts:List T3}(r:qz H vs ts):vs.length=ts.length:=Paired.length r
theorem qz.get {H:Hp}:∀ {vs:List V}{ts:List T3}{i:Nat}{v:V},qz H vs ts->vs[i]? = some v->∃ t,ts[i]? = some t/\Ul H v t
 | _,_,_,_,.nil,e=>by simp at e
 | _,_,0,_,.cons r _,e=>by simp at e;subst e;exact ⟨_,rfl,r⟩
 | _,_,i+1,v,.cons _ t,e=>by
  obtain ⟨d,h1,h2⟩:=qz.get (i:=i) (v:=v) t (by simpa using e)
  exact ⟨d,by simpa using h1,h2⟩
theorem qz.imp {H H':Hp}{vs:List V}{ts:List T3}(r:qz H vs ts) (h:∀ p t,H p=some (yb t)->H' p=some (yb t)):qz H' vs ts :=
 Paired.mapP r fun _ t ⟨p,e,q⟩=>⟨p,e,h p t q⟩
theorem qz.snoc {H:Hp}{vs:List V}{ts:List T3}{v:V}{t:T3}(r:qz H vs ts) (h:Ul H v t):qz H (vs++[v]) (ts++[t]):=Paired.snoc r h
theorem qi {α β:Type}(f:α->β) (l:List α) (i:Nat) (v:α) (h:l[i]? = some v):(l.take (i+1)).map f=(l.take i).map f++[f v]:=by
 rw [List.take_add_one,h,List.map_append]
 rfl
end L2
end
section
namespace L2
open PySem PySem.W PyProof.Rows
def qH {α:Type}(lt:Nat->Nat->Bool) (n:Nat):KasT α->(α->Prop)->Prop
 | .ret a,G=>G a
 | .ask i j k,G=>i<n/\j<n/\qH lt n (k (lt i j)) G
theorem qH.bind {α β:Type}{lt:Nat->Nat->Bool}{n:Nat}{f:α->KasT β}{G:β->Prop}:∀ {t:KasT α},qH lt n t (fun a=>qH lt n (f a) G)->qH lt n (t.bind f) G
 | .ret _,h=>h
 | .ask _ _ k,h=>⟨h.1,h.2.1,qH.bind (t:=k _) h.2.2⟩
theorem qH.wp {α:Type}{lt:Nat->Nat->Bool}{n:Nat}{cmp:Nat->Nat->(Bool->Shared->Prop)->Shared->Prop}{I:Shared->Prop}(hc:∀ i j C s,i<n->j<n->I s->(∀ s',I s'->C (lt i j) s')->cmp i j C s)
  {G:α->Prop} {Q:α->Shared->Prop} (hq:∀ a s,G a->I s->Q a s):∀ {t:KasT α} {s:Shared},qH lt n t G->I s->t.kasWp cmp Q s
 | .ret a,s,h,hs=>hq a s h hs
 | .ask i j k,s,h,hs=>hc i j _ s h.1 h.2.1 hs fun s' hs'=>qH.wp hc hq (t:=k _) h.2.2 hs'
section
variable {O:KeyOrd}{key:Nat->O.α}{n:Nat}{p:Array Nat}
abbrev ltK (O:KeyOrd) (key:Nat->O.α):Nat->Nat->Bool:=fun i j=>O.blt (key i) (key j)
abbrev kp (key:Nat->O.α) (p:Array Nat) (i:Nat):O.α:=key (p.getD i 0)
def xL (key:Nat->O.α) (p:Array Nat) (k:Nat):Prop:=∀ i j,i<=j->j<k->O.kle (kp key p i) (kp key p j)
def wQ (key:Nat->O.α) (p:Array Nat) (k:Nat):Prop:=∀ i j,i<=j->j<k->O.kle (kp key p j) (kp key p i)
def qa (n:Nat) (p:Array Nat):Prop:=p.Perm (List.range n).toArray
theorem qa.size (h:qa n p):p.size=n:=by have:=h.size_eq;simpa using this
theorem qa.lt (h:qa n p) (hn:0<n) (i:Nat):p.getD i 0<n:=by
 by_cases hi:i<p.size
 ·have e:p.getD i 0=p[i]:=by simp [Array.getD,hi]
  rw [e]
  have hm:p[i]∈(List.range n).toArray.toList:=(Array.perm_iff_toList_perm.mp h).mem_iff.mp (by simp)
  simpa using hm
 ·have e:p.getD i 0=0:=by simp [Array.getD,hi]
  rw [e];exact hn
theorem xJ {p q:Array Nat}{i j:Nat}(h:p[i]? = q[j]?):p.getD i 0=q.getD j 0:=by
 rw [Array.getD_eq_getD_getElem?,Array.getD_eq_getD_getElem?,h]
theorem kO {src d:Nat}(hs:src<p.size) (hd:d<=src) (k:Nat) :
  kp (O:=O) key (bubble p src d) k=if k=src-d then kp key p src else if src-d<k/\k<=src then kp key p (k-1) else kp key p k:=by
 have e:=getElem?_bubble hs d hd k
 unfold kp
 by_cases h1:k=src-d
 ·rw [if_pos h1] at e ⊢;rw [xJ e]
 ·rw [if_neg h1] at e ⊢
  by_cases h2:src-d<k/\k<=src
  ·rw [if_pos h2] at e ⊢;rw [xJ e]
  ·rw [if_neg h2] at e ⊢;rw [xJ e]
theorem QB {i j:Nat}(hj:j<=p.size) (k:Nat):kp (O:=O) key (kas_rev p i j) k=if i<=k/\k<j then kp key p (i+j-1-k) else kp key p k:=by
 have e:=getElem?_mirror_all (i:=i) hj k
 unfold kp kas_rev
 by_cases h1:i<=k/\k<j
 ·rw [if_pos h1] at e ⊢;rw [xJ e]
 ·rw [if_neg h1] at e ⊢;rw [xJ e]
theorem x6 {i j:Nat}(hj:j<=p.size) (heq:∀ k,i<=k->k<j->kp (O:=O) key p k=kp key p (j-1)) (k:Nat):kp (O:=O) key (kas_rev p i j) k=kp key p k:=by
 rw [QB hj]
 split
 ·rw [heq _ (by omega) (by omega),heq k (by omega) (by omega)]
 ·rfl
theorem qa.rev (h:qa n p) (i j:Nat):qa n (kas_rev p i j):=(mirror_perm _ _ _ _).trans h
theorem qa.bub (h:qa n p) (i j:Nat):qa n (bubble p i j):=(bubble_perm _ _ _).trans h
theorem gQ (hP:qa n p) (hn:0<n) {G:Nat->Prop}:∀ (f a:Nat),1<=a->xL (O:=O) key p a ->
  (∀ m,a<=m->m<=a+f->xL (O:=O) key p m->(m=a+f\/O.klt (kp key p m) (kp key p (m-1)))->G m)->qH (ltK O key) n (kas_asc p f a) G
 | 0,a,_,hs,h=>h a (Nat.le_refl _) (Nat.le_refl _) hs (.inl rfl)
 | f+1,a,h1,hs,h=>by
  refine ⟨hP.lt hn _,hP.lt hn _,?_⟩
  show qH _ _ (if O.blt (kp key p a) (kp key p (a-1))=true then _ else _) _
  cases hless:O.blt (kp key p a) (kp key p (a-1)) with
  | true=>rw [if_pos rfl];exact h a (Nat.le_refl _) (by omega) hs (.inr hless)
  | false =>
   rw [if_neg Bool.false_ne_true]
   refine gQ hP hn f (a+1) (by omega) (fun i j hij hj=>?_) fun m hm1 hm2 hsm ho=>h m (by omega) (by omega) hsm (ho.imp (fun z=>(by omega)) id)
   by_cases hja:j<a
   ·exact hs i j hij hja
   ·have hj':j=a:=by omega
    subst hj'
    by_cases hi':i=j
    ·subst hi';exact KeyOrd.kle_refl _
    ·exact KeyOrd.kle_trans (hs i (j-1) (by omega) (by omega)) hless
theorem kJ (hP:qa n p) {m nrem:Nat}{G:Nat×Array Nat->Prop}(h1:1<=m) (hm:m<=nrem) (hn:nrem<=n) (hs:wQ (O:=O) key p m)
  (h:∀ k p',qa n p'->1<=k->k<=nrem->xL (O:=O) key p' k->G (k,p')):qH (ltK O key) n (kas_tail3 m nrem p) G:=by
 have hsz:m<=p.size:=by rw [hP.size];omega
 refine qH.bind (gQ (hP.rev _ _) (by omega) _ m h1 (fun i j hij hj=>?_) fun k hk1 hk2 hk3 _=>h k _ (hP.rev _ _) (by omega) (by omega) hk3)
 rw [QB hsz,QB hsz,if_pos (by omega),if_pos (by omega)]
 exact hs _ _ (by omega) (by omega)
theorem vE {nrem:Nat}(hn:nrem<=n) {G:Array Nat×Nat×Nat->Prop}:∀ (f:Nat) (p:Array Nat) (x q:Nat),qa n p->1<=x->x+f=nrem->wQ (O:=O) key p x->q+1<=x ->
  (∀ i,x-(q+1)<=i->i<x->kp (O:=O) key p i=kp key p (x-1)) ->
  (∀ p' m q',qa n p'->x<=m->m<=nrem->wQ (O:=O) key p' m->q'+1<=m->(∀ i,m-(q'+1)<=i->i<m->kp (O:=O) key p' i=kp key p' (m-1))->G (p',m,q')) ->
  qH (ltK O key) n (kas_desc f p x q) G
 | 0,p,x,q,hP,h1,hx,hs,hq,he,h=>h p x q hP (Nat.le_refl _) (by omega) hs hq he
 | f+1,p,x,q,hP,h1,hx,hs,hq,he,h=>by
  have hsz:x<=p.size:=by rw [hP.size];omega
  refine ⟨hP.lt (by omega) _,hP.lt (by omega) _,?_⟩
  show qH _ _ (if O.blt (kp key p x) (kp key p (x-1))=true then _ else _) _
  cases hless:O.blt (kp key p x) (kp key p (x-1)) with
  | true =>
   rw [if_pos rfl]
   have step1:∀ p':Array Nat,(∀ k,kp (O:=O) key p' k=kp key p k)->wQ (O:=O) key p' (x+1):=by
    intro p' hk i j hij hj
    rw [hk,hk]
    by_cases hjx:j<x
    ·exact hs i j hij hjx
    ·have hj':j=x:=by omega
     subst hj'
     by_cases hi':i=j
     ·subst hi';exact KeyOrd.kle_refl _
     ·exact KeyOrd.kle_trans (KeyOrd.kle_of_klt hless) (hs i (j-1) (by omega) (by omega))
   by_cases hneq:q > 0
   ·rw [if_pos hneq]
    exact vE hn f _ (x+1) 0 (hP.rev _ _) (by omega) (by omega) (step1 _ (x6 hsz he)) (by omega) (fun i h1 h2=>by congr 1;omega) fun p' m q' a b=>h p' m q' a (by omega)
   ·rw [if_neg hneq]
    exact vE hn f _ (x+1) 0 hP (by omega) (by omega) (step1 _ fun _=>rfl) (by omega) (fun i h1 h2=>by congr 1;omega) fun p' m q' a b=>h p' m q' a (by omega)
  | false =>
   rw [if_neg Bool.false_ne_true]
   refine ⟨hP.lt (by omega) _,hP.lt (by omega) _,?_⟩
   show qH _ _ (if O.blt (kp key p (x-1)) (kp key p x)=true then _ else _) _
   cases hlarger:O.blt (kp key p (x-1)) (kp key p x) with
   | true=>rw [if_pos rfl];exact h p x q hP (Nat.le_refl _) (by omega) hs hq he
   | false =>
    rw [if_neg Bool.false_ne_true]
    have heqx:kp (O:=O) key p x=kp key p (x-1):=KeyOrd.kle_antisymm hlarger hless
    refine vE hn f p (x+1) (q+1) hP (by omega) (by omega) (fun i j hij hj=>?_) (by omega) (fun i h1 h2=>?_) fun p' m q' a b=>h p' m q' a (by omega)
    ·by_cases hjx:j<x
     ·exact hs i j hij hjx
     ·have hj':j=x:=by omega
      subst hj'
      by_cases hi':i=j
      ·subst hi';exact KeyOrd.kle_refl _
      ·rw [heqx];exact hs i (j-1) (by omega) (by omega)
    ·rw [show x+1-1=x by omega]
     by_cases hix:i=x
     ·subst hix;rfl
     ·rw [heqx];exact he i (by omega) (by omega)
theorem vB (hP:qa n p) {m nrem:Nat}{G:Nat×Array Nat->Prop}(hm:m+1<=nrem) (hn:nrem<=n) (hs:wQ (O:=O) key p (m+1))
  (h:∀ k p',qa n p'->1<=k->k<=nrem->xL (O:=O) key p' k->G (k,p')):qH (ltK O key) n (kas_descPart m nrem p) G:=by
 refine qH.bind (vE hn _ p (m+1) 0 hP (by omega) (by omega) hs (by omega) (fun i h1 h2=>by congr 1;omega) fun p' k q hP' hk1 hk2 hs' hq he=>?_)
 have hsz:k<=p'.size:=by rw [hP'.size];omega
 show qH _ _ (if q > 0 then kas_tail3 k nrem (kas_rev p' (k-(q+1)) k) else kas_tail3 k nrem p') _
 by_cases hneq:q > 0
 ·rw [if_pos hneq]
  refine kJ (hP'.rev _ _) (by omega) hk2 hn (fun i j hij hj=>?_) h
  rw [x6 hsz he,x6 hsz he]
  exact hs' i j hij hj
 ·rw [if_neg hneq]
  exact kJ hP' (by omega) hk2 hn hs' h
theorem XO (hP:qa n p) (hn:0<n) {G:Nat×Array Nat->Prop}(h:∀ k p',qa n p'->1<=k->k<=n->xL (O:=O) key p' k->G (k,p')):qH (ltK O key) n (kas_count n p) G:=by
 refine qH.bind (gQ hP hn _ 1 (Nat.le_refl 1) (fun i j hij hj=>by have:i=j:=(by omega);subst this;exact KeyOrd.kle_refl _) fun m hm1 hm2 hsm hor=>?_)
 by_cases hnn:m=n
 ·rw [if_pos (by simpa using hnn)]
  exact h m p hP hm1 (by omega) hsm
 ·rw [if_neg (by simpa using hnn)]
  have hlt:O.klt (kp key p m) (kp key p (m-1)):=by
   rcases hor with z | z
   ·omega
   ·exact z
  by_cases hgt:m > 1
  ·rw [if_pos hgt]
   refine ⟨hP.lt hn _,hP.lt hn _,?_⟩
   show qH _ _ (if O.blt (kp key p 0) (kp key p (m-1))=true then _ else _) _
   cases hrose:O.blt (kp key p 0) (kp key p (m-1)) with
   | true=>rw [if_pos rfl];exact h m p hP hm1 (by omega) hsm
   | false =>
    rw [if_neg Bool.false_ne_true]
    have hsz:m<=p.size:=by rw [hP.size];omega
    have hall:∀ k,0<=k->k<m->kp (O:=O) key p k=kp key p (m-1):=by
     intro k _ hk
     have a1:=hsm 0 k (by omega) hk
     have a2:=hsm k (m-1) (by omega) (by omega)
     exact KeyOrd.kle_antisymm a2 (KeyOrd.kle_trans hrose a1)
    refine vB (hP.rev _ _) (by omega) (Nat.le_refl _) (fun i j hij hj=>?_) h
    rw [x6 hsz hall,x6 hsz hall]
    by_cases hjn:j<m
    ·rw [hall i (by omega) (by omega),hall j (by omega) hjn];exact KeyOrd.kle_refl _
    ·have hj':j=m:=by omega
     subst hj'
     by_cases hi':i=j
     ·subst hi';exact KeyOrd.kle_refl _
     ·rw [hall i (by omega) (by omega)];exact KeyOrd.kle_of_klt hlt
  ·rw [if_neg hgt]
   have hm1':m=1:=by omega
   subst hm1'
   refine vB hP (by omega) (Nat.le_refl _) (fun i j hij hj=>?_) h
   by_cases hi':i=j
   ·subst hi';exact KeyOrd.kle_refl _
   ·have hi0:i=0:=by omega
    have hj1:j=1:=by omega
    subst hi0;subst hj1
    exact KeyOrd.kle_of_klt hlt
theorem vX (hP:qa n p) (hn:0<n) {k:Nat}(hs:xL (O:=O) key p k) {G:Nat->Prop}:∀ (f l r:Nat),l<=r->r<=k->r-l<=f ->
  (∀ i,i<l->O.kle (kp key p i) (kp key p k))->(∀ i,r<=i->i<k->O.klt (kp key p k) (kp key p i)) ->
  (∀ l,l<=k->(∀ i,i<l->O.kle (kp key p i) (kp key p k))->(∀ i,l<=i->i<k->O.klt (kp key p k) (kp key p i))->G l)->qH (ltK O key) n (kas_place p k f l r) G
 | 0,l,r,hlr,hrk,hm,hlo,hhi,h=>by
  have:l=r:=by omega
  subst this
  exact h l hrk hlo hhi
 | f+1,l,r,hlr,hrk,hm,hlo,hhi,h=>by
  unfold kas_place
  by_cases hge:l>=r
  ·rw [if_pos hge]
   have:l=r:=by omega
   subst this
   exact h l hrk hlo hhi
  ·rw [if_neg hge]
   refine ⟨hP.lt hn _,hP.lt hn _,?_⟩
   show qH _ _ (if O.blt (kp key p k) (kp key p ((l+r) / 2))=true then _ else _) _
   cases hless:O.blt (kp key p k) (kp key p ((l+r) / 2)) with
   | true =>
    rw [if_pos rfl]
    exact vX hP hn hs f l _ (by omega) (by omega) (by omega) hlo (fun i h1 h2=>KeyOrd.klt_of_klt_of_kle hless (hs _ _ h1 h2)) h
   | false =>
    rw [if_neg Bool.false_ne_true]
    exact vX hP hn hs f _ r (by omega) (by omega) (by omega) (fun i h1=>KeyOrd.kle_trans (hs i ((l+r) / 2) (by omega) (by omega)) (show O.kle _ _ from hless)) hhi h
theorem Xf (hn:0<n) {G:Array Nat->Prop}:∀ (f:Nat) (p:Array Nat) (k:Nat),qa n p->k+f=n->xL (O:=O) key p k ->
  (∀ p',qa n p'->xL (O:=O) key p' n->G p')->qH (ltK O key) n (kas_bin f p k) G
 | 0,p,k,hP,hk,hs,h=>h p hP (by rw [<- hk];exact hs)
 | f+1,p,k,hP,hk,hs,h=>by
  refine qH.bind (vX hP hn hs k 0 k (Nat.zero_le _) (Nat.le_refl _) (by omega) (fun i hi=>by omega) (fun i h1 h2=>by omega) fun l hlk hlo hhi=>?_)
  refine Xf hn f _ (k+1) (hP.bub _ _) (by omega) (fun i j hij hj=>?_) h
  have hks:k<p.size:=by rw [hP.size];omega
  rw [kO hks (by omega),kO hks (by omega),show k-(k-l)=l by omega]
  repeat' split
  all_goals first
   | (exfalso;omega)
   | exact KeyOrd.kle_refl _
   | exact hlo _ (by omega)
   | exact KeyOrd.kle_of_klt (hhi _ (by omega) (by omega))
   | exact hs _ _ (by omega) (by omega)
theorem wF (hn:0<n) {G:Array Nat->Prop}(h:∀ p',qa n p'->xL (O:=O) key p' n->G p'):qH (ltK O key) n (kas_sort n) G:=by
 refine qH.bind (XO (Array.Perm.refl _) hn fun k p' hP h1 hk hs=>?_)
 show qH _ _ (if k<n then kas_bin (n-max k 1) p' (max k 1) else .ret p') _
 by_cases hkn:k<n
 ·rw [if_pos hkn,show max k 1=k by omega]
  exact Xf hn _ p' k hP (by omega) hs h
 ·rw [if_neg hkn]
  have e:k=n:=by omega
  subst e
  exact h p' hP hs
end
def xP:List Int->List Int->Bool
 | [],[]=>false
 | [],_::_=>true
 | _::_,[]=>false
 | a::x,b::y=>if a=b then xP x y else decide (a<b)
theorem uu:∀ a,xP a a=false
 | []=>rfl
 | a::x=>by unfold xP;rw [if_pos rfl];exact uu x
theorem uX:∀ a b c,xP a b=true->xP b c=true->xP a c=true
 | [],[],_,h,_=>by cases h
 | [],_::_,[],_,h=>by cases h
 | [],_::_,_::_,_,_=>rfl
 | _::_,[],_,h,_=>by cases h
 | _::_,_::_,[],_,h=>by cases h
 | a::x,b::y,c::z,h1,h2=>by
  unfold xP at h1 h2 ⊢
  by_cases e1:a=b
  ·subst e1
   rw [if_pos rfl] at h1
   by_cases e2:a=c
   ·rw [if_pos e2] at h2 ⊢;exact uX x y z h1 h2
   ·rw [if_neg e2] at h2 ⊢;exact h2
  ·rw [if_neg e1] at h1
   have h1':=of_decide_eq_true h1
   by_cases e2:b=c
   ·subst e2;rw [if_neg e1];exact h1
   ·rw [if_neg e2] at h2
    have h2':=of_decide_eq_true h2
    rw [if_neg (by omega)]
    exact decide_eq_true (by omega)
theorem Je:∀ a b c,xP a c=true->xP a b=true\/xP b c=true
 | [],[],[],h=>by cases h
 | [],[],_::_,_=>.inr rfl
 | [],_::_,_,_=>.inl rfl
 | _::_,_,[],h=>by cases h
 | _::_,[],_::_,_=>.inr rfl
 | a::x,b::y,c::z,h=>by
  unfold xP at h ⊢
  by_cases e1:a=b
  ·subst e1
   rw [if_pos rfl]
   by_cases e2:a=c
   ·rw [if_pos e2] at h ⊢;exact Je x y z h
   ·rw [if_neg e2] at h ⊢;exact .inr h
  ·rw [if_neg e1]
   by_cases e2:b=c
   ·subst e2;rw [if_neg e1] at h;exact .inl h
   ·rw [if_neg e2]
    by_cases e3:a=c
    ·subst e3
     by_cases hab:a<b
     ·exact .inl (decide_eq_true hab)
     ·exact .inr (decide_eq_true (by omega))
    ·rw [if_neg e3] at h
     have h':=of_decide_eq_true h
     by_cases hab:a<b
     ·exact .inl (decide_eq_true hab)
     ·exact .inr (decide_eq_true (by omega))
theorem wx:∀ a b,xP a b=false->xP b a=false->a=b
 | [],[],_,_=>rfl
 | [],_::_,h,_=>by cases h
 | _::_,[],_,h=>by cases h
 | a::x,b::y,h1,h2=>by
  unfold xP at h1 h2
  by_cases e:a=b
  ·subst e
   rw [if_pos rfl] at h1 h2
   rw [wx x y h1 h2]
  ·rw [if_neg e] at h1
   rw [if_neg (fun z=>e z.symm)] at h2
   have:=of_decide_eq_false h1
   have:=of_decide_eq_false h2
   omega
def uC:KeyOrd:=⟨List Int,xP,uu,uX,Je,wx⟩
def YM:KeyOrd:=⟨Int,fun a b=>decide (a<b),fun a=>by simp,fun a b c h1 h2=>by
  have:=of_decide_eq_true h1;have:=of_decide_eq_true h2;exact decide_eq_true (by omega),fun a b c h=>by
  have:=of_decide_eq_true h
  by_cases hab:a<b
  ·exact .inl (decide_eq_true hab)
  ·exact .inr (decide_eq_true (by omega)),fun a b h1 h2=>by
  have:=of_decide_eq_false h1;have:=of_decide_eq_false h2;omega⟩
end L2
end
section
namespace L2
open PySem PySem.Spec PySem.W PyProof.Rows
open PySem.AutoSeq1 (wpAny_loadPart')
open PySem.MeetsSeq PySem.MeetsSeq2 PySem.MeetsSeq3 PySem.SeqRoads2
theorem vn {its:List Value}{xs:List Int}(h:IntsAre its xs) {i:Nat}(hi:i<its.length):∃ t,its[i]? = some (.int (xs[i]'(by have:=h.length;omega)) t):=by
 have hx:i<xs.length:=by have:=h.length;omega
 obtain ⟨u,e1,t,e2⟩:=jw.get (ua h) (i:=i) (x:=V.int xs[i]) (by rw [List.getElem?_map,List.getElem?_eq_getElem hx];rfl)
 exact ⟨t,by rw [e1,e2]⟩
theorem Zb (l b:Addr) (items items2:List Value) (n n2:Nat) (dd dd2:Option Addr) (sl sl2:Array (Option Value)) {xs ys:List Int}(hx:IntsAre items xs) (hy:IntsAre items2 ys) (k:Nat) :
  ∀ i:Nat,items.length-i=k->i<=items.length->i<=items2.length->Meets (Builtin.«list.__eq__.loop» ⟨[.ref l,.ref b,rawInt i,rawInt 0],[]⟩)
   (fun A R s=>s.heap.get? l=some { cls:=.type "list",dict:=dd,data:=.seq items.toArray n,slots:=sl }/\s.heap.get? b=some { cls:=.type "list",dict:=dd2,data:=.seq items2.toArray n2,slots:=sl2 } /\
    R (.ok (.ret (.bool (xP (xs.drop i) (ys.drop i))))) s):=by
 have l1:=hx.length
 have l2:=hy.length
 induction k with
 | zero =>
  intro i hk hi hi2 prog w A R s h
  obtain ⟨hp,g,d,tk,os⟩:=s;obtain ⟨hl,hb,h⟩:=h
  wp_walk using wpAny_loadPart' hl,wpAny_loadPart' hb
  have e1:items.toArray[((i:Nat):Int).toNat]? = none:=by simp;omega
  have hd:xs.drop i=[]:=by simp;omega
  rw [hd] at h
  rw [e1]
  wp_walk using wpAny_loadPart' hl,wpAny_loadPart' hb
  show R (.ok (.ret (.bool (decide (items.toArray.size<items2.toArray.size))))) _
  have e2:decide (items.toArray.size<items2.toArray.size)=xP [] (ys.drop i):=by
   by_cases hlt:i<ys.length
   ·rw [List.drop_eq_getElem_cons hlt]
    exact decide_eq_true (by simp;omega)
   ·rw [List.drop_of_length_le (by omega)]
    exact decide_eq_false (by simp;omega)
  rw [e2]
  exact h
 | succ k ih =>
  intro i hk hi hi2 prog w A R s h
  obtain ⟨hp,g,d,tk,os⟩:=s;obtain ⟨hl,hb,h⟩:=h
  have hlt:i<items.length:=by omega
  obtain ⟨t,e1'⟩:=vn hx hlt
  have e1:items.toArray[((i:Nat):Int).toNat]? = some (.int (xs[i]'(by omega)) t):=by simpa using e1'
  wp_walk using wpAny_loadPart' hl,wpAny_loadPart' hb
  rw [e1]
  by_cases hlt2:i<items2.length
  ·obtain ⟨u,e2'⟩:=vn hy hlt2
   have e2:items2.toArray[((i:Nat):Int).toNat]? = some (.int (ys[i]'(by omega)) u):=by simpa using e2'
   rw [e2]
   rw [List.drop_eq_getElem_cons (show i<xs.length by omega),List.drop_eq_getElem_cons (show i<ys.length by omega)] at h
   unfold xP at h
   refine wpAny_bind (wpAny_eqBool_int ?_)
   have hc:((i:Int)+1)=((i+1:Nat):Int):=by push_cast;rfl
   by_cases e:xs[i]'(by omega)=ys[i]'(by omega)
   ·rw [if_pos e] at h
    rw [beq_iff_eq.mpr e]
    wp_walk
    rw [hc]
    exact ⟨plainId_quiet plain_eq_loop _,codeAny_builtin entry_eq_loop (by
     rw [Around.under_plainId plain_eq_loop _]
     exact ih (i+1) (by omega) (by omega) (by omega) prog w A R _ ⟨hl,hb,h⟩)⟩
   ·rw [if_neg e] at h
    rw [beq_eq_false_iff_ne.mpr e]
    wp_walk using wpAny_loadPart' hl,wpAny_loadPart' hb
    rw [e1,e2]
    refine wpAny_bind (show wpAny (model prog w) _ (richCompare .Lt _ _) _ _ _ from lt_int ?_)
    exact wpAny_pure h
  ·have e2:items2.toArray[((i:Nat):Int).toNat]? = none:=by simp;omega
   rw [e2]
   rw [List.drop_eq_getElem_cons (show i<xs.length by omega),List.drop_of_length_le (show ys.length<=i by omega)] at h
   wp_walk using wpAny_loadPart' hl,wpAny_loadPart' hb
   show R (.ok (.ret (.bool (decide (items.toArray.size<items2.toArray.size))))) _
   rw [decide_eq_false (by simp;omega)]
   exact h
theorem Zc (l b:Addr) (items items2:List Value) (n n2:Nat) (dd dd2:Option Addr) (sl sl2:Array (Option Value)) {xs ys:List Int}(hx:IntsAre items xs) (hy:IntsAre items2 ys) :
  Meets (Builtin.«list.__lt__» ⟨[.ref l,.ref b],[]⟩)
   (fun A R s=>s.heap.get? l=some { cls:=.type "list",dict:=dd,data:=.seq items.toArray n,slots:=sl }/\s.heap.get? b=some { cls:=.type "list",dict:=dd2,data:=.seq items2.toArray n2,slots:=sl2 } /\
    R (.ok (.ret (.bool (xP xs ys)))) s):=by
 intro prog w A R s h
 obtain ⟨hp,g,d,tk,os⟩:=s;obtain ⟨hl,hb,h⟩:=h
 have f3:=AutoSeq1.sub_list_list
 wp_walk using wpAny_loadPart' hl,wpAny_loadPart' hb
 exact ⟨plainId_quiet plain_eq_loop _,codeAny_builtin entry_eq_loop (by
  rw [Around.under_plainId plain_eq_loop _]
  exact Zb l b items items2 n n2 dd dd2 sl sl2 hx hy _ 0 rfl (Nat.zero_le _) (Nat.zero_le _) prog w A R _ ⟨hl,hb,by simpa using h⟩)⟩
section
variable {prog:Program}{w:World}{A:Around}{E:Value->Shared->Prop}{s:Shared}
theorem Jy {l b:Addr}{items items2:List Value}{xs ys:List Int}{n n2:Nat}{dd dd2:Option Addr}{sl sl2:Array (Option Value)}{Q:Bool->Shared->Prop}(hu:A.units<cLine)
  (hl:s.heap.get? l=some { cls:=.type "list",dict:=dd,data:=.seq items.toArray n,slots:=sl }) (hb:s.heap.get? b=some { cls:=.type "list",dict:=dd2,data:=.seq items2.toArray n2,slots:=sl2 })
  (hx:IntsAre items xs) (hy:IntsAre items2 ys) (h:Q (xP xs ys) s):wpAny (model prog w) A (oneLt' true (.ref l) (.ref b)) Q E s:=by
 rw [oneLt'_eq]
 simp only [if_true]
 refine wpAny_bind (wpAny_cRoomFor hu ?_)
 refine wpAny_bind (wpAny_callSpecialIfBound?_slot ⟨_,hl,rfl⟩ PySem.F.slot_list_lt (call_meets PySem.F.slot_list_lt ⟨_,hl,rfl⟩ PySem.F.entry_list_lt (PySem.F.args_list_lt_2 _ _) (Zc l b items items2 n n2 dd dd2 sl sl2 hx hy) ⟨hl,hb,?_⟩))
 exact wpAny_truthy_bool h
theorem QI {x y:Addr}{ox oy:Obj}{items items2:List Value}{xs ys:List Int}{n k:Nat}{Q:Bool->Shared->Prop}(hx:s.heap.get? x=some ox) (dx:ox.data = .seq items.toArray n) (hy:s.heap.get? y=some oy) (dy:oy.data = .seq items2.toArray k)
  (ix:IntsAre items xs) (iy:IntsAre items2 ys) (h:Q (xP xs ys) s):wpAny (model prog w) A (keyLt' (tuples' true) (.ref x) (.ref y)) Q E s:=by
 refine kat_lt hx dx hy dy ?_
 have go:∀ (items items2:List Value) (xs ys:List Int) (i:Nat) (fin:Bool),IntsAre items xs->IntsAre items2 ys->(∀ m:Nat,xs.length=m+items.length-items.length->True) ->
   fin=decide (items.length<items2.length)->Q (xP xs ys) s->KatLex prog w A true fin Q (items.zip items2) i s:=by
  intro items items2 xs ys i fin a b
  induction a generalizing items2 ys i with
  | nil =>
   intro _ hf hq
   cases b with
   | nil=>subst hf;exact hq
   | cons m u r=>subst hf;exact hq
  | cons m u r ih =>
   intro _ hf hq
   cases b with
   | nil=>subst hf;exact hq
   | cons m' u' r' =>
    refine kat_cons (wpAny_eqBool_int ?_)
    unfold xP at hq
    by_cases e:m=m'
    ·rw [beq_iff_eq.mpr e]
     rw [if_pos e] at hq
     refine kat_yes (ih _ _ _ r' (fun _ _=>trivial) ?_ hq)
     rw [hf]
     simp
    ·rw [beq_eq_false_iff_ne.mpr e]
     rw [if_neg e] at hq
     refine kat_no ?_
     cases hb:(true && i == 0) with
     | true=>exact oneLt_int hq
     | false=>exact kat_one _ _ (lt_int hq)
 have e:(items.toArray.toList.zip items2.toArray.toList)=items.zip items2:=by simp
 rw [e]
 exact go items items2 xs ys 0 _ ix iy (fun _ _=>trivial) (by simp) h
end
end L2
end
section
namespace L2
open PySem PySem.Spec PySem.W PyProof.Rows
section
variable {prog:Program}{w:World}{A:Around}{E:Value->Shared->Prop}{s:Shared}
theorem vf (its:List Value):(its.toArray.zip its.toArray).map (·.2)=its.toArray:=by
 apply Array.toList_inj.mp
 rw [Array.toList_map,ksk_zip]
 show (its.zip its).map Prod.snd=its
 rw [List.map_snd_zip]
 exact Nat.le_refl _
theorem yQ (its:List Value):((List.range its.length).map fun i=>its.getD i Value.none)=its:=by
 apply List.ext_getElem
 ·simp
 ·intro i h1 h2
  simp at h1
  simp [h1]
theorem Qo {l:Addr}{its:List Value}{κ:SortKind}{lt:Nat->Nat->Bool}{G:List Nat->Prop}{Q:Value->Shared->Prop}(hl:s.heap.IsList l its.toArray) (h64:its.length<64)
  (hk:2<=its.length->∀ h',(∀ b o,s.heap.get? b=some o->h'.get? b=some o)->∀ Q':SortKind->Shared->Prop,Q' κ { s with heap:=h' }->wpAny (model prog w) A.in1.in1 (keyKind' its.toArray) Q' (fun _ _=>False) { s with heap:=h' })
  (hc:∀ h',(∀ b o,s.heap.get? b=some o->h'.get? b=some o)->∀ i j,i<its.length->j<its.length->∀ Q':Bool->Shared->Prop,Q' (lt i j) { s with heap:=h' } ->
   wpAny (model prog w) A.in1.in1 (keyLt' κ (its.getD i Value.none) (its.getD j Value.none)) Q' (fun _ _=>False) { s with heap:=h' })
  (hs:2<=its.length->qH lt its.length (kas_sort its.length) fun p=>qa its.length p/\G p.toList) (h1:its.length<2->G (List.range its.length))
  (h:∀ (ix:List Nat) (h':Heap) (n:Nat),ix.Perm (List.range its.length)->G ix->(∀ b o,s.heap.get? b=some o->h'.get? b=some o) ->
   h'.get? (s.heap.objs.size+1)=some (seqObj "list" (ix.map fun i=>its.getD i Value.none).toArray n)->Q (.ref (s.heap.objs.size+1)) { s with heap:=h' }) :
  wpAny (model prog w) A (call (.builtin "sorted") [.ref l]) Q E s:=by
 refine Calls.call_function_entry kind_sorted plain_sorted entry_sorted (args_sorted1 _) ?_
 unfold Builtin.«sorted»
 refine wpAny_bind (m:=checkCount "sorted" 1 1 _) (wpAny_pure ?_)
 refine wpAny_bind (collect_list hl ?_ (by rw [sizeLine_eq];omega))
 refine wpAny_bind (wpAny_newList ?_ (by rw [sizeLine_eq];omega))
 have hsz:((s.heap.push (seqObj "list" #[] 0)).update s.heap.objs.size (Obj.mapSeq (· ++ its.toArray))).objs.size=s.heap.objs.size+1:=by
  rw [Heap.size_update,size_push']
 have ho:(((s.heap.push (seqObj "list" #[] 0)).update s.heap.objs.size (Obj.mapSeq (· ++ its.toArray))).push (seqObj "list" its.toArray 0)).get? (s.heap.objs.size+1)=some (seqObj "list" its.toArray 0):=by
  rw [<- hsz];exact Heap.get?_push_size _ rfl
 have keep:∀ b o,s.heap.get? b=some o->(((s.heap.push (seqObj "list" #[] 0)).update s.heap.objs.size (Obj.mapSeq (· ++ its.toArray))).push (seqObj "list" its.toArray 0)).get? b=some o:=fun b o q=>by
  have hlt:b<s.heap.objs.size:=Heap.lt_size q
  rw [Heap.get?_push_ne _ _ _ (by rw [hsz];exact Nat.ne_of_lt (Nat.lt_succ_of_lt hlt)),Heap.get?_update_ne _ _ _ _ (Nat.ne_of_lt hlt),Heap.get?_push_ne _ _ _ (Nat.ne_of_lt hlt)]
  exact q
 show wpAny _ _ _ _ _ { s with heap:=((s.heap.push (seqObj "list" #[] 0)).update s.heap.objs.size (Obj.mapSeq (· ++ its.toArray))).push (seqObj "list" its.toArray 0) }
 rw [hsz]
 refine wpAny_bind (wpAny_holding (wpAny_call_entry slot_list_sort ⟨_,ho,rfl⟩ entry_list_sort ?body (args_list_sort _)))
 case body =>
  generalize hh0:((s.heap.push (seqObj "list" #[] 0)).update s.heap.objs.size (Obj.mapSeq (· ++ its.toArray))).push (seqObj "list" its.toArray 0)=h0 at ho keep
  generalize ha:s.heap.objs.size+1=a at ho h
  have aNew:∀ b o,s.heap.get? b=some o->b≠a:=fun b o q=>by have:=Heap.lt_size q;rw [<- ha];exact Nat.ne_of_lt (Nat.lt_succ_of_lt this)
  show wpAny (model prog w) A.in1.in1 (Builtin.«list.sort» ⟨[.ref a],[]⟩) _ _ { s with heap:=h0 }
  rw [list_sort_plain]
  have hal:a<h0.objs.size:=Heap.lt_size ho
  refine wpAny_bind (listItems_at ho rfl ?_)
  refine wpAny_bind (listUpdate_at ho rfl ?_ (by rw [List.size_toArray,sizeLine_eq];omega) (Nat.zero_le _))
  obtain ⟨e1,ho1⟩:∃ e1,(h0.update a (Obj.mapSeq fun _=>(#[]:Array Value))).get? a=some (seqObj "list" #[] e1):=⟨_,get?_update_seq ho (fun _=>#[])⟩
  refine wpAny_bind (seqEpoch_at ho1 rfl ?_)
  refine wpAny_bind (wpAny_newTuple ?_ (by show its.length<=_;rw [sizeLine_eq];omega))
  refine wpAny_bind (wpAny_newList ?_ (Nat.zero_le _))
  refine wpAny_holding ?_
  have ho6:(((h0.update a (Obj.mapSeq fun _=>(#[]:Array Value))).push (seqObj "tuple" its.toArray 0)).push (seqObj "list" #[] 0)).get? a=some (seqObj "list" #[] e1):=by
   rw [Heap.get?_push_ne _ _ _ (by rw [size_push',Heap.size_update];exact Nat.ne_of_lt (Nat.lt_succ_of_lt hal)),Heap.get?_push_ne _ _ _ (by rw [Heap.size_update];exact Nat.ne_of_lt hal)]
   exact ho1
  have keep6:∀ b o,s.heap.get? b=some o->(((h0.update a (Obj.mapSeq fun _=>(#[]:Array Value))).push (seqObj "tuple" its.toArray 0)).push (seqObj "list" #[] 0)).get? b=some o:=fun b o q =>
   Heap.get?_push_of_some _ (Heap.get?_push_of_some _ ((Heap.get?_update_ne _ _ _ _ (aNew b o q)).trans (keep b o q)))
  show wpAny (model prog w) A.in1.in1 _ _ _ { s with heap:=((h0.update a (Obj.mapSeq fun _=>(#[]:Array Value))).push (seqObj "tuple" its.toArray 0)).push (seqObj "list" #[] 0) }
  generalize ((h0.update a (Obj.mapSeq fun _=>(#[]:Array Value))).push (seqObj "tuple" its.toArray 0)).push (seqObj "list" #[] 0)=h6 at ho6 keep6
  dsimp only
  have fin:∀ (ix:List Nat),ix.Perm (List.range its.length)->G ix->∀ out:Array Value,out=(ix.map fun i=>its.getD i Value.none).toArray ->
    ∃ v,PySem.Fin.done (Flow.ret Value.none) = .done (.ret v)/\wpAny (model prog w) A.in1 (do let _ <- pure v;ret (Value.ref a)) (fun fin s'=>∃ v,fin = .done (.ret v)/\Q v s') E { s with heap:=h6.update a (Obj.mapSeq fun _=>out) }:=fun ix hp hg out ho'=>by
   refine ⟨_,rfl,wpAny_bind (wpAny_pure (wpAny_pure ⟨_,rfl,?_⟩))⟩
   subst ho'
   exact h ix _ _ hp hg (fun b o q=>(Heap.get?_update_ne _ _ _ _ (aNew b o q)).trans (keep6 b o q)) (get?_update_seq ho6 fun _=>_)
  by_cases h2:its.toArray.size<2
  ·rw [if_pos h2,if_pos h2]
   refine wpAny_bind (wpAny_pure ?_)
   rw [StateT.run_pure]
   refine wpAny_bind (wpAny_pure ?_)
   dsimp only
   refine wpAny_bind (seqEpoch_at ho6 rfl ?_)
   rw [vf]
   refine wpAny_bind (listUpdate_at ho6 rfl ?_ (Nat.zero_le _) (by rw [List.size_toArray,sizeLine_eq];omega))
   simp only [bne_self_eq_false,Bool.false_eq_true,if_false]
   rw [List.size_toArray] at h2
   exact wpAny_pure (fin _ (List.Perm.refl _) (h1 h2) _ (by rw [yQ]))
  ·rw [if_neg h2,if_neg h2]
   rw [List.size_toArray] at h2
   refine wpAny_bind (wpAny_mono (hk (by omega) h6 keep6 (fun κ' s'=>κ'=κ/\s'={ s with heap:=h6 }) ⟨rfl,rfl⟩) (fun κ' s' q=>?_) fun _ _ x=>x.elim)
   obtain ⟨rfl,rfl⟩:=q
   refine wpAny_bind (wpAny_mono (kat_run (ks:=its) (vs:=its) (κ:=κ') (G:=fun p s'=>(qa its.length p/\G p.toList)/\s'={ s with heap:=h6 }) (Q:=fun st' s'=>∃ p:Array Nat,arrOf st'=p.map (kas_item (its.toArray.zip its.toArray))/\failedOf st'=none/\(qa its.length p/\G p.toList)/\s'={ s with heap:=h6 })
    rfl (by omega) h64 (fun p st' s' a1 a2 a3 a4=>⟨p,a2,a3,a4⟩) (qH.wp (I:=fun s'=>s'={ s with heap:=h6 }) (fun i j C s' hi hj hI hC=>?_) (fun p s' hp hI=>⟨hp,hI⟩) (hs (by omega)) rfl)) ?_ fun _ _ e=>e)
   ·subst hI
    exact hc h6 keep6 i j hi hj C (hC _ rfl)
   ·rintro ⟨⟨⟩,st'⟩ s' ⟨p,har,hf,⟨hP,hG⟩,rfl⟩
    dsimp only
    have hout:=kat_snds (ks:=its) (vs:=its) rfl har
    have hz:(List.toArray (p.toList.map fun i=>its.getD i Value.none)).size=its.length:=by rw [List.size_toArray,List.length_map,Array.length_toList,hP.size]
    rw [hout]
    refine wpAny_bind (seqEpoch_at ho6 rfl ?_)
    refine wpAny_bind (listUpdate_at ho6 rfl ?_ (Nat.zero_le _) (by rw [hz,sizeLine_eq];omega))
    rw [hf]
    simp only [bne_self_eq_false,Bool.false_eq_true,if_false]
    exact wpAny_pure (fin p.toList (by have:=Array.perm_iff_toList_perm.mp hP;simpa using this) hG _ rfl)
end
end L2
end
section
namespace L2
open PySem PySem.Spec PySem.W PyProof.Rows
def vJ (O:KeyOrd) (key:Nat->O.α) (vs out:List V):Prop:=∃ ix:List Nat,ix.Perm (List.range vs.length)/\out=(ix.map fun i=>vs.getD i V.non)/\(ix.map key).Pairwise O.kle
theorem xL.pairwise {O:KeyOrd}{key:Nat->O.α}{p:Array Nat}{n:Nat}(hs:xL (O:=O) key p n) (hz:p.size=n):(p.toList.map key).Pairwise O.kle:=by
 rw [List.pairwise_iff_getElem]
 intro i j hi hj hij
 simp at hi hj
 have q:=hs i j (Nat.le_of_lt hij) (by omega)
 unfold kp at q
 have e1:p.getD i 0=p[i]:=by simp [Array.getD,hi]
 have e2:p.getD j 0=p[j]:=by simp [Array.getD,hj]
 rw [e1,e2] at q
 simpa using q
theorem kh:∀ {vs:List V}{us:List Value},jw vs us->∀ i,jy (vs.getD i V.non) (us.getD i Value.none)
 | _,_,.nil,_=>rfl
 | _,_,.cons r _,0=>r
 | _,_,.cons _ t,i+1=>kh t i
theorem vY {vs:List V}{us:List Value}(r:jw vs us):∀ ix:List Nat,jw (ix.map fun i=>vs.getD i V.non) (ix.map fun i=>us.getD i Value.none)
 | []=>.nil
 | i::ix=>.cons (kh r i) (vY r ix)
theorem Yr {a b:Int}(h:YM.kle a b):a<=b:=Int.not_lt.mp (of_decide_eq_false h)
def zV (H:Hp) (vs:List V) (rows:List (List Int)):Prop:=Paired (fun v (r:List Int)=>∃ a,v=V.ref a/\H a=some (.lst (r.map V.int))) vs rows
theorem Paired.get {α β:Type}{F:α->β->Prop}:∀ {l₁:List α}{l₂:List β}{i:Nat}{x:α},Paired F l₁ l₂->l₁[i]? = some x->∃ y,l₂[i]? = some y/\F x y
 | _,_,_,_,.nil,e=>by simp at e
 | _,_,0,_,.cons r _,e=>by simp at e;subst e;exact ⟨_,rfl,r⟩
 | _,_,i+1,v,.cons _ t,e=>by
  obtain ⟨d,h1,h2⟩:=Paired.get (i:=i) (x:=v) t (by simpa using e)
  exact ⟨d,by simpa using h1,h2⟩
theorem qq:∀ {ns:List Int}{us:List Value},jw (ns.map V.int) us->IntsAre us ns
 | [],_,.nil=>.nil
 | n::ns,_,.cons ⟨t,e⟩ r=>by subst e;exact .cons n t (qq r)
section
variable {X:Cx}
theorem wX (K:PySem.W.Frag) (hu:X.A.units+64<cLine) (hK:X.K=K:=by rfl):qy X (.builtin "sorted") (fun xs H Q=>∃ p vs rows,xs=[.ref p]/\SqL K H p vs/\vs.length<64/\zV H vs rows /\
  ∀ l H' out,H l=none->H' l=some (.lst out)->jh H H'->vJ uC (fun i=>rows.getD i []) vs out->Q (.ref l) H'):=by
 subst hK
 intro pins s σ H xs us Q I r h
 obtain ⟨p,vs,rows,rfl,hq,h64,hr,k⟩:=h
 obtain ⟨u,rfl,ru⟩:=xX r
 cases ru
 obtain ⟨its,rv,pl,hz⟩:=I.list hq
 have hlen:its.length=vs.length:=rv.length.symm
 have item:∀ i,i<its.length->∃ a its' n,its.getD i Value.none = .ref a/\s.heap.get? a=some { cls:=.type "list",data:=.seq its'.toArray n }/\IntsAre its' (rows.getD i []):=fun i hi=>by
  have e1:vs[i]? = some (vs[i]'(by omega)):=List.getElem?_eq_getElem (by omega)
  obtain ⟨y,e2,a,e3,e4⟩:=Paired.get hr e1
  obtain ⟨u,e5,ru⟩:=rv.get e1
  rw [e3] at ru
  cases ru
  obtain ⟨z,its',n,rv',e6⟩:=I.hok a _ e4
  refine ⟨a,its',n,by rw [List.getD_eq_getElem?_getD,e5];rfl,e6,?_⟩
  rw [List.getD_eq_getElem?_getD,e2]
  exact qq rv'
 have hun:X.A.in1.in1.units<cLine:=by
  show X.A.units+1+1<cLine
  omega
 refine Qo (κ:=oneType') (lt:=ltK uC fun i=>rows.getD i []) (G:=fun ix=>(ix.map fun i=>rows.getD i []).Pairwise uC.kle) pl.isList (by omega) (fun h2 h' hk' Q' q=>?_) (fun h' hk' i j hi hj Q' q=>?_) (fun h2=>?_) (fun h1=>?_) fun ix h' n hp hg hk' hn=>?_
 ·refine kas_kind (T:=.type "list") h2 (fun v hv=>?_) rfl rfl q
  obtain ⟨i,hi,rfl⟩:=List.mem_iff_getElem.mp hv
  obtain ⟨a,its',n,e1,e2,_⟩:=item i hi
  have e3:its[i] = .ref a:=by rw [<- e1];simp [hi]
  rw [e3]
  exact (show Looks _ h' (typeOf (.ref a)) _ from (Looks.ld (hk' _ _ e2)).andThen .now)
 ·obtain ⟨a,its',n,e1,e2,e3⟩:=item i hi
  obtain ⟨b,its2,n2,f1,f2,f3⟩:=item j hj
  rw [e1,f1,keyLt'_oneType]
  exact Jy hun (hk' _ _ e2) (hk' _ _ f2) e3 f3 q
 ·exact wF (by omega) fun p' hP hS=>⟨hP,hS.pairwise hP.size⟩
 ·have hcase:its.length=0\/its.length=1:=by omega
  rcases hcase with z | z
  ·rw [z];exact List.Pairwise.nil
  ·rw [z];exact List.pairwise_singleton _ _
 ·have hf:H (s.heap.objs.size+1)=none:=I.hok.fresh (Nat.le_succ _)
  refine ⟨.ref _,upd H (s.heap.objs.size+1) (.lst (ix.map fun i=>vs.getD i V.non)),I.laid (t':=s.toks) hk' (Nat.le_succ _) ⟨?_,_,n,vY rv ix,hn⟩,rfl,k _ _ _ hf j4 (jh.new hf) ⟨ix,by rw [<- hlen];exact hp,rfl,hg⟩⟩
  rw [List.length_map,hp.length_eq,List.length_range]
  exact Nat.le_trans (by omega:its.length<=1000) (by decide)
end
end L2
end
section
namespace L2
open PySem PySem.Spec PySem.W PyProof.Rows
abbrev vF (qual:Str) (params:Arguments) (body:Expr) (scope:Scope) (pm:Value) (c:Addr) (ctv:Value):FuncData:=kla_fn "<lambda>" qual params body scope [] pm (.ref c) ctv
def XM (f:Addr) (fd:FuncData):HO:=.ext fun h=>h.get? f=some { cls:=.type "function",data:=.func fd }
def Qt (c:Addr) (qual:Str):HO:=.ext fun h=>h.CodeRec (.ref c) qual
def Tab (H:Hp) (Pt:Addr) (pos:Pos) (qual:Str):Prop:=H Pt=some (.tbl #[])\/∃ c',H Pt=some (.tbl #[rawInt pos.line,rawInt pos.col,.ref c'])/\H c'=some (Qt c' qual)
theorem Tab.ne {H:Hp}{Pt:Addr}{pos:Pos}{qual:Str}(T:Tab H Pt pos qual):∃ ps,H Pt=some (.tbl ps):=by
 rcases T with z | ⟨c',z,_⟩
 ·exact ⟨_,z⟩
 ·exact ⟨_,z⟩
theorem Tab.same {H H':Hp}{Pt:Addr}{pos:Pos}{qual:Str}(T:Tab H Pt pos qual) (s:jh H H'):Tab H' Pt pos qual:=by
 rcases T with z | ⟨c',z,y⟩
 ·exact .inl (s _ _ z)
 ·exact .inr ⟨c',s _ _ z,s _ _ y⟩
theorem Tab.ext {H H':Hp}{Pt b:Addr}{pos:Pos}{qual:Str}{xs:List V}(T:Tab H Pt pos qual) (hb:H b=some (.lst xs)) (e:Ext b H H'):Tab H' Pt pos qual:=by
 rcases T with z | ⟨c',z,y⟩
 ·exact .inl (e _ _ z (jk z hb (by intro q;cases q)))
 ·exact .inr ⟨c',e _ _ z (jk z hb (by intro q;cases q)),e _ _ y (jk y hb (by intro q;cases q))⟩
theorem Tab.extN {H H':Hp}{Pt b:Addr}{pos:Pos}{qual:Str}(T:Tab H Pt pos qual) (hb:H b=none) (e:Ext b H H'):Tab H' Pt pos qual:=T.same fun c o h=>e c o h (j1 h hb)
def Bm (mg:Str->Option Value) (base:Heap):Prop:=∃ bm ob,mg "__builtins__" = some (.ref bm)/\bm≠builtinsNs/\base.get? bm=some ob/\ob.cls = .type "module" /\ ob.dict=some builtinsNs/\ob.data = .plain
theorem V4 {P:Program}{w:World}{K:PySem.W.Frag}{mg:Str->Option Value}{base:Heap}{k:Nat}{f c:Addr}{qual:Str}{params:Arguments}{body:Expr}{scope:Scope}{pm ctv:Value}{N:List Str}{x:Str}{A:Around}{outer:List Env}{s:Shared}{H:Hp}{u:Value}{v:V}{Q:VK}{t:TE}
  (ho:s.heap.get? f=some { cls:=.type "function",data:=.func (vF qual params body scope pm c ctv) }) (hcd:s.heap.CodeRec (.ref c) qual) (S:FnScope N [x] scope) (hr:Room (k+1) A) (e0:Env0 P w K mg base A outer s H)
  (hb:∀ pm c ctv u,bindArgs (vF qual params body scope pm c ctv) ⟨[u],[]⟩=pure [(x,u)]) (r:jy v u)
  (ht:PE (yY CX0 P w K mg base N qual scope f (.ref c) A outer s H E0).nox body t) (q:t (start N [v]) H Q) :
  codeAny (model P w) A (.call (.ref f) ⟨[u],[]⟩) (CR CX0 outer P w H s Q E0) s:=by
 have lim:s.heap.NoLimit:=e0.mod.nolimit.keeps fun b o e=>(e0.bs b o e).1
 have hkind:∀ y∈([x].zip [u]),scope.names.lookup y.1=some .local\/(scope.names.lookup y.1=some .cell/\((cellsFrom (s.heap.objs.size+1) scope.names []).lookup y.1).isSome=true):=fun ⟨n,v⟩ hy=>by
  rcases S.par n (List.of_mem_zip hy).1 with q | q
  ·exact .inl q
  ·exact .inr ⟨q,PySem.W.cellsFrom_some _ _ _ (.inl q)⟩
 refine kla_callFunE hr.depth ho rfl S.co S.gen rfl hcd ?_
 rw [hb]
 refine wpAny_pure (wpAny_newFunctionEnv_cells (binds:=[x].zip [u]) S.kind hkind fun env he s1 y=>?_)
 subst he
 refine ⟨lim.keeps y.toInCall.keep,kla_codeExpr ?_⟩
 have I:Inv (yY CX0 P w K mg base N qual scope f (.ref c) A outer s H E0) [] (start N [v]) H s1:=kj S hr.hd e0 rfl (Paired.cons r .nil) y
 refine wpAny_mono (ht.nox [] s1 (start N [v]) H _ I q) (fun u' s' hs=>?_) fun e s' hs=>hs
 obtain ⟨v',H',J,rv,q'⟩:=hs
 exact ⟨v',H',J.os,J.bare,J.base,J.hok,rv,q'⟩
section
variable {X:Cx}{pins:List (Addr×Obj)}{σ:St}{H:Hp}{s:Shared}
theorem ZY {E:Value->Shared->Prop}{c Pt:Addr}{params:Arguments}{body:Expr}{scope:Scope}{pos:Pos}{Q:Value->Shared->Prop}(I:Inv X pins σ H s) (hcode:X.env.code = .ref c) (CH:CodeHd X.base c Pt) (hB:Bm X.mg X.base)
  (hcl:closureFor scope X.env=pure []) (hdef:defaultsOf params X.env=([],[])) (T:Tab H Pt pos (X.env.qual ++ "<lambda>"))
  (k:∀ f H' s' pm c' ctv,Inv X pins σ H' s'->H f=none->H' f=some (XM f (vF (X.env.qual ++ "<lambda>") params body scope pm c' ctv))->H' c'=some (Qt c' (X.env.qual ++ "<lambda>"))->Ext Pt H H'->Tab H' Pt pos (X.env.qual ++ "<lambda>")->Q (.ref f) s') :
  wpAny (model X.prog X.w) X.A (eval (.Lambda params body scope pos) X.env) Q E s:=by
 refine kla_eval hdef ?_
 obtain ⟨bm,ob,b1,b2,b3,b4,b5,b6⟩:=hB
 obtain ⟨ps0,hPt⟩:=T.ne
 have trk:∀ {b:Addr} {o:Obj},X.base.get? b=some o->b≠Pt:=fun {b o} e z=>by
  have:=(I.bs b o e).2
  rw [z,hPt] at this;cases this
 have hgN:s.heap.Ns mainGlobals X.mg:=I.ok.mod.glob.keeps I.bk
 have hgP:mainGlobals≠Pt:=by
  obtain ⟨o,es,ep,e,_⟩:=I.ok.mod.glob
  exact trk e
 have hbG:bm≠mainGlobals:=fun q=>by
  obtain ⟨o,es,ep,e,hd,_⟩:=I.ok.mod.glob
  rw [q,e] at b3;cases b3;rw [hd] at b6;cases b6
 have hBA:s.heap.BuiltinsAt X.mg Pt:=⟨bm,ob,b1,b2,hbG,trk b3,I.bk _ _ b3,b4,b5,b6⟩
 have LS:∀ (f:Addr) (fd:FuncData) (h1 h2:Heap),h1.get? f=some { cls:=.type "function",data:=.func fd }->(∀ o,h1.get? f=some o->h2.get? f=some o)->h2.get? f=some { cls:=.type "function",data:=.func fd }:=fun f fd h1 h2 e m=>m _ e
 have CS:∀ (c:Addr) (q:Str) (h1 h2:Heap),h1.CodeRec (.ref c) q->(∀ o,h1.get? c=some o->h2.get? c=some o)->h2.CodeRec (.ref c) q:=fun c q h1 h2 ⟨c',o,vs,t,e,g,r⟩ m=>by
  cases e
  exact ⟨c,o,vs,t,rfl,m _ g,r⟩
 rcases T with hT | ⟨c',hT,hC⟩
 ·have eT:s.heap.get? Pt=some (tabObj #[]):=I.hok Pt _ hT
  refine kla_makeFunction (mg:=X.mg) hcl I.ok.glob hgN hcode (CH.keeps I.bk) eT trivial rfl hgP hBA fun c' ctv h' tk hx hge hlt hrec htb=>?_
  have hcN:H c'=none:=I.hok.fresh hge
  have hsz:s.heap.objs.size<=h'.objs.size:=Nat.le_of_lt (Nat.lt_of_le_of_lt hge hlt)
  have hfN:H h'.objs.size=none:=I.hok.fresh hsz
  have neC:∀ {b:Addr} {o:Obj},s.heap.get? b=some o->b≠c':=fun {b o} e=>Nat.ne_of_lt (Nat.lt_of_lt_of_le (Heap.lt_size e) hge)
  have neF:∀ {b:Addr} {o:Obj},s.heap.get? b=some o->b≠h'.objs.size:=fun {b o} e=>Nat.ne_of_lt (Nat.lt_of_lt_of_le (Heap.lt_size e) hsz)
  have hPc:Pt≠c':=neC eT
  have hPf:Pt≠h'.objs.size:=neF eT
  have hcf:c'≠h'.objs.size:=Nat.ne_of_lt hlt
  have e':h'.get? Pt=some (tabObj #[rawInt pos.line,rawInt pos.col,.ref c']):=by simpa using htb
  have getF:∀ {b:Addr} {o:HO},H b=some o->b≠Pt->upd (upd (upd H Pt (.tbl #[rawInt pos.line,rawInt pos.col,.ref c'])) c' (Qt c' (X.env.qual ++ "<lambda>"))) h'.objs.size (XM h'.objs.size (vF (X.env.qual ++ "<lambda>") params body scope ((X.mg "__name__").getD .none) c' ctv)) b=some o:=fun {b o} e n=>by
   rw [j5 (j1 e hfN),j5 (j1 e hcN),j5 n];exact e
  have atP:upd (upd (upd H Pt (.tbl #[rawInt pos.line,rawInt pos.col,.ref c'])) c' (Qt c' (X.env.qual ++ "<lambda>"))) h'.objs.size (XM h'.objs.size (vF (X.env.qual ++ "<lambda>") params body scope ((X.mg "__name__").getD .none) c' ctv)) Pt=some (.tbl #[rawInt pos.line,rawInt pos.col,.ref c']):=by
   rw [j5 hPf,j5 hPc,j4]
  have atC:upd (upd (upd H Pt (.tbl #[rawInt pos.line,rawInt pos.col,.ref c'])) c' (Qt c' (X.env.qual ++ "<lambda>"))) h'.objs.size (XM h'.objs.size (vF (X.env.qual ++ "<lambda>") params body scope ((X.mg "__name__").getD .none) c' ctv)) c'=some (Qt c' (X.env.qual ++ "<lambda>")):=by
   rw [j5 hcf,j4]
  refine k h'.objs.size (upd (upd (upd H Pt (.tbl #[rawInt pos.line,rawInt pos.col,.ref c'])) c' (Qt c' (X.env.qual ++ "<lambda>"))) h'.objs.size (XM h'.objs.size (vF (X.env.qual ++ "<lambda>") params body scope ((X.mg "__name__").getD .none) c' ctv))) _ ((X.mg "__name__").getD .none) c' ctv ?_ hfN j4 atC (fun b o e n=>getF e n) (.inr ⟨c',atP,atC⟩)
  have kp1:∀ b o,b≠Pt->s.heap.get? b=some o->(h'.push (kla_obj "<lambda>" (X.env.qual ++ "<lambda>") params body scope [] ((X.mg "__name__").getD .none) c' ctv)).get? b=some o:=fun b o n e=>Heap.get?_push_of_some _ (hx b o n e)
  have nP:∀ {b:Addr},H b=none->b≠Pt:=fun {b} e z=>by rw [z,hT] at e;cases e
  refine I.step (g':=s.gens) (d':=s.drawn) (ch:=[]) (fun _ z=>nomatch z) (fun b o _ _ _ e n=>kp1 b o (nP n) e) (fun b o _ _ _ e n=>⟨o.slots,kp1 b o (nP n) e⟩) (fun b o _ e n=>?_) (fun b o _ e=>?_) (fun b xs e=>?_) (fun b o u e=>?_) (fun b ps e=>?_) (fun m hm=>?_) (fun b u e=>?_) I.bare
  ·rw [j5 (neF e),j5 (neC e),j5 (nP n)];exact n
  ·by_cases hb:b=Pt
   ·subst hb;exact ⟨_,Heap.get?_push_of_some _ e'⟩
   ·exact ⟨o,kp1 b o hb e⟩
  ·exact getF e (jk e hT (by intro z;cases z))
  ·exact getF e (jk e hT (by intro z;cases z))
  ·by_cases hb:b=Pt
   ·subst hb
    rw [hT] at e;cases e
    exact ⟨#[rawInt pos.line,rawInt pos.col,.ref c'],by rw [atP];simp⟩
   ·exact ⟨#[],by rw [getF e hb];simp⟩
  ·obtain ⟨o,es,ep,ho,r⟩:=hm
   exact ⟨o,es,ep,kp1 _ o (nP I.free) ho,r⟩
  ·by_cases h1:b=h'.objs.size
   ·subst h1
    rw [j4] at e;cases e
    exact ⟨Heap.get?_push_size _ rfl,⟨_,Heap.get?_push_size _ rfl⟩,fun h1 h2 e m=>LS _ _ h1 h2 e m⟩
   ·by_cases h2:b=c'
    ·subst h2
     rw [atC] at e;cases e
     obtain ⟨c2,oc,vs,t,e2,hoc,r⟩:=id hrec
     cases e2
     exact ⟨hrec.keeps fun b o e=>Heap.get?_push_of_some _ e,⟨_,Heap.get?_push_of_some _ hoc⟩,fun h1 h2 e m=>CS _ _ h1 h2 e m⟩
    ·by_cases h3:b=Pt
     ·subst h3
      rw [atP] at e;cases e
      exact Heap.get?_push_of_some _ e'
     ·rw [j5 h1,j5 h2,j5 h3] at e
      refine (I.hok b u e).stay (fun b' v hc q=>kp1 b' v ?_ q) (fun b' q=>getF q (jk q hT (by intro z;cases z))) fun b' xs q=>getF q (jk q hT (by intro z;cases z))
      rcases hc with z | z
      ·rw [z];exact h3
      ·exact jk z hT (by intro z;cases z)
 ·have eT:s.heap.get? Pt=some (tabObj #[rawInt pos.line,rawInt pos.col,.ref c']):=I.hok Pt _ hT
  have tri:TriplesOk (#[rawInt pos.line,rawInt pos.col,Value.ref c']:Array Value).toList:=TriplesOk_snoc pos.line pos.col (.ref c') [] trivial
  have hit:codeAmong pos (#[rawInt pos.line,rawInt pos.col,Value.ref c']:Array Value).toList=some (.ref c'):=codeAmong_snoc (c:=.ref c') [] trivial rfl
  refine kla_makeFunctionHit (mg:=X.mg) hcl I.ok.glob hgN hcode (CH.keeps I.bk) eT tri hit hBA fun ctv h' tk hk hsz=>?_
  have hfN:H h'.objs.size=none:=I.hok.fresh hsz
  refine k h'.objs.size (upd H h'.objs.size (XM h'.objs.size (vF (X.env.qual ++ "<lambda>") params body scope ((X.mg "__name__").getD .none) c' ctv))) _ ((X.mg "__name__").getD .none) c' ctv ?_ hfN j4 (by rw [j5 (j1 hC hfN)];exact hC) (Ext.new hfN) (.inr ⟨c',by rw [j5 (j1 hT hfN)];exact hT,by rw [j5 (j1 hC hfN)];exact hC⟩)
  exact I.laid (fun b o e=>Heap.get?_push_of_some _ (hk b o e)) hsz ⟨Heap.get?_push_size _ rfl,⟨_,Heap.get?_push_size _ rfl⟩,fun h1 h2 e m=>LS _ _ h1 h2 e m⟩
theorem Inv.adopt {D:Addr}{ob:Obj}{o:HO}{h':Heap}{t':Nat}(I:Inv X ((D,ob)::pins) σ H s) (h1:X.s₀.heap.objs.size<=D) (h2:∀ x c,X.env.cells.lookup x=some c->c≠D) (h3:∀ p∈X.pn++pins,p.1≠D)
  (k:∀ b u,b≠D->s.heap.get? b=some u->h'.get? b=some u) (new:jW X.prog X.w (upd H D o) h' D o):Inv X pins σ (upd H D o) { s with heap:=h',toks:=t' }:=by
 obtain ⟨eD,nD,lD,_,_⟩:=I.pin (D,ob) (List.mem_append_right _ List.mem_cons_self)
 have I':Inv X pins σ H s:=I.pins_of fun p hp=>I.pin p (List.mem_append_right _ (List.mem_cons_of_mem _ hp))
 have nit:∀ b u,H b=some u->b≠D:=fun b u e z=>by rw [z,nD] at e;cases e
 have getF:∀ {b:Addr} {u:HO},H b=some u->upd H D o b=some u:=fun {b u} e=>by rw [j5 (nit b u e)];exact e
 refine I'.step (g':=s.gens) (d':=s.drawn) (ch:=[D]) (fun b hb=>?_) (fun b o _ _ hc e _=>k b o (fun z=>hc (by simp [z])) e) (fun b o _ _ hc e _=>⟨o.slots,k b o (fun z=>hc (by simp [z])) e⟩) (fun b o hc _ n=>by rw [j5 (fun z=>hc (by simp [z]))];exact n)
  (fun b o hc e=>⟨o,k b o (fun z=>hc (by simp [z])) e⟩) (fun _ _ e=>getF e) (fun _ _ _ e=>getF e) (fun b ps e=>⟨#[],by rw [getF e];simp⟩) (fun m hm=>?_) (fun b u e=>?_) I'.bare
 ·have e:b=D:=by simpa using hb
  subst e
  exact ⟨.inr h1,lD,h2,h3⟩
 ·obtain ⟨o,es,ep,ho,r⟩:=hm
  exact ⟨o,es,ep,k _ o (Ne.symm lD) ho,r⟩
 ·by_cases hb:b=D
  ·subst hb
   rw [j4] at e;cases e
   exact new
  ·rw [j5 hb] at e
   refine (I'.hok b u e).stay (fun c v hc q=>k c v ?_ q) (fun _ q=>getF q) fun _ _ q=>getF q
   rcases hc with z | z
   ·rw [z];exact hb
   ·exact nit c _ z
end
end L2
end
section
namespace L2
open PySem PySem.Spec PySem.W PyProof.Rows
def Vy (H:Hp) (ks:List V) (keyf:Nat->List Int) (j:Nat):Prop:=ks.length=j/\∀ i,i<j->∃ q,ks[i]? = some (V.ref q)/\H q=some (.tup ((keyf i).map V.int))
theorem Jk {a b:List Value}(h:a.length=b.length):(a.toArray.zip b.toArray).map (·.2)=b.toArray:=by
 apply Array.toList_inj.mp
 rw [Array.toList_map,ksk_zip]
 show (a.zip b).map Prod.snd=b
 rw [List.map_snd_zip]
 omega
section
variable {X:Cx}{pins:List (Addr×Obj)}{σ:St}{H:Hp}{s:Shared}
theorem JG {E:Value->Shared->Prop}{p f:Addr}{vs:List V}{keyf:Nat->List Int}{Q:Value->Shared->Prop}(I:Inv X pins σ H s) (hq:SqL X.K H p vs) (h64:vs.length<64) (hne:∀ i,i<vs.length->keyf i≠[])
  (hcall:∀ i v,vs[i]? = some v->∀ pins' s' H' u,Inv X pins' σ H' s'->jh H H'->jy v u->wpAny (model X.prog X.w) X.A.in1.in1 (call (.ref f) [u]) (EP X pins' σ fun kv H''=>jh H' H''/\∃ q,kv = .ref q/\H'' q=some (.tup ((keyf i).map V.int))) (fun _ _=>False) s')
  (k:∀ l H' out s',Inv X pins σ H' s'->H l=none->H' l=some (.lst out)->jh H H'->vJ uC keyf vs out->Q (.ref l) s') :
  wpAny (model X.prog X.w) X.A (call (.builtin "sorted") [.ref p] [(Str.ofString "key",.ref f)]) Q E s:=by
 obtain ⟨its,rv,pl,hz⟩:=I.list hq
 have hlen:its.length=vs.length:=rv.length.symm
 refine call_function_entry_kw kind_sorted plain_sorted entry_sorted (ksk_s1 _ _) ?_
 unfold Builtin.«sorted»
 refine wpAny_bind (m:=checkCount "sorted" 1 1 _) (wpAny_pure ?_)
 refine wpAny_bind (collect_list pl.isList ?_ (by rw [sizeLine_eq];omega))
 refine wpAny_bind (wpAny_newList ?_ (by rw [sizeLine_eq];omega))
 have hsz:((s.heap.push (seqObj "list" #[] 0)).update s.heap.objs.size (Obj.mapSeq (· ++ its.toArray))).objs.size=s.heap.objs.size+1:=by
  rw [Heap.size_update,size_push']
 have ho:(((s.heap.push (seqObj "list" #[] 0)).update s.heap.objs.size (Obj.mapSeq (· ++ its.toArray))).push (seqObj "list" its.toArray 0)).get? (s.heap.objs.size+1)=some (seqObj "list" its.toArray 0):=by
  rw [<- hsz];exact Heap.get?_push_size _ rfl
 have keep:∀ b o,s.heap.get? b=some o->(((s.heap.push (seqObj "list" #[] 0)).update s.heap.objs.size (Obj.mapSeq (· ++ its.toArray))).push (seqObj "list" its.toArray 0)).get? b=some o:=fun b o q=>by
  have hlt:b<s.heap.objs.size:=Heap.lt_size q
  rw [Heap.get?_push_ne _ _ _ (by rw [hsz];exact Nat.ne_of_lt (Nat.lt_succ_of_lt hlt)),Heap.get?_update_ne _ _ _ _ (Nat.ne_of_lt hlt),Heap.get?_push_ne _ _ _ (Nat.ne_of_lt hlt)]
  exact q
 show wpAny _ _ _ _ _ { s with heap:=((s.heap.push (seqObj "list" #[] 0)).update s.heap.objs.size (Obj.mapSeq (· ++ its.toArray))).push (seqObj "list" its.toArray 0) }
 rw [hsz]
 refine wpAny_bind (wpAny_holding (wpAny_call_entry_kw slot_list_sort ⟨_,ho,rfl⟩ entry_list_sort ?body (ksk_l1 _ _)))
 case body =>
  generalize ((s.heap.push (seqObj "list" #[] 0)).update s.heap.objs.size (Obj.mapSeq (· ++ its.toArray))).push (seqObj "list" its.toArray 0)=h0 at ho keep
  generalize ha:s.heap.objs.size+1=a at ho
  have hDs:s.heap.objs.size<=a:=by rw [<- ha];exact Nat.le_succ _
  have aNew:∀ b o,s.heap.get? b=some o->b≠a:=fun b o q=>by have:=Heap.lt_size q;rw [<- ha];exact Nat.ne_of_lt (Nat.lt_succ_of_lt this)
  show wpAny (model X.prog X.w) X.A.in1.in1 (Builtin.«list.sort» ⟨[.ref a],[(Str.ofString "key",.ref f)]⟩) _ _ { s with heap:=h0 }
  rw [ksk_t1]
  unfold ksk_tree
  have hal:a<h0.objs.size:=Heap.lt_size ho
  refine wpAny_bind (listItems_at ho rfl ?_)
  refine wpAny_bind (listUpdate_at ho rfl ?_ (by rw [List.size_toArray,sizeLine_eq];omega) (Nat.zero_le _))
  obtain ⟨e1,ho1⟩:∃ e1,(h0.update a (Obj.mapSeq fun _=>(#[]:Array Value))).get? a=some (seqObj "list" #[] e1):=⟨_,get?_update_seq ho (fun _=>#[])⟩
  refine wpAny_bind (seqEpoch_at ho1 rfl ?_)
  refine wpAny_bind (wpAny_newTuple ?_ (by show its.length<=_;rw [sizeLine_eq];omega))
  refine wpAny_bind (wpAny_newList ?_ (Nat.zero_le _))
  refine wpAny_holding ?_
  have ho5:((h0.update a (Obj.mapSeq fun _=>(#[]:Array Value))).push (seqObj "tuple" its.toArray 0)).get? a=some (seqObj "list" #[] e1):=Heap.get?_push_of_some _ ho1
  have keep5:∀ b o,s.heap.get? b=some o->((h0.update a (Obj.mapSeq fun _=>(#[]:Array Value))).push (seqObj "tuple" its.toArray 0)).get? b=some o:=fun b o q =>
   Heap.get?_push_of_some _ ((Heap.get?_update_ne _ _ _ _ (aNew b o q)).trans (keep b o q))
  show wpAny (model X.prog X.w) X.A.in1.in1 (ksk_rest a (.ref f) false its.toArray e1 (.ref ((h0.update a (Obj.mapSeq fun _=>(#[]:Array Value))).push (seqObj "tuple" its.toArray 0)).objs.size)) _ _
   { s with heap:=((h0.update a (Obj.mapSeq fun _=>(#[]:Array Value))).push (seqObj "tuple" its.toArray 0)).push (seqObj "list" #[] 0) }
  generalize (h0.update a (Obj.mapSeq fun _=>(#[]:Array Value))).push (seqObj "tuple" its.toArray 0)=h5 at ho5 keep5
  have I5:Inv X pins σ H { s with heap:=h5,toks:=s.toks }:=I.kept keep5
  have hHa:H a=none:=I.hok.fresh hDs
  have hHk:H h5.objs.size=none:=I5.hok.fresh (Nat.le_refl _)
  have hLoc:a≠X.env.locals:=fun z=>by
   obtain ⟨m,⟨o,es,ep,e,_⟩,_⟩:=I.loc
   exact aNew _ _ e z.symm
  have hFs:a∉X.fs:=I.nofs hDs
  have hCell:∀ x c,X.env.cells.lookup x=some c->c≠a:=fun x c e=>by
   obtain ⟨v,o,e2,_⟩:=I.cell x c e
   exact aNew c o e2
  have hPins:∀ q∈X.pn++pins,q.1≠a:=fun q hq=>aNew _ _ (I.pin q hq).1
  have I6:Inv X ((a,seqObj "list" #[] e1)::pins) σ (upd H h5.objs.size (.lst [])) { s with heap:=h5.push (seqObj "list" #[] 0),toks:=s.toks }:=by
   refine Inv.pins_of (I5.lnew (its:=[]) (ys:=[]) .nil (Nat.zero_le _)) fun q hq=>?_
   rcases List.mem_cons.mp hq with rfl | hq
   ·refine ⟨Heap.get?_push_of_some _ ho5,?_,hLoc,hFs,fun v=>by intro z;cases z⟩
    rw [j5 (Nat.ne_of_lt (Heap.lt_size ho5))]
    exact hHa
   ·have J:=(I5.lnew (its:=[]) (ys:=[]) (t':=s.toks) .nil (Nat.zero_le _)).pin q (List.mem_append_right _ hq)
    exact J
  unfold ksk_rest
  refine wpAny_bind (wpAny_rule ?_)
  first
   | rw [List.forIn_toArray]
   | (rw [<- Array.forIn_toList];simp only [List.toList_toArray])
   | rw [<- Array.forIn_toList]
  refine wpAny_bind (ksk_fold (fun j s'=>∃ H' ks,Inv X ((a,seqObj "list" #[] e1)::pins) σ H' s'/\jh H H'/\H' h5.objs.size=some (.lst ks)/\Vy H' ks keyf j) its 0 _
   ⟨_,[],I6,jh.new hHk,j4,rfl,fun i hi=>absurd hi (Nat.not_lt_zero _)⟩ (fun j x s' hx hJ=>?_) fun s' hJ=>?_)
  ·-- a key
   rw [Nat.zero_add] at hJ ⊢
   obtain ⟨H',ks,J,sm,hk,hl,hks⟩:=hJ
   have hj:j<its.length:=(List.getElem?_eq_some_iff.mp hx).1
   have hv:vs[j]? = some (vs[j]'(by omega)):=List.getElem?_eq_getElem (by omega)
   obtain ⟨u,e5,ru⟩:=rv.get hv
   rw [hx] at e5
   cases e5
   refine wpAny_bind (wpAny_attempt (wpAny_mono (hcall j _ hv _ s' H' x J sm ru) (fun kv s'' hk2=>?_) fun _ _ hF=>hF.elim))
   obtain ⟨kv',H'',J2,rk,sm2,q,rfl,hqq⟩:=hk2
   dsimp only
   have hk':=sm2 _ _ hk
   obtain ⟨z,itk,n,rvk,hlk,ek⟩:=J2.lstM hk'
   refine wpAny_bind (listUpdate_at ek rfl ?_ (by rw [List.size_toArray,<- hlk,hl,sizeLine_eq];omega) (Nat.le_trans (Nat.le_of_eq (Array.size_push ..)) (by rw [List.size_toArray,<- hlk,hl,sizeLine_eq];omega)))
   refine wpAny_pure ⟨rfl,_,ks++[.ref q],J2.lset (t':=s''.toks) (its':=itk++[kv]) hk' ek (by simp) (rvk.append (.cons rk .nil)) (by rw [List.length_append,List.length_singleton,hl];exact Nat.le_trans (by omega:j+1<=1000) (by decide)),fun b o e=>?_,j4,?_,fun i hi=>?_⟩
   ·rw [j5 (j1 e hHk)]
    exact sm2 _ _ (sm _ _ e)
   ·rw [List.length_append,List.length_singleton,hl]
   ·by_cases hij:i<j
    ·obtain ⟨q',e6,e7⟩:=hks i hij
     refine ⟨q',by rw [List.getElem?_append_left (by omega)];exact e6,?_⟩
     have e8:=sm2 _ _ e7
     rw [j5 (jk e8 hk' (by intro z;cases z))]
     exact e8
    ·have:i=j:=by omega
     subst this
     refine ⟨q,by rw [List.getElem?_append_right (by omega),hl];simp,?_⟩
     rw [j5 (jk hqq hk' (by intro z;cases z))]
     exact hqq
  ·-- behind the keys
   rw [Nat.zero_add] at hJ
   obtain ⟨H',ks,J,sm,hk,hl,hks⟩:=hJ
   obtain ⟨z,itk,n,rvk,hlk,ek⟩:=J.lstM hk
   have hlk':itk.length=its.length:=by omega
   refine wpAny_bind (listItems_at ek rfl ?_)
   obtain ⟨eD,nD,_⟩:=J.pin (a,seqObj "list" #[] e1) (List.mem_append_right _ List.mem_cons_self)
   have hak:a≠h5.objs.size:=fun z=>by rw [z,hk] at nD;cases nD
   have keyAt:∀ i,i<its.length->∃ q itq o m,itk.getD i Value.none = .ref q/\s'.heap.get? q=some o/\o.cls = .type "tuple" /\ o.data = .seq itq.toArray m/\IntsAre itq (keyf i):=fun i hi=>by
    obtain ⟨q,e6,e7⟩:=hks i hi
    obtain ⟨u,e8,ru⟩:=rvk.get e6
    cases ru
    obtain ⟨zz,itq,rq,o,e9,ec,m,ed⟩:=J.hok q _ e7
    exact ⟨q,itq,o,m,by rw [List.getD_eq_getElem?_getD,e8];rfl,e9,ec,ed,qq rq⟩
   have fin:∀ (ix:List Nat) (st':SortSt),ix.Perm (List.range its.length)->(ix.map keyf).Pairwise uC.kle->failedOf st'=none->(arrOf st').map (·.2)=(ix.map fun i=>its.getD i Value.none).toArray ->
     wpAny (model X.prog X.w) X.A.in1.in1 (ksk_tail a false e1 (.ref h5.objs.size) st') (fun fin s'=>∃ v,fin = .done (.ret v)/\wpAny (model X.prog X.w) X.A.in1 (do let _ <- pure v;ret (Value.ref a)) (fun fin s'=>∃ v,fin = .done (.ret v)/\Q v s') E s') E s':=by
    intro ix st' hp hg hf hout
    unfold ksk_tail
    dsimp only
    rw [hout]
    have hol:(ix.map fun i=>its.getD i Value.none).length<64:=by rw [List.length_map,hp.length_eq,List.length_range];omega
    refine wpAny_bind (listUpdate_at ek rfl ?_ (by rw [List.size_toArray,hlk',sizeLine_eq];omega) (Nat.zero_le _))
    refine wpAny_bind (wpAny_letGo ?_)
    have J2:Inv X ((a,seqObj "list" #[] e1)::pins) σ (upd H' h5.objs.size (.lst [])) { s' with heap:=s'.heap.update h5.objs.size (Obj.mapSeq fun _=>(#[]:Array Value)),toks:=s'.toks }:=J.lset (its':=[]) (ys:=[]) hk ek rfl .nil (Nat.zero_le _)
    have eD2:(s'.heap.update h5.objs.size (Obj.mapSeq fun _=>(#[]:Array Value))).get? a=some (seqObj "list" #[] e1):=(Heap.get?_update_ne _ _ _ _ hak).trans eD
    refine wpAny_bind (seqEpoch_at eD2 rfl ?_)
    refine wpAny_bind (listUpdate_at eD2 rfl ?_ (Nat.zero_le _) (by simp only [Bool.false_eq_true,if_false];rw [List.size_toArray,sizeLine_eq];omega))
    rw [hf]
    simp only [bne_self_eq_false,Bool.false_eq_true,if_false]
    refine wpAny_pure ⟨_,rfl,wpAny_bind (wpAny_pure (wpAny_pure ⟨_,rfl,?_⟩))⟩
    have eo:∃ n,((s'.heap.update h5.objs.size (Obj.mapSeq fun _=>(#[]:Array Value))).update a (Obj.mapSeq fun _=>(ix.map fun i=>its.getD i Value.none).toArray)).get? a=some (seqObj "list" (ix.map fun i=>its.getD i Value.none).toArray n):=⟨_,get?_update_seq eD2 fun _=>_⟩
    obtain ⟨n',eo⟩:=eo
    have J3:=J2.adopt (o:=.lst (ix.map fun i=>vs.getD i V.non)) (t':=s'.toks) (Nat.le_trans I.sz hDs) hCell hPins
     (h':=(s'.heap.update h5.objs.size (Obj.mapSeq fun _=>(#[]:Array Value))).update a (Obj.mapSeq fun _=>(ix.map fun i=>its.getD i Value.none).toArray)) (fun b u n e=>(Heap.get?_update_ne _ _ _ _ n).trans e) ⟨by rw [List.length_map,hp.length_eq,List.length_range];exact Nat.le_trans (by omega:its.length<=1000) (by decide),_,n',vY rv ix,eo⟩
    refine k a _ _ _ J3 hHa j4 (fun b o e=>?_) ⟨ix,by rw [<- hlen];exact hp,rfl,hg⟩
    rw [j5 (j1 e hHa),j5 (j1 e hHk)]
    exact sm _ _ e
   unfold ksk_end
   dsimp only
   simp only [Bool.false_eq_true,if_false]
   by_cases h2:its.toArray.size<2
   ·rw [if_pos h2,if_pos h2]
    refine wpAny_bind (wpAny_pure ?_)
    rw [StateT.run_pure]
    refine wpAny_bind (wpAny_pure ?_)
    dsimp only
    rw [List.size_toArray] at h2
    refine fin (List.range its.length) _ (List.Perm.refl _) ?_ rfl ?_
    ·have hcase:its.length=0\/its.length=1:=by omega
     rcases hcase with z | z
     ·rw [z];exact List.Pairwise.nil
     ·rw [z];exact List.pairwise_singleton _ _
    ·rw [yQ]
     exact Jk hlk'
   ·rw [if_neg h2,if_neg h2]
    rw [List.size_toArray] at h2
    have tups:∃ fs,KatTups s'.heap itk fs/\0<fs.length/\∀ v∈fs,Looks (model X.prog X.w) s'.heap (typeOf v) (.type "int"):=by
     have go:∀ (l:List Value),(∀ i,i<l.length->∃ q itq o m ns,l.getD i Value.none = .ref q/\s'.heap.get? q=some o/\o.cls = .type "tuple" /\ o.data = .seq (List.toArray itq) m/\IntsAre itq ns/\ns≠[]) ->
       ∃ fs,KatTups s'.heap l fs/\fs.length=l.length/\∀ v∈fs,Looks (model X.prog X.w) s'.heap (typeOf v) (.type "int"):=by
      intro l
      induction l with
      | nil=>intro _;exact ⟨[],.nil,rfl,fun _ h=>nomatch h⟩
      | cons v l ih =>
       intro h
       obtain ⟨fs,t,e,lk⟩:=ih fun i hi=>h (i+1) (by rw [List.length_cons];omega)
       obtain ⟨q,itq,o,m,ns,e1,e2,e3,e4,e5,e6⟩:=h 0 (by rw [List.length_cons];omega)
       have e1':v = .ref q:=e1
       subst e1'
       cases e5 with
       | nil=>exact absurd rfl e6
       | cons n t' r =>
        refine ⟨.int n t'::fs,KatTups.cons e2 e3 e4 (by simp) t,by rw [List.length_cons,List.length_cons,e],fun v hv=>?_⟩
        rcases List.mem_cons.mp hv with rfl | hv
        ·exact Looks.of_pure rfl
        ·exact lk v hv
     obtain ⟨fs,t,e,lk⟩:=go itk fun i hi=>by
      obtain ⟨q,itq,o,m,a1,a2,a3,a4,a5⟩:=keyAt i (by omega)
      exact ⟨q,itq,o,m,keyf i,a1,a2,a3,a4,a5,hne i (by omega)⟩
     exact ⟨fs,t,by omega,lk⟩
    obtain ⟨fs,t,hfs,lk⟩:=tups
    refine wpAny_bind (kat_kind (T:=.type "int") t hfs lk rfl ?_)
    rw [show (Value.type "int" != Value.type "tuple")=true from rfl]
    refine wpAny_bind (wpAny_mono (kat_run (ks:=itk) (vs:=its) (κ:=tuples' true) (G:=fun p s2=>(qa its.length p/\(p.toList.map keyf).Pairwise uC.kle)/\s2=s') (Q:=fun st' s2=>∃ p:Array Nat,arrOf st'=p.map (kas_item (itk.toArray.zip its.toArray))/\failedOf st'=none/\(qa its.length p/\(p.toList.map keyf).Pairwise uC.kle)/\s2=s')
     hlk' (by omega) (by omega) (fun p st' s' a1 a2 a3 a4=>⟨p,a2,a3,a4⟩) (qH.wp (lt:=ltK uC keyf) (n:=its.length) (I:=fun s2=>s2=s') (fun i j C s2 hi hj hI hC=>?_) (fun p s2 hp hI=>⟨hp,hI⟩) (wF (by omega) fun p' hP hS=>⟨hP,hS.pairwise hP.size⟩) rfl)) ?_ fun _ _ e=>e)
    ·subst hI
     obtain ⟨q,itq,o,m,a1,a2,a3,a4,a5⟩:=keyAt i hi
     obtain ⟨q',itq',o',m',b1,b2,b3,b4,b5⟩:=keyAt j hj
     unfold kas_ask
     rw [a1,b1]
     exact QI a2 a4 b2 b4 a5 b5 (hC _ rfl)
    ·rintro ⟨⟨⟩,st'⟩ s2 ⟨p,har,hf,⟨hP,hG⟩,rfl⟩
     dsimp only
     exact fin p.toList st' (by have:=Array.perm_iff_toList_perm.mp hP;simpa using this) hG hf (kat_snds hlk' har)
end
end L2
end
section
namespace L2
open PySem PySem.Spec PySem.W PyProof.Rows
section
variable {prog:Program}{w:World}{A:Around}{E:Value->Shared->Prop}{s:Shared}
theorem Qg (n:Nat):Builtin.Slice.sliceAdjust none none (-1) (n:Int)=((n:Int)-1,-1):=by
 unfold Builtin.Slice.sliceAdjust
 simp
theorem QK (n:Nat):Builtin.Slice.slicePlaces ((n:Int)-1) (-1) (-1)=n:=by
 unfold Builtin.Slice.slicePlaces
 have h1:¬ ((-1:Int) > 0):=by decide
 simp only [h1,if_false]
 by_cases h:n=0
 ·subst h;simp
 ·rw [show (- -1:Int)=1 by decide]
  simp only [Int.ediv_one]
  split <;> omega
theorem ue {sl:Addr}{v3:Value}{n:Nat}{Q:Int×Int×Nat->Shared->Prop}(hs:s.heap.IsSliceOf sl .none .none v3) (pk:IsPart v3 (some (-1)))
  (h:Q ((n:Int)-1,-1,n) s):wpAny (model prog w) A (Builtin.Slice.sliceApplied (.ref sl) (pure (n:Int))) Q E s:=by
 obtain ⟨os,hos,hcs,hds⟩:=id hs
 unfold Builtin.Slice.sliceApplied Builtin.Slice.sliceFields
 refine wpAny_bind (wpAny_bind (wpAny_field hos hds (x:=.none) rfl (wpAny_bind (wpAny_field hos hds (x:=.none) rfl (wpAny_bind (wpAny_field hos hds (x:=v3) rfl (wpAny_pure ?_)))))))
 refine wpAny_bind (HT.slicePart_ pk ?_)
 show wpAny _ _ (if ((-1:Int) == 0)=true then _ else _) _ _ s
 rw [if_neg (by decide)]
 refine wpAny_bind (HT.slicePart_ .none (wpAny_bind (HT.slicePart_ .none (wpAny_bind (wpAny_pure ?_)))))
 show wpAny _ _ (match Builtin.Slice.sliceAdjust none none (-1) (n:Int) with | (lo,hi)=>pure (lo,(-1:Int),Builtin.Slice.slicePlaces lo hi (-1))) _ _ s
 rw [Qg n]
 show wpAny _ _ (pure ((n:Int)-1,(-1:Int),Builtin.Slice.slicePlaces ((n:Int)-1) (-1) (-1))) _ _ s
 rw [QK]
 exact wpAny_pure h
theorem Y9 (xs:Array Value):((List.range xs.size).filterMap fun (m:Nat)=>xs[(((xs.size:Int)-1)+(m:Int) * -1).toNat]?).toArray=xs.toList.reverse.toArray:=by
 have e:((List.range xs.size).filterMap fun (m:Nat)=>xs[(((xs.size:Int)-1)+(m:Int) * -1).toNat]?)=((List.range xs.size).map fun k=>xs.size-1-k).filterMap (xs[·]?):=by
  rw [List.filterMap_map]
  congr 1
  funext m
  show xs[(((xs.size:Int)-1)+(m:Int) * -1).toNat]? = xs[xs.size-1-m]?
  congr 1
  omega
 rw [e,krv_range,List.filterMap_reverse,krv_all]
theorem vM {t sl:Addr}{items:Array Value}{v3:Value}{Q:Value->Shared->Prop}(ht:IsTup s.heap t items) (hs:s.heap.IsSliceOf sl .none .none v3) (pk:IsPart v3 (some (-1)))
  (h:Q (.ref s.heap.objs.size) { s with heap:=s.heap.push { cls:=.type "tuple",data:=.seq items.toList.reverse.toArray } }) (hsz:items.size<=sizeLine):wpAny (model prog w) A (getItem (.ref t) (.ref sl)) Q E s:=by
 have htake:sizeOk (.seq items.toList.reverse.toArray):=by
  show items.toList.reverse.toArray.size<=sizeLine
  rw [List.size_toArray,List.length_reverse,Array.length_toList]
  exact hsz
 obtain ⟨os,hos,hcs,hds⟩:=id hs
 have hTs:s.TypeIs (.ref sl) "slice":=⟨os,hos,hcs⟩
 unfold getItem
 try with_reducible refine wpAny_holding ?_
 first | refine wpAny_bind (wpAny_pure ?_) | skip
 refine wpAny_bind (wpAny_sequenceKey ht.typeIs (by decide) ?_)
 refine wpAny_bind (wpAny_callSpecial?_slot (name:=Str.ofString "__getitem__") ht.typeIs PyProof.Rows.slot_tuple_getitem
  (wpAny_call_entry PyProof.Rows.slot_tuple_getitem ht.typeIs entry_tuple_getitem ?_ (args_tuple_getitem _ _)))
 show wpAny _ _ (Builtin.Tuple.tupleItemsOf (.ref t) >>= _) _ _ s
 refine wpAny_bind (tupleItemsOf_ ht ?_)
 refine wpAny_bind (wpAny_typeOf hTs ?_)
 rw [if_pos (by decide)]
 refine wpAny_bind (ue hs pk ?_)
 show wpAny _ _ (if (((items.size:Int)-1) == 0 && (-1:Int) == 1 && items.size == items.size)=true then _ else _) _ _ s
 rw [if_neg (by simp),Y9]
 first
  | exact wpAny_bind (m:=Builtin.Tuple.tupleExact _) (wpAny_newObj_type (wpAny_pure ⟨_,rfl,wpAny_pure h⟩) htake)
  | exact wpAny_bind (m:=Builtin.Tuple.tupleExact _) (wpAny_newObj_type (wpAny_bind (wpAny_pure (wpAny_pure ⟨_,rfl,wpAny_pure h⟩))) htake)
  | exact wpAny_bind (wpAny_bind (m:=Builtin.Tuple.tupleExact _) (wpAny_newObj_type (wpAny_pure (wpAny_pure ⟨_,rfl,wpAny_pure h⟩)) htake))
  | exact wpAny_bind (wpAny_bind (m:=Builtin.Tuple.tupleExact _) (wpAny_newObj_type (wpAny_pure ⟨_,rfl,wpAny_pure h⟩) htake))
end
section
variable {X:Cx}{e:Expr}{te:TE}{pos p2 p3 p4:Pos}{j3:Nat}
def Uv (K:PySem.W.Frag) (te:TE):TE:=fun σ H Q=>te σ H fun x H2=>∃ a xs,x = .ref a/\SqT K H2 a xs/\New H2 (.tup xs.reverse) Q
def UE (K:PySem.W.Frag) (te:TE):TE:=fun σ H Q=>te σ H fun x H2=>∃ a xs,x = .ref a/\SqL K H2 a xs/\New H2 (.lst xs.reverse) Q
theorem YK (K:PySem.W.Frag) (he:PE X e te) (hK:X.K=K:=by rfl):PE X (.Subscript e (.Slice none none (some (.UnaryOp .USub (.Constant (.int 1) j3 p3) p4)) p2) pos) (Uv K te):=by
 subst hK
 intro pins s σ H Q I h
 refine Subscript_ (thn (he pins s σ H _ I h) fun v s1 ⟨x,H1,I1,r1,q1⟩=>?_)
 refine wpAny_Slice ?_
 rw [evalPart_none]
 refine wpAny_pure ?_
 refine wpAny_pure ?_
 rw [evalPart_some]
 obtain ⟨a,xs,rfl,hx,q⟩:=q1
 refine thn (yE zq j8 pins s1 σ H1 (fun y H2=>y = .int (-1)/\H2=H1) I1 ⟨_,rfl,rfl,rfl⟩) fun u s3 ⟨y,H3,I3,ry,ey,eH⟩=>?_
 subst ey eH
 obtain ⟨tk,rfl⟩:=ry
 cases r1
 have I4:Inv X pins σ H3 { s3 with heap:=s3.heap.push { cls:=.type "slice",data:=.fields #[.none,.none,.int (-1) tk] } }:=I3.kept (t':=s3.toks) fun b ob q=>Heap.get?_push_of_some _ q
 obtain ⟨its,r,ht,hz⟩:=I4.tuple hx
 have hlen:its.toArray.size=xs.length:=by rw [List.size_toArray];exact r.length.symm
 show wpAny (model X.prog X.w) X.A (subscriptTail e (.Slice none none (some (.UnaryOp .USub (.Constant (.int 1) j3 p3) p4)) p2) (.ref a) (.ref s3.heap.objs.size)) (EP X pins σ Q) X.xe { s3 with heap:=s3.heap.push { cls:=.type "slice",data:=.fields #[.none,.none,.int (-1) tk] } }
 refine tail_any (ops:=[.ref a,.ref s3.heap.objs.size]) ht.typeIs PyProof.Rows.slot_tuple_getitem.lookup ?_ (by with_unfolding_all rfl)
 refine vM ht (Heap.IsSliceOf.new ..) (.int _ _) ?_ (by rw [hlen];exact hz)
 have hf:=I4.hok.fresh (Nat.le_refl _)
 refine ⟨.ref _,_,I4.laid (t':=s3.toks) (o:=.tup xs.reverse) (fun b ob q=>Heap.get?_push_of_some _ q) (Nat.le_refl _) ?_,rfl,q.at _ hf⟩
 exact ⟨by rw [List.length_reverse];exact hz,_,r.reverse,IsTup.new _ _⟩
theorem V5 (K:PySem.W.Frag) (he:PE X e te) (hK:X.K=K:=by rfl):PE X (.Subscript e (.Slice none none (some (.UnaryOp .USub (.Constant (.int 1) j3 p3) p4)) p2) pos) (UE K te):=by
 subst hK
 intro pins s σ H Q I h
 refine Subscript_ (thn (he pins s σ H _ I h) fun v s1 ⟨x,H1,I1,r1,q1⟩=>?_)
 refine wpAny_Slice ?_
 rw [evalPart_none]
 refine wpAny_pure ?_
 refine wpAny_pure ?_
 rw [evalPart_some]
 obtain ⟨a,xs,rfl,hx,q⟩:=q1
 refine thn (yE zq j8 pins s1 σ H1 (fun y H2=>y = .int (-1)/\H2=H1) I1 ⟨_,rfl,rfl,rfl⟩) fun u s3 ⟨y,H3,I3,ry,ey,eH⟩=>?_
 subst ey eH
 obtain ⟨tk,rfl⟩:=ry
 cases r1
 have I4:Inv X pins σ H3 { s3 with heap:=s3.heap.push { cls:=.type "slice",data:=.fields #[.none,.none,.int (-1) tk] } }:=I3.kept (t':=s3.toks) fun b ob q=>Heap.get?_push_of_some _ q
 obtain ⟨its,r,ht,hz⟩:=I4.list hx
 have hlen:its.length=xs.length:=r.length.symm
 show wpAny (model X.prog X.w) X.A (subscriptTail e (.Slice none none (some (.UnaryOp .USub (.Constant (.int 1) j3 p3) p4)) p2) (.ref a) (.ref s3.heap.objs.size)) (EP X pins σ Q) X.xe { s3 with heap:=s3.heap.push { cls:=.type "slice",data:=.fields #[.none,.none,.int (-1) tk] } }
 refine tail_any (ops:=[.ref a,.ref s3.heap.objs.size]) ht.isList.typeIs slot_list_getitem.lookup ?_ (by with_unfolding_all rfl)
 refine wpAny_getItem_list_slice ht.isList (Heap.IsSliceOf.new ..) .none .none (.int _ _) (by decide) ?_ (by rw [List.size_toArray];omega)
 rw [krv_pick]
 have hf:=I4.hok.fresh (Nat.le_refl _)
 refine ⟨.ref _,_,I4.laid (t':=s3.toks) (o:=.lst xs.reverse) (fun b ob q=>Heap.get?_push_of_some _ q) (Nat.le_refl _) ?_,rfl,q.at _ hf⟩
 exact ⟨by rw [List.length_reverse];exact hz,_,0,r.reverse,Heap.get?_push_size _ rfl⟩
end
theorem SqL.extT {K:PySem.W.Frag}{Pt a:Addr}{H H':Hp}{xs:List V}{ps:Array Value}(hp:H Pt=some (.tbl ps)) (x:Ext Pt H H') (h:SqL K H a xs):SqL K H' a xs:=by
 rcases h with (h | ⟨o,h⟩) | h
 ·exact .inl (.inl (x _ _ h (jk h hp (by intro z;cases z))))
 ·exact .inl (.inr ⟨o,x _ _ h (jk h hp (by intro z;cases z))⟩)
 ·exact .inr h
section
variable {X:Cx}{e body:Expr}{ta:TA}{tb:TE}{params:Arguments}{scope:Scope}{lpos kpos p pos:Pos}{N:List Str}{x:Str}{c Pt:Addr}{k:Nat}
def VU (K:PySem.W.Frag) (Pt:Addr) (lpos:Pos) (qual:Str) (N:List Str) (ta:TA) (tb:TE):TE:=fun σ H Q=>ta σ H fun xs H1=>Tab H1 Pt lpos qual/\∃ (p:Addr) (vs:List V) (keyf:Nat->List Int),xs=[.ref p]/\SqL K H1 p vs/\vs.length<64/\(∀ i,i<vs.length->keyf i≠[]) /\
 (∀ H2,Ext Pt H1 H2->∀ i v,vs[i]? = some v->tb (start N [v]) H2 fun kv H3=>jh H2 H3/\∃ q,kv = .ref q/\H3 q=some (.tup ((keyf i).map V.int))) /\
 ∀ l H2 out,H1 l=none->H2 l=some (.lst out)->Ext Pt H1 H2->Tab H2 Pt lpos qual->vJ uC keyf vs out->Q (.ref l) H2
theorem QD (hg:Gl X "sorted") (hm:X.mg "sorted" = none) (ha:PA X [e] ta) (hcode:X.env.code = .ref c) (CH:CodeHd X.base c Pt) (hB:Bm X.mg X.base) (hr:Room (k+3) X.A) (S:FnScope N [x] scope)
  (hb:∀ pm c ctv u,bindArgs (vF (X.env.qual ++ "<lambda>") params body scope pm c ctv) ⟨[u],[]⟩=pure [(x,u)])
  (hbody:∀ f c' s H,PE (yY CX0 X.prog X.w X.K X.mg X.base N (X.env.qual ++ "<lambda>") scope f (.ref c') X.A.in1.in1 X.stack s H E0).nox body tb)
  (hcl:closureFor scope X.env=pure []:=by rfl) (hdef:defaultsOf params X.env=([],[]):=by rfl)
  (he:backTo pos (starEach [e] X.env)=(false,eval e X.env)::backTo pos (starEach [] X.env):=by rfl) (hplain:(backTo pos (starEach [e] X.env)).any (·.1)=false:=by rfl) :
  PE X (.Call (.Name "sorted" p) [e] [⟨some (Str.ofString "key"),.Lambda params body scope lpos,kpos⟩] pos) (VU X.K Pt lpos (X.env.qual ++ "<lambda>") N ta tb):=by
 intro pins s σ H Q I h
 refine wpAny_Call_Name_kw (zh I hg hm boot_sorted ?_ (by decide) (by decide))
 refine callWith_kw (thn (ha pos pins s σ H _ I h) fun us s1 ⟨vs,H1,I1,r,q⟩=>?_) he hplain
 show wpAny _ _ (evalAll ((do let v <- eval (.Lambda params body scope lpos) X.env;standAt pos;pure v)::[])) _ _ s1
 obtain ⟨T,a,xs,keyf,e1,hx,h64,hne,hkey,hq⟩:=q
 subst e1
 obtain ⟨u0,rfl,ru⟩:=xX r
 cases ru
 obtain ⟨ps0,hPt⟩:=T.ne
 refine wpAny_evalAll_cons (wpAny_bind (ZY I1 hcode CH hB hcl hdef T fun f H2 s2 pm c' ctv I2 hf hf2 hc2 X2 T2=>wpAny_bind (wpAny_standAt (wpAny_pure (wpAny_evalAll_nil ?_)))))
 show wpAny _ _ (call (.builtin "sorted") [.ref a] [(Str.ofString "key",.ref f)]) _ _ s2
 refine JG I2 (SqL.extT hPt X2 hx) h64 hne (fun i v hv pins' s' H' u I' sm ru=>?_) fun l H3 out s' I3 hl hl3 sm hs=>?_
 ·have X3:Ext Pt H1 H':=X2.trans (Ext.of_same sm)
  obtain ⟨ho,_⟩:=I'.hok f _ (sm _ _ hf2)
  obtain ⟨hcd,_⟩:=I'.hok c' _ (sm _ _ hc2)
  refine wpAny_call (codeAny_mono (V4 (k:=k) ho hcd S (hr.in1.in1) I'.env0.in1.in1 hb ru (hbody f c' s' H') (hkey H' X3 i v hv)) fun r s'' hq=>?_)
  cases r with
  | error e=>exact False.elim hq
  | ok fl =>
   cases fl with
   | ret u=>exact I'.after hq
   | next=>exact False.elim hq
   | brk=>exact False.elim hq
   | cont=>exact False.elim hq
 ·exact ⟨.ref l,H3,I3,rfl,hq l H3 out (X2.free hl (fun z=>by rw [z] at hl;obtain ⟨p2,z2⟩:=T2.ne;rw [z2] at hl;cases hl)) hl3 (X2.trans (Ext.of_same sm)) (T2.same sm) hs⟩
end
end L2
end
section
namespace L2
open PySem PySem.Spec PySem.W PyProof.Rows
theorem Xx {P:Program}{w:World}{K:PySem.W.Frag}{mg mb:Str->Option Value}{k:Nat}{fa a c Pt:Addr}{fd:FuncData}{x:Str}{sp:Sp}{s₁:Shared}{vs:List Value}{ns:List Int}
  (KX:K.In s₁.heap) (hns:s₁.heap.Ns mainGlobals mg) (hb:s₁.heap.Ns builtinsNs mb) (hbb:∀ x:Str,x ≠ "__name__" -> mb x=bootBuiltins x) (hlim:s₁.heap.NoLimit) (hg:s₁.gens = #[])
  (ha:s₁.heap.get? a=some { cls:=.type "list",data:=.seq vs.toArray }) (hi:IntsAre vs ns) (hl:ns.length<=sizeLine) (hr:Room k callerA)
  (hPt:s₁.heap.get? Pt=some (tabObj #[])) (hKP:K.lookup Pt=none) (CH:CodeHd s₁.heap c Pt) (hB:Bm mg s₁.heap)
  (F:∀ base:Heap,K.In base->base.Ns mainGlobals mg->Bm mg base->FnOk P w K mg base CX0 k fa fd [x] sp) (hbind:∀ (s:Shared) (u:Value),BindsTo s fd ⟨[u],[]⟩ [(x,u)])
  (hsp:∀ H:Hp,SqL K H a (ns.map V.int)->H Pt=some (.tbl #[])->sp [.ref a] H (fun v _=>v = .bl true) fun _ _ _=>False) :
  codeAny (model P w) callerA (.call (.ref fa) ⟨[.ref a],[]⟩) (fun r s'=>r = .ok (.ret (.bool true))/\OldK s₁.heap s'.heap/\s'.os=s₁.os/\AllBare s'.gens) s₁:=by
 have rv:=ua hi
 have lenV:=hi.length
 have core:∀ H:Hp,H Pt=some (.tbl #[])->(∀ b,b≠Pt->H b=none\/∃ o xs,H b=some (.frz o (.lst xs)))->SqL K H a (ns.map V.int)->HOk P w H s₁.heap->(∀ b,H b≠none->b=a\/b=Pt)->(H a≠none->K.lookup a=none) ->
   codeAny (model P w) callerA (.call (.ref fa) ⟨[.ref a],[]⟩) (fun r s'=>r = .ok (.ret (.bool true))/\OldK s₁.heap s'.heap/\s'.os=s₁.os/\AllBare s'.gens) s₁:=by
  intro H hP hO hS hok hA hK
  have base_of:∀ {b:Addr} {o:Obj},s₁.heap.get? b=some o->H b=none->(k9 s₁.heap H).get? b=some o:=fun e n=>Zw e n
  have noA:∀ {b:Addr} {o:Obj},s₁.heap.get? b=some o->(∀ xs n,o.data≠.seq xs n)->(∀ vs,o.data = .fields vs->o.cls≠.none)->H b=none:=fun {b o} e d1 d2=>by
   cases q:H b with
   | none=>rfl
   | some u =>
    rcases hA b (by rw [q];simp) with e' | e'
    ·subst e'
     rw [ha] at e;cases e
     exact absurd rfl (d1 _ _)
    ·subst e'
     rw [hPt] at e;cases e
     exact absurd rfl (d2 _ rfl)
  have noD:∀ {b:Addr} {o:Obj} {es:Array DictEntry} {ep:Nat},s₁.heap.get? b=some o->o.data = .dict es ep->H b=none:=fun {b o es ep} e d =>
   noA e (fun xs n z=>by rw [d] at z;cases z) (fun vs z=>by rw [d] at z;cases z)
  have nsK:∀ {b:Addr} {m:Str->Option Value},s₁.heap.Ns b m->(k9 s₁.heap H).Ns b m:=fun {b m} ⟨o,es,ep,e,d,r⟩=>⟨o,es,ep,base_of e (noD e d),d,r⟩
  have hKb:K.In (k9 s₁.heap H):=fun b o e=>base_of (KX b o e) (by
   cases q:H b with
   | none=>rfl
   | some u =>
    rcases hA b (by rw [q];simp) with e' | e'
    ·subst e'
     rw [hK (by rw [q];simp)] at e;cases e
    ·subst e'
     rw [hKP] at e;cases e)
  have hBb:Bm mg (k9 s₁.heap H):=by
   obtain ⟨bm,ob,b1,b2,b3,b4,b5,b6⟩:=hB
   exact ⟨bm,ob,b1,b2,base_of b3 (noA b3 (fun xs n z=>by rw [b6] at z;cases z) fun vs z=>by rw [b6] at z;cases z),b4,b5,b6⟩
  have hM:Mod K mg (k9 s₁.heap H):=⟨hKb,nsK hns,⟨mb,nsK hb,hbb⟩,let ⟨mc,h1,h2⟩:=hlim;⟨mc,nsK h1,h2⟩⟩
  have e0:Env0 P w K mg (k9 s₁.heap H) callerA [] s₁ H:=⟨rfl,hM,fun b o e=>YN e,Nat.le_of_eq (XN _ _),trivial,fun b hb=>absurd (show b∈([]:List Addr) from hb) (by simp),hok,.of_eq hg⟩
  refine codeAny_mono ((F _ hKb (nsK hns) hBb).run callerA [] s₁ H ⟨[.ref a],[]⟩ [.ref a] [.ref a] _ _ hr e0 (hbind s₁ (.ref a)) (.cons rfl .nil) (hsp H hS hP)) fun r s' h=>?_
  cases r with
  | error e=>exact False.elim h
  | ok fl =>
   cases fl with
   | next=>exact False.elim h
   | brk=>exact False.elim h
   | cont=>exact False.elim h
   | ret u =>
    obtain ⟨v,H',os,bare,un,hok',r',q⟩:=h
    have q':v = .bl true:=q
    subst q'
    obtain rfl:u=Value.bool true:=r'
    have kp:∀ b o,b≠Pt->s₁.heap.get? b=some o->s'.heap.get? b=some o:=fun b o hb e=>by
     cases q:H b with
     | none=>exact un.keep b o e q (by intro z;exact absurd (show b∈([]:List Addr) from z) (by simp)) (by simp)
     | some u =>
      rcases hO b hb with z | ⟨ob,xs,z⟩
      ·rw [q] at z;cases z
      ·have z2:=un.frzs b ob _ z
       obtain ⟨e1,_⟩:=hok b _ z
       obtain ⟨e2,_⟩:=hok' b _ z2
       rw [e] at e1;cases e1
       exact e2
    obtain ⟨more,hm⟩:=un.tbls Pt _ hP
    have hm':s'.heap.get? Pt=some { cls:=.none,data:=.fields (#[]++more) }:=hok' Pt _ hm
    refine ⟨rfl,⟨fun b o e=>?_,fun b o e=>?_⟩,os,bare⟩
    ·by_cases hb:b=Pt
     ·subst hb
      rw [hPt] at e;cases e
      exact .inr (.inl ⟨(CH.tab hPt).isCodeTable,rfl,#[],more,rfl,hm'⟩)
     ·exact .inl (kp b o hb e)
    ·by_cases hb:b=Pt
     ·subst hb;exact ⟨_,hm'⟩
     ·exact ⟨o,kp b o hb e⟩
 have haP:a≠Pt:=fun z=>by rw [z,hPt] at ha;cases ha
 cases hk:K.lookup a with
 | some o =>
  have e:=KX a o hk
  rw [ha] at e
  cases e
  refine core (fun b=>if b=Pt then some (.tbl #[]) else none) (if_pos rfl) (fun b hb=>.inl (if_neg hb)) (.inr ⟨_,vs.toArray,_,hk,rfl,rfl,rfl,by rw [List.size_toArray,lenV];exact hl,by simpa using rv⟩) (fun b u z=>?_) (fun b z=>?_) fun z=>absurd (if_neg haP) z
  ·by_cases hb:b=Pt
   ·have z':=(if_pos hb).symm.trans z
    cases z'
    subst hb
    exact hPt
   ·have z':=(if_neg hb).symm.trans z
    cases z'
  ·by_cases hb:b=Pt
   ·exact .inr hb
   ·exact absurd (if_neg hb) z
 | none =>
  refine core (fun b=>if b=Pt then some (.tbl #[]) else if b=a then some (.frz { cls:=.type "list",data:=.seq vs.toArray } (.lst (ns.map V.int))) else none) (if_pos rfl) (fun b hb=>?_)
   (.inl (.inr ⟨{ cls:=.type "list",data:=.seq vs.toArray },(if_neg haP).trans (if_pos rfl)⟩)) (fun b u z=>?_) (fun b z=>?_) fun _=>hk
  ·by_cases hb2:b=a
   ·exact .inr ⟨_,_,(if_neg hb).trans (if_pos hb2)⟩
   ·exact .inl ((if_neg hb).trans (if_neg hb2))
  ·by_cases hb:b=Pt
   ·have z':=(if_pos hb).symm.trans z
    cases z'
    subst hb
    exact hPt
   ·by_cases hb2:b=a
    ·have z':=((if_neg hb).trans (if_pos hb2)).symm.trans z
     cases z'
     subst hb2
     exact ⟨ha,by rw [List.length_map];exact hl,vs,_,rv,ha⟩
    ·have z':=((if_neg hb).trans (if_neg hb2)).symm.trans z
     cases z'
  ·by_cases hb:b=Pt
   ·exact .inr hb
   ·by_cases hb2:b=a
    ·exact .inl hb2
    ·exact absurd ((if_neg hb).trans (if_neg hb2)) z
def Qw (K:PySem.W.Frag) (Pt:Addr):Sp:=fun vs H Q _=>∃ (a:Addr) (ns:List Int),vs=[.ref a]/\SqL K H a (ns.map V.int)/\ns.length<=63/\H Pt=some (.tbl #[])/\∀ H',Q (.bl true) H'
theorem YB {l:PySem.W.OpenLaw}{q:Program}{loose:List Str}{XP:(Str->Option Value)->Heap->Prop}{YP:World->Heap->Prop}{d:DefRec}{K:Params->PySem.W.Frag}(k:Nat) (c Pt:Addr) (hr:Room k callerA) (hn:l.most=some 63) (hdf:d.params.defaults=[])
  (hY:∀ (w:World) (h:Heap),YP w h->(K w.params).In h/\h.get? Pt=some (tabObj #[])) (hKP:∀ p:Params,(K p).lookup Pt=none) (hC:∀ p:Params,codeHdIn (K p) c Pt=true)
  (F:∀ (w:World) (mg:Str->Option Value) (fa:Addr) (h:Heap),(K w.params).In h->h.Ns mainGlobals mg->mg d.name=some (.ref fa) ->
   ∃ fd:FuncData,(∀ (s:Shared) (u:Value),BindsTo s fd ⟨[u],[]⟩ [("_law_script",u)])/\∀ base:Heap,(K w.params).In base->base.Ns mainGlobals mg->Bm mg base->FnOk l.prog w (K w.params) mg base CX0 k fa fd ["_law_script"] (Qw (K w.params) Pt)) :
  PySem.W.WalkO q loose XP YP l.row.toRowW d [] (fun f vs=>PySem.call f vs):=by
 refine Att.attach_call hn hdf fun w s₀ s₁ mg mb fa o pm cd doc a vs ns G Y ho hd hcd hmg hobj hints hlen hg=>?_
 obtain ⟨KX,hT⟩:=hY w _ Y
 obtain ⟨fd,hb,hF⟩:=F w mg fa _ KX G.T.g hmg
 exact Xx (c:=c) KX G.T.g G.T.b G.T.builtins G.T.nolimit hg hobj hints (Nat.le_trans hlen (by decide)) hr hT (hKP w.params) (codeHd_of_K KX (hC w.params)) G.T.bmain hF hb fun H hS hP=>⟨a,ns,rfl,hS,hlen,hP,fun _=>rfl⟩
theorem Fun.okC {P:Program}{w:World}{K:PySem.W.Frag}{mg:Str->Option Value}{base:Heap}{x qual:Str}{st:Stmt}{f c:Addr}{oc:Value}{od an:Option Addr}{osl:Array (Option Value)}{kV doc pm ct:Value}{N ps:List Str}{k:Nat}{sp:Sp}
  (l:K.lookup f=some ⟨oc,od,.func (PySem.W.fnOf x qual (jN st) (jF st) (j6 st) .none kV doc pm an (.ref c) ct),osl⟩) (cd:PySem.W.codeIn K (.ref c) qual=true) (S:FnScope N ps (j6 st)) (len:∀ vs H Q E,sp vs H Q E->vs.length=ps.length)
  (hbody:∀ (A:Around) (outer:List Env) (s:Shared) (H:Hp) (vs:List V) (Q:VK) (E:XK),Room k (A.deeper (envOfC qual (j6 st) s.heap.objs.size f (.ref c)))->sp vs H Q E ->
   ∃ t,PSs (yY CX0 P w K mg base N qual (j6 st) f (.ref c) A outer s H E).nox (jF st) t/\t { nx:=fun _ H'=>Q .non H',rt:=Q } (start N vs) H) :
  FnOk P w K mg base CX0 (k+1) f (PySem.W.fnOf x qual (jN st) (jF st) (j6 st) .none kV doc pm an (.ref c) ct) ps sp:=by
 refine Yk l cd S len fun A outer s H vs Q E hr hsp=>?_
 obtain ⟨t,h,q⟩:=hbody A outer s H vs Q E hr hsp
 exact ⟨t,h.nox,q⟩
theorem Cal.mkC {P:Program}{w:World}{K:PySem.W.Frag}{mg:Str->Option Value}{base:Heap}{k:Nat}{x:Str}{ps:List Str}{sp:Sp}{st:Stmt}{h:Heap}{f c:Addr}{oc:Value}{od an:Option Addr}{osl:Array (Option Value)}{kV doc pm ct:Value}
  (X:K.In h) (G:h.Ns mainGlobals mg) (a:PySem.W.nsIn K mainGlobals x=some (some (.ref f)))
  (l:K.lookup f=some ⟨oc,od,.func (PySem.W.fnOf x x (jN st) (jF st) (j6 st) .none kV doc pm an (.ref c) ct),osl⟩) (cd:PySem.W.codeIn K (.ref c) x=true) (k':PySem.W.keepIn K (.ref f)=true)
  (hb:∀ (kV doc pm:Value) (an:Option Addr) (cdv ct:Value) (us:List Value),us.length=ps.length->bindArgs (PySem.W.fnOf x x (jN st) (jF st) (j6 st) .none kV doc pm an cdv ct) ⟨us,[]⟩=pure (ps.zip us))
  (ok:FnOk P w K mg base CX0 k f (PySem.W.fnOf x x (jN st) (jF st) (j6 st) .none kV doc pm an (.ref c) ct) ps sp):Cal P w K mg base k x ps sp:=by
 have F:=yR (st:=st) l cd k'
 exact ⟨f,_,ok,F.binds hb,PySem.W.mg_of X G a,k'⟩
end L2
end
section
namespace L2
open PySem PySem.Spec PySem.W PyProof.Rows
def Ite (K:PySem.W.Frag) (a:Addr):It :=
 ⟨fun i H=>∃ xs x,SqL K H a xs/\xs[i]? = some x,fun i H v H'=>∃ t x,v = .ref t/\H t=none/\H'=upd H t (.tup [.int i,x])/\∀ xs,SqL K H a xs->xs[i]? = some x,fun i H=>∃ xs,SqL K H a xs/\xs.length<=i⟩
theorem XQ {P:Program}{w:World}{K:PySem.W.Frag}{es:List Expr}{x1:Nat}{pos:Pos}(a e it:Addr) (hne:e≠it):Turn P w K (.Tuple es x1 pos) (Ite K a) [e,it] e (fun i h=>∃ old,IsEnum h e it i old/\h.IsListIter it a i) where
 mem:=by simp
 obj:=fun i h ⟨old,st1,st2⟩ b hb=>by
  rcases List.mem_cons.mp hb with rfl | hb
  ·exact ⟨_,st1,fun v z=>by
    have z':Data.fields _=Data.cell v:=z
    cases z'⟩
  ·have e:b=it:=by simpa using hb
   subst e
   obtain ⟨o,e,c,d⟩:=st2
   exact ⟨o,e,fun v z=>by rw [d] at z;cases z⟩
 keep:=fun i h h' ⟨old,st1,st2⟩ k=>⟨old,k e (by simp) _ st1,st2.at fun o z=>k it (by simp) o z⟩
 item:=by
  intro X hP hw hK hc i pins s σ H E I hf st hg
  subst hP hw hK
  obtain ⟨old,st1,st2⟩:=st
  obtain ⟨xs,x,hq,hx⟩:=hg
  obtain ⟨its,rv,p,hz⟩:=I.list hq
  obtain ⟨u,hu,ru⟩:=rv.get hx
  obtain ⟨f0,f1,f2,f3,f4,f5⟩:=hf e (by simp)
  obtain ⟨g0,g1,g2,g3,g4,g5⟩:=hf it (by simp)
  have hn:H s.heap.objs.size=none:=I.hok.fresh (Nat.le_refl _)
  refine wpAny_pyNext_enum_item st1 st2 p.isList (x:=u) (by simpa using hu) hne fun h' o1 o2 o3 o4 o5=>⟨_,rfl,?_⟩
  refine wpAny_letOwnedTupleGo_enum o1 fun h2 q1 sb=>?_
  have hel:e<s.heap.objs.size:=Heap.lt_size st1
  have kk:∀ b o,b≠e->b≠it->s.heap.get? b=some o->h2.get? b=some o:=fun b o n1 n2 z=>(sb.2 b n1).trans (o5 b o n1 n2 z)
  have et:h2.get? s.heap.objs.size=some { cls:=.type "tuple",data:=.seq #[.int i s.toks,u] }:=(sb.2 _ (Nat.ne_of_gt hel)).trans o3
  have tne:∀ b o,H b=some o->b≠e/\b≠it/\b≠s.heap.objs.size:=fun b o q=>⟨fun z=>(by rw [z,f0] at q;cases q),fun z=>(by rw [z,g0] at q;cases q),fun z=>(by rw [z,hn] at q;cases q)⟩
  have getF:∀ {b:Addr} {o:HO},H b=some o->upd H s.heap.objs.size (.tup [.int i,x]) b=some o:=fun {b o} q=>by rw [j5 (tne b o q).2.2];exact q
  have I1:Inv X pins σ (upd H s.heap.objs.size (.tup [.int i,x])) { s with heap:=h2,toks:=s.toks+1 }:=by
   refine I.step (g':=s.gens) (d':=s.drawn) (ch:=[e,it]) (fun b hb=>?_) (fun b o _ _ hc z _=>kk b o (fun y=>hc (by simp [y])) (fun y=>hc (by simp [y])) z) (fun b o _ _ hc z _=>⟨o.slots,kk b o (fun y=>hc (by simp [y])) (fun y=>hc (by simp [y])) z⟩)
    (fun b o hc z n=>by rw [j5 (Nat.ne_of_lt (Heap.lt_size z))];exact n) (fun b o hc z=>⟨o,kk b o (fun y=>hc (by simp [y])) (fun y=>hc (by simp [y])) z⟩) (fun _ _ q=>getF q) (fun _ _ _ q=>getF q) (fun b ps q=>⟨#[],by rw [getF q];simp⟩) (fun m hm=>?_) (fun b v q=>?_) I.bare
   ·rcases List.mem_cons.mp hb with rfl | hb
    ·exact ⟨f3,f1,f4,f5⟩
    ·have e:b=it:=by simpa using hb
     subst e
     exact ⟨g3,g1,g4,g5⟩
   ·obtain ⟨o,es,ep,ho,r⟩:=hm
    exact ⟨o,es,ep,kk _ o (Ne.symm f1) (Ne.symm g1) ho,r⟩
   ·by_cases hb:b=s.heap.objs.size
    ·subst hb
     rw [j4] at q;cases q
     exact ⟨by show 2<=sizeLine;decide,[.int i s.toks,u],.cons ⟨_,rfl⟩ (.cons ru .nil),⟨_,et,rfl,0,rfl⟩⟩
    ·rw [j5 hb] at q
     refine (I.hok b v q).stay (fun c o hc z=>kk c o ?_ ?_ z) (fun _ z=>getF z) fun _ _ z=>getF z
     ·rcases hc with z | z
      ·rw [z];exact (tne b v q).1
      ·exact (tne c _ z).1
     ·rcases hc with z | z
      ·rw [z];exact (tne b v q).2.1
      ·exact (tne c _ z).2.1
  have st2':h2.IsListIter it a (i+1):=o2.at fun o z=>(sb.2 it (Ne.symm hne)).trans z
  refine ⟨.ref s.heap.objs.size,_,I1,rfl,⟨_,x,rfl,hn,rfl,fun ys hy=>by rw [I.list_inj hy hq];exact hx⟩,⟨u,?_,st2'⟩,fun b hb=>?_⟩
  ·have:((i+1:Nat):Int)=(i:Int)+1:=by push_cast;rfl
   rw [this]
   exact q1
  ·rcases List.mem_cons.mp hb with rfl | hb
   ·rw [j5 (Nat.ne_of_lt hel)];exact f0
   ·have e:b=it:=by simpa using hb
    subst e
    obtain ⟨o,z,_⟩:=st2
    rw [j5 (Nat.ne_of_lt (Heap.lt_size z))];exact g0
 done:=by
  intro X hP hw hK hc i pins s σ H E I hf st hg
  subst hP hw hK
  obtain ⟨old,st1,st2⟩:=st
  obtain ⟨xs,hq,hx⟩:=hg
  obtain ⟨its,rv,p,hz⟩:=I.list hq
  obtain ⟨g0,g1,g2,g3,g4,g5⟩:=hf it (by simp)
  have hl:=rv.length
  exact wpAny_pyNext_enum_end (I.ok.hd hc) st1 st2 p.isList (by simp;omega) fun h' eb=>⟨rfl,I.turned (t':=s.toks) (fun b o hb e=>eb b o hb e) g0 g1 g3 g4 g5⟩
 self:=fun _ _ _ _ _ ⟨old,st1,_⟩ h=>wpAny_pyIter_enum st1 h
section
variable {X:Cx}
def UJ (K:PySem.W.Frag) (ta:TA):TI:=fun σ H R=>ta σ H fun vs H1=>∃ a,vs=[.ref a]/\(∃ xs,SqL K H1 a xs)/\R (Ite K a) H1
theorem QN {es:List Expr}{x1:Nat}{tpos:Pos}{l:Expr}{ta:TA}{p pos:Pos}(K:PySem.W.Frag) (hg:Gl X "enumerate") (hm:X.mg "enumerate" = none) (ha:PA X [l] ta) (hs:starEach [l] X.env=[(false,eval l X.env)]:=by rfl) (hK:X.K=K:=by rfl) :
  PI X (.Tuple es x1 tpos) (.Call (.Name "enumerate" p) [l] [] pos) (UJ K ta):=by
 subst hK
 intro pins s σ H R I h
 refine Call_ (zh I hg hm boot_enumerate (PyProof.Rows.callWith_type1 (thn (ha pos pins s σ H _ I h) fun us s1 ⟨vs,H1,I1,r1,q1⟩=>?_) hs rfl))
 obtain ⟨a,e,⟨xs,hq⟩,q⟩:=q1
 subst e
 obtain ⟨u,rfl,ru⟩:=xX r1
 cases ru
 obtain ⟨its,rv,pl,hz⟩:=I1.list hq
 refine call_enumerate_list pl.isList fun h' i1 i2 i3 kk=>?_
 refine wpAny_pyIter_enum i1 ?_
 have I2:Inv X pins σ H1 { s1 with heap:=h',toks:=s1.toks }:=I1.kept kk
 refine ⟨_,[s1.heap.objs.size+1,s1.heap.objs.size],_,_,H1,rfl,I2,XQ a _ _ (by exact Nat.succ_ne_self _),⟨.none,i1,i2⟩,fun b hb=>?_,q⟩
 rcases List.mem_cons.mp hb with rfl | hb
 ·exact I1.fpOk (Nat.le_succ _) (I1.hok.fresh (Nat.le_succ _))
 ·have e:b=s1.heap.objs.size:=by simpa using hb
  subst e
  exact I1.fpOk (Nat.le_refl _) (I1.hok.fresh (Nat.le_refl _))
end
theorem Z5 {K:PySem.W.Frag}{a acc:Addr}{xs:List V}{g:TG}{ti:TT}{te:TE}{R:Hp->Prop}{σ:St}{H:Hp}(Pv:Nat->St->Hp->Prop) (h0:Pv 0 σ H) (hl:∀ i σ H,i<=xs.length->Pv i σ H->SqL K H a xs)
  (hs:∀ i x σ H t,xs[i]? = some x->Pv i σ H->H t=none->g (.ref t) σ (upd H t (.tup [.int i,x])) fun σ3 H3=>ti σ3 H3 fun ok H4=>if ok=true then te σ3 H4 fun v H5=>∃ ys,H5 acc=some (.lst ys)/\ys.length<sizeLine/\Pv (i+1) σ3 (upd H5 acc (.lst (ys++[v]))) else Pv (i+1) σ3 H4)
  (hd:∀ σ H,Pv xs.length σ H->R H) :
  ∃ W:Nat->Nat->St->Hp->Prop,(∃ m,W 0 m σ H)/\∀ i m σ' H',W i m σ' H' ->
   ((Ite K a).stop i H'/\R H')\/((Ite K a).go i H'/\∃ NX:St->Hp->Prop,(∀ σ2 H2,NX σ2 H2->∃ m',m'<m/\W (i+1) m' σ2 H2) /\
    ∀ x H2,(Ite K a).yld i H' x H2->g x σ' H2 fun σ3 H3=>ti σ3 H3 fun ok H4=>if ok=true then te σ3 H4 fun v H5=>∃ ys,H5 acc=some (.lst ys)/\ys.length<sizeLine/\NX σ3 (upd H5 acc (.lst (ys++[v]))) else NX σ3 H4):=by
 refine ⟨fun i m σ H=>m=xs.length-i/\i<=xs.length/\Pv i σ H,⟨xs.length,by simp,Nat.zero_le _,h0⟩,?_⟩
 rintro i m σ H ⟨rfl,hi,p⟩
 have q:=hl i σ H hi p
 by_cases hlt:i<xs.length
 ·refine .inr ⟨⟨xs,xs[i],q,by simp [hlt]⟩,Pv (i+1),fun σ' H' p'=>⟨xs.length-(i+1),by omega,rfl,hlt,p'⟩,fun v H' y=>?_⟩
  obtain ⟨t,x,rfl,hn,rfl,y⟩:=y
  exact hs i x σ H t (y xs q) p hn
 ·have e:i=xs.length:=by omega
  subst e
  exact .inl ⟨⟨xs,q,Nat.le_refl _⟩,hd σ H p⟩
theorem ZI {K:PySem.W.Frag}{a:Addr}{xs:List V}{g:TG}{tb:TS}{D:Ends}{σ:St}{H:Hp}(Pv:Nat->St->Hp->Prop) (h0:Pv 0 σ H) (hl:∀ i σ H,i<=xs.length->Pv i σ H->SqL K H a xs)
  (hs:∀ i x σ H t,xs[i]? = some x->Pv i σ H->H t=none->g (.ref t) σ (upd H t (.tup [.int i,x])) fun σ2 H2=>tb { D with nx:=Pv (i+1),ct:=Pv (i+1),bk:=D.nx } σ2 H2) (hd:∀ σ H,Pv xs.length σ H->D.nx σ H) :
  ∃ W:Nat->Nat->St->Hp->Prop,(∃ m,W 0 m σ H)/\∀ i m σ H,W i m σ H ->
   ((Ite K a).stop i H/\D.nx σ H)\/((Ite K a).go i H/\∃ N:St->Hp->Prop,(∀ σ' H',N σ' H'->∃ m',m'<m/\W (i+1) m' σ' H')/\∀ x H',(Ite K a).yld i H x H'->g x σ H' fun σ2 H2=>tb { D with nx:=N,ct:=N,bk:=D.nx } σ2 H2):=by
 refine ⟨fun i m σ H=>m=xs.length-i/\i<=xs.length/\Pv i σ H,⟨xs.length,by simp,Nat.zero_le _,h0⟩,?_⟩
 rintro i m σ H ⟨rfl,hi,p⟩
 have q:=hl i σ H hi p
 by_cases hlt:i<xs.length
 ·refine .inr ⟨⟨xs,xs[i],q,by simp [hlt]⟩,Pv (i+1),fun σ' H' p'=>⟨xs.length-(i+1),by omega,rfl,hlt,p'⟩,fun v H' y=>?_⟩
  obtain ⟨t,x,rfl,hn,rfl,y⟩:=y
  exact hs i x σ H t (y xs q) p hn
 ·have e:i=xs.length:=by omega
  subst e
  exact .inl ⟨⟨xs,q,Nat.le_refl _⟩,hd σ H p⟩
end L2
end
section
namespace L2
open PySem PySem.Spec PySem.W PyProof.Rows
theorem km:∀ (l:List Int),(∀ n∈l,0<=n/\n<=2 ^ 20)->0<=l.sum/\l.sum<=2 ^ 20*l.length
 | [],_=>by simp
 | n::l,h=>by
  have ih:=km l fun m hm=>h m (List.mem_cons_of_mem _ hm)
  have h0:=h n List.mem_cons_self
  rw [List.sum_cons,List.length_cons]
  constructor
  ·omega
  ·push_cast
   omega
section
variable {X:Cx}
theorem Y1 (K:PySem.W.Frag) (hc:X.calm=true) (hK:X.K=K:=by rfl):qy X (.builtin "sum") (fun xs H Q=>∃ (p:Addr) (ns:List Int),xs=[.ref p]/\SqL K H p (ns.map V.int)/\ns.length<=1000/\(∀ n∈ns,0<=n/\n<=2 ^ 20)/\Q (.int ns.sum) H):=by
 subst hK
 intro pins s σ H xs us Q I r h
 obtain ⟨p,ns,rfl,hq,hl,hb,q⟩:=h
 obtain ⟨u,rfl,ru⟩:=xX r
 cases ru
 obtain ⟨its,rv,pl,hz⟩:=I.list hq
 have hI:=qq rv
 have hlen:=hI.length
 have hne:p≠s.heap.objs.size:=by
  obtain ⟨o,n,e,_⟩:=id pl
  exact Nat.ne_of_lt (Heap.lt_size e)
 refine call_sum_walk (wpAny_pyIter_list pl.isList ?_)
 refine ⟨s.heap.objs.size,_,_,_,_,_,fun i=>ns.getD i 0,rfl,Walks.list (show (X.A.in1).handled=none from I.ok.hd hc) s.heap.objs.size p hne its.toArray,⟨⟨_,Heap.get?_push_size _ rfl,rfl,rfl⟩,pl.isList.at fun o e=>Heap.get?_push_of_some _ e⟩,?_,?_,?_,?_⟩
 ·intro b hb'
  have hps:p<s.heap.objs.size:=by
   obtain ⟨o,n,e,_⟩:=id pl
   exact Heap.lt_size e
  show b<(s.heap.push _).objs.size
  rw [Heap.size_push]
  rcases List.mem_cons.mp hb' with rfl | hb'
  ·exact Nat.lt_succ_self _
  ·have e:b=p:=by simpa using hb'
   subst e
   exact Nat.lt_succ_of_lt hps
 ·intro i v hP
  have hP':its[i]? = some v:=by simpa using hP
  have hi:i<its.length:=(List.getElem?_eq_some_iff.mp hP').1
  obtain ⟨t,e⟩:=vn hI hi
  rw [e] at hP'
  refine ⟨t,?_⟩
  show v=Value.int (ns.getD i 0) t
  rw [List.getD_eq_getElem?_getD,List.getElem?_eq_getElem (by omega)]
  exact (Option.some.inj hP').symm
 ·intro j hj
  have hj':j<ns.length:=by
   have:its.toArray.size=its.length:=by simp
   omega
  constructor
  ·show InLong (ns.getD j 0)
   rw [List.getD_eq_getElem?_getD,List.getElem?_eq_getElem hj']
   have:=hb _ (List.getElem_mem hj')
   show -(2 ^ 63)<=ns[j]/\ns[j]<2 ^ 63
   omega
  ·rw [preSum_getD]
   have:=km (ns.take (j+1)) fun n hn=>hb n (List.mem_of_mem_take hn)
   have hl2:(ns.take (j+1)).length<=1000:=by rw [List.length_take];omega
   show -(2 ^ 63)<=_/\_<2 ^ 63
   omega
 ·intro h' tk t' hk
  rw [preSum_getD,List.take_of_length_le (by simp;omega)]
  refine ⟨.int ns.sum,H,I.kept (t':=tk) fun b o eo=>hk b o (by
   intro z
   have:=List.mem_singleton.mp z
   subst this
   exact absurd (Heap.lt_size eo) (Nat.lt_irrefl _)) (Heap.get?_push_of_some _ eo),⟨t',rfl⟩,q⟩
theorem xf (K:PySem.W.Frag) (h:X.K=K:=by rfl):qy X (.type "tuple") (fun xs H Q=>∃ p ys,xs=[.ref p]/\SqL K H p ys/\New H (.tup ys) Q):=by
 subst h
 exact wU.weak fun _ _ _ ⟨p,ys,h1,h2,q⟩=>⟨p,ys,h1,.inl ⟨h2,q.at⟩⟩
end
end L2
end
section
namespace L2
open PySem PySem.Spec PySem.W PyProof.Rows
structure Nb2 (mg:Str->Option Value):Prop extends Nb mg where
 b_enumerate:mg "enumerate" = none
 b_sorted:mg "sorted" = none
 b_sum:mg "sum" = none
abbrev Rch:=Int×List Int
def tos (rs:List Rch):List Int:=rs.map (·.1)
def xz (rs:List Rch) (r:Nat):Int:=(rs.getD r (-1,[])).1
def zj (rs:List Rch) (r:Nat):List Int:=(rs.getD r (-1,[])).2
def xi (i:Nat) (t:Int):Bool:=if i=0 then decide (t = -1) else decide (0<=t/\t<i)
def okR (i:Nat) (r:Rch):Bool:=xi i r.1 && decide (1<=(r.2.length:Int)/\(r.2.length:Int)<=12) && r.2.all fun x=>decide (0<=x/\x<=99)
def vW (rs:List Rch):Bool:=(List.range rs.length).all fun i=>okR i (rs.getD i (-1,[]))
def qU (rs:List Rch):Prop:=∀ i,i<rs.length->xi i (xz rs i)=true
def jE (rs:List Rch) (h:Nat):Bool:=!decide ((h:Int)∈tos rs)
def jn (rs:List Rch):List Nat:=(List.range rs.length).filter (jE rs)
def yA (rs:List Rch):Nat->Nat->List Int
 | 0,_=>[]
 | f+1,r=>(r:Int)::(if xz rs r<0 then [] else yA rs f (xz rs r).toNat)
def qg (rs:List Rch) (r:Nat):List Int:=yA rs (r+1) r
def jv (rs:List Rch) (way:List Int):Int:=(way.map fun r=>((zj rs r.toNat).length:Int)).sum
def xY (rs:List Rch):Bool:=decide (1<=(rs.length:Int)/\(rs.length:Int)<=8) && (vW rs && (decide (((jn rs).length:Int)<=6) && (jn rs).all fun h=>decide (jv rs (qg rs h)<=30)))
theorem wm {i:Nat}{t:Int}(h:xi i t=true):t<i/\(-1<=t)/\(t<0->i=0):=by
 unfold xi at h
 by_cases hi:i=0
 ·rw [if_pos hi] at h
  have:=of_decide_eq_true h
  omega
 ·rw [if_neg hi] at h
  have:=of_decide_eq_true h
  omega
theorem Ze {i:Nat}{r:Rch}(h:okR i r=true):xi i r.1=true:=by
 unfold okR at h
 rw [Bool.and_eq_true,Bool.and_eq_true] at h
 exact h.1.1
theorem gH {rs:List Rch}(h:vW rs=true) {i:Nat}{r:Rch}(hr:rs[i]? = some r):okR i r=true:=by
 unfold vW at h
 rw [List.all_eq_true] at h
 have hi:=(List.getElem?_eq_some_iff.mp hr).1
 have:=h i (List.mem_range.mpr hi)
 rw [List.getD_eq_getElem?_getD,hr] at this
 exact this
theorem jP {rs:List Rch}(h:vW rs=true):qU rs:=fun i hi=>by
 have:=Ze (gH h (List.getElem?_eq_getElem hi))
 unfold xz
 rw [List.getD_eq_getElem?_getD,List.getElem?_eq_getElem hi]
 exact this
theorem kY {rs:List Rch}{i:Nat}{r:Rch}(h:rs[i]? = some r):xz rs i=r.1:=by
 unfold xz
 rw [List.getD_eq_getElem?_getD,h]
 rfl
theorem gg {rs:List Rch}{i:Nat}{r:Rch}(h:rs[i]? = some r):zj rs i=r.2:=by
 unfold zj
 rw [List.getD_eq_getElem?_getD,h]
 rfl
theorem qU.lt {rs:List Rch}(L:qU rs) {r:Nat}(hr:r<rs.length):xz rs r<r:=(wm (L r hr)).1
theorem ki {rs:List Rch}(L:qU rs):∀ (f g r:Nat),r<rs.length->r<f->r<g->yA rs f r=yA rs g r
 | 0,_,_,_,h,_=>by omega
 | _+1,0,_,_,_,h=>by omega
 | f+1,g+1,r,hr,h1,h2=>by
  unfold yA
  by_cases ht:xz rs r<0
  ·rw [if_pos ht,if_pos ht]
  ·rw [if_neg ht,if_neg ht]
   have hl:=L.lt hr
   rw [ki L f g (xz rs r).toNat (by omega) (by omega) (by omega)]
theorem xZ {rs:List Rch}(L:qU rs) {r:Nat}(hr:r<rs.length):qg rs r=(r:Int)::(if xz rs r<0 then [] else qg rs (xz rs r).toNat):=by
 unfold qg
 rw [yA]
 by_cases ht:xz rs r<0
 ·rw [if_pos ht,if_pos ht]
 ·rw [if_neg ht,if_neg ht]
  have hl:=L.lt hr
  rw [ki L r ((xz rs r).toNat+1) (xz rs r).toNat (by omega) (by omega) (by omega)]
theorem YR {rs:List Rch}(r:Nat):qg rs r≠[]:=by unfold qg yA;exact fun z=>nomatch z
theorem vN {rs:List Rch}(L:qU rs):∀ (r:Nat),r<rs.length->(qg rs r).length<=r+1
 | r,hr=>by
  rw [xZ L hr]
  by_cases ht:xz rs r<0
  ·rw [if_pos ht];simp
  ·rw [if_neg ht]
   have hl:=L.lt hr
   have:=vN L (xz rs r).toNat (by omega)
   rw [List.length_cons]
   omega
 termination_by r=>r
 decreasing_by omega
theorem xA {rs:List Rch}(L:qU rs):∀ (r:Nat),r<rs.length->∀ x∈qg rs r,0<=x/\x<rs.length
 | r,hr,x,hx=>by
  rw [xZ L hr] at hx
  rcases List.mem_cons.mp hx with rfl | hx
  ·omega
  ·by_cases ht:xz rs r<0
   ·rw [if_pos ht] at hx;cases hx
   ·rw [if_neg ht] at hx
    have hl:=L.lt hr
    exact xA L (xz rs r).toNat (by omega) x hx
 termination_by r=>r
 decreasing_by omega
theorem qY {rs:List Rch}{h:Nat}(hh:h∈jn rs):h<rs.length:=by
 have:=(List.mem_filter.mp hh).1
 exact List.mem_range.mp this
theorem qP (rs:List Rch) (r:Int) (way:List Int):jv rs (r::way)=((zj rs r.toNat).length:Int)+jv rs way:=by
 unfold jv
 rw [List.map_cons,List.sum_cons]
theorem Zv {α:Type}{p:α->Bool}{l l':List α}(h:l.Perm l'):l.all p=l'.all p:=by
 rw [Bool.eq_iff_iff,List.all_eq_true,List.all_eq_true]
 exact ⟨fun z x hx=>z x (h.mem_iff.mpr hx),fun z x hx=>z x (h.mem_iff.mp hx)⟩
def jM (rs:List Rch) (ws:List (List Int)):Prop:=ws.Perm ((jn rs).map (qg rs))/\(ws.map List.reverse).Pairwise uC.kle
theorem jM.length {rs:List Rch}{ws:List (List Int)}(h:jM rs ws):ws.length=(jn rs).length:=by rw [h.1.length_eq,List.length_map]
theorem jM.mem {rs:List Rch}{ws:List (List Int)}(h:jM rs ws) {w:List Int}(hw:w∈ws):∃ x∈jn rs,w=qg rs x:=by
 obtain ⟨x,hx,e⟩:=List.mem_map.mp (h.1.mem_iff.mp hw)
 exact ⟨x,hx,e.symm⟩
theorem jM.all {rs:List Rch}{ws:List (List Int)}(h:jM rs ws):(ws.map fun w=>decide (jv rs w<=30)).all (fun b=>b)=(jn rs).all fun x=>decide (jv rs (qg rs x)<=30):=by
 rw [List.all_map,Zv h.1,List.all_map]
 rfl
theorem zU {O:KeyOrd}:∀ {l l':List O.α},l.Perm l'->l.Pairwise O.kle->l'.Pairwise O.kle->l=l'
 | [],l',h,_,_=>(List.nil_perm.mp h).symm
 | x::l,[],h,_,_=>by have:=h.length_eq;simp at this
 | x::l,y::l',h,h1,h2=>by
  have hx:=(List.pairwise_cons.mp h1)
  have hy:=(List.pairwise_cons.mp h2)
  have e:x=y:=by
   have m1:x∈y::l':=h.mem_iff.mp List.mem_cons_self
   have m2:y∈x::l:=h.mem_iff.mpr List.mem_cons_self
   rcases List.mem_cons.mp m1 with z | z
   ·exact z
   ·rcases List.mem_cons.mp m2 with z2 | z2
    ·exact z2.symm
    ·exact KeyOrd.kle_antisymm (hx.1 y z2) (hy.1 x z)
  subst e
  rw [zU (List.Perm.cons_inv h) hx.2 hy.2]
theorem jM.unique {rs:List Rch}{ws ws':List (List Int)}(h:jM rs ws) (h':jM rs ws'):ws=ws':=by
 have p:(ws.map List.reverse).Perm (ws'.map List.reverse):=(h.1.trans h'.1.symm).map _
 have e:=zU (O:=uC) p h.2 h'.2
 have e2:=congrArg (List.map List.reverse) e
 rw [List.map_map,List.map_map,show (List.reverse ∘ List.reverse:List Int->List Int)=id from funext fun x=>List.reverse_reverse x,List.map_id,List.map_id] at e2
 exact e2
theorem JO (rs:List Rch) (t:Int) (hs:List Int):tos (rs++[(t,hs)])=tos rs++[t]:=by unfold tos;rw [List.map_append];rfl
theorem vV {rs:List Rch}{x d:Rch}{i:Nat}(h:i<rs.length):(rs++[x]).getD i d=rs.getD i d:=by
 rw [List.getD_eq_getElem?_getD,List.getD_eq_getElem?_getD,List.getElem?_append_left h]
theorem x4 {rs:List Rch}{x d:Rch}:(rs++[x]).getD rs.length d=x:=by
 rw [List.getD_eq_getElem?_getD,List.getElem?_append_right (Nat.le_refl _),Nat.sub_self]
 rfl
theorem kK {rs:List Rch}{x:Rch}(h:vW rs=true) (hx:okR rs.length x=true):vW (rs++[x])=true:=by
 unfold vW at h ⊢
 rw [List.all_eq_true] at h ⊢
 intro i hi
 have hi':i<rs.length+1:=by have:=List.mem_range.mp hi;rw [List.length_append,List.length_singleton] at this;exact this
 by_cases hlt:i<rs.length
 ·rw [vV hlt];exact h i (List.mem_range.mpr hlt)
 ·have e:i=rs.length:=by omega
  subst e
  rw [x4];exact hx
theorem uU {rs:List Rch}{x:Rch}(L:qU rs):∀ (f r:Nat),r<rs.length->yA (rs++[x]) f r=yA rs f r
 | 0,_,_=>rfl
 | f+1,r,hr=>by
  have e:xz (rs++[x]) r=xz rs r:=by unfold xz;rw [vV hr]
  unfold yA
  rw [e]
  by_cases ht:xz rs r<0
  ·rw [if_pos ht,if_pos ht]
  ·rw [if_neg ht,if_neg ht,uU L f _ (by have:=L.lt hr;omega)]
theorem yo {rs:List Rch}{x:Rch}(L:qU rs) {r:Nat}(hr:r<rs.length):qg (rs++[x]) r=qg rs r:=uU L _ r hr
theorem xu {rs:List Rch}{x:Rch}:∀ (way:List Int),(∀ r∈way,0<=r/\r<rs.length)->jv (rs++[x]) way=jv rs way
 | [],_=>rfl
 | r::way,h=>by
  have h0:=h r List.mem_cons_self
  rw [qP,qP,xu way fun y hy=>h y (List.mem_cons_of_mem _ hy)]
  congr 2
  unfold zj
  rw [vV (by omega)]
theorem Qs {rs:List Rch}(L:qU rs) {t:Int}(h:t∈tos rs):t+1<rs.length:=by
 unfold tos at h
 obtain ⟨r,hr,rfl⟩:=List.mem_map.mp h
 obtain ⟨i,hi,e⟩:=List.mem_iff_getElem.mp hr
 have:=L.lt hi
 rw [kY (List.getElem?_eq_getElem hi),e] at this
 omega
theorem QH {rs:List Rch}{t:Int}{hs:List Int}(L:qU rs) (h0:0<=t) (h1:t<rs.length) :
  (jn (rs++[(t,hs)])).length=if t∈tos rs then (jn rs).length+1 else (jn rs).length:=by
 unfold jn
 rw [List.length_append,List.length_singleton,List.range_succ,List.filter_append,List.length_append]
 have e1:(List.filter (jE (rs++[(t,hs)])) [rs.length]).length=1:=by
  have:jE (rs++[(t,hs)]) rs.length=true:=by
   unfold jE
   rw [JO,decide_eq_false]
   ·rfl
   ·intro z
    rcases List.mem_append.mp z with z | z
    ·have:=Qs L z;omega
    ·have:(rs.length:Int)=t:=by simpa using z
     omega
  simp [this]
 rw [e1]
 have e2:∀ h,jE (rs++[(t,hs)]) h=(jE rs h && !decide ((h:Int)=t)):=fun h=>by
  unfold jE
  rw [JO]
  by_cases a:(h:Int)∈tos rs
  ·rw [decide_eq_true (List.mem_append_left _ a),decide_eq_true a];rfl
  ·rw [decide_eq_false a]
   by_cases b:(h:Int)=t
   ·rw [decide_eq_true (List.mem_append_right _ (by simp [b])),decide_eq_true b];rfl
   ·rw [decide_eq_false (fun z=>(List.mem_append.mp z).elim a fun y=>b (by simpa using y)),decide_eq_false b];rfl
 have e3:List.filter (jE (rs++[(t,hs)])) (List.range rs.length)=List.filter (fun h:Nat=>!decide ((h:Int)=t)) (List.filter (jE rs) (List.range rs.length)):=by
  rw [List.filter_filter]
  congr 1
  funext h
  rw [e2,Bool.and_comm]
 rw [e3]
 have nd:(List.filter (jE rs) (List.range rs.length)).Nodup:=List.Nodup.sublist List.filter_sublist List.nodup_range
 generalize hl:List.filter (jE rs) (List.range rs.length)=l at nd
 have cnt:∀ (l:List Nat),l.Nodup->(List.filter (fun h:Nat=>!decide ((h:Int)=t)) l).length=if t.toNat∈l then l.length-1 else l.length:=by
  intro l
  induction l with
  | nil=>intro _;rfl
  | cons x l ih =>
   intro nd
   have nd':=List.nodup_cons.mp nd
   have ih:=ih nd'.2
   by_cases b:(x:Int)=t
   ·have hx:x=t.toNat:=by omega
    rw [List.filter_cons_of_neg (by simp [b]),ih,if_neg (by rw [<- hx];exact nd'.1),if_pos (by rw [hx];exact List.mem_cons_self)]
    simp
   ·have hx:t.toNat≠x:=by omega
    rw [List.filter_cons_of_pos (by simp [b]),List.length_cons,ih]
    by_cases m:t.toNat∈l
    ·rw [if_pos m,if_pos (List.mem_cons_of_mem _ m),List.length_cons]
     have:0<l.length:=List.length_pos_of_mem m
     omega
    ·rw [if_neg m,if_neg (fun z=>(List.mem_cons.mp z).elim hx m)]
     simp
 rw [cnt l nd]
 have hm:t.toNat∈l↔¬ t∈tos rs:=by
  rw [<- hl,List.mem_filter,List.mem_range]
  unfold jE
  have e:((t.toNat:Nat):Int)=t:=by omega
  rw [e]
  constructor
  ·rintro ⟨_,z⟩ y
   rw [decide_eq_true y] at z
   cases z
  ·intro z
   exact ⟨by omega,by rw [decide_eq_false z];rfl⟩
 by_cases m:t∈tos rs
 ·rw [if_pos m,if_neg (by rw [hm];exact fun z=>z m)]
 ·rw [if_neg m,if_pos (by rw [hm];exact m)]
  have:0<l.length:=List.length_pos_of_mem (hm.mpr m)
  omega
structure Grown (rs:List Rch):Prop where
 ok:vW rs=true
 heads:(jn rs).length<=6
 deep:∀ i,i<rs.length->jv rs (qg rs i)<=30
theorem Grown.snoc {rs:List Rch}{t:Int}{hs:List Int}(G:Grown rs) (h0:0<=t) (h1:t<rs.length) (hx:okR rs.length (t,hs)=true) (hh:t∈tos rs->(jn rs).length<6) (hd:jv rs (qg rs t.toNat)+hs.length<=30):Grown (rs++[(t,hs)]):=by
 have L:=jP G.ok
 have ok':=kK G.ok hx
 refine ⟨ok',?_,fun i hi=>?_⟩
 ·rw [QH L h0 h1]
  split
  ·rename_i m;have:=hh m;omega
  ·exact G.heads
 ·rw [List.length_append,List.length_singleton] at hi
  by_cases hlt:i<rs.length
  ·rw [yo L hlt,xu _ (xA L i hlt)]
   exact G.deep i hlt
  ·have e:i=rs.length:=by omega
   subst e
   have L':=jP ok'
   have et:xz (rs++[(t,hs)]) rs.length=t:=by unfold xz;rw [x4]
   have eh:zj (rs++[(t,hs)]) rs.length=hs:=by unfold zj;rw [x4]
   rw [xZ L' (by rw [List.length_append,List.length_singleton];omega),qP,Int.toNat_natCast,eh,et,if_neg (by omega),yo L (by omega),xu _ (xA L _ (by omega))]
   omega
theorem Grown.good {rs:List Rch}(G:Grown rs) (h1:1<=rs.length) (h8:rs.length<=8):xY rs=true:=by
 unfold xY
 rw [decide_eq_true (show 1<=(rs.length:Int)/\(rs.length:Int)<=8 by omega),G.ok,decide_eq_true (show ((jn rs).length:Int)<=6 by have:=G.heads;omega),Bool.true_and,Bool.true_and,Bool.true_and,List.all_eq_true]
 intro h hh
 exact decide_eq_true (G.deep h (qY hh))
theorem Grown.deep_snoc {rs:List Rch}{t:Int}{hs:List Int}(G:Grown rs) (h0:0<=t) (h1:t<rs.length) (hx:okR rs.length (t,hs)=true):jv (rs++[(t,hs)]) (qg (rs++[(t,hs)]) rs.length)=jv rs (qg rs t.toNat)+hs.length:=by
 have L:=jP G.ok
 have L':=jP (kK G.ok hx)
 have et:xz (rs++[(t,hs)]) rs.length=t:=by unfold xz;rw [x4]
 have eh:zj (rs++[(t,hs)]) rs.length=hs:=by unfold zj;rw [x4]
 rw [xZ L' (by rw [List.length_append,List.length_singleton];omega),qP,Int.toNat_natCast,eh,et,if_neg (by omega),yo L (by omega),xu _ (xA L _ (by omega))]
 omega
def jo (H H':Hp):Prop:=∀ p xs,H p=some (.tup xs)->H' p=some (.tup xs)
theorem jo.same {H H':Hp}(s:jh H H'):jo H H':=fun _ _ h=>s _ _ h
theorem jo.trans {H H1 H2:Hp}(a:jo H H1) (b:jo H1 H2):jo H H2:=fun p xs h=>b p xs (a p xs h)
theorem jo.ext {b:Addr}{H H':Hp}(e:Ext b H H') (h:∀ xs,H b≠some (.tup xs)):jo H H':=fun p xs q=>e _ _ q fun z=>h xs (z ▸ q)
theorem jo.lst {b:Addr}{H H':Hp}{xs:List V}(e:Ext b H H') (h:H b=some (.lst xs)):jo H H':=.ext e fun ys z=>by rw [h] at z;cases z
theorem jo.new {b:Addr}{H H':Hp}(e:Ext b H H') (h:H b=none):jo H H':=.ext e fun ys z=>by rw [h] at z;cases z
theorem jo.tbl {b:Addr}{H H':Hp}{ps:Array Value}(e:Ext b H H') (h:H b=some (.tbl ps)):jo H H':=.ext e fun ys z=>by rw [h] at z;cases z
def gh (H:Hp) (v:V) (r:Rch):Prop:=∃ p g,v=V.ref p/\H p=some (.tup [.int r.1,.ref g])/\H g=some (.tup (r.2.map V.int))
def jK (H:Hp) (vs:List V) (rs:List Rch):Prop:=Paired (gh H) vs rs
theorem gh.keep {H H':Hp}{v:V}{r:Rch}(k:jo H H') (h:gh H v r):gh H' v r:=by
 obtain ⟨p,g,e,h1,h2⟩:=h
 exact ⟨p,g,e,k _ _ h1,k _ _ h2⟩
theorem jK.keep {H H':Hp}{vs:List V}{rs:List Rch}(k:jo H H') (h:jK H vs rs):jK H' vs rs:=Paired.mapP h fun _ _ z=>z.keep k
theorem jK.length {H:Hp}{vs:List V}{rs:List Rch}(h:jK H vs rs):vs.length=rs.length:=Paired.length h
theorem jK.get {H:Hp}{vs:List V}{rs:List Rch}{i:Nat}{v:V}(h:jK H vs rs) (e:vs[i]? = some v):∃ r,rs[i]? = some r/\gh H v r:=Paired.get h e
theorem jK.at {H:Hp}{vs:List V}{rs:List Rch}{i:Nat}{r:Rch}(h:jK H vs rs) (e:rs[i]? = some r):∃ v,vs[i]? = some v/\gh H v r:=by
 have hi:i<vs.length:=by rw [h.length];exact (List.getElem?_eq_some_iff.mp e).1
 obtain ⟨r',e2,q⟩:=h.get (List.getElem?_eq_getElem hi)
 rw [e] at e2
 cases e2
 exact ⟨_,List.getElem?_eq_getElem hi,q⟩
theorem jK.snoc {H:Hp}{vs:List V}{rs:List Rch}{v:V}{r:Rch}(h:jK H vs rs) (q:gh H v r):jK H (vs++[v]) (rs++[r]):=Paired.snoc h q
def zv (H:Hp) (vs:List V) (ws:List (List Int)):Prop:=Paired (fun v (w:List Int)=>∃ a,v=V.ref a/\H a=some (.tup (w.map V.int))) vs ws
theorem zv.keep {H H':Hp}{vs:List V}{ws:List (List Int)}(k:jo H H') (h:zv H vs ws):zv H' vs ws:=Paired.mapP h fun _ _ ⟨a,e,q⟩=>⟨a,e,k _ _ q⟩
theorem zv.length {H:Hp}{vs:List V}{ws:List (List Int)}(h:zv H vs ws):vs.length=ws.length:=Paired.length h
theorem vj (x:Int) (l:List Int):inV (.int x) (l.map V.int)=decide (x∈l):=by
 unfold inV
 induction l with
 | nil=>rfl
 | cons y l ih =>
  rw [List.map_cons,List.any_cons,ih]
  by_cases e:x=y
  ·subst e
   rw [decide_eq_true (List.mem_cons_self (a:=x))]
   simp [eqV]
  ·by_cases m:x∈l
   ·rw [decide_eq_true m,decide_eq_true (List.mem_cons_of_mem _ m),Bool.or_true]
   ·rw [decide_eq_false m,decide_eq_false (fun z=>(List.mem_cons.mp z).elim e m),Bool.or_false]
    simp [eqV]
    exact fun z=>e z.symm
theorem yu (l:List Int):(l.map V.int).all vt=true:=by
 rw [List.all_map,List.all_eq_true]
 intro x _
 rfl
end L2
end
section
namespace L2
open PySem PySem.Spec PySem.W PyProof.Rows
section
variable {prog:Program}{w:World}{A:Around}{E:Value->Shared->Prop}{s:Shared}
end
end L2
end
section
namespace L2
open PySem PySem.Spec PySem.W PyProof.Rows
section
variable {X:Cx}
end
end L2
end
section
namespace L2
open PySem PySem.Spec PySem.W PyProof.Rows
end L2
end
section
namespace L2
open PySem PySem.Spec PySem.W PyProof.Rows
section
variable {s:Shared}{A:Around}{prog:Program}{w:World}{E:Value->Shared->Prop}
theorem UO {it t:Addr}{k:Nat}{its:Array Value}{v:Value}{Q:Value->Shared->Prop}(q:s.heap.IsTupleIter it t k) (p:s.heap.IsTuple t its) (e:its[k]? = some v)
  (z:∀ g,g.IsTupleIter it t (k+1)->Heap.SameBut it s.heap g->Q v { s with heap:=g }):wpAny (model prog w) A (Builtin.SmallTypes.nextOf (.ref it)) Q E s:=by
 obtain ⟨ob,gb,cb,db⟩:=id q;obtain ⟨ot,gt,_,nt,dt⟩:=p;unfold Builtin.SmallTypes.nextOf
 refine wpAny_bind (wpAny_callSpecial?_slot (name:=Str.ofString "__next__") q.typeIs F.slot_tuple_iterator_next (wpAny_call_entry F.slot_tuple_iterator_next q.typeIs F.entry_tuple_iterator_next ?_ (F.args_tuple_iterator_next_1 _)))
 show wpAny _ _ (field (.ref it) 0 >>= _) _ _ s;refine wpAny_bind (wpAny_field gb db (x:=.ref t) rfl ?_)
 show wpAny _ _ (if (Value.ref t == Value.none)=true then _ else _) _ _ s;rw [if_neg (show ¬ ((Value.ref t == Value.none)=true) from Bool.false_ne_true)]
 show wpAny _ _ (field (.ref it) 1 >>= _) _ _ s;refine wpAny_bind (wpAny_field gb db (x:=.int k 0) rfl ?_)
 show wpAny _ _ (seqItems? (.ref t) >>= _) _ _ s;refine wpAny_bind (wpAny_seqItems gt dt ?_)
 simp only [Int.toNat_natCast,e]
 refine wpAny_bind (wpAny_setField gb db (by simp) (wpAny_pure ⟨v,rfl,wpAny_pure (z _ ⟨_,Heap.get?_update_self _ gb (Obj.isFreed_of_fields (Obj.data_mapFields db _)),(Obj.cls_mapFields ..).trans cb,by rw [Obj.data_mapFields db];simp [rawInt]⟩ (Heap.SameBut.update ..))⟩))
theorem UD {it t:Addr}{k:Nat}{its:Array Value}{Q:Value->Shared->Prop}(hh:A.handled=none) (q:s.heap.IsTupleIter it t k) (p:s.heap.IsTuple t its) (e:its[k]? = none)
  (z:∀ g x,Heap.ExtBut it s.heap g->(∃ o,g.get? x=some o/\o.cls = .type "StopIteration")->E (.ref x) { s with heap:=g }):wpAny (model prog w) A (Builtin.SmallTypes.nextOf (.ref it)) Q E s:=by
 obtain ⟨ob,gb,cb,db⟩:=id q;obtain ⟨ot,gt,_,nt,dt⟩:=p;unfold Builtin.SmallTypes.nextOf
 refine wpAny_bind (wpAny_callSpecial?_slot (name:=Str.ofString "__next__") q.typeIs F.slot_tuple_iterator_next (wpAny_call_entry F.slot_tuple_iterator_next q.typeIs F.entry_tuple_iterator_next ?_ (F.args_tuple_iterator_next_1 _)))
 show wpAny _ _ (field (.ref it) 0 >>= _) _ _ s;refine wpAny_bind (wpAny_field gb db (x:=.ref t) rfl ?_)
 show wpAny _ _ (if (Value.ref t == Value.none)=true then _ else _) _ _ s;rw [if_neg (show ¬ ((Value.ref t == Value.none)=true) from Bool.false_ne_true)]
 show wpAny _ _ (field (.ref it) 1 >>= _) _ _ s;refine wpAny_bind (wpAny_field gb db (x:=.int k 0) rfl ?_)
 show wpAny _ _ (seqItems? (.ref t) >>= _) _ _ s;refine wpAny_bind (wpAny_seqItems gt dt ?_)
 simp only [Int.toNat_natCast,e]
 refine wpAny_bind (wpAny_rule (wpAny_bind (wpAny_setField gb db (by simp) ?_)))
 show wpAny _ _ (newExc (.type "StopIteration") [] >>= _) _ _ _;refine wpAny_bind ?_;simp only [newExc,newTuple]
 refine wpAny_bind (wpAny_newObj_type ?_ (by size_fits));refine wpAny_bind (m:=firstArgMember _ _) (wpAny_of_eq (a:=Value.none) (by first | rfl | (simp only [firstArgMember];rfl)) ?_)
 refine wpAny_newObj_type ?_ (by size_fits);simp only [raiseNew];refine wpAny_bind (wpAny_handled ?_);first | rw [hh] | rw [show A.in1.handled=none from hh]
 exact wpAny_bind (wpAny_pure (wpAny_throw (z _ _ (((Heap.SameBut.update ..).extBut.push _).push _) ⟨_,Heap.get?_push_size _ rfl,rfl⟩)))
structure Feeds (prog:Program) (w:World) (i l:Addr) (xs:Array Value) (S:Nat->Heap->Prop):Prop where
 keep:∀ k h h',S k h->(∀ o,h.get? i=some o->h'.get? i=some o)->(∀ o,h.get? l=some o->h'.get? l=some o)->S k h'
 obj:∀ k h,S k h->∃ o,h.get? i=some o/\∀ v,o.data≠.cell v
 item:∀ (A:Around) (E:Value->Shared->Prop) (k:Nat) (x:Value) (s:Shared) (Q:Value->Shared->Prop),S k s.heap->xs[k]? = some x->(∀ g,S (k+1) g->Heap.SameBut i s.heap g->Q x { s with heap:=g })->wpAny (model prog w) A (Builtin.SmallTypes.nextOf (.ref i)) Q E s
 done:∀ (A:Around) (E:Value->Shared->Prop) (k:Nat) (s:Shared) (Q:Value->Shared->Prop),A.handled=none->S k s.heap->xs[k]? = none->(∀ g x,Heap.ExtBut i s.heap g->(∃ o,g.get? x=some o/\o.cls = .type "StopIteration")->E (.ref x) { s with heap:=g })->wpAny (model prog w) A (Builtin.SmallTypes.nextOf (.ref i)) Q E s
theorem Feeds.but {i l b:Addr}{xs:Array Value}{S:Nat->Heap->Prop}(f:Feeds prog w i l xs S) {k:Nat}{h h':Heap}(q:S k h) (sb:Heap.SameBut b h h') (n1:i≠b) (n2:l≠b):S k h':=f.keep k h h' q (fun o e=>sb.extBut _ _ n1 e) fun o e=>sb.extBut _ _ n2 e
theorem Qc {i l:Addr}{xs:Array Value}(n:l≠i):Feeds prog w i l xs fun k h=>h.IsListIter i l k/\h.IsList l xs where
 keep:=fun k h h' q k1 k2=>⟨q.1.at fun o e=>k1 o e,q.2.at fun o e=>k2 o e⟩
 obj:=fun k h q=>by obtain ⟨o,e,_,d⟩:=q.1;exact ⟨o,e,fun v z=>by rw [d] at z;cases z⟩
 item:=fun A E k x s Q q e z=>wpAny_nextOf_list_item q.1 q.2 e fun g q1 sb=>z g ⟨q1,q.2.extBut sb.extBut n⟩ sb
 done:=fun A E k s Q hh q e z=>wpAny_nextOf_list_end hh q.1 q.2 e z
theorem Z9 {i l:Addr}{xs:Array Value}(n:l≠i):Feeds prog w i l xs fun k h=>h.IsTupleIter i l k/\h.IsTuple l xs where
 keep:=fun k h h' q k1 k2=>⟨q.1.at fun o e=>k1 o e,let ⟨o,e,r⟩:=q.2;⟨o,k2 o e,r⟩⟩
 obj:=fun k h q=>by obtain ⟨o,e,_,d⟩:=q.1;exact ⟨o,e,fun v z=>by rw [d] at z;cases z⟩
 item:=fun A E k x s Q q e z=>UO q.1 q.2 e fun g q1 sb=>z g ⟨q1,q.2.extBut sb.extBut n⟩ sb
 done:=fun A E k s Q hh q e z=>UD hh q.1 q.2 e z
theorem ZH {z TI TO i1 i2 l1 l2:Addr}{k1 k2:Nat}{xs ys:Array Value}{x y a b:Value}{S1 S2:Nat->Heap->Prop}{Q:Value->Shared->Prop}(D:ZipApart z TI TO i1 i2 l1 l2) (f1:Feeds prog w i1 l1 xs S1) (f2:Feeds prog w i2 l2 ys S2)
  (g0:IsZip s.heap z TI TO .none) (gI:IsPair s.heap TI (.ref i1) (.ref i2)) (gO:IsPair s.heap TO a b) (q1:S1 k1 s.heap) (q2:S2 k2 s.heap) (ex:xs[k1]? = some x) (ey:ys[k2]? = some y)
  (R:∀ g,IsZip g z TI TO (rawInt s.heap.objs.size)->IsPair g TO x y->S1 (k1+1) g->S2 (k2+1) g->IsPair g s.heap.objs.size x y->g.objs.size=s.heap.objs.size+1 ->
   (∀ c o,c≠z->c≠TO->c≠i1->c≠i2->s.heap.get? c=some o->g.get? c=some o)->Q (.ref s.heap.objs.size) { s with heap:=g }):wpAny (model prog w) A (Builtin.«zip.__next__» ⟨[.ref z],[]⟩) (fun fin s'=>∃ v,fin = .done (.ret v)/\Q v s') E s:=by
 show wpAny _ _ (field (.ref z) 2 >>= _) _ _ _;refine wpAny_bind (wpAny_field g0 rfl (x:=.bool false) rfl ?_)
 show wpAny _ _ (field (.ref z) 3 >>= _) _ _ _;refine wpAny_bind (wpAny_field g0 rfl (x:=.ref TI) rfl ?_)
 refine wpAny_bind (wpAny_seqItems gI rfl ?_);show wpAny _ _ (Builtin.SmallTypes.ownedTupleIsFree (.ref z) >>= _) _ _ _
 refine wpAny_bind ?_;unfold Builtin.SmallTypes.ownedTupleIsFree;refine wpAny_bind (wpAny_field g0 rfl (x:=.none) rfl (wpAny_pure ?_));simp only [if_true]
 refine wpAny_bind (wpAny_rule ?_);refine wpAny_bind (wpAny_field g0 rfl (x:=.ref TO) rfl ?_)
 refine wpAny_bind (wpAny_setField_rec g0 (by simp) fun h1 g1 e1=>?_)
 replace g1:IsZip h1 z TI TO .ellipsis:=g1
 refine wpAny_bind ?_;simp only [List.zipIdx_cons,List.zipIdx_nil,List.forIn_cons,List.forIn_nil]
 refine wpAny_bind (wpAny_bind (wpAny_onRaise ?_));show wpAny _ _ (Builtin.SmallTypes.nextOf (.ref i1) >>= _) _ _ _
 refine wpAny_bind (f1.item _ _ k1 x _ _ (f1.but q1 e1 D.i1z D.l1z) ex fun h2 q1' e2=>wpAny_pure ?_)
 have gO2:IsPair h2 TO a b:=e2.extBut _ _ D.TOi1 (e1.extBut _ _ D.TOz gO)
 refine wpAny_bind (wpAny_seqItems gO2 rfl ?_);refine wpAny_bind (wpAny_updateSeq_pair gO2 fun h3 gO3 e3=>?_)
 replace gO3:IsPair h3 TO x b:=gO3
 refine wpAny_bind (wpAny_letGo (wpAny_pure ?_));refine wpAny_bind (wpAny_bind (wpAny_onRaise ?_));show wpAny _ _ (Builtin.SmallTypes.nextOf (.ref i2) >>= _) _ _ _
 refine wpAny_bind (f2.item _ _ k2 y _ _ (f2.but (f2.but (f2.but q2 e1 D.i2z D.l2z) e2 D.i12.symm D.l2i1) e3 D.TOi2.symm D.l2TO) ey fun h4 q2' e4=>wpAny_pure ?_)
 have gO4:IsPair h4 TO x b:=e4.extBut _ _ D.TOi2 gO3
 refine wpAny_bind (wpAny_seqItems gO4 rfl ?_);refine wpAny_bind (wpAny_updateSeq_pair gO4 fun h5 gO5 e5=>?_)
 replace gO5:IsPair h5 TO x y:=gO5
 refine wpAny_bind (wpAny_letGo (wpAny_pure (wpAny_pure ?_)));refine wpAny_bind (wpAny_seqItems gO5 rfl ?_);refine wpAny_bind (wpAny_newTuple ?_)
 have sz:h5.objs.size=s.heap.objs.size:=by rw [e5.1,e4.1,e3.1,e2.1,e1.1]
 have g5:IsZip h5 z TI TO .ellipsis:=e5.extBut _ _ D.TOz.symm (e4.extBut _ _ D.i2z.symm (e3.extBut _ _ D.TOz.symm (e2.extBut _ _ D.i1z.symm g1)))
 have k5:∀ c o,c≠z->c≠TO->c≠i1->c≠i2->s.heap.get? c=some o->h5.get? c=some o:=fun c o n1 n2 n3 n4 e=>e5.extBut _ _ n2 (e4.extBut _ _ n4 (e3.extBut _ _ n2 (e2.extBut _ _ n3 (e1.extBut _ _ n1 e))))
 have q15:S1 (k1+1) h5:=f1.but (f1.but (f1.but q1' e3 D.TOi1.symm D.l1TO) e4 D.i12 D.l1i2) e5 D.TOi1.symm D.l1TO
 have q25:S2 (k2+1) h5:=f2.but q2' e5 D.TOi2.symm D.l2TO
 have lz:z<h5.objs.size:=Heap.lt_size g5
 show wpAny _ _ (Builtin.SmallTypes.ownedTupleHandOut (.ref z) (.ref h5.objs.size) >>= _) _ _ _;refine wpAny_bind ?_;unfold Builtin.SmallTypes.ownedTupleHandOut
 have g6:IsZip (h5.push { cls:=.type "tuple",data:=.seq #[x,y] }) z TI TO .ellipsis:=Heap.get?_push_of_some _ g5
 refine wpAny_bind (wpAny_setField_rec g6 (by simp) fun h7 g7 e7=>?_)
 replace g7:IsZip h7 z TI TO (rawInt h5.objs.size):=g7
 refine wpAny_setField_rec g7 (by simp) fun h8 g8 e8=>?_
 replace g8:IsZip h8 z TI TO (rawInt h5.objs.size):=g8
 have up:∀ c o,c≠z->h5.get? c=some o->h8.get? c=some o:=fun c o n e=>e8.extBut _ _ n (e7.extBut _ _ n (Heap.get?_push_of_some _ e))
 have gT:IsPair h8 h5.objs.size x y:=e8.extBut _ _ (Nat.ne_of_gt lz) (e7.extBut _ _ (Nat.ne_of_gt lz) (Heap.get?_push_size _ rfl))
 have sz8:h8.objs.size=h5.objs.size+1:=by rw [e8.1,e7.1,Heap.size_push]
 rw [sz] at g8 gT sz8
 refine wpAny_pure ⟨_,rfl,?_⟩;show Q (.ref h5.objs.size) _;rw [sz]
 exact R h8 g8 (up _ _ D.TOz gO5) (f1.keep _ _ _ q15 (fun o e=>up _ o D.i1z e) fun o e=>up _ o D.l1z e) (f2.keep _ _ _ q25 (fun o e=>up _ o D.i2z e) fun o e=>up _ o D.l2z e) gT sz8 fun c o n1 n2 n3 n4 e=>up c o n1 (k5 c o n1 n2 n3 n4 e)
theorem ZN {z TI TO i1 i2 l1 l2:Addr}{k1 k2:Nat}{xs ys:Array Value}{a b:Value}{S1 S2:Nat->Heap->Prop}{Q:Fin->Shared->Prop}(hh:A.handled=none) (D:ZipApart z TI TO i1 i2 l1 l2) (f1:Feeds prog w i1 l1 xs S1) (f2:Feeds prog w i2 l2 ys S2)
  (g0:IsZip s.heap z TI TO .none) (gI:IsPair s.heap TI (.ref i1) (.ref i2)) (gO:IsPair s.heap TO a b) (q1:S1 k1 s.heap) (q2:S2 k2 s.heap) (ed:xs[k1]? = none\/ys[k2]? = none)
  (R:∀ g e,(∀ c o,c≠z->c≠TO->c≠i1->c≠i2->s.heap.get? c=some o->g.get? c=some o)->(∃ o,g.get? e=some o/\o.cls = .type "StopIteration")->E (.ref e) { s with heap:=g }):wpAny (model prog w) A (Builtin.«zip.__next__» ⟨[.ref z],[]⟩) Q E s:=by
 show wpAny _ _ (field (.ref z) 2 >>= _) _ _ _;refine wpAny_bind (wpAny_field g0 rfl (x:=.bool false) rfl ?_)
 show wpAny _ _ (field (.ref z) 3 >>= _) _ _ _;refine wpAny_bind (wpAny_field g0 rfl (x:=.ref TI) rfl ?_)
 refine wpAny_bind (wpAny_seqItems gI rfl ?_);show wpAny _ _ (Builtin.SmallTypes.ownedTupleIsFree (.ref z) >>= _) _ _ _
 refine wpAny_bind ?_;unfold Builtin.SmallTypes.ownedTupleIsFree;refine wpAny_bind (wpAny_field g0 rfl (x:=.none) rfl (wpAny_pure ?_));simp only [if_true]
 refine wpAny_bind (wpAny_rule ?_);refine wpAny_bind (wpAny_field g0 rfl (x:=.ref TO) rfl ?_)
 refine wpAny_bind (wpAny_setField_rec g0 (by simp) fun h1 g1 e1=>?_)
 replace g1:IsZip h1 z TI TO .ellipsis:=g1
 refine wpAny_bind ?_;simp only [List.zipIdx_cons,List.zipIdx_nil,List.forIn_cons,List.forIn_nil]
 refine wpAny_bind (wpAny_bind (wpAny_onRaise ?_));show wpAny _ _ (Builtin.SmallTypes.nextOf (.ref i1) >>= _) _ _ _
 cases ex:xs[k1]? with
 | none =>
  refine wpAny_bind (f1.done _ _ k1 _ _ hh (f1.but q1 e1 D.i1z D.l1z) ex fun h2 e e2 he=>?_)
  obtain ⟨oe,ge,ce⟩:=he
  have g2:IsZip h2 z TI TO .ellipsis:=e2 _ _ D.i1z.symm g1
  have ne:e≠z:=fun q=>by subst q;rw [g2] at ge;cases ge;simp at ce
  exact wpAny_setField_rec g2 (by simp) fun h3 _ e3=>R h3 e (fun c o n1 _ n3 _ q=>e3.extBut _ _ n1 (e2 _ _ n3 (e1.extBut _ _ n1 q))) ⟨oe,e3.extBut _ _ ne ge,ce⟩
 | some x =>
  have ey:ys[k2]? = none:=by rcases ed with q | q;rw [ex] at q;cases q;exact q
  refine wpAny_bind (f1.item _ _ k1 x _ _ (f1.but q1 e1 D.i1z D.l1z) ex fun h2 q1' e2=>wpAny_pure ?_)
  have gO2:IsPair h2 TO a b:=e2.extBut _ _ D.TOi1 (e1.extBut _ _ D.TOz gO)
  refine wpAny_bind (wpAny_seqItems gO2 rfl ?_);refine wpAny_bind (wpAny_updateSeq_pair gO2 fun h3 gO3 e3=>?_)
  refine wpAny_bind (wpAny_letGo (wpAny_pure ?_));refine wpAny_bind (wpAny_bind (wpAny_onRaise ?_));show wpAny _ _ (Builtin.SmallTypes.nextOf (.ref i2) >>= _) _ _ _
  refine wpAny_bind (f2.done _ _ k2 _ _ hh (f2.but (f2.but (f2.but q2 e1 D.i2z D.l2z) e2 D.i12.symm D.l2i1) e3 D.TOi2.symm D.l2TO) ey fun h4 e e4 he=>?_)
  obtain ⟨oe,ge,ce⟩:=he
  have g4:IsZip h4 z TI TO .ellipsis:=e4 _ _ D.i2z.symm (e3.extBut _ _ D.TOz.symm (e2.extBut _ _ D.i1z.symm g1))
  have ne:e≠z:=fun q=>by subst q;rw [g4] at ge;cases ge;simp at ce
  exact wpAny_setField_rec g4 (by simp) fun h5 _ e5=>R h5 e (fun c o n1 n2 n3 n4 q=>e5.extBut _ _ n1 (e4 _ _ n4 (e3.extBut _ _ n2 (e2.extBut _ _ n3 (e1.extBut _ _ n1 q))))) ⟨oe,e5.extBut _ _ ne ge,ce⟩
theorem UM {z TI TO i1 i2 l1 l2:Addr}{k1 k2:Nat}{xs ys:Array Value}{x y a b:Value}{S1 S2:Nat->Heap->Prop}{Q:Option Value->Shared->Prop}(D:ZipApart z TI TO i1 i2 l1 l2) (f1:Feeds prog w i1 l1 xs S1) (f2:Feeds prog w i2 l2 ys S2)
  (g0:IsZip s.heap z TI TO .none) (gI:IsPair s.heap TI (.ref i1) (.ref i2)) (gO:IsPair s.heap TO a b) (q1:S1 k1 s.heap) (q2:S2 k2 s.heap) (ex:xs[k1]? = some x) (ey:ys[k2]? = some y)
  (R:∀ g,IsZip g z TI TO (rawInt s.heap.objs.size)->IsPair g TO x y->S1 (k1+1) g->S2 (k2+1) g->IsPair g s.heap.objs.size x y->g.objs.size=s.heap.objs.size+1 ->
   (∀ c o,c≠z->c≠TO->c≠i1->c≠i2->s.heap.get? c=some o->g.get? c=some o)->Q (some (.ref s.heap.objs.size)) { s with heap:=g }):wpAny (model prog w) A (pyNext (.ref z)) Q E s:=by
 have ty:s.TypeIs (.ref z) "zip":=⟨_,g0,rfl⟩
 unfold pyNext;exact wpAny_bind (wpAny_attempt (wpAny_callSpecial?_slot (name:=Str.ofString "__next__") ty F.slot_zip_next (wpAny_call_entry F.slot_zip_next ty F.entry_zip_next
   (ZH D f1 f2 g0 gI gO q1 q2 ex ey fun g a1 a2 a3 a4 a5 a6 a7=>wpAny_pure (R g a1 a2 a3 a4 a5 a6 a7)) (F.args_zip_next_1 _))))
theorem UW {z TI TO i1 i2 l1 l2:Addr}{k1 k2:Nat}{xs ys:Array Value}{a b:Value}{S1 S2:Nat->Heap->Prop}{Q:Option Value->Shared->Prop}(hh:A.handled=none) (D:ZipApart z TI TO i1 i2 l1 l2) (f1:Feeds prog w i1 l1 xs S1) (f2:Feeds prog w i2 l2 ys S2)
  (g0:IsZip s.heap z TI TO .none) (gI:IsPair s.heap TI (.ref i1) (.ref i2)) (gO:IsPair s.heap TO a b) (q1:S1 k1 s.heap) (q2:S2 k2 s.heap) (ed:xs[k1]? = none\/ys[k2]? = none)
  (R:∀ g,(∀ c o,c≠z->c≠TO->c≠i1->c≠i2->s.heap.get? c=some o->g.get? c=some o)->Q none { s with heap:=g }):wpAny (model prog w) A (pyNext (.ref z)) Q E s:=by
 have ty:s.TypeIs (.ref z) "zip":=⟨_,g0,rfl⟩
 unfold pyNext;refine wpAny_bind (wpAny_attempt (wpAny_callSpecial?_slot (name:=Str.ofString "__next__") ty F.slot_zip_next (wpAny_call_entry F.slot_zip_next ty F.entry_zip_next (ZN hh D f1 f2 g0 gI gO q1 q2 ed fun g e hk he=>?_) (F.args_zip_next_1 _))))
 obtain ⟨o,ho,hc⟩:=he
 exact wpAny_bind (wpAny_isInstance (T:="StopIteration") (b:=true) ⟨o,ho,hc⟩ isSubtype_stop (wpAny_pure (R _ hk)))
def VJ (t:Bool):String:=match t with | true=>"tuple_iterator" | false=>"list_iterator"
def ItK (t:Bool) (h:Heap) (i l:Addr) (k:Nat):Prop:=match t with | true=>h.IsTupleIter i l k | false=>h.IsListIter i l k
def IsK (t:Bool) (h:Heap) (l:Addr) (xs:Array Value):Prop:=match t with | true=>h.IsTuple l xs | false=>h.IsList l xs
def SqK (t:Bool) (K:PySem.W.Frag) (H:Hp) (a:Addr) (xs:List V):Prop:=match t with | true=>SqT K H a xs | false=>SqL K H a xs
theorem IsK.at {t:Bool}{h h':Heap}{l:Addr}{xs:Array Value}(q:IsK t h l xs) (k:∀ o,h.get? l=some o->h'.get? l=some o):IsK t h' l xs:=by
 cases t with
 | true=>obtain ⟨o,e,r⟩:=q;exact ⟨o,k o e,r⟩
 | false=>exact Heap.IsList.at q fun o e=>k o e
theorem IsK.lt {t:Bool}{h:Heap}{l:Addr}{xs:Array Value}(q:IsK t h l xs):l<h.objs.size:=by
 cases t with
 | true=>obtain ⟨o,e,r⟩:=q;exact Heap.lt_size e
 | false=>obtain ⟨o,e,r⟩:=q;exact Heap.lt_size e
theorem ItK.at {t:Bool}{h h':Heap}{i l:Addr}{k:Nat}(q:ItK t h i l k) (f:∀ o,h.get? i=some o->h'.get? i=some o):ItK t h' i l k:=by
 cases t with
 | true=>obtain ⟨o,e,r⟩:=q;exact ⟨o,f o e,r⟩
 | false=>obtain ⟨o,e,r⟩:=q;exact ⟨o,f o e,r⟩
theorem ItK.obj {t:Bool}{h:Heap}{i l:Addr}{k:Nat}(q:ItK t h i l k):∃ o,h.get? i=some o/\∀ v,o.data≠.cell v:=by
 cases t with
 | true=>obtain ⟨o,e,_,d⟩:=q;exact ⟨o,e,fun v z=>by rw [d] at z;cases z⟩
 | false=>obtain ⟨o,e,_,d⟩:=q;exact ⟨o,e,fun v z=>by rw [d] at z;cases z⟩
theorem ItK.of {t:Bool}{h:Heap}{i l:Addr}(e:h.get? i=some { cls:=.type (VJ t),data:=.fields #[.ref l,.int 0 0] }):ItK t h i l 0:=by
 cases t with
 | true=>exact ⟨_,e,rfl,rfl⟩
 | false=>exact ⟨_,e,rfl,rfl⟩
theorem gG {t:Bool}{i l:Addr}{xs:Array Value}(n:l≠i):Feeds prog w i l xs fun k h=>ItK t h i l k/\IsK t h l xs:=by
 cases t with
 | true=>exact Z9 n
 | false=>exact Qc n
theorem Xk {t:Bool}{l:Addr}{xs:Array Value}{Q:Value->Shared->Prop}(q:IsK t s.heap l xs) (z:Q (.ref s.heap.objs.size) { s with heap:=s.heap.push { cls:=.type (VJ t),data:=.fields #[.ref l,.int 0 0] } }):wpAny (model prog w) A (pyIter (.ref l)) Q E s:=by
 cases t with
 | true=>exact wpAny_pyIter_tuple q z
 | false=>exact wpAny_pyIter_list q z
abbrev zp1 (t:Bool) (h:Heap) (l:Addr):Heap:=h.push { cls:=.type (VJ t),data:=.fields #[.ref l,.int 0 0] }
abbrev zp2 (t u:Bool) (h:Heap) (l m:Addr):Heap:=zp1 u (zp1 t h l) m
abbrev zp3 (t u:Bool) (h:Heap) (l m:Addr):Heap:=(zp2 t u h l m).push { cls:=.type "tuple",data:=.seq #[.ref h.objs.size,.ref (zp1 t h l).objs.size] }
abbrev zp4 (t u:Bool) (h:Heap) (l m:Addr):Heap:=(zp3 t u h l m).push { cls:=.type "tuple",data:=.seq #[.none,.none] }
abbrev zp5 (t u:Bool) (h:Heap) (l m:Addr):Heap:=(zp4 t u h l m).push { cls:=.type "zip",data:=.fields #[.none,.bool false,.bool false,.ref (zp2 t u h l m).objs.size,.ref (zp3 t u h l m).objs.size] }
theorem XV (t u:Bool) (l m:Addr) (xs ys:Array Value) :
  Meets (Builtin.«zip.__new__» ⟨[.type "zip",.ref l,.ref m],[]⟩) (fun _ R s=>IsK t s.heap l xs/\IsK u s.heap m ys/\R (.ok (.ret (.ref (zp4 t u s.heap l m).objs.size))) { s with heap:=zp5 t u s.heap l m }) :=
 .of_wp fun prog w A R s0 h=>by
  obtain ⟨hp,g,d,tk,os⟩:=s0;obtain ⟨q1,q2,h⟩:=h;have hsub:=sub_zip
  have p1:IsK t (Shared.heap ⟨hp,g,d,tk,os⟩) l xs:=q1
  have p2:IsK u (Shared.heap ⟨zp1 t hp l,g,d,tk,os⟩) m ys:=q2.at fun o e=>Heap.get?_push_of_some _ e
  wp_walk using Xk p1,Xk p2
  exact ⟨_,rfl,h⟩
theorem VL {t u:Bool}{l m:Addr}{xs ys:Array Value}{Q:Value->Shared->Prop}(q1:IsK t s.heap l xs) (q2:IsK u s.heap m ys)
  (R:∀ g,IsZip g (s.heap.objs.size+4) (s.heap.objs.size+2) (s.heap.objs.size+3) .none->IsPair g (s.heap.objs.size+2) (.ref s.heap.objs.size) (.ref (s.heap.objs.size+1)) ->
   IsPair g (s.heap.objs.size+3) .none .none->ItK t g s.heap.objs.size l 0->ItK u g (s.heap.objs.size+1) m 0->(∀ c o,s.heap.get? c=some o->g.get? c=some o)->Q (.ref (s.heap.objs.size+4)) { s with heap:=g }) :
  wpAny (model prog w) A (call (.type "zip") [.ref l,.ref m]) Q E s:=by
 refine callType_new F.called_zip (by decide) (F.typeCall_zip_2 _ _) (F.newCall_zip_2 _ _) (fun obj=>F.args_object_init_3 obj _ _) F.entry_zip_new (XV t u l m xs ys) ⟨q1,q2,?_⟩
 have z1:(zp1 t s.heap l).objs.size=s.heap.objs.size+1:=Heap.size_push ..
 have z2:(zp2 t u s.heap l m).objs.size=s.heap.objs.size+2:=by rw [Heap.size_push,z1]
 have z3:(zp3 t u s.heap l m).objs.size=s.heap.objs.size+3:=by rw [Heap.size_push,z2]
 have z4:(zp4 t u s.heap l m).objs.size=s.heap.objs.size+4:=by rw [Heap.size_push,z3]
 have g5:(zp5 t u s.heap l m).get? (zp4 t u s.heap l m).objs.size=some _:=Heap.get?_push_size _ rfl
 have g4:(zp5 t u s.heap l m).get? (zp3 t u s.heap l m).objs.size=some _:=Heap.get?_push_of_some _ (Heap.get?_push_size _ rfl)
 have g3:(zp5 t u s.heap l m).get? (zp2 t u s.heap l m).objs.size=some _:=Heap.get?_push_of_some _ (Heap.get?_push_of_some _ (Heap.get?_push_size _ rfl))
 have g2:(zp5 t u s.heap l m).get? (zp1 t s.heap l).objs.size=some _:=Heap.get?_push_of_some _ (Heap.get?_push_of_some _ (Heap.get?_push_of_some _ (Heap.get?_push_size _ rfl)))
 have g1:(zp5 t u s.heap l m).get? s.heap.objs.size=some _:=Heap.get?_push_of_some _ (Heap.get?_push_of_some _ (Heap.get?_push_of_some _ (Heap.get?_push_of_some _ (Heap.get?_push_size _ rfl))))
 show _/\_
 rw [z2,z3,z4] at g5;rw [z1,z2] at g3;rw [z3] at g4;rw [z1] at g2;rw [z4]
 exact ⟨⟨_,g5,rfl⟩,R _ g5 g3 g4 (.of g1) (.of g2) fun c o x=>Heap.get?_push_of_some _ (Heap.get?_push_of_some _ (Heap.get?_push_of_some _ (Heap.get?_push_of_some _ (Heap.get?_push_of_some _ x))))⟩
end
section
variable {X:Cx}{s:Shared}{σ:St}{H:Hp}{pins:List (Addr×Obj)}
theorem Zj {t:Bool}{a:Addr}{xs:List V}(I:Inv X pins σ H s) (h:SqK t X.K H a xs):∃ its:List Value,jw xs its/\IsK t s.heap a its.toArray/\xs.length<=sizeLine:=by
 cases t with
 | true=>exact I.tuple h
 | false=>obtain ⟨its,r,p,z⟩:=I.list h;exact ⟨its,r,p.isList,z⟩
theorem JL {t:Bool}{a:Addr}{xs ys:List V}(I:Inv X pins σ H s) (h:SqK t X.K H a xs) (h':SqK t X.K H a ys):xs=ys:=by
 cases t with
 | true=>exact I.tuple_inj h h'
 | false=>exact I.list_inj h h'
end
def Yq (K:PySem.W.Frag) (t u:Bool) (l1 l2:Addr):It :=
 ⟨fun i H=>∃ xs ys x y,SqK t K H l1 xs/\SqK u K H l2 ys/\xs[i]? = some x/\ys[i]? = some y,fun i H v H'=>∃ p x y,v = .ref p/\H p=none/\H'=upd H p (.tup [x,y])/\(∀ xs,SqK t K H l1 xs->xs[i]? = some x)/\∀ ys,SqK u K H l2 ys->ys[i]? = some y,
  fun i H=>∃ xs ys,SqK t K H l1 xs/\SqK u K H l2 ys/\(xs.length<=i\/ys.length<=i)⟩
theorem XW {t u:Bool}{P:Program}{w:World}{K:PySem.W.Frag}{es:List Expr}{x1:Nat}{pos:Pos}{z TI TO i1 i2 l1 l2:Addr}(D:ZipApart z TI TO i1 i2 l1 l2) :
  Turn P w K (.Tuple es x1 pos) (Yq K t u l1 l2) [z,TI,TO,i1,i2] z (fun i h=>∃ a b,IsZip h z TI TO .none/\IsPair h TI (.ref i1) (.ref i2)/\IsPair h TO a b/\ItK t h i1 l1 i/\ItK u h i2 l2 i) where
 mem:=by simp
 obj:=fun i h ⟨a,b,t1,t2,t3,t4,t5⟩ c hc=>by
  simp only [List.mem_cons,List.not_mem_nil,or_false] at hc
  rcases hc with rfl | rfl | rfl | rfl | rfl
  ·exact ⟨_,t1,fun v e=>by have e':Data.fields _=Data.cell v:=e;cases e'⟩
  ·exact ⟨_,t2,fun v e=>by have e':Data.seq _ _=Data.cell v:=e;cases e'⟩
  ·exact ⟨_,t3,fun v e=>by have e':Data.seq _ _=Data.cell v:=e;cases e'⟩
  ·exact t4.obj
  ·exact t5.obj
 keep:=fun i h h' ⟨a,b,t1,t2,t3,t4,t5⟩ k=>⟨a,b,k z (by simp) _ t1,k TI (by simp) _ t2,k TO (by simp) _ t3,t4.at fun o e=>k i1 (by simp) o e,t5.at fun o e=>k i2 (by simp) o e⟩
 item:=by
  intro X hP hw hK hc i pins s σ H E I hf st hg
  subst hP hw hK
  obtain ⟨a,b,t1,t2,t3,t4,t5⟩:=st
  obtain ⟨xs,ys,x,y,hq1,hq2,hx,hy⟩:=hg
  obtain ⟨its1,rv1,p1,_⟩:=Zj I hq1
  obtain ⟨its2,rv2,p2,_⟩:=Zj I hq2
  obtain ⟨u1,hu1,ru1⟩:=rv1.get hx
  obtain ⟨u2,hu2,ru2⟩:=rv2.get hy
  have hn:H s.heap.objs.size=none:=I.hok.fresh (Nat.le_refl _)
  have fz:=hf z (by simp)
  have fTO:=hf TO (by simp)
  have f1:=hf i1 (by simp)
  have f2:=hf i2 (by simp)
  refine UM D (gG D.l1i1) (gG D.l2i2) t1 t2 t3 ⟨t4,p1⟩ ⟨t5,p2⟩ (x:=u1) (y:=u2) (by simpa using hu1) (by simpa using hu2) fun h' o1 o2 o3 o4 o5 o6 o7=>⟨_,rfl,?_⟩
  obtain ⟨o3,_⟩:=o3;obtain ⟨o4,_⟩:=o4
  refine wpAny_letOwnedTupleGo_zip o1 fun h2 q1 sb=>?_
  have hzl:z<s.heap.objs.size:=Heap.lt_size t1
  have kk:∀ c o,c≠z->c≠TO->c≠i1->c≠i2->s.heap.get? c=some o->h2.get? c=some o:=fun c o n1 n2 n3 n4 e=>(sb.2 c n1).trans (o7 c o n1 n2 n3 n4 e)
  have et:h2.get? s.heap.objs.size=some { cls:=.type "tuple",data:=.seq #[u1,u2] }:=(sb.2 _ (Nat.ne_of_gt hzl)).trans o5
  have tne:∀ c o,H c=some o->c≠z/\c≠TO/\c≠i1/\c≠i2/\c≠s.heap.objs.size:=fun c o q=>⟨fun e=>(by rw [e,fz.1] at q;cases q),fun e=>(by rw [e,fTO.1] at q;cases q),fun e=>(by rw [e,f1.1] at q;cases q),fun e=>(by rw [e,f2.1] at q;cases q),fun e=>(by rw [e,hn] at q;cases q)⟩
  have getF:∀ {c:Addr} {o:HO},H c=some o->upd H s.heap.objs.size (.tup [x,y]) c=some o:=fun {c o} q=>by rw [j5 (tne c o q).2.2.2.2];exact q
  have nin:∀ {c:Addr},c∉[z,TO,i1,i2]->c≠z/\c≠TO/\c≠i1/\c≠i2:=fun {c} h=>by simpa using h
  have I1:Inv X pins σ (upd H s.heap.objs.size (.tup [x,y])) { s with heap:=h2,toks:=s.toks }:=by
   refine I.step (g':=s.gens) (d':=s.drawn) (ch:=[z,TO,i1,i2]) (fun c hc'=>?_) (fun c o _ _ hc' e _=>kk c o (nin hc').1 (nin hc').2.1 (nin hc').2.2.1 (nin hc').2.2.2 e) (fun c o _ _ hc' e _=>⟨o.slots,kk c o (nin hc').1 (nin hc').2.1 (nin hc').2.2.1 (nin hc').2.2.2 e⟩)
    (fun c o _ e n=>by rw [j5 (Nat.ne_of_lt (Heap.lt_size e))];exact n) (fun c o hc' e=>⟨o,kk c o (nin hc').1 (nin hc').2.1 (nin hc').2.2.1 (nin hc').2.2.2 e⟩) (fun _ _ q=>getF q) (fun _ _ _ q=>getF q) (fun c ps q=>⟨#[],by rw [getF q];simp⟩) (fun m hm=>?_) (fun c v q=>?_) I.bare
   ·simp only [List.mem_cons,List.not_mem_nil,or_false] at hc'
    rcases hc' with rfl | rfl | rfl | rfl
    ·exact ⟨fz.2.2.2.1,fz.2.1,fz.2.2.2.2.1,fz.2.2.2.2.2⟩
    ·exact ⟨fTO.2.2.2.1,fTO.2.1,fTO.2.2.2.2.1,fTO.2.2.2.2.2⟩
    ·exact ⟨f1.2.2.2.1,f1.2.1,f1.2.2.2.2.1,f1.2.2.2.2.2⟩
    ·exact ⟨f2.2.2.2.1,f2.2.1,f2.2.2.2.2.1,f2.2.2.2.2.2⟩
   ·obtain ⟨o,es,ep,ho,r⟩:=hm
    exact ⟨o,es,ep,kk _ o (Ne.symm fz.2.1) (Ne.symm fTO.2.1) (Ne.symm f1.2.1) (Ne.symm f2.2.1) ho,r⟩
   ·by_cases hb:c=s.heap.objs.size
    ·subst hb
     rw [j4] at q;cases q
     exact ⟨by show 2<=sizeLine;decide,[u1,u2],.cons ru1 (.cons ru2 .nil),⟨_,et,rfl,0,rfl⟩⟩
    ·rw [j5 hb] at q
     have hh:=tne c v q
     refine (I.hok c v q).stay (fun c' o hc' e=>?_) (fun _ e=>getF e) fun _ _ e=>getF e
     have hh':c'≠z/\c'≠TO/\c'≠i1/\c'≠i2:=by
      rcases hc' with e | e
      ·rw [e];exact ⟨hh.1,hh.2.1,hh.2.2.1,hh.2.2.2.1⟩
      ·have:=tne c' _ e;exact ⟨this.1,this.2.1,this.2.2.1,this.2.2.2.1⟩
     exact kk c' o hh'.1 hh'.2.1 hh'.2.2.1 hh'.2.2.2 e
  have s2:∀ {c:Addr} {o:Obj},c≠z->h'.get? c=some o->h2.get? c=some o:=fun n e=>(sb.2 _ n).trans e
  refine ⟨.ref s.heap.objs.size,_,I1,rfl,⟨_,x,y,rfl,hn,rfl,fun ys' hy'=>by rw [JL I hy' hq1];exact hx,fun ys' hy'=>by rw [JL I hy' hq2];exact hy⟩,⟨u1,u2,q1,kk _ _ D.TIz D.TITO D.TIi1 D.TIi2 t2,s2 D.TOz o2,o3.at fun o e=>s2 D.i1z e,o4.at fun o e=>s2 D.i2z e⟩,fun c hc'=>?_⟩
  have hl:c<s.heap.objs.size:=by
   simp only [List.mem_cons,List.not_mem_nil,or_false] at hc'
   rcases hc' with rfl | rfl | rfl | rfl | rfl
   ·exact hzl
   ·exact Heap.lt_size t2
   ·exact Heap.lt_size t3
   ·obtain ⟨o,e,_⟩:=t4.obj;exact Heap.lt_size e
   ·obtain ⟨o,e,_⟩:=t5.obj;exact Heap.lt_size e
  rw [j5 (Nat.ne_of_lt hl)]
  exact (hf c hc').1
 done:=by
  intro X hP hw hK hc i pins s σ H E I hf st hg
  subst hP hw hK
  obtain ⟨a,b,t1,t2,t3,t4,t5⟩:=st
  obtain ⟨xs,ys,hq1,hq2,hend⟩:=hg
  obtain ⟨its1,rv1,p1,_⟩:=Zj I hq1
  obtain ⟨its2,rv2,p2,_⟩:=Zj I hq2
  have e1:=rv1.length
  have e2:=rv2.length
  have fz:=hf z (by simp)
  have fTO:=hf TO (by simp)
  have f1:=hf i1 (by simp)
  have f2:=hf i2 (by simp)
  have tne:∀ c o,H c=some o->c≠z/\c≠TO/\c≠i1/\c≠i2:=fun c o q=>⟨fun e=>(by rw [e,fz.1] at q;cases q),fun e=>(by rw [e,fTO.1] at q;cases q),fun e=>(by rw [e,f1.1] at q;cases q),fun e=>(by rw [e,f2.1] at q;cases q)⟩
  have nin:∀ {c:Addr},c∉[z,TO,i1,i2]->c≠z/\c≠TO/\c≠i1/\c≠i2:=fun {c} h=>by simpa using h
  refine UW (I.ok.hd hc) D (gG D.l1i1) (gG D.l2i2) t1 t2 t3 ⟨t4,p1⟩ ⟨t5,p2⟩ ?_ fun h' kk=>⟨rfl,?_⟩
  ·rcases hend with h | h
   ·exact .inl (by simp;omega)
   ·exact .inr (by simp;omega)
  ·refine I.step (g':=s.gens) (d':=s.drawn) (t':=s.toks) (ch:=[z,TO,i1,i2]) (fun c hc'=>?_) (fun c o _ _ hc' e _=>kk c o (nin hc').1 (nin hc').2.1 (nin hc').2.2.1 (nin hc').2.2.2 e) (fun c o _ _ hc' e _=>⟨o.slots,kk c o (nin hc').1 (nin hc').2.1 (nin hc').2.2.1 (nin hc').2.2.2 e⟩)
    (fun _ _ _ _ n=>n) (fun c o hc' e=>⟨o,kk c o (nin hc').1 (nin hc').2.1 (nin hc').2.2.1 (nin hc').2.2.2 e⟩) (fun _ _ q=>q) (fun _ _ _ q=>q) (fun c ps q=>⟨#[],by rw [q];simp⟩) (fun m hm=>?_) (fun c v q=>?_) I.bare
   ·simp only [List.mem_cons,List.not_mem_nil,or_false] at hc'
    rcases hc' with rfl | rfl | rfl | rfl
    ·exact ⟨fz.2.2.2.1,fz.2.1,fz.2.2.2.2.1,fz.2.2.2.2.2⟩
    ·exact ⟨fTO.2.2.2.1,fTO.2.1,fTO.2.2.2.2.1,fTO.2.2.2.2.2⟩
    ·exact ⟨f1.2.2.2.1,f1.2.1,f1.2.2.2.2.1,f1.2.2.2.2.2⟩
    ·exact ⟨f2.2.2.2.1,f2.2.1,f2.2.2.2.2.1,f2.2.2.2.2.2⟩
   ·obtain ⟨o,es,ep,ho,r⟩:=hm
    exact ⟨o,es,ep,kk _ o (Ne.symm fz.2.1) (Ne.symm fTO.2.1) (Ne.symm f1.2.1) (Ne.symm f2.2.1) ho,r⟩
   ·have hh:=tne c v q
    refine (I.hok c v q).stay (fun c' o hc' e=>?_) (fun _ e=>e) fun _ _ e=>e
    have hh':c'≠z/\c'≠TO/\c'≠i1/\c'≠i2:=by
     rcases hc' with e | e
     ·rw [e];exact hh
     ·exact tne c' _ e
    exact kk c' o hh'.1 hh'.2.1 hh'.2.2.1 hh'.2.2.2 e
 self:=fun _ _ _ _ _ ⟨_,_,t1,_⟩ h=>wpAny_pyIter_zip t1 h
section
variable {X:Cx}
def UB (K:PySem.W.Frag) (ta:TA):TI:=fun σ H R=>ta σ H fun vs H1=>∃ t u a b,vs=[.ref a,.ref b]/\(∃ xs,SqK t K H1 a xs)/\(∃ ys,SqK u K H1 b ys)/\R (Yq K t u a b) H1
theorem gK {es:List Expr}{x1:Nat}{tpos:Pos}{l r:Expr}{ta:TA}{p pos:Pos}(K:PySem.W.Frag) (hg:Gl X "zip") (hm:X.mg "zip" = none) (ha:PA X [l,r] ta) (hs:starEach [l,r] X.env=(false,eval l X.env)::starEach [r] X.env:=by rfl) (hs2:(backTo pos (starEach [r] X.env)).any (·.1)=false:=by rfl) (hK:X.K=K:=by rfl) :
  PI X (.Tuple es x1 tpos) (.Call (.Name "zip" p) [l,r] [] pos) (UB K ta):=by
 subst hK
 intro pins s σ H R I h
 refine Call_ (zh I hg hm boot_zip (PyProof.Rows.callWith_type1 (thn (ha pos pins s σ H _ I h) fun us s1 ⟨vs,H1,I1,r1,q1⟩=>?_) hs hs2))
 obtain ⟨t,t2,a,b,e,⟨xs,hq⟩,⟨ys,hq2⟩,q⟩:=q1
 subst e
 obtain ⟨u,u2,rfl,ru,ru2⟩:=X0 r1
 cases ru
 cases ru2
 obtain ⟨its,rv,pl,_⟩:=Zj I1 hq
 obtain ⟨its2,rv2,pl2,_⟩:=Zj I1 hq2
 refine VL pl pl2 fun h' z1 z2 z3 z4 z5 kk=>?_
 refine wpAny_pyIter_zip z1 ?_
 have I2:Inv X pins σ H1 { s1 with heap:=h',toks:=s1.toks }:=I1.kept kk
 have la:a<s1.heap.objs.size:=pl.lt
 have lb:b<s1.heap.objs.size:=pl2.lt
 have D:ZipApart (s1.heap.objs.size+4) (s1.heap.objs.size+2) (s1.heap.objs.size+3) s1.heap.objs.size (s1.heap.objs.size+1) a b:=by
  constructor <;> first | exact Nat.ne_of_lt la | exact Nat.ne_of_lt lb | exact Nat.ne_of_lt (Nat.lt_of_lt_of_le la (Nat.le_add_right _ _)) | exact Nat.ne_of_lt (Nat.lt_of_lt_of_le lb (Nat.le_add_right _ _)) | (apply Nat.ne_of_lt;omega) | (apply Nat.ne_of_gt;omega)
 refine ⟨_,[s1.heap.objs.size+4,s1.heap.objs.size+2,s1.heap.objs.size+3,s1.heap.objs.size,s1.heap.objs.size+1],_,_,H1,rfl,I2,XW D,⟨.none,.none,z1,z2,z3,z4,z5⟩,fun c hc=>?_,q⟩
 have hle:s1.heap.objs.size<=c:=by
  simp only [List.mem_cons,List.not_mem_nil,or_false] at hc
  rcases hc with rfl | rfl | rfl | rfl | rfl
  ·exact Nat.le_add_right _ _
  ·exact Nat.le_add_right _ _
  ·exact Nat.le_add_right _ _
  ·exact Nat.le_refl _
  ·exact Nat.le_add_right _ _
 exact I1.fpOk hle (I1.hok.fresh hle)
end
theorem yp {K:PySem.W.Frag}{t0 u0:Bool}{a b acc:Addr}{xs ys:List V}{g:TG}{ti:TT}{te:TE}{R:Hp->Prop}{σ:St}{H:Hp}(hl2:xs.length=ys.length) (Pv:Nat->St->Hp->Prop) (h0:Pv 0 σ H) (hl:∀ i σ H,i<=xs.length->Pv i σ H->SqK t0 K H a xs/\SqK u0 K H b ys)
  (hs:∀ i x y σ H t,xs[i]? = some x->ys[i]? = some y->Pv i σ H->H t=none->g (.ref t) σ (upd H t (.tup [x,y])) fun σ3 H3=>ti σ3 H3 fun ok H4=>if ok=true then te σ3 H4 fun v H5=>∃ zs,H5 acc=some (.lst zs)/\zs.length<sizeLine/\Pv (i+1) σ3 (upd H5 acc (.lst (zs++[v]))) else Pv (i+1) σ3 H4)
  (hd:∀ σ H,Pv xs.length σ H->R H) :
  ∃ W:Nat->Nat->St->Hp->Prop,(∃ m,W 0 m σ H)/\∀ i m σ' H',W i m σ' H' ->
   ((Yq K t0 u0 a b).stop i H'/\R H')\/((Yq K t0 u0 a b).go i H'/\∃ NX:St->Hp->Prop,(∀ σ2 H2,NX σ2 H2->∃ m',m'<m/\W (i+1) m' σ2 H2) /\
    ∀ x H2,(Yq K t0 u0 a b).yld i H' x H2->g x σ' H2 fun σ3 H3=>ti σ3 H3 fun ok H4=>if ok=true then te σ3 H4 fun v H5=>∃ zs,H5 acc=some (.lst zs)/\zs.length<sizeLine/\NX σ3 (upd H5 acc (.lst (zs++[v]))) else NX σ3 H4):=by
 refine ⟨fun i m σ H=>m=xs.length-i/\i<=xs.length/\Pv i σ H,⟨xs.length,by simp,Nat.zero_le _,h0⟩,?_⟩
 rintro i m σ H ⟨rfl,hi,p⟩
 obtain ⟨q,q2⟩:=hl i σ H hi p
 by_cases hlt:i<xs.length
 ·refine .inr ⟨⟨xs,ys,xs[i],ys[i]'(by omega),q,q2,by simp [hlt],List.getElem?_eq_getElem (by omega)⟩,Pv (i+1),fun σ' H' p'=>⟨xs.length-(i+1),by omega,rfl,hlt,p'⟩,fun v H' y=>?_⟩
  obtain ⟨t,x,y',rfl,hn,rfl,y1,y2⟩:=y
  exact hs i x y' σ H t (y1 xs q) (y2 ys q2) p hn
 ·have e:i=xs.length:=by omega
  subst e
  exact .inl ⟨⟨xs,ys,q,q2,.inl (Nat.le_refl _)⟩,hd σ H p⟩
end L2
end
section
namespace L2
open PySem PySem.Spec PySem.W PyProof.Rows
mutual
inductive Dat (H:Hp):V->PyData->Prop
 | non:Dat H .non .none
 | bl (b:Bool):Dat H (.bl b) (.bool b)
 | int (i:Int):Dat H (.int i) (.int i)
 | str (x:Str):Dat H (.str x) (.str x)
 | tup {p:Addr} {vs:List V} {ds:List PyData}:H p=some (.tup vs)->DatL H vs ds->Dat H (.ref p) (.tuple ds)
 | lst {p:Addr} {vs:List V} {ds:List PyData}:H p=some (.lst vs)->DatL H vs ds->Dat H (.ref p) (.list ds)
inductive DatL (H:Hp):List V->List PyData->Prop
 | nil:DatL H [] []
 | cons {v:V} {vs:List V} {d:PyData} {ds:List PyData}:Dat H v d->DatL H vs ds->DatL H (v::vs) (d::ds)
end
mutual
theorem Dat.ext {M:Addr->Prop}{H H':Hp}(x:Yu M H H') (hM:∀ c,M c->∀ vs,H c≠some (.lst vs)/\H c≠some (.tup vs)):∀ {v:V}{d:PyData},Dat H v d->Dat H' v d
 | _,_,.non=>.non
 | _,_,.bl b=>.bl b
 | _,_,.int i=>.int i
 | _,_,.str y=>.str y
 | _,_,.tup h r=>.tup (x _ _ h fun z=>(hM _ z _).2 h) (DatL.ext x hM r)
 | _,_,.lst h r=>.lst (x _ _ h fun z=>(hM _ z _).1 h) (DatL.ext x hM r)
theorem DatL.ext {M:Addr->Prop}{H H':Hp}(x:Yu M H H') (hM:∀ c,M c->∀ vs,H c≠some (.lst vs)/\H c≠some (.tup vs)):∀ {vs:List V}{ds:List PyData},DatL H vs ds->DatL H' vs ds
 | _,_,.nil=>.nil
 | _,_,.cons h r=>.cons (Dat.ext x hM h) (DatL.ext x hM r)
end
theorem Dat.same {H H':Hp}{v:V}{d:PyData}(s:jh H H') (h:Dat H v d):Dat H' v d:=h.ext (M:=fun _=>False) (Yu.of_same s) (fun _ z=>z.elim)
theorem DatL.length {H:Hp}:∀ {vs:List V}{ds:List PyData},DatL H vs ds->vs.length=ds.length
 | _,_,.nil=>rfl
 | _,_,.cons _ r=>congrArg Nat.succ r.length
theorem DatL.get {H:Hp}:∀ {vs:List V}{ds:List PyData}{i:Nat}{v:V},DatL H vs ds->vs[i]? = some v->∃ d,ds[i]? = some d/\Dat H v d
 | _,_,_,_,.nil,e=>by simp at e
 | _,_,0,_,.cons r _,e=>by simp at e;subst e;exact ⟨_,rfl,r⟩
 | _,_,i+1,v,.cons _ t,e=>by
  obtain ⟨d,h1,h2⟩:=DatL.get (i:=i) (v:=v) t (by simpa using e)
  exact ⟨d,by simpa using h1,h2⟩
def yT:Nat->PyData->Bool
 | 0,_=>false
 | _+1,.none=>true
 | _+1,.bool _=>true
 | _+1,.int _=>true
 | _+1,.str _=>true
 | n+1,.list ds=>decide (ds.length<=1000) && ds.all (yT n)
 | n+1,.tuple ds=>decide (ds.length<=1000) && ds.all (yT n)
 | _+1,_=>false
def Vh (n:Nat):Sp:=fun vs H Q _=>∃ (x y:V) (d:PyData),vs=[x,y]/\Dat H x d/\Dat H y d/\yT n d=true/\∀ H',jh H H'->Q (.bl true) H'
theorem JZ (K:PySem.W.Frag):PySem.W.kitOne K (.type "str") (.type "bool")=some false:=(jQ K _ _).trans (by decide +kernel)
theorem Qa (K:PySem.W.Frag):PySem.W.kitOne K (.type "str") (.type "int")=some false:=(jQ K _ _).trans (by decide +kernel)
theorem wd (K:PySem.W.Frag):PySem.W.kitOne K (.type "str") (.type "str")=some true:=(jQ K _ _).trans (by decide +kernel)
end L2
end
section
namespace L2
open PySem PySem.Spec PySem.W PyProof.Rows
def Two (vs:Array Value) (a0:Value):Prop:=vs[0]? = some a0/\vs[2]? = some .none
theorem Two.put {vs:Array Value}{a0:Value}(t:Two vs a0) (x:Value):Two (vs.setIfInBounds 1 x) a0 :=
 ⟨by rw [Array.getElem?_setIfInBounds_ne (by decide)];exact t.1,by rw [Array.getElem?_setIfInBounds_ne (by decide)];exact t.2⟩
theorem Zx (o:Obj) (f:Array Value->Array Value):(o.mapFields f).dict=o.dict:=by
 obtain ⟨c,d,dt,sl⟩:=o
 cases dt <;> rfl
def OnT (h B:Heap) (e:Addr) (cls a0 fl:Value):Prop :=
 ∃ oe vs T oT ts,h.get? e=some oe/\(oe.cls=cls/\Two vs a0/\oe.dict=none)/\oe.data = .fields vs/\vs[1]? = some (.ref T)/\B.get? T=none/\T≠e/\h.get? T=some oT/\oT.data = .fields ts/\ts[3]? = some fl
section
variable {M:Model}{A:Around}{E:Value->Shared->Prop}{s:Shared}{B:Heap}{env:Env}{outer l:List Env}{L e:Addr}{cls a0 fl:Value}{Q:Unit->Shared->Prop}
theorem wu (st:B.StaysIn s.heap) (fu:s.heap.FunFrames B l) (on:OnT s.heap B e cls a0 fl)
  (k:∀ g,B.StaysIn g->g.FunFrames B l->OnT g B e cls a0 .none->(∀ b o,s.heap.get? b=some o->(∀ vs,o.data≠.fields vs)->g.get? b=some o)->Q () { s with heap:=g }):wpAny M A (setFlight (.ref e) none) Q E s:=by
 obtain ⟨oe,vs,T,oT,ts,ge,gc,gd,g1,gB,gn,gT,gD,g3⟩:=on
 have z3:3<ts.size:=(Array.getElem?_eq_some_iff.mp g3).1
 have ot:∀ b,b≠T->(s.heap.update T (Obj.mapFields (·.setIfInBounds 3 ((none:Option Addr).elim Value.none fun f=>rawInt f)))).get? b=s.heap.get? b:=fun b hb =>
  Heap.get?_update_other _ _ hb.symm
 have nr:∀ {b o},s.heap.get? b=some o->(∀ vs,o.data≠.fields vs)->b≠T:=fun hb hn q=>by
  rw [q,gT] at hb
  cases hb
  exact hn ts gD
 unfold setFlight
 refine wpAny_bind (wpAny_field ge gd g1 ?_)
 rw [if_pos (by simp)]
 refine wpAny_setField gT gD z3 (k _ (fun b o hb=>?_) (fu.of_keeps fun b o hb hn=>⟨o,?_,rfl⟩) ?_ fun b o hb hn=>?_)
 ·rw [ot b fun q=>by rw [q,gB] at hb;cases hb]
  exact st b o hb
 ·rw [ot b (nr hb hn)]
  exact hb
 ·refine ⟨oe,vs,T,_,_,?_,gc,gd,g1,gB,gn,Heap.get?_update_self _ gT (Obj.isFreed_of_fields (Obj.data_mapFields gD _)),Obj.data_mapFields gD _,by simp [z3]⟩
  rw [ot e gn.symm]
  exact ge
 ·rw [ot b (nr hb hn)]
  exact hb
theorem JE {oe:Obj}{vs:Array Value}{head:Value}{nx:Bool}(fr:A.frames=some (env::outer)) (fu:s.heap.FunFrames B (env::outer)) (hL:env.frame=some L) (ge:s.heap.get? e=some oe) (st:B.StaysIn s.heap) (ne:B.get? e=none) (gd:oe.data = .fields vs)
  (z1:1<vs.size) (tw:Two vs a0) (dn:oe.dict=none) (k:∀ g,B.StaysIn g->g.FunFrames B (env::outer)->OnT g B e oe.cls a0 (rawInt L)->s.heap.UpToSlots g->Q () { s with heap:=g }) :
  wpAny M A (do let a <- frameOf env;let pl <- entryPlaceOf L nx;let b <- EntryCells.newEntry head a .none (rawInt L) .none pl;setField (.ref e) 1 b) Q E s:=by
 have out:e∉(env::outer).filterMap (·.frame):=fun q=>by
  obtain ⟨_,o,ho,hn⟩:=fu.mem q
  rw [ge] at ho
  cases ho
  exact hn vs gd
 refine wpAny_bind (wpAny_frameOf_fun fr fu hL fun g1 so=>?_)
 refine wpAny_bind (wpAny_entryPlaceOf fun pl sh=>?_)
 unfold EntryCells.newEntry newFields
 refine wpAny_bind (wpAny_newObj_type ?_ (sh.sizeOk5 _ _ _ _ _))
 have e1:g1.get? e=some oe:=(so.2.1 e out).trans ge
 have s1:B.StaysIn g1:=fun b o hb=>(so.2.1 b fun q=>by rw [(fu.mem q).1] at hb;cases hb).trans (st b o hb)
 generalize hnew:({ cls:=.type "traceback",dict:=none,data:=.fields ([head,.ref L,.none,rawInt L,.none]++(if pl.isEmpty then List.replicate 6 Value.none else pl)).toArray }:Obj)=new
 have nd:new.data = .fields ([head,.ref L,.none,rawInt L,.none]++(if pl.isEmpty then List.replicate 6 Value.none else pl)).toArray:=by rw [<- hnew]
 have e2:=Heap.get?_push_of_some (h:=g1) new e1
 refine wpAny_setField e2 gd z1 ?_
 have Te:g1.objs.size≠e:=Nat.ne_of_gt (Heap.lt_size e1)
 have d3:=Obj.data_mapFields gd (·.setIfInBounds 1 (Value.ref g1.objs.size))
 have e3:=Heap.get?_update_self (Obj.mapFields (·.setIfInBounds 1 (Value.ref g1.objs.size))) e2 (Obj.isFreed_of_fields d3)
 have T3:((g1.push new).update e (Obj.mapFields (·.setIfInBounds 1 (Value.ref g1.objs.size)))).get? g1.objs.size=some new:=by
  rw [Heap.get?_update_other _ _ Te.symm]
  exact Heap.get?_push_size g1 (Obj.isFreed_of_fields nd)
 have kp:∀ {b o},b≠e->g1.get? b=some o->((g1.push new).update e (Obj.mapFields (·.setIfInBounds 1 (Value.ref g1.objs.size)))).get? b=some o:=fun hb q=>by
  rw [Heap.get?_update_other _ _ hb.symm]
  exact Heap.get?_push_of_some _ q
 have nr:∀ {b o},s.heap.get? b=some o->(∀ vs,o.data≠.fields vs)->b≠e:=fun hb hn q=>by
  rw [q,ge] at hb
  cases hb
  exact hn vs gd
 refine k _ (fun b o hb=>kp (fun q=>by rw [q,ne] at hb;cases hb) (s1 b o hb)) (fu.of_keeps fun b o hb hn=>?_) ?_ fun b o hb hn=>?_
 ·obtain ⟨sl,hs⟩:=so.2.2 b o hb
  exact ⟨_,kp (nr hb hn) hs,rfl⟩
 ·exact ⟨_,_,g1.objs.size,_,_,e3,⟨Obj.cls_mapFields _ _,tw.put _,(Zx _ _).trans dn⟩,d3,by simp [z1],s1.fresh,Te,T3,nd,by first | (simp;done) | (rcases sh with rfl | ⟨_,_,_,_,_,_,_,rfl⟩ <;> simp)⟩
 ·obtain ⟨sl,hs⟩:=so.2.2 b o hb
  exact ⟨sl,kp (nr hb hn) hs⟩
theorem Vd (fr:A.frames=some (env::outer)) (fu:s.heap.FunFrames B (env::outer)) (hL:env.frame=some L) (on:OnT s.heap B e cls a0 .none) (st:B.StaysIn s.heap) (ne:B.get? e=none)
  (k:∀ g,B.StaysIn g->g.FunFrames B (env::outer)->OnT g B e cls a0 (rawInt L)->s.heap.UpToSlots g->Q () { s with heap:=g }):wpAny M A (noteFrame (.ref e) env) Q E s:=by
 obtain ⟨oe,vs,T,oT,ts,ge,⟨rfl,tw,dn⟩,gd,g1,gB,gn,gT,gD,g3⟩:=on
 unfold noteFrame
 simp only [hL]
 refine wpAny_bind (wpAny_field ge gd g1 ?_)
 rw [if_pos (by simp)]
 refine wpAny_bind (wpAny_field gT gD g3 ?_)
 rw [if_neg (by simp [rawInt])]
 refine wpAny_bind (wpAny_setField gT gD (Array.getElem?_eq_some_iff.mp g3).1 ?_)
 have ot:∀ b,b≠T->(s.heap.update T (Obj.mapFields (·.setIfInBounds 3 Value.none))).get? b=s.heap.get? b:=fun b hb =>
  Heap.get?_update_other _ _ hb.symm
 have nr:∀ {b o},s.heap.get? b=some o->(∀ vs,o.data≠.fields vs)->b≠T:=fun hb hn q=>by
  rw [q,gT] at hb
  cases hb
  exact hn ts gD
 refine JE (oe:=oe) (vs:=vs) (a0:=a0) fr (fu.of_keeps fun b o hb hn=>⟨o,?_,rfl⟩) hL ?_ (fun b o hb=>?_) ne gd (Array.getElem?_eq_some_iff.mp g1).1 tw dn fun g k1 k2 k3 k4=>k g k1 k2 k3 fun b o hb hn=>?_
 ·exact (ot b (nr hb hn)).trans hb
 ·exact (ot e gn.symm).trans ge
 ·exact (ot b fun q=>by rw [q,gB] at hb;cases hb).trans (st b o hb)
 ·exact k4 b o ((ot b (nr hb hn)).trans hb) hn
theorem ZB (fr:A.frames=some (env::outer)) (fu:s.heap.FunFrames B (env::outer)) (hL:env.frame=some L) (on:OnT s.heap B e cls a0 .none) (st:B.StaysIn s.heap) (ne:B.get? e=none)
  (k:∀ g,B.StaysIn g->g.FunFrames B (env::outer)->OnT g B e cls a0 .none->s.heap.UpToSlots g->Q () { s with heap:=g }):wpAny M A (leaving env (.ref e)) Q E s:=by
 unfold leaving
 refine wpAny_bind (Vd fr fu hL on st ne fun g k1 k2 k3 k4=>?_)
 exact wu (s:={ s with heap:=g }) k1 k2 k3 fun g' m1 m2 m3 m4=>k g' m1 m2 m3 (k4.trans fun b o hb hn=>⟨o.slots,m4 b o hb hn⟩)
theorem Ql {h:Heap}{args:List Value}(fr:A.frames=some (env::outer)) (hL:env.frame=some L) (st:B.StaysIn h) (fu:h.FunFrames B (env::outer)) (hx:Heap.MadeExcOf h s.heap e cls args)
  (k:∀ g t,B.StaysIn g->g.FunFrames B (env::outer)->OnT g B e cls (.ref t) .none->B.get? e=none->s.heap.UpToSlots g->Q () { s with heap:=g }):wpAny M A (leaving env (.ref e)) Q E s:=by
 obtain ⟨t,ge,tn,gt⟩:=hx.there
 have new:B.get? e=none:=by
  cases q:B.get? e with
  | none=>rfl
  | some o =>
   have:=st e o q
   rw [hx.new] at this
   cases this
 unfold leaving noteFrame
 simp only [hL]
 refine wpAny_bind (wpAny_bind (wpAny_field (x:=.none) ge rfl rfl ?_))
 rw [if_neg (by decide)]
 refine JE (a0:=.ref t) fr (fu.of_keeps fun b o hb _=>⟨o,hx.keeps b o hb,rfl⟩) hL ge (fun b o hb=>hx.keeps b o (st b o hb)) new rfl (by simp) ⟨rfl,rfl⟩ rfl fun g k1 k2 k3 k4=>?_
 exact wu (s:={ s with heap:=g }) k1 k2 k3 fun g' m1 m2 m3 m4=>k g' t m1 m2 m3 new (k4.trans fun b o hb hn=>⟨o.slots,m4 b o hb hn⟩)
end
end L2
end
section
namespace L2
open PySem PySem.Spec PySem.W PyProof.Rows
structure Fly (g:Heap) (H:Hp) (h:Heap) (a:Addr) (cls fl:Value):Prop where
 na:g.get? a=none
 ha:H a=none
 ob:∃ oe vs T oT ts a0,h.get? a=some oe/\(oe.cls=cls/\Two vs a0/\oe.dict=none)/\oe.data = .fields vs/\vs[1]? = some (.ref T)/\g.get? T=none/\H T=none/\T≠a/\h.get? T=some oT/\oT.data = .fields ts/\ts[3]? = some fl
theorem Fly.mono {g g':Heap}{H:Hp}{h:Heap}{a:Addr}{cls fl:Value}(f:Fly g H h a cls fl) (l:∀ b o,g'.get? b=some o->∃ o',g.get? b=some o'):Fly g' H h a cls fl:=by
 have no:∀ {b},g.get? b=none->g'.get? b=none:=fun {b} e=>by
  cases q:g'.get? b with
  | none=>rfl
  | some o =>
   obtain ⟨o',e'⟩:=l b o q
   rw [e] at e'
   cases e'
 obtain ⟨oe,vs,T,oT,ts,a0,h1,h2,h3,h4,h5,h6⟩:=f.ob
 exact ⟨no f.na,f.ha,oe,vs,T,oT,ts,a0,h1,h2,h3,h4,no h5,h6⟩
def CX1 (P:Program) (w:World):CXT:=fun outer H s E e s' =>
 ∃ a cls H',e = .ref a/\s'.os=s.os/\AllBare s'.gens/\Un (frs outer) [] H H' s.heap s'.heap/\HOk P w H' s'.heap/\Fly s.heap H' s'.heap a cls .none/\E cls none H'
def zB (X:Cx) (pins:List (Addr×Obj)) (σ:St) (H':Hp) (s1:Shared) (a:Addr) (cls fl:Value):Prop :=
 ∃ s H,Inv X pins σ H s/\s1.os=s.os/\AllBare s1.gens/\Un (frs X.stack) [] H H' s.heap s1.heap/\HOk X.prog X.w H' s1.heap/\Fly s.heap H' s1.heap a cls fl
theorem wN {P:Program}{w:World}{H:Hp}{h:Heap}{a:Addr}{o:HO}(x:jW P w H h a o):∃ ob,h.get? a=some ob:=by
 cases o with
 | lst xs=>obtain ⟨_,_,_,_,e⟩:=x;exact ⟨_,e⟩
 | tup xs=>obtain ⟨_,_,_,ob,e,_⟩:=x;exact ⟨_,e⟩
 | dK kvs=>obtain ⟨_,_,_,_,ob,_,_,e,_⟩:=x;exact ⟨_,e⟩
 | dT kvs=>obtain ⟨_,_,_,_,ob,_,_,e,_⟩:=x;exact ⟨_,e⟩
 | set S n=>obtain ⟨ob,_,_,_,e,_⟩:=x;exact ⟨_,e⟩
 | ins C dx fs=>obtain ⟨_,_,_,e,_⟩:=x;exact ⟨_,e⟩
 | own y=>exact x
 | xd fs=>obtain ⟨_,⟨_,_,_,e,_⟩,_⟩:=x;exact ⟨_,e⟩
 | rng lo hi=>obtain ⟨_,_,_,e⟩:=x;exact ⟨_,e⟩
 | frz ob u=>obtain ⟨e,_⟩:=x;exact ⟨_,e⟩
 | tbl ps=>exact ⟨_,(show h.get? a=some _ from x)⟩
 | met f y=>exact ⟨_,(show h.get? a=some _ from x)⟩
 | ext φ=>obtain ⟨_,e,_⟩:=x;exact e
section
variable {X:Cx}{pins:List (Addr×Obj)}{σ:St}{H H':Hp}{s s1:Shared}{a:Addr}{cls fl:Value}
theorem zB.inv (f:zB X pins σ H' s1 a cls fl):Inv X pins σ H' s1:=by
 obtain ⟨s,H,I,os,b,u,ok,fy⟩:=f
 exact I.call' os u ok b (fun b z=>absurd z (by simp))
theorem zB.fly (hex:X.ex=[]) (f:zB X pins σ H' s1 a cls fl):Fly X.s₀.heap H' s1.heap a cls fl:=by
 obtain ⟨s,H,I,os,b,u,ok,fy⟩:=f
 exact fy.mono fun c o e=>I.base.there c o e (by rw [hex];exact fun z=>by cases z)
theorem zB.under (f:zB X pins σ H' s1 a cls .none):∃ B a0,(B.StaysIn s1.heap/\B.get? a=none/\s1.heap.FunFrames B X.stack/\OnT s1.heap B a cls a0 .none) /\
  ∀ h2 fl2,B.StaysIn h2->s1.heap.UpToSlots h2->OnT h2 B a cls a0 fl2->zB X pins σ H' { s1 with heap:=h2 } a cls fl2:=by
 have I1:=f.inv
 obtain ⟨s,H,I,os,b,u,ok,fy⟩:=f
 obtain ⟨oe,vs,T,oT,ts,a0,h1,h2,h3,h4,h5,h6,h7,h8,h9,h10⟩:=fy.ob
 have fr:=I1.stack
 have fs:∀ b∈frs X.stack,b≠a/\b≠T:=fun b hb=>by
  obtain ⟨_,o,ho,hn⟩:=fr.mem hb
  refine ⟨fun z=>?_,fun z=>?_⟩
  ·rw [z,h1] at ho;cases ho;exact hn _ h3
  ·rw [z,h8] at ho;cases ho;exact hn _ h9
 have in_:∀ env∈X.stack,∀ c,env.frame=some c->c∈a::T::frs X.stack:=fun env he c hc=>List.mem_cons_of_mem _ (List.mem_cons_of_mem _ (List.mem_filterMap.mpr ⟨env,he,hc⟩))
 have noB:∀ {c o},s1.heap.get? c=some o->c≠a->c≠T->c∉frs X.stack->(hideAll s1.heap (a::T::frs X.stack)).get? c=some o:=fun e n1 n2 n3 =>
  hideAll_get _ e (by simp only [List.mem_cons,not_or];exact ⟨n1,n2,n3⟩)
 refine ⟨hideAll s1.heap (a::T::frs X.stack),a0,⟨fun b o q=>of_hideAll _ q,hideAll_none _ (.head _),funFrames_hide fr in_,oe,vs,T,oT,ts,h1,h2,h3,h4,hideAll_none _ (.tail _ (.head _)),h7,h8,h9,h10⟩,fun hp fl2 st up tr=>?_⟩
 have lo:∀ {c o},s.heap.get? c=some o->c≠a/\c≠T:=fun {c o} e=>⟨fun z=>(by rw [z,fy.na] at e;cases e),fun z=>(by rw [z,h5] at e;cases e)⟩
 have frn:∀ {c o},s1.heap.get? c=some o->c∈frs X.stack->∀ vs,o.data≠.fields vs:=fun e hc=>by
  obtain ⟨_,o',ho,hn⟩:=fr.mem hc
  rw [e] at ho;cases ho;exact hn
 refine ⟨s,H,I,os,b,⟨fun c o e n nf nx=>?_,fun c o e n hf nx=>?_,fun c o e n nx=>u.free c o e n nx,fun c o e nx=>?_,u.tups,u.frzs,u.tbls⟩,fun c o hc=>?_,?_⟩
 ·exact st _ _ (noB (u.keep c o e n nf nx) (lo e).1 (lo e).2 nf)
 ·obtain ⟨sl,e1⟩:=u.slot c o e n hf nx
  obtain ⟨sl2,e2⟩:=up c _ e1 (frn e1 hf)
  exact ⟨sl2,e2⟩
 ·obtain ⟨o1,e1⟩:=u.there c o e nx
  by_cases hf:c∈frs X.stack
  ·obtain ⟨sl2,e2⟩:=up c _ e1 (frn e1 hf)
   exact ⟨_,e2⟩
  ·exact ⟨o1,st _ _ (noB e1 (lo e).1 (lo e).2 hf)⟩
 ·refine (ok c o hc).stay (fun c' o' hc' e=>?_) (fun _ e=>e) fun _ _ e=>e
  have hne:H' c'≠none:=by
   rcases hc' with z | z
   ·rw [z,hc];exact fun y=>by cases y
   ·rw [z];exact fun y=>by cases y
  exact st _ _ (noB e (fun z=>hne (by rw [z];exact fy.ha)) (fun z=>hne (by rw [z];exact h6)) fun z=>hne (I1.stkFree _ z))
 ·obtain ⟨oe2,vs2,T2,oT2,ts2,g1,g2,g3,g4,g5,g6,g7,g8,g9⟩:=tr
  have key:T2=T\/s1.heap.get? T2=none:=by
   cases q:s1.heap.get? T2 with
   | none=>exact .inr rfl
   | some o =>
    refine .inl ?_
    by_cases hT:T2=T
    ·exact hT
    ·by_cases hf:T2∈frs X.stack
     ·obtain ⟨sl2,e2⟩:=up T2 _ q (frn q hf)
      rw [e2] at g7
      cases g7
      exact absurd g8 (frn q hf _)
     ·have:=noB q g6 hT hf
      rw [g5] at this
      cases this
  refine ⟨fy.na,fy.ha,oe2,vs2,T2,oT2,ts2,a0,g1,g2,g3,g4,?_,?_,g6,g7,g8,g9⟩
  ·rcases key with z | z
   ·rw [z];exact h5
   ·cases q:s.heap.get? T2 with
    | none=>rfl
    | some o =>
     obtain ⟨o',e'⟩:=u.there T2 o q (by simp)
     rw [z] at e'
     cases e'
  ·rcases key with z | z
   ·rw [z];exact h6
   ·cases q:H' T2 with
    | none=>rfl
    | some o =>
     obtain ⟨o',e'⟩:=wN (ok T2 o q)
     rw [z] at e'
     cases e'
theorem zB.leave {Q:Unit->Shared->Prop}{E:Value->Shared->Prop}(f:zB X pins σ H' s1 a cls .none) (st:X.stack=X.env::X.outer) (hf:X.env.frame=some X.env.locals)
  (k:∀ h2,zB X pins σ H' { s1 with heap:=h2 } a cls .none->Q () { s1 with heap:=h2 }):wpAny (model X.prog X.w) X.A (leaving X.env (.ref a)) Q E s1:=by
 obtain ⟨B,a0,fw,up⟩:=f.under
 have fr:X.A.frames=some (X.env::X.outer):=by rw [<- st];exact f.inv.ok.frames
 rw [st] at fw
 obtain ⟨f1,f2,f3,f4⟩:=fw
 exact ZB fr f3 hf f4 f1 f2 fun h2 k1 k2 k3 k4=>k h2 (up h2 .none k1 k4 k3)
theorem Qv {vs:List Value}{h1:Heap}{Q:Unit->Shared->Prop}{E:Value->Shared->Prop}(I:Inv X pins σ H s) (hx:Heap.MadeExcOf s.heap h1 a cls vs) (st:X.stack=X.env::X.outer) (hf:X.env.frame=some X.env.locals)
  (k:∀ h2,zB X pins σ H { s with heap:=h2 } a cls .none->Q () { s with heap:=h2 }):wpAny (model X.prog X.w) X.A (leaving X.env (.ref a)) Q E { s with heap:=h1 }:=by
 have fr:X.A.frames=some (X.env::X.outer):=by rw [<- st];exact I.ok.frames
 have fun0:=I.stack
 have in_:∀ env∈X.stack,∀ c,env.frame=some c->c∈frs X.stack:=fun env he c hc=>List.mem_filterMap.mpr ⟨env,he,hc⟩
 have fun1:=funFrames_hide fun0 in_
 have frn:∀ {c o},s.heap.get? c=some o->c∈frs X.stack->∀ vs,o.data≠.fields vs:=fun e hc=>by
  obtain ⟨_,o',ho,hn⟩:=fun0.mem hc
  rw [e] at ho;cases ho;exact hn
 rw [st] at fun1
 refine Ql (s:={ s with heap:=h1 }) (B:=hideAll s.heap (frs (X.env::X.outer))) (h:=s.heap) fr hf (fun b o q=>of_hideAll _ q) fun1 hx fun h2 t b1 b2 fw b3 up=>?_
 rw [<- st] at fw b1
 obtain ⟨oe,ws,T,oT,ts,g1,g2,g3,g4,g5,g6,g7,g8,g9⟩:=fw
 have keepB:∀ {c o},s.heap.get? c=some o->c∉frs X.stack->h2.get? c=some o:=fun e n=>b1 _ _ (hideAll_get _ e n)
 have slotB:∀ {c o},s.heap.get? c=some o->c∈frs X.stack->∃ sl,h2.get? c=some { o with slots:=sl }:=fun {c o} e hc=>up c o (hx.keeps _ _ e) (frn e hc)
 have nT:s.heap.get? T=none:=by
  cases q:s.heap.get? T with
  | none=>rfl
  | some o =>
   exfalso
   by_cases hc:T∈frs X.stack
   ·obtain ⟨sl,e⟩:=slotB q hc
    rw [e] at g7
    cases g7
    exact frn q hc _ g8
   ·rw [hideAll_get _ q hc] at g5
    cases g5
 have hn:∀ {c},s.heap.get? c=none->H c=none:=fun {c} e=>by
  cases q:H c with
  | none=>rfl
  | some o =>
   obtain ⟨o',e'⟩:=wN (I.hok c o q)
   rw [e] at e'
   cases e'
 refine k h2 ⟨s,H,I,rfl,I.bare,⟨fun c o e n nf nx=>keepB e nf,fun c o e n hf nx=>slotB e hf,fun c o e n nx=>n,fun c o e nx=>?_,fun _ _ e=>e,fun _ _ _ e=>e,fun c ps e=>⟨#[],by rw [e];simp⟩⟩,fun c o hc=>?_,hx.new,hn hx.new,oe,ws,T,oT,ts,.ref t,g1,g2,g3,g4,nT,hn nT,g6,g7,g8,g9⟩
 ·by_cases hc:c∈frs X.stack
  ·obtain ⟨sl,e2⟩:=slotB e hc
   exact ⟨_,e2⟩
  ·exact ⟨o,keepB e hc⟩
 ·refine (I.hok c o hc).stay (fun c' o' hc' e=>?_) (fun _ e=>e) fun _ _ e=>e
  refine keepB e fun z=>?_
  have:=I.stkFree _ z
  rcases hc' with y | y
  ·rw [y,hc] at this;cases this
  ·rw [y] at this;cases this
end
def Acc (X:Cx) (J:Value->St->Hp->Prop):Prop:=∀ (pins:List (Addr×Obj)) (σ:St) (H':Hp) (s1:Shared) (a:Addr) (cls:Value),zB X pins σ H' s1 a cls .none->J cls σ H'->X.xe (.ref a) s1
def Ug (sp:Sp) (J:Value->St->Hp->Prop) (t:TA):TE:=fun σ H Q=>t σ H fun vs H1=>sp vs H1 Q fun cls _ H'=>J cls σ H'
structure CalX (P:Program) (w:World) (K:PySem.W.Frag) (mg:Str->Option Value) (base:Heap) (k:Nat) (x:Str) (ps:List Str) (sp:Sp):Prop where
 ex:∃ f fd,FnOk P w K mg base (CX1 P w) k f fd ps sp/\zr K fd ps []/\mg x=some (.ref f)/\PySem.W.keepIn K (.ref f)=true
theorem zT {X:Cx}{k:Nat}{x:Str}{ps:List Str}{sp:Sp}{e:Expr}{es:List Expr}{t:TA}{p pos:Pos}{J:Value->St->Hp->Prop}(c:CalX X.prog X.w X.K X.mg X.base k x ps sp) (hr:Room k X.A) (ac:Acc X J) (hg:Gl X x) (ha:PA X (e::es) t)
  (hdb:(x == ("__debug__" : Str))=false:=by decide) (he:starEach (e::es) X.env=(false,eval e X.env)::starEach es X.env:=by rfl) (hpl:(backTo pos (starEach es X.env)).any (·.1)=false:=by rfl) :
  PE X (.Call (.Name x p) (e::es) [] pos) (Ug sp J t):=by
 obtain ⟨f,fd,F,hb,hm,hk⟩:=c.ex
 intro pins s σ H Q I h
 refine wpAny_Call_Name_kw (v0 I hg hm ?_ hdb)
 refine PySem.W.callWith_K (h₀:=X.base) I.ok.mod.kin hk (thn (ha pos pins s σ H _ I h) fun us s1 ⟨vs,H1,I1,r,q⟩=>⟨I1.kIn,?_⟩) he hpl
 have hl:us.length=ps.length:=by rw [<- r.length];exact F.len _ _ _ _ q
 have hb':=hb s1 us I1.kIn (by rw [List.append_nil];exact hl)
 rw [List.append_nil] at hb'
 refine wpAny_call (codeAny_mono (F.run X.A X.stack s1 H1 ⟨us,[]⟩ us vs Q _ hr I1.env0 hb' r q) fun r s' hq=>?_)
 cases r with
 | error e =>
  obtain ⟨a,cls,H',rfl,os,b,u,ok,fy,j⟩:=hq
  exact ac pins σ H' s' a cls ⟨s1,H1,I1,os,b,u,ok,fy⟩ j
 | ok fl =>
  cases fl with
  | ret u=>exact I1.after hq
  | next=>exact False.elim hq
  | brk=>exact False.elim hq
  | cont=>exact False.elim hq
theorem CalX.cal {P:Program}{w:World}{K:PySem.W.Frag}{mg:Str->Option Value}{base:Heap}{k:Nat}{x:Str}{ps:List Str}{sp:Sp}(c:CalX P w K mg base k x ps sp):Cal P w K mg base k x ps (fun vs H Q _=>sp vs H Q E0):=by
 obtain ⟨f,fd,F,hb,hm,hk⟩:=c.ex
 refine ⟨f,fd,⟨fun vs H Q E h=>F.len vs H Q E0 h,fun A outer s H args us vs Q E hr he hb hv hs=>codeAny_mono (F.run A outer s H args us vs Q E0 hr he hb hv hs) fun r s' q=>?_⟩,hb,hm,hk⟩
 cases r with
 | error e =>
  obtain ⟨a,cls,H',_,_,_,_,_,_,j⟩:=q
  exact False.elim j
 | ok fl =>
  cases fl with
  | ret u=>exact q
  | next=>exact q
  | brk=>exact q
  | cont=>exact q
theorem qC {P:Program}{w:World}{K:PySem.W.Frag}{mg:Str->Option Value}{base:Heap}{N:List Str}{qual:Str}{scope:Scope}{f:Addr}{cd:Value}{A:Around}{outer:List Env}{s:Shared}{H:Hp}{E:XK} :
  Acc (yY (CX1 P w) P w K mg base N qual scope f cd A outer s H E) fun cls _ H'=>E cls none H':=by
 intro pins σ H' s1 a cls fl j
 refine zB.leave (X:=yY (CX1 P w) P w K mg base N qual scope f cd A outer s H E) fl rfl rfl fun h2 f2=>?_
 exact ⟨a,cls,H',rfl,f2.inv.os,f2.inv.bare,f2.inv.base,f2.inv.hok,f2.fly rfl,j⟩
def Uy (X:Cx) (J:Value->St->Hp->Prop):Prop:=∀ (pins:List (Addr×Obj)) (σ:St) (H:Hp) (s:Shared) (h1:Heap) (a:Addr) (cls:Value) (vs:List Value),Inv X pins σ H s->Heap.MadeExcOf s.heap h1 a cls vs->J cls σ H->X.xe (.ref a) { s with heap:=h1 }
theorem xF {P:Program}{w:World}{K:PySem.W.Frag}{mg:Str->Option Value}{base:Heap}{N:List Str}{qual:Str}{scope:Scope}{f:Addr}{cd:Value}{A:Around}{outer:List Env}{s:Shared}{H:Hp}{E:XK} :
  Uy (yY (CX1 P w) P w K mg base N qual scope f cd A outer s H E) fun cls _ H'=>E cls none H':=by
 intro pins σ H' s1 h1 a cls vs I hx j
 refine Qv (X:=yY (CX1 P w) P w K mg base N qual scope f cd A outer s H E) I hx rfl rfl fun h2 f2=>?_
 exact ⟨a,cls,H',rfl,f2.inv.os,f2.inv.bare,f2.inv.base,f2.inv.hok,f2.fly rfl,j⟩
theorem U8 {K:PySem.W.Frag}{h:Heap}{C:Addr}{bmB:List Value}{newId:String}(X:K.In h) (q:excIn K C bmB newId=true) :
  ∃ bm N nm q bs hdct sn sub ab col dd k0 k1 k2 k3 k5 mN,h.get? C=some (excClassObj nm q C N bs bm hdct sn sub ab col dd k0 k1 k2 k3 k5 newId)/\h.Ns N mN/\mN "__init__" = none/\OwnTail h bmB bm:=by
 unfold excIn at q
 split at q
 ·rename_i dd cd sl ho
  split at q
  ·rename_i C' bm k0 k1 k2 k3 n k5 em es
   simp only [Bool.and_eq_true,beq_iff_eq,Bool.not_eq_true'] at q
   obtain ⟨⟨⟨⟨⟨rfl,rfl⟩,e1⟩,e2⟩,e3⟩,e4⟩:=q
   obtain ⟨nm,bs,mro,ns,qn,hd,sn,sub,ab,col,del⟩:=cd
   dsimp only at em e1 e3 e4
   subst em e1
   have e5:sl = #[k0,k1,k2,k3,some (.builtin n),k5]:=by obtain ⟨l⟩:=sl;simp only at es;rw [es]
   subst e5
   exact ⟨bm,ns,nm,qn,bs,hd,sn,sub,ab,col,dd,k0,k1,k2,k3,k5,_,X _ _ ho,.of_isNs (isNs_of_in X e3),nsMap_none_of_in X e3 e4,tail_of_in X e2⟩
  ·cases q
 ·cases q
theorem xb {X:Cx}{x:Str}{np cpos pos:Pos}{e:Expr}{es:List Expr}{t:TA}{C:Addr}{B newId initId:String}{bmB:List Value}{J:Value->St->Hp->Prop}(FB:ExcBaseFacts B newId initId bmB) (O:excIn X.K C bmB newId=true) (hm:X.mg x=some (.ref C)) (hc:X.calm=true) (am:Uy X J)
  (hg:Gl X x) (ha:PA X (e::es) t) (hdb:(x == ("__debug__" : Str))=false:=by decide) (he:starEach (e::es) X.env=(false,eval e X.env)::starEach es X.env:=by rfl) (hpl:(backTo cpos (starEach es X.env)).any (·.1)=false:=by rfl) :
  PS X (.Raise (some (.Call (.Name x np) (e::es) [] cpos)) none pos) (fun D σ H=>t σ H fun vs H1=>vs.length<=sizeLine/\J (.ref C) σ H1):=by
 intro pins s σ H D I h
 obtain ⟨bm,N,nm,q,bs,hdct,sn,sub,ab,col,dd,k0,k1,k2,k3,k5,mN,hC,hN,hni,T⟩:=U8 I.ok.mod.kin O
 have h':=ha cpos pins s σ H _ I h
 rw [he] at h'
 refine wpAny_Raise_call_subT (C:=C) (nm:=nm) (q:=q) (N:=N) (bs:=bs) (bm:=bm) (hdct:=hdct) (sn:=sn) (sub:=sub) (ab:=ab) (col:=col) (dd:=dd) (k0:=k0) (k1:=k1) (k2:=k2) (k3:=k3) (k5:=k5)
  FB (mN:=mN) (T.hasType FB.hasBase) (I.ok.hd hc) (by rw [he];show (false || (backTo cpos (starEach es X.env)).any (·.1))=false;rw [hpl];rfl) hni (v0 I hg hm ⟨rfl,?_⟩ hdb)
 rw [he]
 refine Calls.evalArgs_plain (thn h' fun us s2 ⟨vs,H2,I2,r,hl,j⟩=>⟨rfl,by rw [<- r.length];exact hl,I2.bk _ _ hC,hN.keeps I2.bk,T.keeps I2.bk,fun h1 a hx=>am pins σ H2 s2 h1 a (.ref C) _ I2 hx j⟩)
theorem Fun.okX {P:Program}{w:World}{K:PySem.W.Frag}{mg:Str->Option Value}{base:Heap}{x qual:Str}{st:Stmt}{f:Addr}{fd:FuncData}{N ps:List Str}{k:Nat}{sp:Sp}(F:Fun K x qual st f fd) (S:FnScope N ps (j6 st)) (len:∀ vs H Q E,sp vs H Q E->vs.length=ps.length)
  (hbody:∀ (cdv:Value) (A:Around) (outer:List Env) (s:Shared) (H:Hp) (vs:List V) (Q:VK) (E:XK),Room k (A.deeper (envOfC qual (j6 st) s.heap.objs.size f cdv))->sp vs H Q E ->
   ∃ t,PSs (yY (CX1 P w) P w K mg base N qual (j6 st) f cdv A outer s H E) (jF st) t/\t { nx:=fun _ H'=>Q .non H',rt:=Q } (start N vs) H):FnOk P w K mg base (CX1 P w) (k+1) f fd ps sp:=by
 obtain ⟨oc,od,kV,doc,pm,an,cdv,ct,osl,rfl,lk,hcd⟩:=F.ex
 exact Yk lk hcd S len fun A outer s H vs Q E hr hsp=>hbody cdv A outer s H vs Q E hr hsp
theorem CalX.mk' {P:Program}{w:World}{K:PySem.W.Frag}{mg:Str->Option Value}{base:Heap}{k:Nat}{x:Str}{ps:List Str}{sp:Sp}{st:Stmt}{h:Heap}{f:Addr}{oc:Value}{od an:Option Addr}{osl:Array (Option Value)}{kV doc pm cdv ct:Value}
  (X:K.In h) (G:h.Ns mainGlobals mg) (a:PySem.W.nsIn K mainGlobals x=some (some (.ref f)))
  (l:K.lookup f=some ⟨oc,od,.func (PySem.W.fnOf x x (jN st) (jF st) (j6 st) .none kV doc pm an cdv ct),osl⟩) (c:PySem.W.codeIn K cdv x=true) (k':PySem.W.keepIn K (.ref f)=true)
  (hb:∀ (kV doc pm:Value) (an:Option Addr) (cdv ct:Value) (us:List Value),us.length=ps.length->bindArgs (PySem.W.fnOf x x (jN st) (jF st) (j6 st) .none kV doc pm an cdv ct) ⟨us,[]⟩=pure (ps.zip us))
  (ok:∀ {f:Addr} {fd:FuncData},Fun K x x st f fd->FnOk P w K mg base (CX1 P w) k f fd ps sp):CalX P w K mg base k x ps sp:=by
 have F:=yR (st:=st) l c k'
 exact ⟨f,_,ok F,F.binds hb,PySem.W.mg_of X G a,k'⟩
end L2
end
section
namespace L2
open PySem PySem.Spec PySem.W PyProof.Rows
section
variable {X:Cx}{pins pn:List (Addr×Obj)}{σ:St}{H:Hp}{s:Shared}{J:Value->St->Hp->Prop}
theorem okP (ok:X.Ok) (Y:Cx) (h:Y={ X with pn:=Y.pn,xe:=Y.xe }):Y.Ok:=by
 rw [h]
 exact ⟨ok.mod,ok.kind,ok.glob,ok.blt,ok.above,ok.inj,ok.has,ok.cab,ok.hd,ok.frames,ok.stk,ok.exf,ok.bs,ok.bsz,ok.noex,ok.exfs,ok.funs,ok.frf⟩
theorem spOf {Y:Cx}{pins':List (Addr×Obj)}{D:Ends}{f:Flow}{s':Shared}(g:∀ {σ H},Inv Y pins' σ H s'->Inv X pins σ H s') (h:SP Y pins' D f s'):SP X pins D f s':=by
 cases f with
 | next=>obtain ⟨σ',H',I,q⟩:=h;exact ⟨σ',H',g I,q⟩
 | brk=>obtain ⟨σ',H',I,q⟩:=h;exact ⟨σ',H',g I,q⟩
 | cont=>obtain ⟨σ',H',I,q⟩:=h;exact ⟨σ',H',g I,q⟩
 | ret u=>obtain ⟨v,σ',H',I,r,q⟩:=h;exact ⟨v,σ',H',g I,r,q⟩
end
end L2
end
section
namespace L2
open PySem PySem.Spec PySem.W PyProof.Rows
section
variable {s:Shared}{A:Around}{prog:Program}{w:World}{E:Value->Shared->Prop}
end
section
variable {X:Cx}
end
end L2
end
section
namespace L2
open PySem PySem.Spec PySem.W PyProof.Rows
end L2
end
section
namespace L2
open PySem PySem.Spec PySem.W PyProof.Rows
section
variable {X:Cx}{o e:Expr}{es:List Expr}{to:TE}{t:TA}{name:Str}{apos cpos:Pos}{id:String}{r:V->List V->Hp->VK->Prop}
end
end L2
end
section
namespace L2
open PySem PySem.Spec PySem.W PyProof.Rows
abbrev uM (ifs:List Expr) (env:Env):Sem Bool:=forIn ifs true fun c r=>if r=true then do let ok <- isTrue c env (eval c env);pure (ForInStep.yield ok) else pure (ForInStep.yield r)
abbrev x5 (elt tg iter tg2 iter2:Expr) (ifs ifs2:List Expr) (scope:Scope) (pos:Pos):Expr:=.ListComp elt [⟨tg,iter,ifs,0⟩,⟨tg2,iter2,ifs2,0⟩] scope pos
theorem Z3 (elt tg iter tg2 iter2:Expr) (ifs ifs2:List Expr) (scope:Scope) (pos:Pos) (it acc:Value) (env:Env) :
  compTurn (x5 elt tg iter tg2 iter2 ifs ifs2 scope pos) 0 it acc env=(standAt iter.pos >>= fun _=>pyNext it >>= fun r=>match r with
   | none=>pure (.done .next)
   | some v=>letOwnedTupleGo tg it v >>= fun _=>assign tg env v >>= fun _=>uM ifs env >>= fun ok =>
    (if ok=true then (eval iter2 env >>= fun x=>standAt iter2.pos >>= fun _=>foldedSetIterable iter2 env x >>= fun x=>holding [x] (pyIter x) >>= fun i2=>runOwn (.compStart (x5 elt tg iter tg2 iter2 ifs ifs2 scope pos) 1 i2 acc env) env >>= fun _=>again (.compLoop (x5 elt tg iter tg2 iter2 ifs ifs2 scope pos) 0 it acc env))
     else again (.compLoop (x5 elt tg iter tg2 iter2 ifs ifs2 scope pos) 0 it acc env))):=by
 rfl
theorem Yg (elt tg iter tg2 iter2:Expr) (ifs ifs2:List Expr) (scope:Scope) (pos:Pos) (it acc:Value) (env:Env) :
  compTurn (x5 elt tg iter tg2 iter2 ifs ifs2 scope pos) 1 it acc env=(standAt iter2.pos >>= fun _=>pyNext it >>= fun r=>match r with
   | none=>pure (.done .next)
   | some v=>letOwnedTupleGo tg2 it v >>= fun _=>assign tg2 env v >>= fun _=>uM ifs2 env >>= fun ok =>
    (if ok=true then ((eval elt env >>= fun x=>call (.builtin "list.append") [acc,x] >>= fun _=>pure ()) >>= fun _=>again (.compLoop (x5 elt tg iter tg2 iter2 ifs ifs2 scope pos) 1 it acc env))
     else again (.compLoop (x5 elt tg iter tg2 iter2 ifs ifs2 scope pos) 1 it acc env))):=by
 rfl
section
variable {s:Shared}{A:Around}{prog:Program}{w:World}{R:Result->Shared->Prop}{elt tg iter tg2 iter2:Expr}{ifs ifs2:List Expr}{scope:Scope}{pos:Pos}{it acc:Value}{env:Env}
theorem ZZ (I:Nat->Shared->Prop)
  (turn:∀ n s,I n s->wpAny (model prog w) A (pyNext it) (fun r s₁=>match r with
   | none=>R (.ok .next) s₁
   | some v=>wpAny (model prog w) A (letOwnedTupleGo tg2 it v) (fun _ s₂=>wpAny (model prog w) A (assign tg2 env v) (fun _ s₃=>wpAny (model prog w) A (uM ifs2 env) (fun ok s₄ =>
      if ok=true then wpAny (model prog w) A (eval elt env) (fun x s₅=>wpAny (model prog w) A (call (.builtin "list.append") [acc,x]) (fun _ s₆=>∃ m,m<n/\I m s₆) (fun _ _=>False) s₅) (fun _ _=>False) s₄
      else ∃ m,m<n/\I m s₄) (fun _ _=>False) s₃) (fun _ _=>False) s₂) (fun _ _=>False) s₁) (fun _ _=>False) s)
  (n:Nat) (h:I n s):codeAny (model prog w) A (.compLoop (x5 elt tg iter tg2 iter2 ifs ifs2 scope pos) 1 it acc env) R s:=by
 refine codeAny_loop rfl I (fun n s hI=>?_) n h
 show wpAny _ A ((compTurn (x5 elt tg iter tg2 iter2 ifs ifs2 scope pos) 1 it acc env).onRaise (fun x=>do noteFrame x env;theTreesLotGoes x)) _ _ s
 refine wpAny_noted ?_;rw [Yg]
 refine wpAny_bind (wpAny_standAt (wpAny_bind (wpAny_mono (turn n s hI) (fun r s₁ h₁=>?_) fun _ _ h'=>h'.elim)))
 cases r with
 | none=>exact wpAny_pure h₁
 | some v =>
  refine wpAny_bind (wpAny_mono h₁ (fun _ s₂ h₂=>?_) fun _ _ h'=>h'.elim)
  refine wpAny_bind (wpAny_mono h₂ (fun _ s₃ h₃=>wpAny_bind (wpAny_mono h₃ (fun ok s₄ h₄=>?_) fun _ _ h'=>h'.elim)) fun _ _ h'=>h'.elim)
  cases ok with
  | false=>exact wpAny_pure ⟨rfl,h₄⟩
  | true=>exact wpAny_bind (wpAny_bind (wpAny_mono h₄ (fun x s₅ h₅=>wpAny_bind (wpAny_mono h₅ (fun _ s₆ h₆=>wpAny_pure (wpAny_pure ⟨rfl,h₆⟩)) fun _ _ h'=>h'.elim)) fun _ _ h'=>h'.elim))
theorem Xw {R:Result->Shared->Prop}(h0:codeAny (model prog w) A (.compLoop (x5 elt tg iter tg2 iter2 ifs ifs2 scope pos) 1 it acc env) R s)
  (h:wpAny (model prog w) A (pyIter it) (fun i2 s'=>codeAny (model prog w) A (.compLoop (x5 elt tg iter tg2 iter2 ifs ifs2 scope pos) 1 i2 acc env) R s') (fun _ _=>False) s) :
  codeAny (model prog w) A (.compStart (x5 elt tg iter tg2 iter2 ifs ifs2 scope pos) 1 it acc env) R s:=by
 refine codeAny_of_tree ?_
 show wpAny _ _ ((compStart (x5 elt tg iter tg2 iter2 ifs ifs2 scope pos) 1 it acc env).onRaise (fun x=>do noteFrame x env;standAt theWindowsPlace)) _ _ s
 refine wpAny_notedAt ?_;unfold compStart;show wpAny _ _ (ask >>= _) _ _ s
 refine wpAny_bind (wpAny_askSetting (wpAny_ite ?_))
 split
 ·first | exact wpAny_bind (wpAny_pure (wpAny_pure (And.intro rfl h0))) | exact wpAny_pure (And.intro rfl h0)
 ·first
   | exact wpAny_bind (wpAny_rule (wpAny_bind (wpAny_standAt (wpAny_bind (wpAny_mono h (fun i2 s' h'=>wpAny_pure (And.intro rfl h')) fun _ _ x=>x.elim)))))
   | (refine wpAny_bind (wpAny_rule ?_);show wpAny _ _ (standAt iter2.pos >>= _) _ _ s;exact wpAny_bind (wpAny_standAt (wpAny_bind (wpAny_mono h (fun i2 s' h'=>wpAny_pure (And.intro rfl h')) fun _ _ x=>x.elim))))
theorem Z6 (I:Nat->Shared->Prop) (hs2:∀ x,foldedSetIterable iter2 env x=pure x)
  (turn:∀ n s,I n s->wpAny (model prog w) A (pyNext it) (fun r s₁=>match r with
   | none=>R (.ok .next) s₁
   | some v=>wpAny (model prog w) A (letOwnedTupleGo tg it v) (fun _ s₂=>wpAny (model prog w) A (assign tg env v) (fun _ s₃=>wpAny (model prog w) A (uM ifs env) (fun ok s₄ =>
      if ok=true then wpAny (model prog w) A (eval iter2 env) (fun x s₅=>wpAny (model prog w) A (pyIter x) (fun i2 s₆=>codeAny (model prog w) A (.compStart (x5 elt tg iter tg2 iter2 ifs ifs2 scope pos) 1 i2 acc env) (fun r s'=>match r with | .ok _=>∃ m,m<n/\I m s' | .error _=>False) s₆) (fun _ _=>False) s₅) (fun _ _=>False) s₄
      else ∃ m,m<n/\I m s₄) (fun _ _=>False) s₃) (fun _ _=>False) s₂) (fun _ _=>False) s₁) (fun _ _=>False) s)
  (n:Nat) (h:I n s):codeAny (model prog w) A (.compLoop (x5 elt tg iter tg2 iter2 ifs ifs2 scope pos) 0 it acc env) R s:=by
 refine codeAny_loop rfl I (fun n s hI=>?_) n h
 show wpAny _ A ((compTurn (x5 elt tg iter tg2 iter2 ifs ifs2 scope pos) 0 it acc env).onRaise (fun x=>do noteFrame x env;theTreesLotGoes x)) _ _ s
 refine wpAny_noted ?_;rw [Z3]
 refine wpAny_bind (wpAny_standAt (wpAny_bind (wpAny_mono (turn n s hI) (fun r s₁ h₁=>?_) fun _ _ h'=>h'.elim)))
 cases r with
 | none=>exact wpAny_pure h₁
 | some v =>
  refine wpAny_bind (wpAny_mono h₁ (fun _ s₂ h₂=>?_) fun _ _ h'=>h'.elim)
  refine wpAny_bind (wpAny_mono h₂ (fun _ s₃ h₃=>wpAny_bind (wpAny_mono h₃ (fun ok s₄ h₄=>?_) fun _ _ h'=>h'.elim)) fun _ _ h'=>h'.elim)
  cases ok with
  | false=>exact wpAny_pure ⟨rfl,h₄⟩
  | true =>
   refine wpAny_bind (wpAny_mono h₄ (fun x s₅ h₅=>wpAny_bind (wpAny_standAt (wpAny_bind (wpAny_of_eq (hs2 x) (wpAny_bind (wpAny_holding (wpAny_mono h₅ (fun i2 s₆ h₆=>wpAny_bind (wpAny_runOwn ?_)) fun _ _ h'=>h'.elim))))))) fun _ _ h'=>h'.elim)
   rw [Around.mark_none]
   refine codeAny_mono h₆ fun r s' q=>?_
   cases r with
   | ok f=>exact wpAny_pure ⟨rfl,q⟩
   | error e=>exact q.elim
end
def wz (acc:Addr) (g2:TG) (ti2:TT) (te:TE) (J2:It) (NX:St->Hp->Prop) (σ3:St) (H5:Hp):Prop :=
 ∃ W2:Nat->Nat->St->Hp->Prop,(∃ m,W2 0 m σ3 H5)/\∀ j m σ6 H6,W2 j m σ6 H6->(J2.stop j H6/\NX σ6 H6)\/(J2.go j H6/\∃ NX2:St->Hp->Prop,(∀ σ7 H7,NX2 σ7 H7->∃ m',m'<m/\W2 (j+1) m' σ7 H7) /\
  ∀ y H7,J2.yld j H6 y H7->g2 y σ6 H7 fun σ8 H8=>ti2 σ8 H8 fun ok2 H9=>if ok2=true then te σ8 H9 fun v H10=>∃ ys,H10 acc=some (.lst ys)/\ys.length<sizeLine/\NX2 σ8 (upd H10 acc (.lst (ys++[v]))) else NX2 σ8 H9)
section
variable {X:Cx}{pos:Pos}
def Uo (own:Nat) (caps:List Nat) (wi:TI) (g:TG) (ti:TT) (wi2:TI) (g2:TG) (ti2:TT) (te:TE):TE:=fun σ H Q=>wi σ H fun J H1=>∀ acc,H1 acc=none ->
 ∃ W:Nat->Nat->St->Hp->Prop,(∃ m,W 0 m (yD own caps σ) (upd H1 acc (.lst [])))/\∀ i m σ' H',W i m σ' H' ->
  (J.stop i H'/\Q (.ref acc) H') \/
  (J.go i H'/\∃ NX:St->Hp->Prop,(∀ σ2 H2,NX σ2 H2->∃ m',m'<m/\W (i+1) m' σ2 H2) /\
   ∀ x H2,J.yld i H' x H2->g x σ' H2 fun σ3 H3=>ti σ3 H3 fun ok H4=>if ok=true then wi2 σ3 H4 fun J2 H5=>wz acc g2 ti2 te J2 NX σ3 H5 else NX σ3 H4)
theorem Zn {osc:Scope}{ON N:List Str}{scope:Scope}{own:Nat}{caps:List Nat}{cl:List (Str×Addr)}{tg elt iter tg2 iter2:Expr}{ifs ifs2:List Expr}{g g2:TG}{ti ti2:TT}{wi2:TI}{te:TE}{pins:List (Addr×Obj)}{σ:St}{H:Hp}{s:Shared}{fp:List Addr}{it:Addr}
  {tn:Nat->Heap->Prop} {J:It} {Q:VK} {RR:Value->Addr->Result->Shared->Prop} {E:Value->Shared->Prop}
  (hc:X.calm=true) (S:CompSc osc ON scope own N caps) (hsc:X.env.scope=osc) (hN:X.N=ON) (hcl:∀ x,cl.lookup x=if (x,NameKind.free)∈scope.names then X.env.cells.lookup x else none)
  (hg:∀ cl C s H ex,PG (X.block scope cl C N s H ex) tg g) (hif:∀ cl C s H ex,J5 (X.block scope cl C N s H ex) ifs ti) (hi2:∀ cl C s H ex,PI (X.block scope cl C N s H ex) tg2 iter2 wi2) (hg2:∀ cl C s H ex,PG (X.block scope cl C N s H ex) tg2 g2) (hif2:∀ cl C s H ex,J5 (X.block scope cl C N s H ex) ifs2 ti2) (he:∀ cl C s H ex,PE (X.block scope cl C N s H ex) elt te) (hs2:∀ env x,foldedSetIterable iter2 env x=pure x)
  (I:Inv X pins σ H s) (T:Turn X.prog X.w X.K tg J fp it tn) (st:tn 0 s.heap) (hf:∀ b∈fp,uh X pins H b)
  (hw:∀ acc,H acc=none->∃ W:Nat->Nat->St->Hp->Prop,(∃ m,W 0 m (yD own caps σ) (upd H acc (.lst [])))/\∀ i m σ' H',W i m σ' H' ->
   (J.stop i H'/\Q (.ref acc) H')\/(J.go i H'/\∃ NX:St->Hp->Prop,(∀ σ2 H2,NX σ2 H2->∃ m',m'<m/\W (i+1) m' σ2 H2) /\
    ∀ x H2,J.yld i H' x H2->g x σ' H2 fun σ3 H3=>ti σ3 H3 fun ok H4=>if ok=true then wi2 σ3 H4 fun J2 H5=>wz acc g2 ti2 te J2 NX σ3 H5 else NX σ3 H4))
  (fin:∀ (D C:Addr) (H':Hp) (s':Shared),Inv X pins σ H' s'->BlockAt X pins H' C->(∃ m,s'.heap.Ns C m)->Q (.ref D) H'->RR (.ref D) C (.ok .next) s') :
  wpAny (model X.prog X.w) X.A (newList []) (fun acc s₃=>wpAny (model X.prog X.w) X.A (newFunctionEnv scope X.env.globals cl [] X.env.qual none .none (some X.env)) (fun cenv s₄ =>
   codeAny (model X.prog X.w) X.A (.compStart (x5 elt tg iter tg2 iter2 ifs ifs2 scope pos) 0 (.ref it) acc { cenv with scope:=relabel scope X.env }) (RR acc cenv.locals) s₄) E s₃) E s:=by
 have hfs:∀ b∈fp,b<s.heap.objs.size:=fun b hb=>by
  obtain ⟨o,e,_⟩:=T.obj _ _ st b hb
  exact Heap.lt_size e
 refine wpAny_newObj_type (wpAny_newFunctionEnv S.nocell (by intro y hy;simp at hy) (fun h₁ hns₁ hsb₁=>?_) S.kind)
 dsimp only at hns₁ hsb₁ ⊢
 generalize hH2:s.heap.push { cls:=.type "list",dict:=none,data:=.seq ([]:List Value).toArray }=H2 at hns₁ hsb₁ ⊢
 have hCsz:H2.objs.size=s.heap.objs.size+1:=by rw [<- hH2,Heap.size_push]
 have old:∀ b o,s.heap.get? b=some o->h₁.get? b=some o:=fun b o e=>hsb₁.extBut b o (Nat.ne_of_lt (by rw [hCsz];exact Nat.lt_succ_of_lt (Heap.lt_size e))) (Heap.get?_push_of_some _ (hH2 ▸ Heap.get?_push_of_some _ e))
 have eD:h₁.get? s.heap.objs.size=some { cls:=.type "list",data:=.seq #[] }:=hsb₁.extBut _ _ (Nat.ne_of_lt (by omega)) (Heap.get?_push_of_some _ (hH2 ▸ Heap.get?_push_size _ rfl))
 have hDn:H s.heap.objs.size=none:=I.hok.fresh (Nat.le_refl _)
 obtain ⟨W,⟨m0,w0⟩,turn⟩:=hw s.heap.objs.size hDn
 have hns:h₁.Ns H2.objs.size fun _=>none:=hns₁
 have I1:Inv (X.block scope cl H2.objs.size N s H fp) [] (yD own caps σ) (upd H s.heap.objs.size (.lst [])) { s with heap:=h₁,toks:=s.toks+([]:List (Str×Value)).length } :=
  ul S hsc hN hcl I hf hfs rfl hCsz old eD hns _
 have st1:tn 0 h₁:=T.keep 0 _ _ st fun b _ o e=>old b o e
 have fpB:∀ {H':Hp},(∀ b∈fp,H' b=none)->∀ b∈fp,uh (X.block scope cl H2.objs.size N s H fp) [] H' b:=fun {H'} hn b hb=>by
  have ok:=I1.ok
  exact ⟨hn b hb,(ok.exf b hb).1,ok.exfs b hb,.inl hb,(ok.exf b hb).2,fun p hp=>absurd (show p∈([]:List (Addr×Obj)) from hp) (by simp)⟩
 have back:∀ {σ':St} {H':Hp} {s':Shared},Inv (X.block scope cl H2.objs.size N s H fp) [] σ' H' s'->Q (.ref s.heap.objs.size) H'->RR (.ref s.heap.objs.size) H2.objs.size (.ok .next) s':=fun {σ' H' s'} J1 q=>by
  have J2:Inv X pins σ H' s':=I.call' (ch:=fp) J1.os J1.base J1.hok J1.bare fun b hb=>⟨(hf b hb).2.2.2.1,(hf b hb).2.1,(hf b hb).2.2.2.2.1,(hf b hb).2.2.2.2.2⟩
  obtain ⟨m,hm,_⟩:=J1.loc
  refine fin _ _ H' s' J2 ⟨J1.free,Nat.ne_of_gt (Nat.lt_of_lt_of_le I.lt (by omega)),Nat.le_trans I.sz (by omega),fun x c e z=>?_,fun p hp z=>?_⟩ ⟨m,hm⟩ q
  ·obtain ⟨v,y⟩:=I.cell x c e
   have h1:H2.objs.size<s.heap.objs.size:=z ▸ y.lt
   exact absurd h1 (by omega)
  ·have h1:H2.objs.size<s.heap.objs.size:=z ▸ Heap.lt_size (I.pin p hp).1
   exact absurd h1 (by omega)
 have loop:∀ s₃:Shared,s₃={ s with heap:=h₁,toks:=s.toks+([]:List (Str×Value)).length } ->
   codeAny (model X.prog X.w) X.A (.compLoop (x5 elt tg iter tg2 iter2 ifs ifs2 scope pos) 0 (.ref it) (.ref s.heap.objs.size) (compEnvC scope cl H2.objs.size X.env)) (RR (.ref s.heap.objs.size) H2.objs.size) s₃:=by
  rintro s₃ rfl
  refine Z6 (fun n s'=>∃ i σ' H',Inv (X.block scope cl H2.objs.size N s H fp) [] σ' H' s'/\tn i s'.heap/\(∀ b∈fp,H' b=none)/\W i n σ' H') (hs2 _) ?_ m0
   ⟨0,_,_,I1,st1,fun b hb=>by rw [j5 (Nat.ne_of_lt (hfs b hb))];exact (hf b hb).1,w0⟩
  rintro n s3 ⟨i,σ3,H3,I3,st3,fr3,w3⟩
  rcases turn i n σ3 H3 w3 with ⟨stop,qn⟩ | ⟨go,NX,hNX,step⟩
  ·refine thn (T.done (X.block scope cl H2.objs.size N s H fp) rfl rfl rfl hc i [] s3 σ3 H3 _ I3 (fpB fr3) st3 stop) fun r s4 ⟨hr,I4⟩=>?_
   subst hr
   exact back I4 qn
  ·refine thn (T.item (X.block scope cl H2.objs.size N s H fp) rfl rfl rfl hc i [] s3 σ3 H3 _ I3 (fpB fr3) st3 go) fun r s4 ⟨u,hr,h4⟩=>?_
   subst hr
   refine thn h4 fun _ s5 ⟨x,H5,I5,r5,y5,st5,fr5⟩=>?_
   have I5':=I5.pinned (fpB fr5) (T.obj _ _ st5)
   refine thn (hg cl H2.objs.size s H fp _ s5 σ3 H5 x u _ I5' r5 (step x H5 y5)) fun _ s6 ⟨σ6,H6,I6,q6⟩=>?_
   refine thn (hif cl H2.objs.size s H fp _ s6 σ6 H6 _ I6 q6) fun ok s7 ⟨H7,I7,q7⟩=>?_
   have again:∀ {s8:Shared} {σ8:St} {H8:Hp},Inv (X.block scope cl H2.objs.size N s H fp) ([]++xO fp s5.heap) σ8 H8 s8->NX σ8 H8->∃ m,m<n/\∃ i σ' H',Inv (X.block scope cl H2.objs.size N s H fp) [] σ' H' s8/\tn i s8.heap/\(∀ b∈fp,H' b=none)/\W i m σ' H':=fun {s8 σ8 H8} I8 n8=>by
    obtain ⟨m',hm,w8⟩:=hNX σ8 H8 n8
    refine ⟨m',hm,i+1,σ8,H8,I8.unpinned,T.keep _ _ _ st5 fun b hb o e=>(I8.pin (b,o) (List.mem_append_right _ (List.mem_append_right _ (qB hb e)))).1,fun b hb=>?_,w8⟩
    obtain ⟨o,e,d⟩:=T.obj _ _ st5 b hb
    exact (I8.pin (b,o) (List.mem_append_right _ (List.mem_append_right _ (qB hb e)))).2.1
   cases ok with
   | false =>
    rw [if_neg Bool.false_ne_true] at q7 ⊢
    exact again I7 q7
   | true =>
    rw [if_pos rfl] at q7 ⊢
    refine thn (hi2 cl H2.objs.size s H fp _ s7 σ6 H7 _ I7 q7) fun v s8 h8=>thn h8 fun itv s9 h9=>?_
    obtain ⟨it2,fp2,tn2,J2,H9,e,I9,T2,st9,f9,W2,⟨m2,w2⟩,turn2⟩:=h9
    subst e
    have stat2:∀ {H':Hp},(∀ b∈fp2,H' b=none)->∀ b∈fp2,uh (X.block scope cl H2.objs.size N s H fp) ([]++xO fp s5.heap) H' b:=fun hn b hb=>⟨hn b hb,(f9 b hb).2⟩
    have inner:codeAny (model X.prog X.w) X.A (.compLoop (x5 elt tg iter tg2 iter2 ifs ifs2 scope pos) 1 (.ref it2) (.ref s.heap.objs.size) (compEnvC scope cl H2.objs.size X.env)) (fun r s'=>match r with | .ok _=>∃ m,m<n/\∃ i σ' H',Inv (X.block scope cl H2.objs.size N s H fp) [] σ' H' s'/\tn i s'.heap/\(∀ b∈fp,H' b=none)/\W i m σ' H' | .error _=>False) s9:=by
     refine ZZ (fun n2 s'=>∃ j σ' H',Inv (X.block scope cl H2.objs.size N s H fp) ([]++xO fp s5.heap) σ' H' s'/\tn2 j s'.heap/\(∀ b∈fp2,H' b=none)/\W2 j n2 σ' H') ?_ m2 ⟨0,_,_,I9,st9,fun b hb=>(f9 b hb).1,w2⟩
     rintro n2 s10 ⟨j,σ10,H10,I10,st10,fr10,w10⟩
     rcases turn2 j n2 σ10 H10 w10 with ⟨stop2,nx2⟩ | ⟨go2,NX2,hNX2,step2⟩
     ·refine thn (T2.done (X.block scope cl H2.objs.size N s H fp) rfl rfl rfl hc j _ s10 σ10 H10 _ I10 (stat2 fr10) st10 stop2) fun r s11 ⟨hr,I11⟩=>?_
      subst hr
      exact again I11 nx2
     ·refine thn (T2.item (X.block scope cl H2.objs.size N s H fp) rfl rfl rfl hc j _ s10 σ10 H10 _ I10 (stat2 fr10) st10 go2) fun r s11 ⟨u2,hr,h11⟩=>?_
      subst hr
      refine thn h11 fun _ s12 ⟨x2,H12,I12,r12,y12,st12,fr12⟩=>?_
      have I12':=I12.pinned (stat2 fr12) (T2.obj _ _ st12)
      refine thn (hg2 cl H2.objs.size s H fp _ s12 σ10 H12 x2 u2 _ I12' r12 (step2 x2 H12 y12)) fun _ s13 ⟨σ13,H13,I13,q13⟩=>?_
      refine thn (hif2 cl H2.objs.size s H fp _ s13 σ13 H13 _ I13 q13) fun ok2 s14 ⟨H14,I14,q14⟩=>?_
      have again2:∀ {s15:Shared} {σ15:St} {H15:Hp},Inv (X.block scope cl H2.objs.size N s H fp) (([]++xO fp s5.heap)++xO fp2 s12.heap) σ15 H15 s15->NX2 σ15 H15->∃ m,m<n2/\∃ j σ' H',Inv (X.block scope cl H2.objs.size N s H fp) ([]++xO fp s5.heap) σ' H' s15/\tn2 j s15.heap/\(∀ b∈fp2,H' b=none)/\W2 j m σ' H':=fun {s15 σ15 H15} I15 n15=>by
       obtain ⟨m',hm,w15⟩:=hNX2 σ15 H15 n15
       refine ⟨m',hm,j+1,σ15,H15,I15.unpinned,T2.keep _ _ _ st12 fun b hb o e=>(I15.pin (b,o) (List.mem_append_right _ (List.mem_append_right _ (qB hb e)))).1,fun b hb=>?_,w15⟩
       obtain ⟨o,e,d⟩:=T2.obj _ _ st12 b hb
       exact (I15.pin (b,o) (List.mem_append_right _ (List.mem_append_right _ (qB hb e)))).2.1
      cases ok2 with
      | false =>
       rw [if_neg Bool.false_ne_true] at q14 ⊢
       exact again2 I14 q14
      | true =>
       rw [if_pos rfl] at q14 ⊢
       refine thn (he cl H2.objs.size s H fp _ s14 σ13 H14 _ I14 q14) fun v15 s15 ⟨y15,H15,I15,r15,ys,e15,z15,q15⟩=>?_
       refine thn (qK _ s15 σ13 H15 (.ref s.heap.objs.size) [y15] _ [v15] (fun _ H16=>NX2 σ13 H16) I15 rfl (.cons r15 .nil) ⟨_,ys,y15,rfl,rfl,e15,z15,q15⟩) fun _ s16 ⟨_,H16,I16,_,q16⟩=>?_
       exact again2 I16 q16
    exact Xw inner (T2.self _ 0 _ _ _ st9 inner)
 exact codeAny_compStart_list (loop _ rfl) (T.self _ 0 _ _ _ st1 (loop _ rfl))
theorem Ys {osc:Scope}{ON N:List Str}{scope:Scope}{own:Nat}{caps:List Nat}{tg elt iter tg2 iter2:Expr}{ifs ifs2:List Expr}{wi wi2:TI}{g g2:TG}{ti ti2:TT}{te:TE}(S:CompSc osc ON scope own N caps)
  (hc:X.calm=true) (hsc:X.env.scope=osc) (hN:X.N=ON) (hi:PI X tg iter wi)
  (hg:∀ cl C s H ex,PG (X.block scope cl C N s H ex) tg g) (hif:∀ cl C s H ex,J5 (X.block scope cl C N s H ex) ifs ti) (hi2:∀ cl C s H ex,PI (X.block scope cl C N s H ex) tg2 iter2 wi2) (hg2:∀ cl C s H ex,PG (X.block scope cl C N s H ex) tg2 g2) (hif2:∀ cl C s H ex,J5 (X.block scope cl C N s H ex) ifs2 ti2) (he:∀ cl C s H ex,PE (X.block scope cl C N s H ex) elt te)
  (hs:∀ x,foldedSetIterable iter X.env x=pure x:=by intro _;rfl) (hs2:∀ env x,foldedSetIterable iter2 env x=pure x:=by intro _ _;rfl):PE X (.ListComp elt [⟨tg,iter,ifs,0⟩,⟨tg2,iter2,ifs2,0⟩] scope pos) (Uo own caps wi g ti wi2 g2 ti2 te):=by
 intro pins s σ H Q I h
 obtain ⟨cl,hclos,hcl⟩:=yW (Qj S hsc I)
 rw [eval_ListComp]
 refine wpAny_comprehension_free (use:=none) rfl hs hclos S.kind S.loc (thn (hi pins s σ H _ I h) fun v s1 h1=>thn h1 fun itv s2 h2=>?_)
 obtain ⟨it,fp,tn,J,H2,e,I2,T,st2,f2,hw⟩:=h2
 subst e
 refine Zn (RR:=fun acc C=>compPost (model X.prog X.w) X.A X.xe none (EP X pins σ Q) acc C) hc S hsc hN hcl hg hif hi2 hg2 hif2 he hs2 I2 T st2 f2 hw fun D C H' s' J1 B ⟨m,hm⟩ q=>?_
 exact ⟨m,hm,fun h' hs'=>⟨.ref D,H',B.gone J1 hs',rfl,q⟩⟩
end
end L2
end
section
namespace L2
open PySem PySem.Spec PySem.W PyProof.Rows
structure CalM (P:Program) (w:World) (K:PySem.W.Frag) (mg:Str->Option Value) (base:Heap) (k:Nat) (C:Addr) (m:Str) (ps:List Str) (sp:Sp):Prop where
 ex:∃ f fd,FnOk P w K mg base CX0 k f fd ps sp/\zr K fd ps []/\Meth K C m f
structure CalMX (P:Program) (w:World) (K:PySem.W.Frag) (mg:Str->Option Value) (base:Heap) (k:Nat) (C:Addr) (m:Str) (ps:List Str) (sp:Sp):Prop where
 ex:∃ f fd,FnOk P w K mg base (CX1 P w) k f fd ps sp/\zr K fd ps []/\Meth K C m f
section
variable {X:Cx}{k:Nat}{f C:Addr}{fd:FuncData}{ps:List Str}{sp:Sp}{x m:Str}{p pos apos:Pos}{e o:Expr}{es:List Expr}{ta:TE}{t:TA}{J:Value->St->Hp->Prop}
theorem UV {pins:List (Addr×Obj)}{σ:St}{H:Hp}{s:Shared}{Q:VK}{us:List Value}{vs:List V}(F:FnOk X.prog X.w X.K X.mg X.base (CX1 X.prog X.w) k f fd ps sp) (hr:Room k X.A) (hb:zr X.K fd ps []) (ac:Acc X J)
  (I:Inv X pins σ H s) (r:jw vs us) (h:sp vs H Q fun cls _ H'=>J cls σ H'):wpAny (model X.prog X.w) X.A (call (.ref f) us) (EP X pins σ Q) X.xe s:=by
 have hl:us.length=ps.length:=by rw [<- r.length];exact F.len _ _ _ _ h
 have hb':=hb s us I.kIn (by rw [List.append_nil];exact hl)
 rw [List.append_nil] at hb'
 refine wpAny_call (codeAny_mono (F.run X.A X.stack s H ⟨us,[]⟩ us vs Q _ hr I.env0 hb' r h) fun r s' hq=>?_)
 cases r with
 | error e =>
  obtain ⟨a,cls,H',rfl,os,b,u,ok,fy,j⟩:=hq
  exact ac pins σ H' s' a cls ⟨s,H,I,os,b,u,ok,fy⟩ j
 | ok fl =>
  cases fl with
  | ret u=>exact I.after hq
  | next=>exact False.elim hq
  | brk=>exact False.elim hq
  | cont=>exact False.elim hq
theorem pe_m {pl:Sem Bool}(he:PE X o ta) (c:Cls X.K C) (cm:CalM X.prog X.w X.K X.mg X.base k C m ps sp) (hr:Room k X.A) (ha:PA X (e::es) t)
  (hst:starEach (e::es) X.env=(false,eval e X.env)::starEach es X.env:=by rfl) (hpl:(backTo pos (starEach es X.env)).any (·.1)=false:=by rfl)
  (ht:eval (.Call (.Attribute o m apos) (e::es) [] pos) X.env=(do let ov <- eval o X.env;standAt apos.atName;let (f,first) <- holding [ov] (getMethod ov m pl);callWith pos f first (backTo pos (starEach (e::es) X.env)) (backToKw pos (keywordEach [] X.env))):=by rfl) :
  PE X (.Call (.Attribute o m apos) (e::es) [] pos) (Xo C m sp [] E0 ta t):=by
 obtain ⟨f,fd,F,hb,hm⟩:=cm.ex
 exact Vc he c hm F hr hb .nil Yi ha hst hpl ht
theorem Vt {pl:Sem Bool}(he:PE X o ta) (c:Cls X.K C) (cm:CalM X.prog X.w X.K X.mg X.base k C m ps sp) (hr:Room k X.A)
  (ht:eval (.Call (.Attribute o m apos) [] [] pos) X.env=(do let ov <- eval o X.env;standAt apos.atName;let (f,first) <- holding [ov] (getMethod ov m pl);callWith pos f first (backTo pos (starEach [] X.env)) (backToKw pos (keywordEach [] X.env))):=by rfl) :
  PE X (.Call (.Attribute o m apos) [] [] pos) (Xo C m sp [] E0 ta JS):=by
 obtain ⟨f,fd,F,hb,hm⟩:=cm.ex
 exact ZU he c hm F hr hb .nil Yi ht
def U5 (C:Addr) (m:Str) (sp:Sp) (J:Value->St->Hp->Prop) (ta:TE) (t:TA):TE:=fun σ H Q=>ta σ H fun x H1=>∃ a dx fs,x = .ref a/\H1 a=some (.ins C dx fs)/\fs.lookup m=none/\t σ H1 fun vs H2=>sp (x::vs) H2 Q fun cls _ H'=>J cls σ H'
theorem zC {pl:Sem Bool}(he:PE X o ta) (c:Cls X.K C) (cm:CalMX X.prog X.w X.K X.mg X.base k C m ps sp) (hr:Room k X.A) (ac:Acc X J) (ha:PA X (e::es) t)
  (hst:starEach (e::es) X.env=(false,eval e X.env)::starEach es X.env:=by rfl) (hpl:(backTo pos (starEach es X.env)).any (·.1)=false:=by rfl)
  (ht:eval (.Call (.Attribute o m apos) (e::es) [] pos) X.env=(do let ov <- eval o X.env;standAt apos.atName;let (f,first) <- holding [ov] (getMethod ov m pl);callWith pos f first (backTo pos (starEach (e::es) X.env)) (backToKw pos (keywordEach [] X.env))):=by rfl) :
  PE X (.Call (.Attribute o m apos) (e::es) [] pos) (U5 C m sp J ta t):=by
 obtain ⟨f,fd,F,hb,hm⟩:=cm.ex
 intro pins s σ H Q I h
 refine PySem.W.methodCall_KW (pl:=pl) (thn (he pins s σ H _ I h) fun u s1 ⟨x,H1,I1,rx,a,dx,fs,ex,ea,l,q⟩=>?_) ht
 subst ex
 obtain rfl:u=Value.ref a:=rx
 refine zE I1 ea c hm l ?_
 refine PySem.W.callWith_K (first:=[.ref a]) (h₀:=X.base) I.ok.mod.kin hm.kp (thn (ha pos pins s1 σ H1 _ I1 q) fun us s2 ⟨vs,H2,I2,r,q2⟩=>⟨I2.kIn,?_⟩) hst hpl
 exact UV (us:=.ref a::us) (vs:=.ref a::vs) F hr hb ac I2 (.cons rfl r) q2
structure MakX (P:Program) (w:World) (K:PySem.W.Frag) (mg:Str->Option Value) (base:Heap) (k:Nat) (C:Addr) (x:Str) (ps:List Str) (sp:Sp):Prop where
 ex:∃ f fd,FnOk P w K mg base (CX1 P w) k f fd ps sp/\zr K fd ps []/\Mk K C f/\mg x=some (.ref C)
def VA (C:Addr) (sp:Sp) (J:Value->St->Hp->Prop) (t:TA):TE:=fun σ H Q=>t σ H fun vs H1=>∀ x dx,H1 x=none->H1 dx=none->dx≠x ->
 sp (.ref x::vs) (upd (upd H1 dx (.own x)) x (.ins C dx [])) (fun v H2=>v = .non/\Q (.ref x) H2) fun cls _ H'=>J cls σ H'
theorem Vb (c:MakX X.prog X.w X.K X.mg X.base k C x ps sp) (hr:Room (k+1) X.A) (ac:Acc X J) (hg:Gl X x) (ha:PA X (e::es) t) (hdb:(x == ("__debug__" : Str))=false:=by decide) (he:starEach (e::es) X.env=(false,eval e X.env)::starEach es X.env:=by rfl) (hpl:(backTo pos (starEach es X.env)).any (·.1)=false:=by rfl) :
  PE X (.Call (.Name x p) (e::es) [] pos) (VA C sp J t):=by
 obtain ⟨f,fd,F,hb,M,hm⟩:=c.ex
 intro pins s0 σ H0 Q I0 h0
 refine wpAny_Call_Name_kw (v0 I0 hg hm ?_ hdb)
 refine PySem.W.callWith_K (h₀:=X.base) I0.ok.mod.kin M.kp (thn (ha pos pins s0 σ H0 _ I0 h0) fun us s ⟨vs,H,I,r,h⟩=>⟨I.kIn,?_⟩) he hpl
 have hq:=h (s.heap.objs.size+1) s.heap.objs.size (I.hok.fresh (Nat.le_succ _)) (I.hok.fresh (Nat.le_refl _)) (Nat.ne_of_lt (Nat.lt_succ_self _))
 have I2:=Inv.made (C:=C) I
 have r2:jw (V.ref (s.heap.objs.size+1)::vs) (Value.ref (s.heap.objs.size+1)::us):=.cons rfl r
 have hl:(Value.ref (s.heap.objs.size+1)::us).length=ps.length:=by rw [<- r2.length];exact F.len _ _ _ _ hq
 have hb':=hb { s with heap:=_ } (Value.ref (s.heap.objs.size+1)::us) I2.kIn (by rw [List.append_nil];exact hl)
 rw [List.append_nil] at hb'
 refine wpAny_call (ZW (f:=f) I.kIn M.makes M.init (beq_iff_eq.mp M.fn) (codeAny_mono (F.run _ X.stack _ _ ⟨Value.ref (s.heap.objs.size+1)::us,[]⟩ (Value.ref (s.heap.objs.size+1)::us) _ _ _ (hr.make C us []) (I2.env0.make C us []) hb' r2 hq) fun r s' hq'=>?_))
 cases r with
 | error e =>
  obtain ⟨a,cls,H',rfl,os,b,u,ok,fy,j⟩:=hq'
  exact ac pins σ H' s' a cls ⟨_,_,I2,os,b,u,ok,fy⟩ j
 | ok fl =>
  cases fl with
  | ret u =>
   obtain ⟨v,H',I3,rv,ev,q3⟩:=I2.after hq'
   subst ev
   exact ⟨rv,⟨V.ref (s.heap.objs.size+1),H',I3,rfl,q3⟩⟩
  | next=>exact False.elim hq'
  | brk=>exact False.elim hq'
  | cont=>exact False.elim hq'
theorem qr {f:Str}(K:PySem.W.Frag) (he:PE X e ta) (hb:attributeBase e f X.env (eval e X.env)=eval e X.env:=by rfl) (hK:X.K=K:=by rfl):PE X (.Attribute e f pos) (UI K ta f):=by subst hK;exact VR he hb
theorem vz {f:Str}{value:Expr}{pos':Pos}{tv:TE}(K:PySem.W.Frag) (ha:PE X o ta) (hv:PE X value tv) (hs:swapsWith value (some (.Attribute o f pos')) pos.line X.env=pure false:=by rfl) (hK:X.K=K:=by rfl):PS X (.Assign [.Attribute o f pos'] value pos) (Wa K ta tv f):=by subst hK;exact VO ha hv hs
end
theorem Uj {K:PySem.W.Frag}{a acc:Addr}{xs:List V}{g2:TG}{ti2:TT}{te:TE}{NX:St->Hp->Prop}{σ:St}{H:Hp}(Pv:Nat->St->Hp->Prop) (h0:Pv 0 σ H) (hl:∀ i σ H,i<=xs.length->Pv i σ H->SqT K H a xs)
  (hs:∀ i x σ H,xs[i]? = some x->Pv i σ H->g2 x σ H fun σ3 H3=>ti2 σ3 H3 fun ok H4=>if ok=true then te σ3 H4 fun v H5=>∃ ys,H5 acc=some (.lst ys)/\ys.length<sizeLine/\Pv (i+1) σ3 (upd H5 acc (.lst (ys++[v]))) else Pv (i+1) σ3 H4)
  (hd:∀ σ H,Pv xs.length σ H->NX σ H):wz acc g2 ti2 te (Itt K a) NX σ H:=by
 refine ⟨fun i m σ H=>m=xs.length-i/\i<=xs.length/\Pv i σ H,⟨xs.length,by simp,Nat.zero_le _,h0⟩,fun i m σ H z=>?_⟩
 obtain ⟨rfl,hi,p⟩:=z
 have q:=hl i σ H hi p
 by_cases hlt:i<xs.length
 ·refine .inr ⟨⟨xs,xs[i],q,by simp [hlt]⟩,Pv (i+1),fun σ' H' p'=>⟨xs.length-(i+1),by omega,rfl,hlt,p'⟩,fun x H' y=>?_⟩
  obtain ⟨e,y⟩:=y
  subst e
  exact hs i x σ _ (y xs q) p
 ·obtain rfl:i=xs.length:=by omega
  exact .inl ⟨⟨xs,q,Nat.le_refl _⟩,hd σ H p⟩
theorem XA {K:PySem.W.Frag}{a acc:Addr}{xs:List V}{g g2:TG}{ti ti2:TT}{wi2:TI}{te:TE}{R:Hp->Prop}{σ:St}{H:Hp}(Pv:Nat->St->Hp->Prop) (h0:Pv 0 σ H) (hl:∀ i σ H,i<=xs.length->Pv i σ H->SqT K H a xs)
  (hs:∀ i x σ H,xs[i]? = some x->Pv i σ H->g x σ H fun σ3 H3=>ti σ3 H3 fun ok H4=>if ok=true then wi2 σ3 H4 fun J2 H5=>wz acc g2 ti2 te J2 (Pv (i+1)) σ3 H5 else Pv (i+1) σ3 H4)
  (hd:∀ σ H,Pv xs.length σ H->R H) :
  ∃ W:Nat->Nat->St->Hp->Prop,(∃ m,W 0 m σ H)/\∀ i m σ' H',W i m σ' H' ->
   ((Itt K a).stop i H'/\R H')\/((Itt K a).go i H'/\∃ NX:St->Hp->Prop,(∀ σ2 H2,NX σ2 H2->∃ m',m'<m/\W (i+1) m' σ2 H2) /\
    ∀ x H2,(Itt K a).yld i H' x H2->g x σ' H2 fun σ3 H3=>ti σ3 H3 fun ok H4=>if ok=true then wi2 σ3 H4 fun J2 H5=>wz acc g2 ti2 te J2 NX σ3 H5 else NX σ3 H4):=by
 refine ⟨fun i m σ H=>m=xs.length-i/\i<=xs.length/\Pv i σ H,⟨xs.length,by simp,Nat.zero_le _,h0⟩,fun i m σ H z=>?_⟩
 obtain ⟨rfl,hi,p⟩:=z
 have q:=hl i σ H hi p
 by_cases hlt:i<xs.length
 ·refine .inr ⟨⟨xs,xs[i],q,by simp [hlt]⟩,Pv (i+1),fun σ' H' p'=>⟨xs.length-(i+1),by omega,rfl,hlt,p'⟩,fun x H' y=>?_⟩
  obtain ⟨e,y⟩:=y
  subst e
  exact hs i x σ _ (y xs q) p
 ·obtain rfl:i=xs.length:=by omega
  exact .inl ⟨⟨xs,q,Nat.le_refl _⟩,hd σ H p⟩
theorem gf {X:Cx}:Acc X fun _ _ _=>False:=fun _ _ _ _ _ _ _ z=>z.elim
end L2
end
section
namespace L2
open PySem PySem.Spec PySem.W PyProof.Rows
inductive gN (K:PySem.W.Frag) (n:Str) (s:Stmt):Prop
 | mk {f:Addr} {oc kV dc pm cd ct:Value} {od an:Option Addr} {sl:Array (Option Value)} (a:nsIn K mainGlobals n=some (some (.ref f))) (l:K.lookup f=some ⟨oc,od,.func (fnOf n n (jN s) (jF s) (j6 s) .none kV dc pm an cd ct),sl⟩) (c:codeIn K cd n=true) (k:keepIn K (.ref f)=true)
inductive gM (K:PySem.W.Frag) (C:Addr) (m q:Str) (s:Stmt):Prop
 | mk {f:Addr} {oc kV dc pm cd ct:Value} {od an:Option Addr} {sl:Array (Option Value)} (a:findIn K (.ref C) m=some (some (.ref f))) (i:isFn K (.ref f)=true) (l:K.lookup f=some ⟨oc,od,.func (fnOf m q (jN s) (jF s) (j6 s) .none kV dc pm an cd ct),sl⟩) (c:codeIn K cd q=true) (k:keepIn K (.ref f)=true)
structure gE (K:PySem.W.Frag) (n:Str) (C:Addr):Prop where
 e:nsIn K mainGlobals n=some (some (.ref C))
 x:excIn K C [.type "ValueError",.type "Exception",.type "BaseException",.type "object"] "ValueError.__new__" = true
 m:exmOne K (.ref C) (.ref C)=some true
abbrev gB (x q:Str) (st:Stmt) (ps:List Str):Prop:=∀ (kV doc pm:Value) (an:Option Addr) (cdv ct:Value) (us:List Value),us.length=ps.length->bindArgs (fnOf x q (jN st) (jF st) (j6 st) .none kV doc pm an cdv ct) ⟨us,[]⟩=pure (ps.zip us)
inductive Zt (P:Program) (w:World) (K:PySem.W.Frag) (mg:Str->Option Value) (base:Heap):Prop
 | mk {h:Heap} (X:K.In h) (G:h.Ns mainGlobals mg)
section
variable {P:Program}{w:World}{K:PySem.W.Frag}{mg:Str->Option Value}{base:Heap}{k:Nat}{x q:Str}{ps:List Str}{sp:Sp}{st:Stmt}{C:Addr}
theorem gN.cal (a:gN K x st) (z:Zt P w K mg base) (hb:gB x x st ps)
  (ok:∀ {f:Addr} {fd:FuncData},Fun K x x st f fd->FnOk P w K mg base CX0 k f fd ps sp):Cal P w K mg base k x ps sp:=by
 obtain ⟨a,l,c,k'⟩:=a
 obtain ⟨X,G⟩:=z
 exact Cal.mk' X G a l c k' hb ok
theorem gN.calX (a:gN K x st) (z:Zt P w K mg base) (hb:gB x x st ps)
  (ok:∀ {f:Addr} {fd:FuncData},Fun K x x st f fd->FnOk P w K mg base (CX1 P w) k f fd ps sp):CalX P w K mg base k x ps sp:=by
 obtain ⟨a,l,c,k'⟩:=a
 obtain ⟨X,G⟩:=z
 exact CalX.mk' X G a l c k' hb ok
theorem gM.cal (a:gM K C x q st) (z:Zt P w K mg base) (hb:gB x q st ps)
  (ok:∀ {f:Addr} {fd:FuncData},Fun K x q st f fd->FnOk P w K mg base CX0 k f fd ps sp):CalM P w K mg base k C x ps sp:=by
 obtain ⟨a,i,l,c,k'⟩:=a
 have F:=yR (st:=st) l c k'
 exact ⟨_,_,ok F,F.binds hb,⟨a,i,k'⟩⟩
theorem gM.calX (a:gM K C x q st) (z:Zt P w K mg base) (hb:gB x q st ps)
  (ok:∀ {f:Addr} {fd:FuncData},Fun K x q st f fd->FnOk P w K mg base (CX1 P w) k f fd ps sp):CalMX P w K mg base k C x ps sp:=by
 obtain ⟨a,i,l,c,k'⟩:=a
 have F:=yR (st:=st) l c k'
 exact ⟨_,_,ok F,F.binds hb,⟨a,i,k'⟩⟩
theorem gM.mak {y:Str}(a:gM K C "__init__" q st) (z:Zt P w K mg base) (m:makesIn K C=true) (kc:keepIn K (.ref C)=true) (n:nsIn K mainGlobals y=some (some (.ref C))) (hb:gB "__init__" q st ps)
  (ok:∀ {f:Addr} {fd:FuncData},Fun K "__init__" q st f fd->FnOk P w K mg base (CX1 P w) k f fd ps sp):MakX P w K mg base k C y ps sp:=by
 obtain ⟨a,i,l,c,k'⟩:=a
 obtain ⟨X,G⟩:=z
 have F:=yR (st:=st) l c k'
 exact ⟨_,_,ok F,F.binds hb,⟨m,a,i,kc⟩,mg_of X G n⟩
end
theorem bnd1 {fd:FuncData}{ps:List Str}{us:List Value}(hl:us.length=1) (h:∀ a,bindArgs fd ⟨[a],[]⟩=pure (ps.zip [a])):bindArgs fd ⟨us,[]⟩=pure (ps.zip us):=match us,hl with | [a],_=>h a
theorem bnd2 {fd:FuncData}{ps:List Str}{us:List Value}(hl:us.length=2) (h:∀ a b,bindArgs fd ⟨[a,b],[]⟩=pure (ps.zip [a,b])):bindArgs fd ⟨us,[]⟩=pure (ps.zip us):=match us,hl with | [a,b],_=>h a b
theorem bnd3 {fd:FuncData}{ps:List Str}{us:List Value}(hl:us.length=3) (h:∀ a b c,bindArgs fd ⟨[a,b,c],[]⟩=pure (ps.zip [a,b,c])):bindArgs fd ⟨us,[]⟩=pure (ps.zip us):=match us,hl with | [a,b,c],_=>h a b c
theorem bnd4 {fd:FuncData}{ps:List Str}{us:List Value}(hl:us.length=4) (h:∀ a b c d,bindArgs fd ⟨[a,b,c,d],[]⟩=pure (ps.zip [a,b,c,d])):bindArgs fd ⟨us,[]⟩=pure (ps.zip us):=match us,hl with | [a,b,c,d],_=>h a b c d
theorem bnd5 {fd:FuncData}{ps:List Str}{us:List Value}(hl:us.length=5) (h:∀ a b c d e,bindArgs fd ⟨[a,b,c,d,e],[]⟩=pure (ps.zip [a,b,c,d,e])):bindArgs fd ⟨us,[]⟩=pure (ps.zip us):=match us,hl with | [a,b,c,d,e],_=>h a b c d e
theorem bnd6 {fd:FuncData}{ps:List Str}{us:List Value}(hl:us.length=6) (h:∀ a b c d e f,bindArgs fd ⟨[a,b,c,d,e,f],[]⟩=pure (ps.zip [a,b,c,d,e,f])):bindArgs fd ⟨us,[]⟩=pure (ps.zip us):=match us,hl with | [a,b,c,d,e,f],_=>h a b c d e f
end L2
end
section
namespace L2
open PySem PySem.Spec PySem.W PyProof.Rows
end L2
end
section
namespace L2
open PySem PySem.Spec PyProof.Rows
end L2
namespace L2
open PySem PySem.Spec PyProof.Rows
section
variable (P:Program) (w:World)
end
section
variable {P:Program}{w:World}{H H':Hp}{h h':Heap}{a:Addr}{o:HO}
end
section
variable {P:Program}{w:World}{H:Hp}{h h':Heap}{x e:Addr}{o':HO}
end
section
variable {fs fs' ex ex':List Addr}{H H1 H2:Hp}{h h1 h2 h':Heap}{a x e:Addr}{o:HO}
end
end L2
namespace L2
open PySem PySem.Spec PyProof.Rows
section
variable {X:Cx}{pins:List (Addr×Obj)}{σ:List (Option V)}{H H':Hp}{s:Shared}{h':Heap}
end
end L2
namespace L2
open PySem PySem.Spec PyProof.Rows
section
variable {X:Cx}
variable {a b:Expr}{ta tb:TE}{pos:Pos}
variable {tA tB':TT}{yS:List Expr}
end
end L2
namespace L2
open PySem PySem.Spec PyProof.Rows
section
variable {X:Cx}{pins:List (Addr×Obj)}{σ:St}{H:Hp}{s:Shared}{a:Addr}{xs ys:List V}
end
section
variable {X:Cx}{pins:List (Addr×Obj)}{σ:St}{H:Hp}{s:Shared}{E:Value->Shared->Prop}
end
section
variable {X:Cx}{st:Stmt}{yS:List Stmt}{t u:TS}{e:Expr}{te:TE}{pos:Pos}
end
section
variable {X:Cx}{pos:Pos}
end
section
variable {X:Cx}{pos:Pos}
end
end L2
namespace L2
open PySem PySem.Spec PyProof.Rows
section
variable {X:Cx}{tg:Expr}
end
end L2
namespace L2
open PySem PySem.Spec PyProof.Rows
section
variable {X:Cx}{a b c:Expr}{ta tb tc:TE}{pos:Pos}
end
section
variable {X:Cx}{a b c:Expr}{ta tb tc:TE}{pos:Pos}
end
end L2
namespace L2
open PySem PySem.Spec PyProof.Rows
section
variable {prog:Program}{w:World}{A:Around}{E:Value->Shared->Prop}{s:Shared}{K:PySem.W.Frag}{x dx C f:Addr}{mA:Str->Option Value}{name:Str}{v:Value}
end
section
variable {P:Program}{w:World}{H H':Hp}{h h':Heap}{a C dx:Addr}{fs fs':List (Str×V)}
end
section
variable {X:Cx}{pins:List (Addr×Obj)}{σ:St}{H:Hp}{s:Shared}{a C dx:Addr}{fs:List (Str×V)}{f:Str}{v:V}{A:Around}{E:Value->Shared->Prop}
end
section
variable {X:Cx}{o e value:Expr}{f:Str}{pos pos' tpos:Pos}{ta tv:TE}
end
section
variable {X:Cx}{pins:List (Addr×Obj)}{σ:St}{H:Hp}{s:Shared}{A:Around}{E:Value->Shared->Prop}{Q:Value->Shared->Prop}{c:Value}{b:Bool}
end
end L2
namespace L2
open PySem PySem.Spec PyProof.Rows
section
variable {X:Cx}{e:Expr}{es:List Expr}{te:TE}{t:TA}{pos:Pos}
end
section
variable {X:Cx}{pins:List (Addr×Obj)}{σ:St}{H:Hp}{s s':Shared}
end
section
variable {X:Cx}{CX:CXT}{k:Nat}{f C:Addr}{fd:FuncData}{ps:List Str}{sp:Sp}{dvs:List V}{ds:List Value}{E:XK}{x m:Str}{p pos apos:Pos}{e o:Expr}{es:List Expr}{ta:TE}{t:TA}
end
section
variable {X:Cx}{CX:CXT}{k:Nat}{f C:Addr}{fd:FuncData}{ps ks:List Str}{sp:Sp}{E:XK}{x m:Str}{p pos apos kpos:Pos}{e o:Expr}{es:List Expr}{kws:List Keyword}{te ta:TE}{t tk:TA}{nm:Option Str}
variable {g:List Value->List Value->List Value}{gV:List V->List V->List V}
end
end L2
namespace L2
open PySem PySem.Spec PyProof.Rows
section
variable {X:Cx}{x:Str}{p pos:Pos}{e:Expr}{es:List Expr}{t:TA}{id T:String}{r:List V->Hp->VK->Prop}
end
end L2
namespace L2
open PySem PySem.Spec PyProof.Rows
section
variable {κ:Type} [DecidableEq κ]
def qo (kvs:List (κ×V)) (k:κ):Option V:=(kvs.find? fun kv=>decide (kv.1=k)).map (·.2)
def qv (kvs:List (κ×V)) (k:κ) (v:V):List (κ×V) :=
 if (kvs.any fun kv=>decide (kv.1=k))=true then kvs.map (fun kv=>if kv.1=k then (kv.1,v) else kv) else kvs++[(k,v)]
theorem yf {k:κ}:qo ([]:List (κ×V)) k=none:=rfl
theorem ww {p:κ×V}{r:List (κ×V)}{k:κ}(e:p.1=k):qo (p::r) k=some p.2:=by simp [qo,List.find?_cons,e]
theorem uP {p:κ×V}{r:List (κ×V)}{k:κ}(e:¬ p.1=k):qo (p::r) k=qo r k:=by simp [qo,List.find?_cons,e]
theorem wH (k:κ):∀ kvs:List (κ×V),(kvs.any fun kv=>decide (kv.1=k))=(qo kvs k).isSome
 | []=>rfl
 | p::r=>by
  rw [List.any_cons]
  by_cases e:p.1=k
  ·simp only [ww e,decide_eq_true e,Bool.true_or,Option.isSome_some]
  ·rw [uP e,decide_eq_false e,Bool.false_or];exact wH k r
theorem y6 (kvs:List (κ×V)) (k:κ) (v:V):(qv kvs k v).length<=kvs.length+1:=by
 unfold qv
 split
 ·rw [List.length_map];omega
 ·rw [List.length_append,List.length_cons,List.length_nil];omega
theorem yh {kvs:List (κ×V)}{k:κ}(v:V) (h:qo kvs k=none):qv kvs k v=kvs++[(k,v)]:=by
 unfold qv
 rw [wH,h]
 exact if_neg (by decide)
theorem zX.isSome_eq {o:Option V}{u:Option Value}(r:zX o u):o.isSome=u.isSome:=by
 cases o with
 | none=>cases u with
  | none=>rfl
  | some _=>exact (show False from r).elim
 | some _=>cases u with
  | none=>exact (show False from r).elim
  | some _=>rfl
theorem zX.getD {o:Option V}{u:Option Value}{d:V}{d':Value}(r:zX o u) (rd:jy d d'):jy (o.getD d) (u.getD d'):=by
 cases o with
 | none=>cases u with
  | none=>exact rd
  | some _=>exact (show False from r).elim
 | some _=>cases u with
  | none=>exact (show False from r).elim
  | some _=>exact r
theorem KV.val {kvs:List (κ×V)}{vs:List (κ×Value)}(r:KV kvs vs) (k:κ):zX (qo kvs k) (valueAt vs k):=by
 unfold KV at r
 induction r with
 | nil=>exact True.intro
 | @cons p q ps qs h t ih =>
  obtain ⟨h1,h2⟩:=h
  by_cases e:p.1=k
  ·have e':q.1=k:=h1.symm.trans e
   have b:valueAt (q::qs) k=some q.2:=by simp [valueAt,List.find?_cons,e']
   rw [ww e,b];exact h2
  ·have e':¬ q.1=k:=fun z=>e (h1.trans z)
   have b:valueAt (q::qs) k=valueAt qs k:=by simp [valueAt,List.find?_cons,e']
   rw [uP e,b];exact ih
theorem KV.any {kvs:List (κ×V)}{vs:List (κ×Value)}(r:KV kvs vs) (k:κ):(kvs.any fun kv=>decide (kv.1=k))=vs.any fun kv=>decide (kv.1=k):=by
 unfold KV at r
 induction r with
 | nil=>rfl
 | cons h t ih=>rw [List.any_cons,List.any_cons,ih,h.1]
theorem KV.repl {kvs:List (κ×V)}{vs:List (κ×Value)}(r:KV kvs vs) (k:κ) {y:V}{u:Value}(ry:jy y u) :
  KV (kvs.map fun kv=>if kv.1=k then (kv.1,y) else kv) (vs.map fun kv=>if kv.1=k then (kv.1,u) else kv):=by
 unfold KV at r ⊢
 induction r with
 | nil=>exact .nil
 | @cons p q ps qs h t ih =>
  rw [List.map_cons,List.map_cons]
  refine .cons ?_ ih
  obtain ⟨h1,h2⟩:=h
  by_cases e:p.1=k
  ·rw [if_pos e,if_pos (h1.symm.trans e)];exact ⟨h1,ry⟩
  ·rw [if_neg e,if_neg (fun z=>e (h1.trans z))];exact ⟨h1,h2⟩
theorem KV.put {kvs:List (κ×V)}{vs:List (κ×Value)}(r:KV kvs vs) (k:κ) {y:V}{u:Value}(ry:jy y u):KV (qv kvs k y) (stored vs k u):=by
 unfold qv stored
 rw [r.any k]
 by_cases e:(vs.any fun kv=>decide (kv.1=k))=true
 ·rw [if_pos e,if_pos e];exact r.repl k ry
 ·rw [if_neg e,if_neg e];exact Paired.snoc r ⟨rfl,ry⟩
theorem KV.length {kvs:List (κ×V)}{vs:List (κ×Value)}(r:KV kvs vs):kvs.length=vs.length:=Paired.length r
end
theorem kM {P:Program}{w:World}{k:Key}{u:Value}(r:jy (kV k) u):(jx P w).is k u=true:=by
 cases k with
 | inl i=>obtain ⟨t,e⟩:=(show ∃ t,u=Value.int i t from r);subst e;exact Ji P w i t
 | inr x=>obtain ⟨t,e⟩:=(show ∃ t,u=Value.str x t from r);subst e;exact J9 P w x t
theorem kL {P:Program}{w:World}:∀ {ks:List Key}{us:List Value},jw (ks.map kV) us->ItemsAre (jx P w) ks us
 | [],_,r=>by rw [List.map_nil] at r;cases r;exact .nil
 | k::ks,_,r=>by
  rw [List.map_cons] at r
  cases r with
  | cons h t=>exact .cons (kM h) (kL t)
abbrev KT (H:Hp):List (List Key×V)->List (List Key×Addr×Value)->Prop:=Paired fun p q=>p.1=q.1/\H q.2.1=some (.tup (p.1.map kV))/\jy p.2 q.2.2
theorem KT.val {H:Hp}{kvs:List (List Key×V)}{xs:List (List Key×Addr×Value)}(r:KT H kvs xs) (k:List Key):zX (qo kvs k) ((atKey xs k).map (·.2)):=by
 induction r with
 | nil=>exact True.intro
 | @cons p q ps qs h t ih =>
  obtain ⟨h1,_,h2⟩:=h
  by_cases e:p.1=k
  ·have e':q.1=k:=h1.symm.trans e
   have b:atKey (q::qs) k=some q.2:=by simp [atKey,List.find?_cons,e']
   rw [ww e,b];exact h2
  ·have e':¬ q.1=k:=fun z=>e (h1.trans z)
   have b:atKey (q::qs) k=atKey qs k:=by simp [atKey,List.find?_cons,e']
   rw [uP e,b];exact ih
theorem KT.repl {H:Hp}{kvs:List (List Key×V)}{xs:List (List Key×Addr×Value)}(r:KT H kvs xs) (k:List Key) {y:V}{u:Value}(ry:jy y u) :
  KT H (kvs.map fun kv=>if kv.1=k then (kv.1,y) else kv) (xs.map (putAt k u)):=by
 induction r with
 | nil=>exact .nil
 | @cons p q ps qs h t ih =>
  rw [List.map_cons,List.map_cons]
  refine .cons ?_ ih
  obtain ⟨h1,h2,h3⟩:=h
  unfold putAt
  by_cases e:p.1=k
  ·rw [if_pos e,if_pos (h1.symm.trans e)];exact ⟨h1,h2,ry⟩
  ·rw [if_neg e,if_neg (fun z=>e (h1.trans z))];exact ⟨h1,h2,h3⟩
theorem KT.put {H:Hp}{kvs:List (List Key×V)}{xs:List (List Key×Addr×Value)}(r:KT H kvs xs) (k:List Key) {b:Addr}{y:V}{u:Value}(hb:H b=some (.tup (k.map kV))) (ry:jy y u) :
  KT H (qv kvs k y) (storedH xs k b u):=by
 have e:(kvs.any fun kv=>decide (kv.1=k))=(atKey xs k).isSome:=by
  rw [wH,(r.val k).isSome_eq,Option.isSome_map]
 unfold qv storedH
 rw [e]
 by_cases q:(atKey xs k).isSome=true
 ·rw [if_pos q,if_pos q];exact r.repl k ry
 ·rw [if_neg q,if_neg q];exact Paired.snoc r ⟨rfl,hb,ry⟩
theorem KT.keeps {H H':Hp}{kvs:List (List Key×V)}{xs:List (List Key×Addr×Value)}(r:KT H kvs xs) (ht:∀ b ys,H b=some (.tup ys)->H' b=some (.tup ys)):KT H' kvs xs :=
 Paired.mapP r fun _ _ z=>⟨z.1,ht _ _ z.2.1,z.2.2⟩
section
variable {P:Program}{w:World}{H:Hp}{h:Heap}{a:Addr}
theorem Vr {u:HO}(ok:HOk P w H h) (e:Rd H a u):jW P w H h a u:=e.ok ok
theorem uk {kvs:List (Key×V)}(ok:HOk P w H h) (e:Rd H a (.dK kvs)):kvs.length<=sizeLine/\(a == sysModules)=false/\∃ vs,KV kvs vs/\h.DictOf (jx P w) a vs :=
 show jW P w H h a (.dK kvs) from Vr ok e
theorem ZA {kvs:List (Key×V)}(ok:HOk P w H h) (e:H a=some (.dK kvs)):kvs.length<=sizeLine/\(a == sysModules)=false/\∃ vs,KV kvs vs/\h.DictOf (jx P w) a vs:=uk ok (.inl e)
theorem gz {ks:List Key}(ok:HOk P w H h) (e:H a=some (.tup (ks.map kV))):(tupleKind (jx P w)).is h ks a:=by
 obtain ⟨_,its,r,o,h1,h2,n,h3⟩:=(show jW P w H h a (.tup (ks.map kV)) from ok a _ e)
 exact ⟨o,its.toArray,n,h1,h2,h3,by simpa using kL r⟩
theorem JN {kvs:List (List Key×V)}(ok:HOk P w H h) (e:Rd H a (.dT kvs)):kvs.length<=sizeLine/\(a == sysModules)=false /\
  ∃ xs,KT H kvs xs/\h.DictOfH (tupleKind (jx P w)) a xs:=by
 obtain ⟨z,y,xs,r,o,es,ep,h1,h2,h3,h4,h5⟩:=(show jW P w H h a (.dT kvs) from Vr ok e)
 refine ⟨z,y,xs,r,o,es,ep,h1,h2,h3,h4,fun x hx=>?_,h5⟩
 have all:∀ {l:List (List Key×V)} {m:List (List Key×Addr×Value)},KT H l m->∀ x∈m,(tupleKind (jx P w)).is h x.1 x.2.1:=by
  intro l m q
  induction q with
  | nil=>intro x hx;exact nomatch hx
  | @cons p q ps qs hq t ih =>
   intro x hx
   rcases List.mem_cons.mp hx with e | hx
   ·subst e
    exact gz ok (by rw [<- hq.1];exact hq.2.1)
   ·exact ih x hx
 exact all r x hx
theorem Ux {kvs:List (List Key×V)}(ok:HOk P w H h) (e:H a=some (.dT kvs)):kvs.length<=sizeLine/\(a == sysModules)=false /\
  ∃ xs,KT H kvs xs/\h.DictOfH (tupleKind (jx P w)) a xs:=JN ok (.inl e)
end
def xh (H:Hp) (a:Addr) (y:V) (r:Option V):Prop :=
 (∃ kvs k,Rd H a (.dK kvs)/\y=kV k/\r=qo kvs k)\/∃ kvs k b,Rd H a (.dT kvs)/\y = .ref b/\H b=some (.tup (k.map kV))/\r=qo kvs k
def wV (H:Hp) (a:Addr) (y v:V) (H':Hp):Prop :=
 (∃ kvs k,H a=some (.dK kvs)/\y=kV k/\kvs.length<sizeLine/\H'=upd H a (.dK (qv kvs k v))) \/
 ∃ kvs k b,H a=some (.dT kvs)/\y = .ref b/\H b=some (.tup (k.map kV))/\kvs.length<sizeLine/\H'=upd H a (.dT (qv kvs k v))
theorem xh.k {H:Hp}{a:Addr}{kvs:List (Key×V)}{k:Key}(e:H a=some (.dK kvs)):xh H a (kV k) (qo kvs k):=.inl ⟨kvs,k,.inl e,rfl,rfl⟩
theorem wV.k {H:Hp}{a:Addr}{kvs:List (Key×V)}{k:Key}{v:V}(e:H a=some (.dK kvs)) (hl:kvs.length<sizeLine):wV H a (kV k) v (upd H a (.dK (qv kvs k v))):=.inl ⟨kvs,k,e,rfl,hl,rfl⟩
section
variable {X:Cx}{pins:List (Addr×Obj)}{σ:St}{H:Hp}{s:Shared}{a:Addr}{y v:V}{u r:Value}{o:Option V}{A:Around}{E:Value->Shared->Prop}
theorem Inv.big (I:Inv X pins σ H s):sysModules<s.heap.objs.size:=by
 have h:mainGlobals<s.heap.objs.size:=(I.mod.glob.keeps I.bk).lt
 exact Nat.lt_trans (by decide) h
theorem Zg {Q:Value->Shared->Prop}(hu:A.units+1<cLine) (I:Inv X pins σ H s) (g:xh H a y (some v)) (ry:jy y u) (h:∀ w' s',Inv X pins σ H s'->jy v w'->Q w' s') :
  wpAny (model X.prog X.w) A (getItem (.ref a) u) Q E s:=by
 rcases g with ⟨kvs,k,e,ey,l⟩ | ⟨kvs,k,b,e,ey,eb,l⟩
 ·subst ey
  obtain ⟨z,hd,vs,rel,dd⟩:=uk I.hok e
  obtain ⟨w',hw,rw'⟩:=zX.some_of (v:=v) (o:=valueAt vs k) (by rw [l];exact rel.val k)
  exact wpAny_getItem_of (kM ry) dd.mapOf hw (h w' _ (I.tok _) rw')
 ·subst ey
  cases (show u=Value.ref b from ry)
  obtain ⟨z,hd,xs,rel,dd⟩:=JN I.hok e
  obtain ⟨w',hw,rw'⟩:=zX.some_of (v:=v) (o:=(atKey xs k).map (·.2)) (by rw [l];exact rel.val k)
  obtain ⟨p,hp,hp2⟩:=Option.map_eq_some_iff.mp hw
  refine wpAny_getItem_heap (tupleKind_room_in1 hu) (gz I.hok eb) dd hp ?_
  rw [hp2]
  exact h w' _ (I.tok _) rw'
theorem gR {h':Heap}{t':Nat}{ob:HO}(I:Inv X pins σ H s) (mu:Mut (H a)) (hs:Heap.SameBut a s.heap h') (he:∃ q,h'.get? a=some q) (new:jW X.prog X.w (upd H a ob) h' a ob) :
  Inv X pins σ (upd H a ob) { s with heap:=h',toks:=t' } :=
 I.write (x:=a) (e:=a) mu (.inl rfl) (fun b q hb z=>(hs.2 b hb).trans z) he new
theorem Qm {P:Program}{w:World}{H':Hp}{h':Heap}{kvs:List (Key×V)}{vs:List (Key×Value)}(z:kvs.length<=sizeLine) (hd:(a == sysModules)=false) (rel:KV kvs vs) (dd:h'.DictOf (jx P w) a vs) :
  jW P w H' h' a (.dK kvs):=⟨z,hd,vs,rel,dd⟩
theorem XT {H':Hp}{Q:Unit->Shared->Prop}(hu:A.units+1<cLine) (I:Inv X pins σ H s) (g:wV H a y v H') (ry:jy y u) (rv:jy v r) (h:∀ s',Inv X pins σ H' s'->Q () s') :
  wpAny (model X.prog X.w) A (setItem (.ref a) u r) Q E s:=by
 rcases g with ⟨kvs,k,e,ey,l,eH⟩ | ⟨kvs,k,b,e,ey,eb,l,eH⟩
 ·subst ey eH
  obtain ⟨z,hd,vs,rel,dd⟩:=ZA I.hok e
  have hz:vs.length<=sizeLine:=by rw [<- rel.length];exact z
  have hl:(qv kvs k v).length<=sizeLine:=by have:=y6 kvs k v;omega
  refine wpAny_setItem_pairs (hsz:=hz) (kM ry) dd fun h' dd' hs=>h _ ?_
  have he:∃ q,h'.get? a=some q:=let ⟨q,_,_,hq,_⟩:=dd';⟨q,hq⟩
  exact gR I (by rw [e];exact True.intro) hs he (Qm hl hd (rel.put k rv) dd')
 ·subst ey eH
  cases (show u=Value.ref b from ry)
  obtain ⟨z,hd,xs,rel,dd⟩:=Ux I.hok e
  have hz:xs.length<=sizeLine:=by rw [<- Paired.length rel];exact z
  have hl:(qv kvs k v).length<=sizeLine:=by have:=y6 kvs k v;omega
  refine wpAny_setItem_heap (hsz:=hz) (tupleKind_room_in1 hu) (gz I.hok eb) dd fun h' dd' hs=>h _ ?_
  obtain ⟨q,es,ep,hq,h2,h3,h4,_,h5⟩:=dd'
  refine gR I (by rw [e];exact True.intro) hs ⟨q,hq⟩ ⟨hl,hd,_,(rel.put k eb rv).keeps fun c ys ec=>?_,q,es,ep,hq,h2,h3,h4,h5⟩
  rw [j5 (jk ec e (fun z=>nomatch z))]
  exact ec
end
section
variable {X:Cx}{pins:List (Addr×Obj)}{σ:St}{H:Hp}{s:Shared}{a:Addr}{kvs:List (Key×V)}{k:Key}{u:Value}{A:Around}{E:Value->Shared->Prop}
end
def UR (i:Expr):Prop:=∀ ov iv,subscripted i false ov iv=operate [ov,iv] (getItem ov iv)
theorem YD {prog:Program}{w:World}{A:Around}{E:Value->Shared->Prop}{s:Shared}{env:Env}{value slice:Expr}{pos:Pos}{T id:String}{Q:Value->Shared->Prop}
  (hl:typeLookup (.type T) "__getitem__" = pure (some (.builtin id))) (hs:UR slice)
  (h:wpAny (model prog w) A (eval value env) (fun o s₁=>wpAny (model prog w) A (eval slice env) (fun i s₂=>s₂.TypeIs o T/\wpAny (model prog w) A (getItem o i) Q E s₂) E s₁) E s) :
  wpAny (model prog w) A (eval (.Subscript value slice pos) env) Q E s:=by
 refine Subscript_ (wpAny_mono h (fun o s₁ h₁=>wpAny_mono h₁ (fun i s₂ h₂=>?_) fun _ _ x=>x) fun _ _ x=>x)
 obtain ⟨hT,h₂⟩:=h₂
 unfold subscriptTail
 refine wpAny_bind ?_
 rw [getitemInPython_of_ne hT.not_modules]
 refine wpAny_bind (wpAny_specialOf hT hl ?_)
 have fin:wpAny (model prog w) A (subscripted slice false o i) (fun r s₃=>wpAny (model prog w) A (letTemporaryGo value o r >>= fun _=>pure r) Q E s₃) E s₂:=by
  rw [hs o i]
  exact wpAny_operating (wpAny_mono h₂ (fun r s₃ h₃=>wpAny_bind (wpAny_letTemporaryGo (wpAny_pure h₃))) fun _ _ x=>x)
 first
  | exact wpAny_pure (wpAny_bind fin)
  | exact wpAny_bind (wpAny_pure (wpAny_bind fin))
  | exact wpAny_bind fin
theorem JK {X:Cx}{pins:List (Addr×Obj)}{σ:St}{H:Hp}{s:Shared}{a:Addr}{y:V}{o:Option V}(I:Inv X pins σ H s) (g:xh H a y o):s.TypeIs (.ref a) "dict":=by
 rcases g with ⟨kvs,k,e,_,_⟩ | ⟨kvs,k,b,e,_,_,_⟩
 ·obtain ⟨_,_,vs,_,dd⟩:=uk I.hok e
  exact dd.typeIs
 ·obtain ⟨_,_,xs,_,dd⟩:=JN I.hok e
  exact dd.typeIs
def W0 (td ty:TE):TE:=fun σ H Q=>td σ H fun x H1=>ty σ H1 fun y H2=>∃ a v,x = .ref a/\xh H2 a y (some v)/\Q v H2
def Uw (td ty tv:TE):TS:=fun D σ H=>tv σ H fun v H1=>td σ H1 fun x H2=>ty σ H2 fun y H3=>∃ a H4,x = .ref a/\wV H3 a y v H4/\D.nx σ H4
section
variable {X:Cx}{o i e value:Expr}{pos pos' tpos:Pos}{td ty tv:TE}
theorem jR (hu:X.A.units+1<cLine) (ho:PE X o td) (hi:PE X i ty) (hs:UR i):PE X (.Subscript o i pos) (W0 td ty):=by
 intro pins s σ H Q I h
 refine YD PySem.F.slot_dict_getitem.lookup hs (thn (ho pins s σ H _ I h) fun u s1 ⟨x,H1,I1,rx,q1⟩=>thn (hi pins s1 σ H1 _ I1 q1) fun iv s2 ⟨y,H2,I2,ry,a,v,ex,g,q2⟩=>?_)
 subst ex
 obtain rfl:u=Value.ref a:=rx
 exact ⟨JK I2 g,Zg hu I2 g ry fun w' s3 I3 rw'=>⟨v,H2,I3,rw',q2⟩⟩
theorem ym (hu:X.A.units+1<cLine) (ho:PE X o td) (hi:PE X i ty) (hv:PE X value tv) (hs:swapsWith value (some (.Subscript o i pos')) pos.line X.env=pure false) :
  PS X (.Assign [.Subscript o i pos'] value pos) (Uw td ty tv):=by
 intro pins s σ H D I h
 refine wpAny_Assign_Subscript (thn (hv pins s σ H _ I h) fun r s1 ⟨v,H1,I1,rv,q1⟩=>thn (ho pins s1 σ H1 _ I1 q1) fun u s2 ⟨x,H2,I2,rx,q2⟩=>thn (hi pins s2 σ H2 _ I2 q2) fun iv s3 ⟨y,H3,I3,ry,a,H4,ex,g,q3⟩=>?_) hs
 subst ex
 obtain rfl:u=Value.ref a:=rx
 exact XT hu I3 g ry rv fun s4 I4=>⟨σ,H4,I4,q3⟩
end
theorem Jq {P:Program}{w:World}{H:Hp}(h:Heap) (hb:sysModules<h.objs.size):jW P w H (h.push { cls:=.type "dict",data:=.dict #[] }) h.objs.size (.dK []) :=
 ⟨Nat.zero_le _,beq_eq_false_iff_ne.mpr (Ne.symm (Nat.ne_of_lt hb)),[],.nil,Heap.DictOf.new h⟩
def Um:TE:=fun _ H Q=>∀ p,H p=none->Q (.ref p) (upd H p (.dK []))
section
variable {X:Cx}{pos:Pos}
theorem ve:PE X (.Dict [] [] pos) Um:=fun pins s σ H Q I h =>
 wpAny_Dict_empty ⟨.ref s.heap.objs.size,_,I.laid (a:=s.heap.objs.size) (o:=.dK []) (t':=s.toks) (fun _ _ q=>Heap.get?_push_of_some _ q) (Nat.le_refl _) (Jq s.heap I.big),rfl,h _ (I.hok.fresh (Nat.le_refl _))⟩
end
def Qk:List (TE×TE)->St->Hp->(List (V×V)->Hp->Prop)->Prop
 | [],_,H,Q=>Q [] H
 | (tk,tv)::r,σ,H,Q=>tk σ H fun x H1=>tv σ H1 fun y H2=>Qk r σ H2 fun ps H3=>Q ((x,y)::ps) H3
abbrev VV:List (V×V)->List (Value×Value)->Prop:=Paired fun p q=>jy p.1 q.1/\jy p.2 q.2
def PPs (X:Cx) (pos:Pos) (keys:List (Option Expr)) (values:List Expr) (trs:List (TE×TE)):Prop :=
 ∀ (pins:List (Addr×Obj)) (s:Shared) (σ:St) (H:Hp) (Q:List (V×V)->Hp->Prop),Inv X pins σ H s->Qk trs σ H Q ->
  wpAny (model X.prog X.w) X.A (evalPairs (pairTrees keys values X.env pos)) (fun vs s'=>∃ ps H',Inv X pins σ H' s'/\VV ps vs/\Q ps H') X.xe s
theorem Yy {X:Cx}{pos:Pos}:PPs X pos [] [] []:=fun pins s σ H Q I h=>pairTrees_nil_walk ⟨[],H,I,.nil,h⟩
theorem wv {X:Cx}{pos:Pos}{k v:Expr}{ks:List (Option Expr)}{vs:List Expr}{tk tv:TE}{trs:List (TE×TE)}(hk:PE X k tk) (hv:PE X v tv) (hr:PPs X pos ks vs trs) :
  PPs X pos (some k::ks) (v::vs) ((tk,tv)::trs):=fun pins s σ H Q I h =>
 pairTrees_cons_walk (thn (hk pins s σ H _ I h) fun u s1 ⟨x,H1,I1,rx,q1⟩=>thn (hv pins s1 σ H1 _ I1 q1) fun w2 s2 ⟨y,H2,I2,ry,q2⟩ =>
  thn (hr pins s2 σ H2 _ I2 q2) fun ws s3 ⟨ps,H3,I3,rel,q3⟩=>⟨(x,y)::ps,H3,I3,.cons ⟨rx,ry⟩ rel,q3⟩)
def qM (kvs more:List (Key×V)):List (Key×V):=more.foldl (fun acc kv=>qv acc kv.1 kv.2) kvs
theorem KV.merge:∀ {more:List (Key×V)}{rs:List (Key×Value)}{kvs:List (Key×V)}{vs:List (Key×Value)},KV more rs->KV kvs vs->KV (qM kvs more) (merged vs rs):=by
 intro more rs kvs vs r
 unfold KV at r
 induction r generalizing kvs vs with
 | nil=>intro q;exact q
 | @cons p q ps qs h t ih =>
  intro r0
  have e:KV (qv kvs p.1 p.2) (stored vs q.1 q.2):=by
   have:=r0.put p.1 h.2
   rw [<- h.1];exact this
  exact ih e
theorem zm:∀ (more kvs:List (Key×V)),(qM kvs more).length<=kvs.length+more.length
 | [],kvs=>by show kvs.length<=kvs.length+0;omega
 | p::r,kvs=>by
  have h1:=zm r (qv kvs p.1 p.2)
  have h2:=y6 kvs p.1 p.2
  show (qM (qv kvs p.1 p.2) r).length<=_
  rw [List.length_cons];omega
theorem wa {P:Program}{w:World}:∀ {kvs:List (Key×V)}{ws:List (Value×Value)},VV (kvs.map fun kv=>(kV kv.1,kv.2)) ws->∃ rs,Carries (jx P w) ws rs/\KV kvs rs
 | [],_,r=>by rw [List.map_nil] at r;cases r;exact ⟨[],True.intro,.nil⟩
 | p::kvs,_,r=>by
  rw [List.map_cons] at r
  cases r with
  | @cons a b as bs h t =>
   obtain ⟨rs,c,q⟩:=wa (P:=P) (w:=w) t
   obtain ⟨b1,b2⟩:=b
   exact ⟨(p.1,b2)::rs,⟨kM h.1,rfl,c⟩,.cons ⟨rfl,h.2⟩ q⟩
def UU (trs:List (TE×TE)):TE:=fun σ H Q=>∀ p,H p=none->Qk trs σ (upd H p (.dK [])) fun ps H2=>H2 p=some (.dK [])/\∃ kvs:List (Key×V),ps=kvs.map (fun kv=>(kV kv.1,kv.2))/\kvs.length<=15/\Q (.ref p) (upd H2 p (.dK (qM [] kvs)))
theorem Vg {X:Cx}{pos:Pos}{keys:List (Option Expr)}{values:List Expr}{trs:List (TE×TE)}(h:PPs X pos keys values trs) (hall:keys.all (·.isSome)=true) (hl:keys.length=values.length) (h0:keys≠[])
  (h15:keys.length<=15):PE X (.Dict keys values pos) (UU trs):=by
 intro pins s σ H Q I q
 have hn:=I.hok.fresh (Nat.le_refl s.heap.objs.size)
 have I1:=I.laid (a:=s.heap.objs.size) (o:=.dK []) (h':=s.heap.push { cls:=.type "dict",data:=.dict #[] }) (t':=s.toks) (fun _ _ q=>Heap.get?_push_of_some _ q) (Nat.le_refl _) (Jq s.heap I.big)
 refine wpAny_Dict_walk (knd:=jx X.prog X.w) hall hl h0 h15 (thn (h pins _ σ _ _ I1 (q _ hn)) fun ws s2 ⟨ps,H2,I2,rel,e,kvs,ep,lk,q2⟩=>?_)
 subst ep
 obtain ⟨rs,c,rk⟩:=wa (P:=X.prog) (w:=X.w) rel
 obtain ⟨z,hd,vs0,r0,dd⟩:=ZA I2.hok e
 cases r0
 refine ⟨rs,c,dd,fun h' dd' hs=>⟨.ref s.heap.objs.size,_,?_,rfl,q2⟩⟩
 have hz:(qM [] kvs).length<=sizeLine:=by
  have h1:=zm kvs []
  rw [List.length_nil] at h1
  rw [sizeLine_eq];omega
 have he:∃ q,h'.get? s.heap.objs.size=some q:=let ⟨q,_,_,hq,_⟩:=dd';⟨q,hq⟩
 exact gR I2 (by rw [e];exact True.intro) hs he (Qm hz hd (rk.merge .nil) dd')
structure M2 (X:Cx) (o:Expr) (m:Str) (apos:Pos) (e f:Expr) (cpos:Pos):Prop where
 base:attributeBase o m X.env (eval o X.env)=eval o X.env
 few:((backTo cpos (starEach [e,f] X.env)).all (fun x=>!x.1) && (backToKw cpos (keywordEach [] X.env)).all (fun x=>x.1.isSome)
  && decide (([e,f]:List Expr).length+([]:List Keyword).length+(if ([]:List Keyword).isEmpty then 0 else 1)<30))=true
 line:(apos.endLine == cpos.line)=true
 trees:backTo cpos (starEach [e,f] X.env)=[(false,eval e X.env),(false,eval f X.env)]
def IsD (H:Hp) (a:Addr):Prop:=(∃ kvs,Rd H a (.dK kvs))\/∃ kvs,Rd H a (.dT kvs)
theorem Up {X:Cx}{pins:List (Addr×Obj)}{σ:St}{H:Hp}{s:Shared}{a:Addr}(I:Inv X pins σ H s) (d:IsD H a) :
  s.TypeIs (.ref a) "dict" /\ (∀ b,Value.ref a = .ref b->∃ ob,s.heap.get? b=some ob/\ob.dict=none)/\(a == sysModules)=false:=by
 rcases d with ⟨kvs,e⟩ | ⟨kvs,e⟩
 ·obtain ⟨_,hd,vs,_,dd⟩:=uk I.hok e
  refine ⟨dd.typeIs,fun b q=>?_,hd⟩
  cases q
  obtain ⟨ob,_,_,h1,h2,_⟩:=dd
  exact ⟨ob,h1,h2.2.1⟩
 ·obtain ⟨_,hd,xs,_,dd⟩:=JN I.hok e
  refine ⟨dd.typeIs,fun b q=>?_,hd⟩
  cases q
  obtain ⟨ob,_,_,h1,h2,_⟩:=dd
  exact ⟨ob,h1,h2.2.1⟩
section
variable {X:Cx}{pins:List (Addr×Obj)}{σ:St}{H:Hp}{s:Shared}{a:Addr}{y d:V}{u r:Value}{o:Option V}{A:Around}{E:Value->Shared->Prop}
theorem U1 {Q:Value->Shared->Prop}(hu:A.units+1<cLine) (I:Inv X pins σ H s) (g:xh H a y o) (ry:jy y u) (rd:jy d r) (h:∀ w' s',Inv X pins σ H s'->jy (o.getD d) w'->Q w' s') :
  wpAny (model X.prog X.w) A (call (.builtin "dict.get") [.ref a,u,r]) Q E s:=by
 rcases g with ⟨kvs,k,e,ey,l⟩ | ⟨kvs,k,b,e,ey,eb,l⟩
 ·subst ey
  obtain ⟨z,hd,vs,rel,dd⟩:=uk I.hok e
  refine call_meetsIn PySem.F.slot_dict_get dd.typeIs PySem.F.entry_dict_get (PySem.F.args_dict_get_3 _ _ _) (meets_dict_get_default (jx X.prog X.w) a (kM ry) hd r) ⟨_,dd.mapOf,h _ _ (I.tok _) ?_⟩
  rw [l]
  exact (rel.val k).getD rd
 ·subst ey
  cases (show u=Value.ref b from ry)
  obtain ⟨z,hd,xs,rel,dd⟩:=JN I.hok e
  refine call_meetsIn PySem.F.slot_dict_get dd.typeIs PySem.F.entry_dict_get (PySem.F.args_dict_get_3 _ _ _) (meetsH_dict_get_default (tupleKind (jx X.prog X.w)) a b hd r) ⟨tupleKind_room_in1 hu,k,xs,gz I.hok eb,dd,h _ _ (I.tok _) ?_⟩
  rw [l]
  exact (rel.val k).getD rd
end
def VC (td ty tx:TE):TE:=fun σ H Q=>td σ H fun x H1=>∃ a,x = .ref a/\IsD H1 a/\ty σ H1 fun y H2=>tx σ H2 fun z H3=>∃ o,xh H3 a y o/\Q (o.getD z) H3
section
variable {X:Cx}{o e f:Expr}{apos cpos:Pos}{td ty tx:TE}
theorem Jd (hu:X.A.units+1<cLine) (ho:PE X o td) (he:PE X e ty) (hf:PE X f tx) (m:M2 X o "get" apos e f cpos):PE X (.Call (.Attribute o "get" apos) [e,f] [] cpos) (VC td ty tx):=by
 intro pins s σ H Q I h
 refine wpAny_Call_method m.base m.few m.line PySem.F.plainAttrs_dict PySem.F.slot_dict_get PySem.F.type_dict_get (thn (ho pins s σ H _ I h) fun u s1 ⟨x,H1,I1,rx,a,ex,d,q1⟩=>?_)
 subst ex
 obtain rfl:u=Value.ref a:=rx
 obtain ⟨t1,t2,_⟩:=Up I1 d
 refine ⟨t1,t2,?_⟩
 rw [m.trees]
 refine Calls.callWith_builtin rfl (Calls.evalArgs_plain (Calls.spliced_cons (thn (he pins s1 σ H1 _ I1 q1) fun iv s2 ⟨y,H2,I2,ry,q2⟩ =>
  Calls.spliced_cons (thn (hf pins s2 σ H2 _ I2 q2) fun fv s3 ⟨z,H3,I3,rz,ov,g,q3⟩=>Calls.spliced_nil ?_))))
 exact U1 hu I3 g ry rz fun w' s4 I4 rw'=>⟨_,H3,I4,rw',q3⟩
end
section
variable {X:Cx}{pins:List (Addr×Obj)}{σ:St}{H:Hp}{s:Shared}{a:Addr}{kvs:List (Key×V)}{A:Around}{E:Value->Shared->Prop}
end
section
variable {X:Cx}{pins:List (Addr×Obj)}{σ:St}{H:Hp}{s:Shared}{a:Addr}{y:V}{u:Value}{A:Around}{E:Value->Shared->Prop}
end
end L2
namespace Att
open PySem PySem.W PySem.Calls PyProof.Rows
section
variable {prog:Program}{w:World}{A:Around}{E:Value->Shared->Prop}{s:Shared}{K:Frag}
end
end Att
namespace L2
open PySem PySem.Spec PyProof.Rows
end L2
namespace L2
open PySem PySem.Spec PyProof.Rows
end L2
namespace L2
open PySem PySem.Spec PyProof.Rows
section
variable {P:Program}{w:World}{K:PySem.W.Frag}{mg:Str->Option Value}{base:Heap}
end
section
variable {X:Cx}
end
section
variable {κ:Type} [DecidableEq κ]
theorem uG:∀ {l:List κ}{k:κ},l.Nodup->¬ k∈l->(l++[k]).Nodup
 | [],k,_,_=>by simp
 | a::r,k,h,hk=>by
  obtain ⟨h1,h2⟩:=List.nodup_cons.mp h
  show (a::(r++[k])).Nodup
  refine List.nodup_cons.mpr ⟨fun m=>?_,uG h2 fun m=>hk (List.mem_cons.mpr (Or.inr m))⟩
  rcases List.mem_append.mp m with q | q
  ·exact h1 q
  ·exact hk (List.mem_cons.mpr (Or.inl (List.mem_singleton.mp q).symm))
end
end L2
end
section
namespace L2
open PySem PySem.Spec PySem.W PyProof.Rows
section
variable {prog:Program}{w:World}{A:Around}{E:Value->Shared->Prop}{s:Shared}
theorem Js {its:List Value}{κ:SortKind}{lt:Nat->Nat->Bool}{G:List Nat->Prop}{Q:Value->Shared->Prop}(h64:its.length<64)
  (hk:2<=its.length->∀ h',(∀ b o,s.heap.get? b=some o->h'.get? b=some o)->∀ Q':SortKind->Shared->Prop,Q' κ { s with heap:=h' }->wpAny (model prog w) A.in1.in1 (keyKind' its.toArray) Q' (fun _ _=>False) { s with heap:=h' })
  (hc:∀ h',(∀ b o,s.heap.get? b=some o->h'.get? b=some o)->∀ i j,i<its.length->j<its.length->∀ Q':Bool->Shared->Prop,Q' (lt i j) { s with heap:=h' } ->
   wpAny (model prog w) A.in1.in1 (keyLt' κ (its.getD i Value.none) (its.getD j Value.none)) Q' (fun _ _=>False) { s with heap:=h' })
  (hs:2<=its.length->qH lt its.length (kas_sort its.length) fun p=>qa its.length p/\G p.toList) (h1:its.length<2->G (List.range its.length))
  (h:∀ (ix:List Nat) (h':Heap) (n:Nat),ix.Perm (List.range its.length)->G ix->(∀ b o,s.heap.get? b=some o->h'.get? b=some o) ->
   h'.get? (s.heap.objs.size)=some (seqObj "list" (ix.map fun i=>its.getD i Value.none).toArray n)->Q (.ref (s.heap.objs.size)) { s with heap:=h' }) :
  wpAny (model prog w) A.in1 (newList its >>= fun l=>holding [l] (call (.builtin "list.sort") [l] []) >>= fun _=>ret l) (fun fin s'=>∃ v,fin = .done (.ret v)/\Q v s') E s:=by
 refine wpAny_bind (wpAny_newList ?_ (by rw [sizeLine_eq];omega))
 have ho:(s.heap.push (seqObj "list" its.toArray 0)).get? (s.heap.objs.size)=some (seqObj "list" its.toArray 0):=Heap.get?_push_size _ rfl
 have keep:∀ b o,s.heap.get? b=some o->(s.heap.push (seqObj "list" its.toArray 0)).get? b=some o:=fun b o q=>by
  exact Heap.get?_push_of_some _ q
 show wpAny _ _ _ _ _ { s with heap:=s.heap.push (seqObj "list" its.toArray 0) }
 refine wpAny_bind (wpAny_holding (wpAny_call_entry slot_list_sort ⟨_,ho,rfl⟩ entry_list_sort ?body (args_list_sort _)))
 case body =>
  generalize hh0:s.heap.push (seqObj "list" its.toArray 0)=h0 at ho keep
  generalize ha:s.heap.objs.size=a at ho h
  have aNew:∀ b o,s.heap.get? b=some o->b≠a:=fun b o q=>by have:=Heap.lt_size q;rw [<- ha];exact Nat.ne_of_lt this
  show wpAny (model prog w) A.in1.in1 (Builtin.«list.sort» ⟨[.ref a],[]⟩) _ _ { s with heap:=h0 }
  rw [list_sort_plain]
  have hal:a<h0.objs.size:=Heap.lt_size ho
  refine wpAny_bind (listItems_at ho rfl ?_)
  refine wpAny_bind (listUpdate_at ho rfl ?_ (by rw [List.size_toArray,sizeLine_eq];omega) (Nat.zero_le _))
  obtain ⟨e1,ho1⟩:∃ e1,(h0.update a (Obj.mapSeq fun _=>(#[]:Array Value))).get? a=some (seqObj "list" #[] e1):=⟨_,get?_update_seq ho (fun _=>#[])⟩
  refine wpAny_bind (seqEpoch_at ho1 rfl ?_)
  refine wpAny_bind (wpAny_newTuple ?_ (by show its.length<=_;rw [sizeLine_eq];omega))
  refine wpAny_bind (wpAny_newList ?_ (Nat.zero_le _))
  refine wpAny_holding ?_
  have ho6:(((h0.update a (Obj.mapSeq fun _=>(#[]:Array Value))).push (seqObj "tuple" its.toArray 0)).push (seqObj "list" #[] 0)).get? a=some (seqObj "list" #[] e1):=by
   rw [Heap.get?_push_ne _ _ _ (by rw [size_push',Heap.size_update];exact Nat.ne_of_lt (Nat.lt_succ_of_lt hal)),Heap.get?_push_ne _ _ _ (by rw [Heap.size_update];exact Nat.ne_of_lt hal)]
   exact ho1
  have keep6:∀ b o,s.heap.get? b=some o->(((h0.update a (Obj.mapSeq fun _=>(#[]:Array Value))).push (seqObj "tuple" its.toArray 0)).push (seqObj "list" #[] 0)).get? b=some o:=fun b o q =>
   Heap.get?_push_of_some _ (Heap.get?_push_of_some _ ((Heap.get?_update_ne _ _ _ _ (aNew b o q)).trans (keep b o q)))
  show wpAny (model prog w) A.in1.in1 _ _ _ { s with heap:=((h0.update a (Obj.mapSeq fun _=>(#[]:Array Value))).push (seqObj "tuple" its.toArray 0)).push (seqObj "list" #[] 0) }
  generalize ((h0.update a (Obj.mapSeq fun _=>(#[]:Array Value))).push (seqObj "tuple" its.toArray 0)).push (seqObj "list" #[] 0)=h6 at ho6 keep6
  dsimp only
  have fin:∀ (ix:List Nat),ix.Perm (List.range its.length)->G ix->∀ out:Array Value,out=(ix.map fun i=>its.getD i Value.none).toArray ->
    ∃ v,PySem.Fin.done (Flow.ret Value.none) = .done (.ret v)/\wpAny (model prog w) A.in1 (do let _ <- pure v;ret (Value.ref a)) (fun fin s'=>∃ v,fin = .done (.ret v)/\Q v s') E { s with heap:=h6.update a (Obj.mapSeq fun _=>out) }:=fun ix hp hg out ho'=>by
   refine ⟨_,rfl,wpAny_bind (wpAny_pure (wpAny_pure ⟨_,rfl,?_⟩))⟩
   subst ho'
   exact h ix _ _ hp hg (fun b o q=>(Heap.get?_update_ne _ _ _ _ (aNew b o q)).trans (keep6 b o q)) (get?_update_seq ho6 fun _=>_)
  by_cases h2:its.toArray.size<2
  ·rw [if_pos h2,if_pos h2]
   refine wpAny_bind (wpAny_pure ?_)
   rw [StateT.run_pure]
   refine wpAny_bind (wpAny_pure ?_)
   dsimp only
   refine wpAny_bind (seqEpoch_at ho6 rfl ?_)
   rw [vf]
   refine wpAny_bind (listUpdate_at ho6 rfl ?_ (Nat.zero_le _) (by rw [List.size_toArray,sizeLine_eq];omega))
   simp only [bne_self_eq_false,Bool.false_eq_true,if_false]
   rw [List.size_toArray] at h2
   exact wpAny_pure (fin _ (List.Perm.refl _) (h1 h2) _ (by rw [yQ]))
  ·rw [if_neg h2,if_neg h2]
   rw [List.size_toArray] at h2
   refine wpAny_bind (wpAny_mono (hk (by omega) h6 keep6 (fun κ' s'=>κ'=κ/\s'={ s with heap:=h6 }) ⟨rfl,rfl⟩) (fun κ' s' q=>?_) fun _ _ x=>x.elim)
   obtain ⟨rfl,rfl⟩:=q
   refine wpAny_bind (wpAny_mono (kat_run (ks:=its) (vs:=its) (κ:=κ') (G:=fun p s'=>(qa its.length p/\G p.toList)/\s'={ s with heap:=h6 }) (Q:=fun st' s'=>∃ p:Array Nat,arrOf st'=p.map (kas_item (its.toArray.zip its.toArray))/\failedOf st'=none/\(qa its.length p/\G p.toList)/\s'={ s with heap:=h6 })
    rfl (by omega) h64 (fun p st' s' a1 a2 a3 a4=>⟨p,a2,a3,a4⟩) (qH.wp (I:=fun s'=>s'={ s with heap:=h6 }) (fun i j C s' hi hj hI hC=>?_) (fun p s' hp hI=>⟨hp,hI⟩) (hs (by omega)) rfl)) ?_ fun _ _ e=>e)
   ·subst hI
    exact hc h6 keep6 i j hi hj C (hC _ rfl)
   ·rintro ⟨⟨⟩,st'⟩ s' ⟨p,har,hf,⟨hP,hG⟩,rfl⟩
    dsimp only
    have hout:=kat_snds (ks:=its) (vs:=its) rfl har
    have hz:(List.toArray (p.toList.map fun i=>its.getD i Value.none)).size=its.length:=by rw [List.size_toArray,List.length_map,Array.length_toList,hP.size]
    rw [hout]
    refine wpAny_bind (seqEpoch_at ho6 rfl ?_)
    refine wpAny_bind (listUpdate_at ho6 rfl ?_ (Nat.zero_le _) (by rw [hz,sizeLine_eq];omega))
    rw [hf]
    simp only [bne_self_eq_false,Bool.false_eq_true,if_false]
    exact wpAny_pure (fin p.toList (by have:=Array.perm_iff_toList_perm.mp hP;simpa using this) hG _ rfl)
theorem QJ {v:Value}{Q:Value->Shared->Prop}(hcol:wpAny (model prog w) A.in1 (collect v) (fun its s1=>wpAny (model prog w) A.in1 (newList its >>= fun l=>holding [l] (call (.builtin "list.sort") [l] []) >>= fun _=>ret l) (fun fin s'=>∃ v,fin = .done (.ret v)/\Q v s') E s1) E s) :
  wpAny (model prog w) A (call (.builtin "sorted") [v]) Q E s:=by
 refine Calls.call_function_entry kind_sorted plain_sorted entry_sorted (args_sorted1 _) ?_
 unfold Builtin.«sorted»
 refine wpAny_bind (m:=checkCount "sorted" 1 1 _) (wpAny_pure ?_)
 exact wpAny_bind hcol
end
section
variable {X:Cx}
theorem Inv.laidN {pins:List (Addr×Obj)}{σ:St}{H:Hp}{s:Shared}{h':Heap}{a:Addr}{o:HO}{t':Nat}(I:Inv X pins σ H s) (k:∀ b u,s.heap.get? b=some u->h'.get? b=some u) (hn:s.heap.get? a=none) (new:H a=none->jW X.prog X.w (upd H a o) h' a o):H a=none/\Inv X pins σ (upd H a o) { s with heap:=h',toks:=t' }:=by
 have hH:H a=none:=by
  cases q:H a with
  | none=>rfl
  | some u =>
   obtain ⟨ob,e⟩:=wN (I.hok a u q)
   rw [hn] at e
   cases e
 have ne:∀ {b u},s.heap.get? b=some u->b≠a:=fun e z=>by rw [z,hn] at e;cases e
 refine ⟨hH,I.un ⟨fun b u q _ _ _=>k b u q,fun b u q _ _ _=>⟨u.slots,k b u q⟩,fun b u q n _=>by rw [j5 (ne q)];exact n,fun b u q _=>⟨u,k b u q⟩,fun b xs q=>by rw [j5 (j1 q hH)];exact q,fun b u xs q=>by rw [j5 (j1 q hH)];exact q,fun b ps q=>⟨#[],by rw [j5 (j1 q hH),q];simp⟩⟩ fun b u e=>?_⟩
 by_cases hb:b=a
 ·subst hb;rw [j4] at e;cases e;exact new hH
 ·rw [j5 hb] at e
  exact (I.hok b u e).stay (fun c v _ q=>k c v q) (fun c q=>by rw [j5 (j1 q hH)];exact q) fun c xs q=>by rw [j5 (j1 q hH)];exact q
theorem vw (K:PySem.W.Frag) (hca:X.calm=true) (hK:X.K=K:=by rfl):qy X (.builtin "sorted") (fun xs H Q=>∃ (p:Addr) (kvs:List (Key×V)) (ns:List Int),xs=[.ref p]/\H p=some (.dK kvs)/\kvs.map (·.1)=ns.map Sum.inl/\ns.length<64 /\
  ∀ (l:Addr) H' (ns':List Int),H l=none->H' l=some (.lst (ns'.map V.int))->jh H H'->ns'.Perm ns->ns'.Pairwise (· <= ·)->Q (.ref l) H'):=by
 subst hK
 intro pins s σ H xs us Q I r h
 obtain ⟨p,kvs,ns,rfl,hp0,hks,h64,k⟩:=h
 obtain ⟨u,rfl,ru⟩:=xX r
 cases ru
 obtain ⟨hz,lo,vs,kv,dd⟩:=ZA I.hok hp0
 obtain ⟨ep,hat⟩:=dd.dictAt
 have hvl:vs.length=ns.length:=by
  have e1:kvs.length=vs.length:=Paired.length kv
  have e2:=congrArg List.length hks
  rw [List.length_map,List.length_map] at e2
  omega
 refine QJ (kdu_collect (kdl_dict (knd:=jx X.prog X.w) (kvs:=vs) (ep:=ep) lo) (I.ok.hd hca) hat (Nat.le_of_lt (ja (by omega))) fun h1 tk acc hk1 hacc=>?_)
 have hal:acc.toList.length=ns.length:=by rw [Array.length_toList,hacc.1,hvl]
 have item:∀ i,i<acc.toList.length->∃ t,acc.toList.getD i Value.none = .int (ns.getD i 0) t:=fun i hi=>by
  have hi2:i<acc.size:=by rw [Array.length_toList] at hi;exact hi
  obtain ⟨key,x,hx,his⟩:=hacc.2 i acc[i] (Array.getElem?_eq_getElem hi2)
  have hi3:i<kvs.length:=by
   have e1:kvs.length=vs.length:=Paired.length kv
   omega
  obtain ⟨q,hq,e1,_⟩:=Paired.get kv (List.getElem?_eq_getElem hi3)
  rw [hx] at hq
  cases hq
  have e2:(kvs.map (·.1))[i]? = some key:=by rw [List.getElem?_map,List.getElem?_eq_getElem hi3];exact congrArg some e1
  have hin:i<ns.length:=by omega
  rw [hks,List.getElem?_map,List.getElem?_eq_getElem hin] at e2
  cases e2
  obtain ⟨t,et⟩:=Value.isInt_shape his
  refine ⟨t,?_⟩
  rw [List.getD_eq_getElem?_getD,Array.getElem?_toList,Array.getElem?_eq_getElem hi2,et,List.getD_eq_getElem?_getD,List.getElem?_eq_getElem hin]
  rfl
 generalize acc.toList=its at hal item
 refine Js (s:={ s with heap:=h1,toks:=tk }) (κ:=oneType') (lt:=ltK YM fun i=>ns.getD i 0) (G:=fun ix=>(ix.map fun i=>ns.getD i 0).Pairwise YM.kle) (by omega) (fun h2 h' hk' Q' q=>?_) (fun h' hk' i j hi hj Q' q=>?_) (fun h2=>?_) (fun h1=>?_) fun ix h' n hp hg hk' hn=>?_
 ·refine kas_kind (T:=.type "int") h2 (fun v hv=>?_) rfl rfl q
  obtain ⟨i,hi,rfl⟩:=List.mem_iff_getElem.mp hv
  obtain ⟨t,e1⟩:=item i hi
  have e3:its[i] = .int (ns.getD i 0) t:=by rw [<- e1];simp [hi]
  rw [e3]
  exact Looks.of_pure rfl
 ·obtain ⟨t,e1⟩:=item i hi
  obtain ⟨u,e2⟩:=item j hj
  rw [e1,e2]
  exact kat_lt_int q
 ·exact wF (by omega) fun p' hP hS=>⟨hP,hS.pairwise hP.size⟩
 ·have hcase:its.length=0\/its.length=1:=by omega
  rcases hcase with z | z
  ·rw [z];exact List.Pairwise.nil
  ·rw [z];exact List.pairwise_singleton _ _
 ·have hn0:s.heap.get? h1.objs.size=none:=by
   cases q:s.heap.get? h1.objs.size with
   | none=>rfl
   | some u=>exact absurd (Heap.lt_size (hk1 _ _ q)) (Nat.lt_irrefl _)
  have hv:jw ((ix.map fun i=>ns.getD i 0).map V.int) (ix.map fun i=>its.getD i Value.none):=by
   have hb:∀ i∈ix,i<its.length:=fun i hi=>by have:=hp.mem_iff.mp hi;simpa using this
   clear hp hg hn
   induction ix with
   | nil=>exact .nil
   | cons i ix ih =>
    obtain ⟨t,e⟩:=item i (hb i List.mem_cons_self)
    exact .cons ⟨t,e⟩ (ih fun j hj=>hb j (List.mem_cons_of_mem _ hj))
  have hns:((List.range its.length).map fun i=>ns.getD i 0)=ns:=by
   apply List.ext_getElem
   ·simp [hal]
   ·intro i h1 h2
    simp [h2]
  have hsz:((ix.map fun i=>ns.getD i 0).map V.int).length<=sizeLine:=by
   rw [List.length_map,List.length_map,hp.length_eq,List.length_range]
   exact Nat.le_trans (by omega:its.length<=1000) (by decide)
  obtain ⟨hf,J⟩:=Inv.laidN (o:=.lst ((ix.map fun i=>ns.getD i 0).map V.int)) (t':=tk) I (fun b o e=>hk' b o (hk1 b o e)) hn0 fun _=>⟨hsz,_,n,hv,hn⟩
  refine ⟨.ref _,upd H h1.objs.size (.lst ((ix.map fun i=>ns.getD i 0).map V.int)),J,rfl,k _ _ _ hf j4 (jh.new hf) ?_ ?_⟩
  ·have:=hp.map fun i=>ns.getD i 0
   rw [hns] at this
   exact this
  ·exact List.Pairwise.imp (R:=YM.kle) (fun {a b} z=>Yr z) hg
end
end L2
end
section
namespace L2
open PySem PySem.Spec PySem.W PyProof.Rows
theorem Inv.freeze {X:Cx}{pins:List (Addr×Obj)}{σ:St}{H:Hp}{s:Shared}{a:Addr}{o:Obj}{kvs:List (Key×V)}(I:Inv X pins σ H s) (e:H a=some (.dK kvs)) (ho:s.heap.get? a=some o):Inv X pins σ (upd H a (.frz o (.dK kvs))) s:=by
 refine I.un (t':=s.toks) ⟨fun b u q _ _ _=>q,fun b u q _ _ _=>⟨u.slots,q⟩,fun b u q n _=>?_,fun b u q _=>⟨u,q⟩,fun b xs q=>?_,fun b u xs q=>?_,fun b ps q=>⟨#[],?_⟩⟩ fun b u q=>?_
 ·rw [j5 (fun z=>by rw [z,e] at n;cases n)];exact n
 ·rw [j5 (jk q e (by intro z;cases z))];exact q
 ·rw [j5 (jk q e (by intro z;cases z))];exact q
 ·rw [j5 (jk q e (by intro z;cases z)),q];simp
 ·by_cases hb:b=a
  ·subst hb
   rw [j4] at q
   cases q
   exact ⟨ho,I.hok _ _ e⟩
  ·rw [j5 hb] at q
   exact (I.hok b u q).stay (fun c v _ q=>q) (fun c q=>by rw [j5 (jk q e (by intro z;cases z))];exact q) fun c xs q=>by rw [j5 (jk q e (by intro z;cases z))];exact q
def Itd (a:Addr) (o:Obj) (kvs:List (Key×V)):It :=
 ⟨fun i H=>H a=some (.frz o (.dK kvs))/\i<kvs.length,fun i H x H'=>H'=H/\∃ q,kvs[i]? = some q/\x=kV q.1,fun i H=>H a=some (.frz o (.dK kvs))/\kvs.length<=i⟩
theorem relK {P:Program}{w:World}{k:Key}{v:Value}(h:(jx P w).is k v=true):jy (kV k) v:=by
 cases k with
 | inl i=>exact Value.isInt_shape h
 | inr x=>exact Value.isStrOf_shape h
theorem Z1 {P:Program}{w:World}{K:PySem.W.Frag}{tg:Expr}{a it:Addr}{o:Obj}{kvs:List (Key×V)}{vs:List (Key×Value)}{ep:Nat}(kv:KV kvs vs) (HD:∀ h:Heap,h.get? a=some o->h.DictAt (jx P w) a vs ep):Turn P w K tg (Itd a o kvs) [it] it (fun i h=>h.IsKeyIter it a i vs.length ep) where
 mem:=by simp
 obj:=fun i h st b hb=>by
  have e:b=it:=by simpa using hb
  subst e
  obtain ⟨o,e,c,d⟩:=st
  exact ⟨o,e,fun v z=>by rw [d] at z;cases z⟩
 keep:=fun i h h' st k=>st.at fun o e=>k it (by simp) o e
 item:=by
  intro X hP hw hK hc i pins s σ H E I hf st hg
  subst hP hw hK
  obtain ⟨hq,hi⟩:=hg
  have hat:=HD s.heap (I.hok _ _ hq).1
  have hl:kvs.length=vs.length:=Paired.length kv
  obtain ⟨f0,f1,f2,f3,f4,f5⟩:=hf it (by simp)
  obtain ⟨⟨k,x⟩,hx,ek,_⟩:=Paired.get kv (List.getElem?_eq_getElem hi)
  refine wpAny_pyNext_dict_item st hat hx fun key h' hkey st' sb=>?_
  have I1:Inv X pins σ H { s with heap:=h' }:=I.turned (t':=s.toks) (fun b o hb e=>(sb.2 b hb).trans e) f0 f1 f3 f4 f5
  obtain ⟨ob,e,c,d⟩:=id st'
  exact ⟨key,rfl,J7 (s:={ s with heap:=h' }) e c d (by decide) ⟨kV k,H,I1,relK hkey,⟨rfl,_,List.getElem?_eq_getElem hi,by rw [show (kvs[i]'hi).1=k from ek]⟩,st',fun b hb=>(hf b hb).1⟩⟩
 done:=by
  intro X hP hw hK hc i pins s σ H E I hf st hg
  subst hP hw hK
  obtain ⟨hq,hi⟩:=hg
  have hat:=HD s.heap (I.hok _ _ hq).1
  have hl:kvs.length=vs.length:=Paired.length kv
  obtain ⟨f0,f1,f2,f3,f4,f5⟩:=hf it (by simp)
  exact wpAny_pyNext_dict_end (I.ok.hd hc) st hat (by simp;omega) fun h' eb=>⟨rfl,I.turned (t':=s.toks) (fun b o hb e=>eb b o hb e) f0 f1 f3 f4 f5⟩
 self:=fun _ _ _ _ _ st h=>wpAny_pyIter_keyiter st h
def iDic (td:TE):TI:=fun σ H R=>td σ H fun x H1=>∃ a kvs,x = .ref a/\((H1 a=some (.dK kvs)/\∀ o,R (Itd a o kvs) (upd H1 a (.frz o (.dK kvs))))\/∃ o,H1 a=some (.frz o (.dK kvs))/\R (Itd a o kvs) H1)
theorem QO {X:Cx}{tg l:Expr}{td:TE}(hl:PE X l td):PI X tg l (iDic td):=by
 intro pins s σ H R I h
 refine thn (hl pins s σ H _ I h) fun v s1 ⟨x,H1,I1,r1,a,kvs,e,q⟩=>?_
 subst e
 cases r1
 have main:∀ {H2:Hp} {o:Obj},Inv X pins σ H2 s1->H2 a=some (.frz o (.dK kvs))->R (Itd a o kvs) H2->wpAny (model X.prog X.w) X.A (pyIter (.ref a)) (PIE X pins σ tg R) X.xe s1:=fun {H2 o} I2 e2 q2=>by
  have ho:=(I2.hok _ _ e2).1
  obtain ⟨hz,lo,vs,kv,dd⟩:=uk I2.hok (.inr ⟨o,e2⟩)
  obtain ⟨ep,ob,es,h1,hrest⟩:=dd.dictAt
  rw [ho] at h1
  cases h1
  have HD:∀ h:Heap,h.get? a=some o->h.DictAt (jx X.prog X.w) a vs ep:=fun h e=>⟨o,es,e,hrest⟩
  refine wpAny_pyIter_dict lo (HD _ ho) ?_
  refine ⟨s1.heap.objs.size,[s1.heap.objs.size],_,_,H2,rfl,I2.kept (t':=s1.toks) fun b o e=>Heap.get?_push_of_some _ e,Z1 kv HD,⟨_,Heap.get?_push_size _ rfl,rfl,rfl⟩,fun b hb=>?_,q2⟩
  have e:b=s1.heap.objs.size:=by simpa using hb
  subst e
  exact I2.fpOk (Nat.le_refl _) (I2.hok.fresh (Nat.le_refl _))
 rcases q with ⟨e1,q1⟩ | ⟨o,e1,q1⟩
 ·obtain ⟨hz,lo,vs,kv,dd⟩:=uk I1.hok (.inl e1)
  obtain ⟨ep,ob,es,h1,hrest⟩:=dd.dictAt
  exact main (I1.freeze e1 h1) j4 (q1 ob)
 ·exact main I1 e1 q1
theorem Jb {a:Addr}{o:Obj}{kvs:List (Key×V)}{g:TG}{tb:TS}{D:Ends}{σ:St}{H:Hp}(Pv:Nat->St->Hp->Prop) (h0:Pv 0 σ H) (hl:∀ i σ H,i<=kvs.length->Pv i σ H->H a=some (.frz o (.dK kvs)))
  (hs:∀ i q σ H,kvs[i]? = some q->Pv i σ H->g (kV q.1) σ H fun σ2 H2=>tb { D with nx:=Pv (i+1),ct:=Pv (i+1),bk:=D.nx } σ2 H2) (hd:∀ σ H,Pv kvs.length σ H->D.nx σ H) :
  ∃ W:Nat->Nat->St->Hp->Prop,(∃ m,W 0 m σ H)/\∀ i m σ H,W i m σ H ->
   ((Itd a o kvs).stop i H/\D.nx σ H)\/((Itd a o kvs).go i H/\∃ N:St->Hp->Prop,(∀ σ' H',N σ' H'->∃ m',m'<m/\W (i+1) m' σ' H')/\∀ x H',(Itd a o kvs).yld i H x H'->g x σ H' fun σ2 H2=>tb { D with nx:=N,ct:=N,bk:=D.nx } σ2 H2):=by
 refine ⟨fun i m σ H=>m=kvs.length-i/\i<=kvs.length/\Pv i σ H,⟨kvs.length,by simp,Nat.zero_le _,h0⟩,?_⟩
 rintro i m σ H ⟨rfl,hi,p⟩
 have q:=hl i σ H hi p
 by_cases hlt:i<kvs.length
 ·refine .inr ⟨⟨q,hlt⟩,Pv (i+1),fun σ' H' p'=>⟨kvs.length-(i+1),by omega,rfl,hlt,p'⟩,fun x H' y=>?_⟩
  obtain ⟨e,z,hz,ex⟩:=y
  subst e ex
  exact hs i z σ _ hz p
 ·obtain rfl:i=kvs.length:=by omega
  exact .inl ⟨⟨q,Nat.le_refl _⟩,hd σ H p⟩
end L2
end
section
namespace L2
open PySem PySem.Spec PySem.W PyProof.Rows
theorem XH {P:Program}{w:World}{K:PySem.W.Frag}{tg:Expr}(it:Addr) (lo:Int) (n:Nat):Turn P w K tg (Itr lo n) [it] it (fun i h=>IsLongIter h it (lo+(i:Nat)*1) ((n:Int)-(i:Nat)) 1) where
 mem:=by simp
 obj:=fun i h st b hb=>by
  have e:b=it:=by simpa using hb
  subst e
  exact ⟨_,st,fun v z=>by
   have z':Data.fields _=Data.cell v:=z
   cases z'⟩
 keep:=fun i h h' st k=>k it (by simp) _ st
 item:=by
  intro X hP hw hK hc i pins s σ H E I hf st hg
  subst hP hw hK
  obtain ⟨f0,f1,f2,f3,f4,f5⟩:=hf it (by simp)
  have W:=Walks.longrange (prog:=X.prog) (w:=X.w) (I.ok.hd hc) it lo 1 n
  refine W.item i s _ _ hg st fun v h' tk hv st' kk=>?_
  obtain ⟨t,rfl⟩:=hv
  have I1:Inv X pins σ H { s with heap:=h',toks:=tk }:=I.turned (fun b o hb e=>kk b o (by simpa using hb) e) f0 f1 f3 f4 f5
  refine ⟨_,rfl,J7 (s:={ s with heap:=h',toks:=tk }) (n:="longrange_iterator") st' rfl rfl (by decide) ⟨.int (lo+i),H,I1,⟨t,?_⟩,⟨rfl,rfl⟩,st',fun b hb=>(hf b hb).1⟩⟩
  rw [Int.mul_one]
 done:=by
  intro X hP hw hK hc i pins s σ H E I hf st hg
  subst hP hw hK
  obtain ⟨f0,f1,f2,f3,f4,f5⟩:=hf it (by simp)
  exact wpAny_pyNext_long_end (I.ok.hd hc) st (by have:n<=i:=hg;omega) fun h' eb=>⟨rfl,I.turned (t':=s.toks) (fun b o hb e=>eb b o hb e) f0 f1 f3 f4 f5⟩
 self:=fun _ _ _ _ _ st h=>wpAny_pyIter_longiter st h
section
variable {X:Cx}{tg:Expr}
theorem Zm {pins:List (Addr×Obj)}{σ:St}{H:Hp}{s:Shared}{R:It->Hp->Prop}{E:Value->Shared->Prop}{lo hi:Int}{t u v:Tok}{tk:Nat}(I:Inv X pins σ H s)
  (q:R (Itr lo (hi-lo).toNat) H):wpAny (model X.prog X.w) X.A (pyIter (.ref s.heap.objs.size)) (PIE X pins σ tg R) E { s with heap:=s.heap.push { cls:=.type "range",data:=.fields #[.int lo t,.int hi u,.int 1 v] },toks:=tk }:=by
 have I1:Inv X pins σ H { s with heap:=s.heap.push { cls:=.type "range",data:=.fields #[.int lo t,.int hi u,.int 1 v] },toks:=tk }:=I.kept fun b o e=>Heap.get?_push_of_some _ e
 have e1:lo+((0:Nat):Int)*1=lo:=by simp
 have e2:(((hi-lo).toNat:Nat):Int)-((0:Nat):Int)=Builtin.Range.rangeSize lo hi 1:=by rw [rangeSize_one];split <;> omega
 have fp:∀ b∈[(s.heap.push { cls:=.type "range",data:=.fields #[.int lo t,.int hi u,.int 1 v] }).objs.size],_:=fun b hb=>by
  have e:b=(s.heap.push { cls:=.type "range",data:=.fields #[.int lo t,.int hi u,.int 1 v] }).objs.size:=by simpa using hb
  subst e
  exact I1.fpOk (Nat.le_refl _) (I1.hok.fresh (Nat.le_refl _))
 by_cases sm:Builtin.Range.small lo hi 1=true
 ·refine wpAny_pyIter_range (IsRange.new ..) sm ?_
  refine ⟨(s.heap.push { cls:=.type "range",data:=.fields #[.int lo t,.int hi u,.int 1 v] }).objs.size,[(s.heap.push { cls:=.type "range",data:=.fields #[.int lo t,.int hi u,.int 1 v] }).objs.size],_,_,H,rfl,
   I1.kept (t':=tk) fun b o e=>Heap.get?_push_of_some _ e,uV _ lo (hi-lo).toNat,?_,fp,q⟩
  show IsRangeIter _ _ (lo+((0:Nat):Int)*1) ((((hi-lo).toNat:Nat):Int)-((0:Nat):Int)) 1
  rw [e1,e2]
  exact Heap.get?_push_size _ rfl
 ·refine wpAny_pyIter_longrange (IsRange.new ..) (by simpa using sm) ?_
  refine ⟨(s.heap.push { cls:=.type "range",data:=.fields #[.int lo t,.int hi u,.int 1 v] }).objs.size,[(s.heap.push { cls:=.type "range",data:=.fields #[.int lo t,.int hi u,.int 1 v] }).objs.size],_,_,H,rfl,
   I1.kept (t':=tk) fun b o e=>Heap.get?_push_of_some _ e,XH _ lo (hi-lo).toNat,?_,fp,q⟩
  show IsLongIter _ _ (lo+((0:Nat):Int)*1) ((((hi-lo).toNat:Nat):Int)-((0:Nat):Int)) 1
  rw [e1,e2]
  exact Heap.get?_push_size _ rfl
def We (ta:TA):TI:=fun σ H R=>ta σ H fun vs H1=>∃ i j:Int,vs=[.int i,.int j]/\R (Itr i (j-i).toNat) H1
theorem XS {a b:Expr}{ta:TA}{p pos:Pos}(hg:Gl X "range") (hm:X.mg "range" = none) (ha:PA X [a,b] ta) (hs:starEach [a,b] X.env=[(false,eval a X.env),(false,eval b X.env)]:=by rfl) (hs2:starEach [b] X.env=[(false,eval b X.env)]:=by rfl) :
  PI X tg (.Call (.Name "range" p) [a,b] [] pos) (We ta):=by
 intro pins s σ H R I h
 refine Call_ (zh I hg hm boot_range (PyProof.Rows.callWith_type1 (thn (ha pos pins s σ H _ I h) fun us s1 ⟨vs,H1,I1,r1,q1⟩=>?_) (by rw [hs,hs2]) (by rw [hs2];rfl)))
 obtain ⟨i,j,e,q⟩:=q1
 subst e
 cases r1 with
 | cons r rr =>
  cases rr with
  | cons r' rr =>
   cases rr
   obtain ⟨t,rfl⟩:=r
   obtain ⟨t',rfl⟩:=r'
   exact call_range_2 (Zm I1 q)
end
end L2
end
section
namespace L2
open PySem PySem.Spec PySem.W PyProof.Rows
def Fz (a:Addr) (kvs:List (Key×V)) (o:Obj) (H H4:Hp):Prop:=H4 a=some (.frz o (.dK kvs))/\(H4=H\/(H a=some (.dK kvs)/\H4=upd H a (.frz o (.dK kvs))))
theorem Fz.at {a:Addr}{kvs:List (Key×V)}{o:Obj}{H H4:Hp}(f:Fz a kvs o H H4) {c:Addr}{u:HO}(h:H c=some u) (n:c≠a):H4 c=some u:=by
 rcases f.2 with rfl | ⟨_,rfl⟩
 ·exact h
 ·rw [j5 n];exact h
theorem kG {a:Addr}{kvs:List (Key×V)}{g:TG}{tb:TS}{D:Ends}{σ:St}{H:Hp}(h:Rd H a (.dK kvs)) (Pv:Obj->Nat->St->Hp->Prop) (h0:∀ o H4,Fz a kvs o H H4->Pv o 0 σ H4) (hl:∀ o i σ H,i<=kvs.length->Pv o i σ H->H a=some (.frz o (.dK kvs)))
  (hs:∀ o i q σ H,kvs[i]? = some q->Pv o i σ H->g (kV q.1) σ H fun σ2 H2=>tb { D with nx:=Pv o (i+1),ct:=Pv o (i+1),bk:=D.nx } σ2 H2) (hd:∀ o σ H,Pv o kvs.length σ H->D.nx σ H) :
  ∃ a' kvs',V.ref a = .ref a'/\((H a'=some (.dK kvs')/\∀ o,∃ W:Nat->Nat->St->Hp->Prop,(∃ m,W 0 m σ (upd H a' (.frz o (.dK kvs'))))/\∀ i m σ H,W i m σ H ->
   ((Itd a' o kvs').stop i H/\D.nx σ H)\/((Itd a' o kvs').go i H/\∃ N:St->Hp->Prop,(∀ σ' H',N σ' H'->∃ m',m'<m/\W (i+1) m' σ' H')/\∀ x H',(Itd a' o kvs').yld i H x H'->g x σ H' fun σ2 H2=>tb { D with nx:=N,ct:=N,bk:=D.nx } σ2 H2)) \/
   ∃ o,H a'=some (.frz o (.dK kvs'))/\∃ W:Nat->Nat->St->Hp->Prop,(∃ m,W 0 m σ H)/\∀ i m σ H,W i m σ H ->
   ((Itd a' o kvs').stop i H/\D.nx σ H)\/((Itd a' o kvs').go i H/\∃ N:St->Hp->Prop,(∀ σ' H',N σ' H'->∃ m',m'<m/\W (i+1) m' σ' H')/\∀ x H',(Itd a' o kvs').yld i H x H'->g x σ H' fun σ2 H2=>tb { D with nx:=N,ct:=N,bk:=D.nx } σ2 H2)):=by
 rcases h with h | ⟨o,h⟩
 ·exact ⟨a,kvs,rfl,.inl ⟨h,fun o=>Jb (a:=a) (o:=o) (kvs:=kvs) (Pv o) (h0 o _ ⟨j4,.inr ⟨h,rfl⟩⟩) (hl o) (hs o) (hd o)⟩⟩
 ·exact ⟨a,kvs,rfl,.inr ⟨o,h,Jb (a:=a) (o:=o) (kvs:=kvs) (Pv o) (h0 o _ ⟨h,.inl rfl⟩) (hl o) (hs o) (hd o)⟩⟩
end L2
end
section
namespace L2
open PySem PySem.Spec PySem.W PyProof.Rows
section
variable {prog:Program}{w:World}{A:Around}{E:Value->Shared->Prop}{s:Shared}
theorem V9:typeLookup (.type "list") "keys" = pure none:=by rw [typeLookup_type,builtinLookup_eq_fast];kernel_rfl
theorem Z2 {a:Addr}{o:Obj}{xs:Array Value}{k:Nat}{Q:Option Value->Shared->Prop}(hx:s.heap.get? a=some o) (hc:o.cls = .type "list") (hdat:o.data = .seq xs k) (hd:o.dict=none) (hA:A.handled=none)
  (h:∀ h' tk,(∀ b o,s.heap.get? b=some o->h'.get? b=some o)->Q none { s with heap:=h',toks:=tk }):wpAny (model prog w) A (getAttr? (.ref a) "keys") Q E s:=by
 obtain ⟨c,dct,dat,sl⟩:=o
 simp only at hc hdat hd
 subst hc hdat hd
 obtain ⟨hp,g,d,tk,os⟩:=s
 have hT:∀ tk',(⟨hp,g,d,tk',os⟩:Shared).TypeIs (.ref a) "list":=fun _=>⟨_,hx,rfl⟩
 have f1:=sub_AttributeError
 have f3:=F.slot_list_getattribute.lookup
 have f4:=F.slot_list_getattribute.bind (.ref a)
 have f5:=am_list_getattr_none
 unfold getAttr? getAttrBy? getAttrBy
 repeat (any_goals (first | assumption | exact hT _ | ((with_reducible show wpAny _ _ (call (Value.builtin "list.__getattribute__") _ _) _ _ _);refine call_meets F.slot_list_getattribute (hT _) am_entry_list_getattribute (F.args_list_getattribute_2 _ _) (meets_getattribute_miss_list a xs k sl "keys" _ V9 (by decide +kernel) (by decide)) ⟨hx,hA,fun h' tk' e hx'=>?_⟩) | wp_step))
 obtain ⟨t',u',he⟩:=hx'.there
 show wpAny _ _ (getattributeRaised _ _ _ _ _ _ _) _ _ _
 unfold getattributeRaised
 repeat (any_goals (first | assumption | wp_step))
 exact h h' tk' hx'.of.keeps
end
theorem uv:entryFor table "dict.update.loop" = some Builtin.«dict.update.loop»:=entryFor_of_tree (by kernel_rfl)
theorem xU:plainId "dict.update.loop" = true:=by decide +kernel
section
variable {prog:Program}{w:World}{A:Around}{R:Result->Shared->Prop}{d it l:Addr}{items:Array Value}{qs:List (Key×Value×Value)}
def hU (d it:Addr) (items:Array Value) (qs:List (Key×Value×Value)) (h:Heap):Prop:=∀ (i:Nat) (q:Key×Value×Value),qs[i]? = some q->∃ b:Addr,items[i]? = some (.ref b)/\b≠d/\b≠it/\h.IsTuple b #[q.2.1,q.2.2]
theorem hU.keep {h h':Heap}(x:hU d it items qs h) (k:∀ b o,b≠d->b≠it->h.get? b=some o->h'.get? b=some o):hU d it items qs h':=fun i q hq=>by
 obtain ⟨b,h1,h2,h3,o,ho,r⟩:=x i q hq
 exact ⟨b,h1,h2,h3,o,k b o h2 h3 ho,r⟩
theorem XJ (hh:A.handled=none) (hld:l≠d) (hli:l≠it) (hdi:d≠it) (hsz:qs.length<=sizeLine) (hk:∀ q∈qs,(jx prog w).is q.1 q.2.1=true) (nd:(qs.map (·.1)).Nodup) (hn:items.size=qs.length) :
  ∀ (n i:Nat) (s:Shared),qs.length-i=n->i<=qs.length->s.heap.IsListIter it l i->s.heap.IsList l items->hU d it items qs s.heap->s.heap.DictOf (jx prog w) d ((qs.take i).map fun q=>(q.1,q.2.2)) ->
   (∀ h' tk,(∀ b o,b≠d->b≠it->s.heap.get? b=some o->h'.get? b=some o)->h'.DictOf (jx prog w) d (qs.map fun q=>(q.1,q.2.2))->R (.ok (.ret .none)) { s with heap:=h',toks:=tk }) ->
   codeAny (model prog w) A (.builtin "dict.update.loop" ⟨[.ref d,.ref it,rawInt i,.none],[]⟩) R s:=by
 have hh1:A.in1.handled=none:=by simp [hh]
 intro n
 induction n with
 | zero =>
  intro i s e hi st hl ht hd hR
  obtain rfl:i=qs.length:=by omega
  refine codeAny_builtin uv ?_
  rw [Around.under_plainId xU _]
  show wpAny _ A.in1 (pyNext (.ref it) >>= _) _ _ s
  refine wpAny_bind (wpAny_pyNext_list_end hh1 st hl (by simp;omega) fun h' eb=>?_)
  show wpAny _ A.in1 (Builtin.Dict.addKeywords d [] >>= _) _ _ _
  rw [List.take_length] at hd
  exact wpAny_bind (wpAny_pure (wpAny_pure (hR h' s.toks (fun b o _ h2 h=>eb b o h2 h) (hd.extBut eb hdi))))
 | succ n ih =>
  intro i s e hi st hl ht hd hR
  have hlt:i<qs.length:=by omega
  obtain ⟨⟨k,kv,v⟩,hq⟩:∃ q,qs[i]? = some q:=⟨_,List.getElem?_eq_getElem hlt⟩
  obtain ⟨b,hb,bd,bi,hbt⟩:=ht i _ hq
  refine codeAny_builtin uv ?_
  rw [Around.under_plainId xU _]
  show wpAny _ A.in1 (pyNext (.ref it) >>= _) _ _ s
  refine wpAny_bind (wpAny_pyNext_list_item st hl hb fun h1 st1 sb=>?_)
  have hbt1:h1.IsTuple b #[kv,v]:=by
   obtain ⟨o,ho,r⟩:=hbt
   exact ⟨o,(sb.2 b bi).trans ho,r⟩
  show wpAny _ A.in1 (holding [Value.ref b] _ >>= _) _ _ _
  obtain ⟨ob,hob,hcb,nb,hdb⟩:=hbt1
  refine wpAny_bind (wpAny_holding (wpAny_bind (wpAny_tryCatch ?_)))
  unfold Builtin.Dict.pairItems
  refine wpAny_bind (wpAny_typeOf (T:="tuple") ⟨ob,hob,hcb⟩ ?_)
  rw [if_pos (by decide)]
  refine wpAny_bind (wpAny_seqItems hob hdb (wpAny_pure ?_))
  show wpAny _ A.in1 (holding [kv,v] (dictSet d kv v)) _ _ _
  have hd1:h1.DictOf (jx prog w) d ((qs.take i).map fun q=>(q.1,q.2.2)):=hd.sameBut sb hdi
  refine wpAny_holding (wpAny_dictSet_pairs (s:={ s with heap:=h1 }) (hk _ (List.mem_of_getElem? hq)) hd1 (fun h2 hd2 sd=>?_) (by rw [List.length_map,List.length_take];omega))
  refine wpAny_pure ⟨plainId_quiet xU _,?_⟩
  have keep:∀ c o,c≠d->c≠it->s.heap.get? c=some o->h2.get? c=some o:=fun c o n1 n2 h=>(sd.2 c n1).trans ((sb.2 c n2).trans h)
  refine ih (i+1) { s with heap:=h2,toks:=s.toks+1 } (by omega) (by omega) ?_ ?_ (ht.keep keep) ?_ fun h3 tk k3 d3=>?_
  ·obtain ⟨o,ho,r⟩:=st1
   exact ⟨o,(sd.2 it hdi.symm).trans ho,r⟩
  ·obtain ⟨o,ho,r⟩:=hl
   exact ⟨o,keep l o hld hli ho,r⟩
  ·have e:stored ((qs.take i).map fun q=>(q.1,q.2.2)) k v=(qs.take (i+1)).map fun q=>(q.1,q.2.2):=by
    rw [stored,if_neg,List.take_add_one,hq]
    ·simp
    ·intro z
     obtain ⟨x,hx,ex⟩:=List.any_eq_true.mp z
     obtain ⟨u,hu,rfl⟩:=List.mem_map.mp hx
     have ex:u.1=k:=of_decide_eq_true ex
     obtain ⟨j,hj,ej⟩:=List.mem_iff_getElem.mp hu
     rw [List.length_take] at hj
     rw [List.getElem_take] at ej
     obtain ⟨_,eq⟩:=List.getElem?_eq_some_iff.mp hq
     have h1:(qs.map (·.1))[j]'(by rw [List.length_map];omega)=(qs.map (·.1))[i]'(by rw [List.length_map];exact hlt):=by rw [List.getElem_map,List.getElem_map,ej,eq,ex]
     exact absurd h1 (List.pairwise_iff_getElem.mp nd j i _ _ (by omega))
   rw [<- e]
   exact hd2
  ·exact hR h3 tk (fun c o n1 n2 h=>k3 c o n1 n2 (keep c o n1 n2 h)) d3
end
section
variable {prog:Program}{w:World}{A:Around}{E:Value->Shared->Prop}{s:Shared}{l:Addr}{ol:Obj}{nl:Nat}{items:Array Value}{qs:List (Key×Value×Value)}
theorem QA {Q:Value->Shared->Prop}(hh:A.handled=none) (ho:s.heap.get? l=some ol) (hc:ol.cls = .type "list") (hdt:ol.data = .seq items nl) (hdc:ol.dict=none) (hsz:qs.length<=sizeLine) (hk:∀ q∈qs,(jx prog w).is q.1 q.2.1=true) (nd:(qs.map (·.1)).Nodup) (hn:items.size=qs.length)
  (ht:∀ (i:Nat) (q:Key×Value×Value),qs[i]? = some q->∃ b:Addr,items[i]? = some (.ref b)/\s.heap.IsTuple b #[q.2.1,q.2.2])
  (h:∀ h' tk,(∀ b o,s.heap.get? b=some o->h'.get? b=some o)->h'.DictOf (jx prog w) s.heap.objs.size (qs.map fun q=>(q.1,q.2.2))->Q (.ref s.heap.objs.size) { s with heap:=h',toks:=tk }) :
  wpAny (model prog w) A (call (.type "dict") [.ref l]) Q E s:=by
 refine callType_codes (Q₁:=fun obj s₁=>obj = .ref s.heap.objs.size/\s₁={ s with heap:=s.heap.push { cls:=.type "dict",data:=.dict #[] } }) F.kt_called_dict (F.kt_typeCall_dict_1 _) F.entry_dict_init (kt_code_dict_new _ ⟨rfl,rfl⟩) ?_
 rintro obj s₁ ⟨rfl,rfl⟩
 have hnew:(s.heap.push { cls:=.type "dict",data:=.dict #[] }).DictOf (jx prog w) s.heap.objs.size []:=Heap.DictOf.new s.heap
 have kp:∀ b o,s.heap.get? b=some o->(s.heap.push { cls:=.type "dict",data:=.dict #[] }).get? b=some o:=fun b o q=>Heap.get?_push_of_some _ q
 refine ⟨hnew.typeIs,F.args_dict_init_2 _ _,?_⟩
 have lt:∀ b o,s.heap.get? b=some o->b≠s.heap.objs.size:=fun b o q=>Nat.ne_of_lt (Heap.lt_size q)
 unfold Builtin.«dict.__init__»
 refine wpAny_bind ?_
 unfold Builtin.Dict.selfAndRest
 refine wpAny_bind (wpAny_notOrdered_dict hnew.typeIs ?_)
 show wpAny _ _ (pure (s.heap.objs.size,[Value.ref l])) _ _ _
 refine wpAny_pure ?_
 show wpAny _ _ (Builtin.Dict.updateFrom "dict.__init__" s.heap.objs.size (.ref l) [] .none) _ _ _
 unfold Builtin.Dict.updateFrom
 refine wpAny_bind (wpAny_typeOf (T:="list") ⟨_,kp _ _ ho,hc⟩ ?_)
 rw [if_pos (by decide)]
 generalize hz:s.heap.push { cls:=.type "dict",data:=.dict #[] }=h0 at *
 refine wpAny_bind (Z2 (s:={ s with heap:=h0 }) (kp _ _ ho) hc hdt hdc (by simp [hh]) fun h1 tk k1=>?_)
 rw [if_pos (show (none:Option Value).isNone=true from rfl)]
 have hl1:h1.IsList l items:=⟨ol,k1 _ _ (kp _ _ ho),hc,nl,hdt⟩
 refine wpAny_bind (wpAny_rule ?_)
 refine wpAny_bind (wpAny_pyIter_list (s:={ s with heap:=h1,toks:=tk }) hl1 (wpAny_pure ⟨plainId_quiet xU _,?_⟩))
 obtain ⟨od,_,_,hod,_⟩:=id hnew
 have hi1:∀ b o,h1.get? b=some o->b≠h1.objs.size:=fun b o q=>Nat.ne_of_lt (Heap.lt_size q)
 have kp2:∀ b o,s.heap.get? b=some o->(h1.push { cls:=.type "list_iterator",data:=.fields #[.ref l,.int 0 0] }).get? b=some o:=fun b o q=>Heap.get?_push_of_some _ (k1 _ _ (kp _ _ q))
 refine XJ (d:=s.heap.objs.size) (it:=h1.objs.size) (l:=l) (items:=items) (qs:=qs) (by simp [hh]) (lt _ _ ho) (hi1 _ _ (k1 _ _ (kp _ _ ho))) (hi1 _ _ (k1 _ _ hod)) hsz hk nd hn qs.length 0 _ (by omega) (Nat.zero_le _) ⟨_,Heap.get?_push_size _ rfl,rfl,rfl⟩ (hl1.push _) (fun i q hq=>?_) ?_ fun h' tk' k' d'=>?_
 ·obtain ⟨b,hb,o,hbo,r⟩:=ht i q hq
  exact ⟨b,hb,lt _ _ hbo,hi1 _ _ (k1 _ _ (kp _ _ hbo)),o,kp2 _ _ hbo,r⟩
 ·obtain ⟨o,es,ep,ho',r⟩:=hnew
  exact ⟨o,es,ep,Heap.get?_push_of_some _ (k1 _ _ ho'),r⟩
 ·exact ⟨rfl,h h' tk' (fun b o q=>k' b o (lt _ _ q) (hi1 _ _ (k1 _ _ (kp _ _ q))) (kp2 _ _ q)) d'⟩
end
theorem ur {α β:Type}(P:Nat->α->β->Prop):∀ (l:List α) (n:Nat),(∀ (i:Nat) a,l[i]? = some a->∃ b,P (n+i) a b)->∃ bs:List β,bs.length=l.length/\∀ (i:Nat) a b,l[i]? = some a->bs[i]? = some b->P (n+i) a b
 | [],n,_=>⟨[],rfl,fun i a b h=>by simp at h⟩
 | x::r,n,h=>by
  obtain ⟨b,hb⟩:=h 0 x rfl
  obtain ⟨bs,hl,hbs⟩:=ur P r (n+1) fun i a hi=>by
   have:=h (i+1) a (by simpa using hi)
   rwa [show n+1+i=n+(i+1) by omega]
  refine ⟨b::bs,by simp [hl],fun i a b' h1 h2=>?_⟩
  cases i with
  | zero =>
   simp at h1 h2
   subst h1 h2
   exact hb
  | succ i =>
   have:=hbs i a b' (by simpa using h1) (by simpa using h2)
   rwa [show n+(i+1)=n+1+i by omega]
theorem ko {α β:Type}{F:α->β->Prop}:∀ {l₁:List α}{l₂:List β},l₁.length=l₂.length->(∀ (i:Nat) a b,l₁[i]? = some a->l₂[i]? = some b->F a b)->Paired F l₁ l₂
 | [],[],_,_=>.nil
 | [],_::_,h,_=>by simp at h
 | _::_,[],h,_=>by simp at h
 | x::r,y::t,h,k=>.cons (k 0 x y rfl rfl) (ko (by simpa using h) fun i a b h1 h2=>k (i+1) a b (by simpa using h1) (by simpa using h2))
theorem Qi {X:Cx}(K:PySem.W.Frag) (hca:X.calm=true) (hK:X.K=K:=by rfl):qy X (.type "dict") (fun xs H Q=>∃ (p:Addr) (out:List V) (ms:List (Int×Int)),xs=[.ref p]/\SqL K H p out/\Paired (fun v (m:Int×Int)=>∃ b,v=V.ref b/\H b=some (.tup [.int m.1,.int m.2])) out ms/\(ms.map (·.1)).Nodup/\ms.length<=1000 /\
  ∀ (d:Addr) H',H d=none->H' d=some (.dK (ms.map fun m=>(.inl m.1,.int m.2)))->jh H H'->Q (.ref d) H'):=by
 subst hK
 intro pins s σ H xs us Q I r h
 obtain ⟨p,out,ms,rfl,hq,hm,nd,h1000,k⟩:=h
 obtain ⟨u,rfl,ru⟩:=xX r
 cases ru
 obtain ⟨its,rv,⟨ol,nl,ho,hc,hdc,hdt⟩,hz⟩:=I.list hq
 have hlen:out.length=ms.length:=Paired.length hm
 have hits:out.length=its.length:=rv.length
 obtain ⟨qs,hql,hqs⟩:=ur (fun i (m:Int×Int) (q:Key×Value×Value)=>∃ (b:Addr) (t1 t2:Tok),q=(.inl m.1,.int m.1 t1,.int m.2 t2)/\its[i]? = some (.ref b)/\s.heap.IsTuple b #[.int m.1 t1,.int m.2 t2]) ms 0 fun i m hi=>by
  rw [Nat.zero_add]
  have hio:i<out.length:=by rw [hlen];exact (List.getElem?_eq_some_iff.mp hi).1
  obtain ⟨m',hm',b,eb,hb⟩:=Paired.get hm (List.getElem?_eq_getElem hio)
  rw [hi] at hm'
  cases hm'
  obtain ⟨u,hu,ru⟩:=rv.get (List.getElem?_eq_getElem hio)
  rw [eb] at ru
  cases (show u=Value.ref b from ru)
  obtain ⟨_,its',r',o,h1,h2,n,h3⟩:=(show jW X.prog X.w H s.heap b (.tup [.int m.1,.int m.2]) from I.hok b _ hb)
  cases r' with
  | cons p1 q1 =>
   cases q1 with
   | cons p2 q2 =>
    cases q2
    obtain ⟨t1,rfl⟩:=p1
    obtain ⟨t2,rfl⟩:=p2
    exact ⟨_,b,t1,t2,rfl,hu,o,h1,h2,n,h3⟩
 have get:∀ (i:Nat) (q:Key×Value×Value),qs[i]? = some q->∃ (m:Int×Int) (b:Addr) (t1 t2:Tok),ms[i]? = some m/\q=(.inl m.1,.int m.1 t1,.int m.2 t2)/\its[i]? = some (.ref b)/\s.heap.IsTuple b #[.int m.1 t1,.int m.2 t2]:=fun i q hi=>by
  have him:i<ms.length:=by rw [<- hql];exact (List.getElem?_eq_some_iff.mp hi).1
  obtain ⟨b,t1,t2,e,h1,h2⟩:=hqs i _ q (List.getElem?_eq_getElem him) hi
  rw [Nat.zero_add] at h1
  exact ⟨_,b,t1,t2,List.getElem?_eq_getElem him,e,h1,h2⟩
 have keys:qs.map (·.1)=ms.map fun m=>(Sum.inl m.1:Key):=by
  refine List.ext_getElem? fun i=>?_
  rw [List.getElem?_map,List.getElem?_map]
  cases e:qs[i]? with
  | none =>
   rw [List.getElem?_eq_none_iff] at e
   rw [List.getElem?_eq_none_iff.mpr (by omega)]
   rfl
  | some q =>
   obtain ⟨m,b,t1,t2,h1,h2,_⟩:=get i q e
   rw [h1,h2]
   rfl
 have ndk:(qs.map (·.1)).Nodup:=by
  rw [keys,show (ms.map fun m=>(Sum.inl m.1:Key))=(ms.map (·.1)).map Sum.inl by rw [List.map_map];rfl]
  exact List.Pairwise.map _ (fun a b h e=>h (Sum.inl.inj e)) nd
 have KVr:KV (ms.map fun m=>((.inl m.1,.int m.2):Key×V)) (qs.map fun q=>(q.1,q.2.2)):=by
  refine ko (by rw [List.length_map,List.length_map,hql]) fun i a b h1 h2=>?_
  rw [List.getElem?_map] at h1 h2
  obtain ⟨q,hq',rfl⟩:=Option.map_eq_some_iff.mp h2
  obtain ⟨m,_,t1,t2,hm',e,_⟩:=get i q hq'
  rw [hm'] at h1
  cases h1
  subst e
  exact ⟨rfl,t2,rfl⟩
 refine QA (qs:=qs) (I.ok.hd hca) ho hc hdt hdc (by rw [hql];exact Nat.le_trans h1000 (by decide)) (fun q hq'=>?_) ndk (by simp;omega) (fun i q hi=>?_) fun h' tk keep dd=>?_
 ·obtain ⟨i,hi,e⟩:=List.mem_iff_getElem.mp hq'
  obtain ⟨m,b,t1,t2,h1,h2,_⟩:=get i q (by rw [List.getElem?_eq_getElem hi,e])
  subst h2
  exact kM (k:=.inl m.1) ⟨t1,rfl⟩
 ·obtain ⟨m,b,t1,t2,h1,h2,h3,h4⟩:=get i q hi
  subst h2
  exact ⟨b,by simpa using h3,h4⟩
 ·have hf:=I.hok.fresh (Nat.le_refl s.heap.objs.size)
  exact ⟨.ref _,upd H s.heap.objs.size (.dK (ms.map fun m=>((.inl m.1,.int m.2):Key×V))),I.laid (t':=tk) keep (Nat.le_refl _) (Qm (by rw [List.length_map];exact Nat.le_trans h1000 (by decide)) (beq_eq_false_iff_ne.mpr (Ne.symm (Nat.ne_of_lt I.big))) KVr dd),rfl,k _ _ hf j4 (jh.new hf)⟩
end L2
end
section
namespace L2
open PySem PySem.Spec PySem.W PyProof.Rows
theorem wg:∀ (ns:List Int) (its:List Value),its.length=ns.length->(∀ i,i<its.length->∃ t,its[i]? = some (.int (ns.getD i 0) t))->jw (ns.map V.int) its
 | [],[],_,_=>.nil
 | n::ns,v::its,hl,h=>by
  obtain ⟨t,e⟩:=h 0 (by simp)
  have e:v = .int n t:=by simpa using e
  refine .cons ⟨t,e⟩ (wg ns its (by simpa using hl) fun i hi=>?_)
  obtain ⟨t,e⟩:=h (i+1) (by simpa using hi)
  exact ⟨t,by simpa using e⟩
section
variable {X:Cx}
theorem uQ (K:PySem.W.Frag) (hca:X.calm=true) (hK:X.K=K:=by rfl):qy X (.type "list") (fun xs H Q=>∃ (p:Addr) (kvs:List (Key×V)) (ns:List Int),xs=[.ref p]/\Rd H p (.dK kvs)/\kvs.map (·.1)=ns.map Sum.inl/\ns.length<=1000/\New H (.lst (ns.map V.int)) Q):=by
 subst hK
 intro pins s σ H xs us Q I r h
 obtain ⟨p,kvs,ns,rfl,hp0,hks,hl,k⟩:=h
 obtain ⟨u,rfl,ru⟩:=xX r
 cases ru
 obtain ⟨hz,lo,vs,kv,dd⟩:=uk I.hok hp0
 obtain ⟨ep,hat⟩:=dd.dictAt
 have hvl:vs.length=ns.length:=by
  have e1:kvs.length=vs.length:=Paired.length kv
  have e2:=congrArg List.length hks
  rw [List.length_map,List.length_map] at e2
  omega
 refine kdl_call (kdl_dict (knd:=jx X.prog X.w) (kvs:=vs) (ep:=ep) lo) (I.ok.hd hca) hat (Nat.le_of_lt (ja (by omega))) fun h' tk acc c' hk hD hacc=>?_
 have hal:acc.toList.length=ns.length:=by rw [Array.length_toList,hacc.1,hvl]
 have item:∀ i,i<acc.toList.length->∃ t,acc.toList[i]? = some (.int (ns.getD i 0) t):=fun i hi=>by
  have hi2:i<acc.size:=by rw [Array.length_toList] at hi;exact hi
  obtain ⟨key,x,hx,his⟩:=hacc.2 i acc[i] (Array.getElem?_eq_getElem hi2)
  have hi3:i<kvs.length:=by
   have e1:kvs.length=vs.length:=Paired.length kv
   omega
  obtain ⟨q,hq,e1,_⟩:=Paired.get kv (List.getElem?_eq_getElem hi3)
  rw [hx] at hq
  cases hq
  have e2:(kvs.map (·.1))[i]? = some key:=by rw [List.getElem?_map,List.getElem?_eq_getElem hi3];exact congrArg some e1
  have hin:i<ns.length:=by omega
  rw [hks,List.getElem?_map,List.getElem?_eq_getElem hin] at e2
  cases e2
  obtain ⟨t,et⟩:=Value.isInt_shape his
  refine ⟨t,?_⟩
  rw [Array.getElem?_toList,Array.getElem?_eq_getElem hi2,et,List.getD_eq_getElem?_getD,List.getElem?_eq_getElem hin]
  rfl
 have hn0:s.heap.get? s.heap.objs.size=none:=by
  cases q:s.heap.get? s.heap.objs.size with
  | none=>rfl
  | some u=>exact absurd (Heap.lt_size q) (Nat.lt_irrefl _)
 obtain ⟨hH,I'⟩:=I.laidN (o:=.lst (ns.map V.int)) (t':=tk) hk hn0 fun _=>⟨by rw [List.length_map];exact Nat.le_of_lt (ja hl),acc.toList,c',wg ns _ hal item,by simpa using hD⟩
 exact ⟨.ref s.heap.objs.size,_,I',rfl,k _ _ hH j4 (jh.new hH)⟩
theorem XI (K:PySem.W.Frag) (hc:X.calm=true) (hK:X.K=K:=by rfl):qy X (.builtin "max") (fun xs H Q=>∃ (p:Addr) (ns:List Int),xs=[.ref p]/\SqL K H p (ns.map V.int)/\0<ns.length/\∀ M,M∈ns->(∀ a∈ns,a<=M)->Q (.int M) H):=by
 subst hK
 intro pins s σ H xs us Q I r h
 obtain ⟨p,ns,rfl,hq,hne,q⟩:=h
 obtain ⟨u,rfl,ru⟩:=xX r
 cases ru
 obtain ⟨its,rv,pl,hz⟩:=I.list hq
 have hi:=qq rv
 have hl:=pl.isList
 obtain ⟨xs,e⟩:=hi.allInts.items
 have hns:ns=xs.toList.map (·.1):=by
  rw [<- hi.numsOf,<- nums_intItems,<- e]
 have hsz:0<xs.size:=by
  have h3:=hne;rw [hns,List.length_map,Array.length_toList] at h3;exact h3
 rw [e] at hl
 refine max_intList (I.ok.hd hc) hl hsz fun v h' tk hv hk=>?_
 obtain ⟨t,rfl⟩:=intItems_at hv
 obtain ⟨h1,h2⟩:=argBest_gt (numAt xs) (xs.size-1)
 refine ⟨.int _,H,I.kept hk,⟨t,rfl⟩,q _ ?_ fun a ha=>?_⟩
 ·rw [hns,numAt_eq];exact getD_mem (by rw [List.length_map,Array.length_toList];omega)
 ·rw [hns] at ha
  obtain ⟨j,hj,rfl⟩:=mem_getD ha
  rw [List.length_map,Array.length_toList] at hj
  rw [<- numAt_eq];exact h2 j (by omega)
end
end L2
end
section
namespace L2
open PySem PySem.Spec PySem.W PyProof.Rows
section
variable {prog:Program}{w:World}{A:Around}{R:Result->Shared->Prop}{I:Addr}{fp wr:List Addr}{n:Nat}{P:Nat->Value->Prop}{St:Nat->Heap->Prop}{kw:List (Str×Value)}
theorem uI:(toString "max" ++ toString ".loop" : String) = "max.loop":=by decide
theorem gL (W:Walks prog w A.in1 I fp wr n P St) {bt:Nat->Nat->Bool}(hc:CmpOf prog w A.in1 .Gt P bt) {S:Addr}(ns:S∉fp) {d:Value}:∀ (k j:Nat) (s:Shared) (vb:Value) (c:Nat),n-(j+1)=k->j+1<=n->St (j+1) s.heap->P (argBest bt j) vb->s.heap.get? S=some { cls:=.type "list",dict:=none,data:=.seq #[vb,vb] c,slots:=#[] } ->
  (∀ v h' tk,P (argBest bt (n-1)) v->(∀ b o,b∉wr->b≠S->s.heap.get? b=some o->h'.get? b=some o)->R (.ok (.ret v)) { s with heap:=h',toks:=tk })->codeAny (model prog w) A (.builtin "max.loop" ⟨[.ref I,.none,.ref S],[("default",d)]⟩) R s
 | k,j,s,vb,c,hk,hj,hst,hP,hS,hR=>by
  have nw:S∉wr:=fun h=>ns (W.sub _ h)
  refine codeAny_builtin F.entry_max_loop (Around.under_plainId F.plain_max_loop _ ▸ ?_)
  show wpAny _ A.in1 (seqItems? (.ref S) >>= _) _ _ s
  refine wpAny_bind (wpAny_seqItems hS rfl (show wpAny _ A.in1 (tryCatch (pyNext (.ref I)) _ >>= _) _ _ s from wpAny_bind (wpAny_tryCatch ?_)))
  by_cases e:j+1=n
  ·refine W.done s _ _ (e ▸ hst) fun h' tk hk'=>?_
   show wpAny _ A.in1 (updateSeq S (fun _=>#[]) >>= _) _ _ _
   refine wpAny_bind (wpAny_updateSeq (hk' S _ nw hS) rfl (wpAny_bind (wpAny_letGo (wpAny_pure (hR vb _ tk (by rw [<- e];exact hP) fun b o h1 h2 z=>?_)))))
   exact (Heap.get?_update_other _ _ (Ne.symm h2)).trans (hk' b o h1 z)
  ·have lt:j+1<n:=by omega
   refine W.item (j+1) s _ _ lt hst fun v h' tk hv hst' hk'=>?_
   have hS':=hk' S _ nw hS
   show wpAny _ A.in1 (tryCatch (holding [v,v] (richCompare .Gt v vb >>= _)) _ >>= _) _ _ _
   refine wpAny_bind (wpAny_tryCatch (wpAny_holding (wpAny_bind (hc (j+1) (argBest bt j) v vb _ _ _ hv hP (wpAny_bind (wpAny_holding (wpAny_truthy_bool (wpAny_bind (wpAny_letGo (wpAny_pure ?_))))))))))
   cases hb:bt (j+1) (argBest bt j) with
   | true =>
    simp only [if_true]
    refine wpAny_bind (wpAny_updateSeq hS' rfl (wpAny_bind (wpAny_letGo (uI ▸ wpAny_pure ⟨plainId_quiet F.plain_max_loop _,?_⟩))))
    refine gL W hc ns (n-(j+1+1)) (j+1) _ v _ rfl lt (W.frame _ _ _ hst' fun b hf o z=>?_) (by simp only [argBest,hb,if_true];exact hv) (Heap.get?_update_self _ hS' rfl) fun v' h2 tk2 hv' hk2=>?_
    ·exact (Heap.get?_update_other _ _ (fun h:S=b=>ns (by rw [h];exact hf))).trans z
    ·exact hR v' h2 tk2 hv' fun b o h1 h3 z=>hk2 b o h1 h3 ((Heap.get?_update_other _ _ (Ne.symm h3)).trans (hk' b o h1 z))
   | false =>
    simp only [Bool.false_eq_true,if_false]
    refine wpAny_bind (wpAny_letGo (uI ▸ wpAny_pure ⟨plainId_quiet F.plain_max_loop _,?_⟩))
    exact gL W hc ns (n-(j+1+1)) (j+1) _ vb c rfl lt hst' (by simp only [argBest,hb,Bool.false_eq_true,if_false];exact hP) hS' fun v' h2 tk2 hv' hk2=>hR v' h2 tk2 hv' fun b o h1 h3 z=>hk2 b o h1 h3 (hk' b o h1 z)
termination_by k=>k
decreasing_by all_goals omega
theorem Zq (W:Walks prog w A.in1 I fp wr n P St) {bt:Nat->Nat->Bool}(hc:CmpOf prog w A.in1 .Gt P bt) {S:Addr}(ns:S∉fp) {d:Value}{s:Shared}{c:Nat}(hst:St 0 s.heap) (hS:s.heap.get? S=some { cls:=.type "list",dict:=none,data:=.seq #[] c,slots:=#[] })
  (h0:n=0->∀ h' tk,(∀ b o,b∉wr->b≠S->s.heap.get? b=some o->h'.get? b=some o)->R (.ok (.ret d)) { s with heap:=h',toks:=tk })
  (hR:0<n->∀ v h' tk,P (argBest bt (n-1)) v->(∀ b o,b∉wr->b≠S->s.heap.get? b=some o->h'.get? b=some o)->R (.ok (.ret v)) { s with heap:=h',toks:=tk }):codeAny (model prog w) A (.builtin "max.loop" ⟨[.ref I,.none,.ref S],[("default",d)]⟩) R s:=by
 have nw:S∉wr:=fun h=>ns (W.sub _ h)
 refine codeAny_builtin F.entry_max_loop (Around.under_plainId F.plain_max_loop _ ▸ ?_)
 show wpAny _ A.in1 (seqItems? (.ref S) >>= _) _ _ s
 refine wpAny_bind (wpAny_seqItems hS rfl (show wpAny _ A.in1 (tryCatch (pyNext (.ref I)) _ >>= _) _ _ s from wpAny_bind (wpAny_tryCatch ?_)))
 rcases Nat.eq_zero_or_pos n with e | e
 ·refine W.done s _ _ (e ▸ hst) fun h' tk hk'=>?_
  exact wpAny_bind (wpAny_rule (wpAny_pure (h0 e h' tk fun b o h1 _ z=>hk' b o h1 z)))
 ·refine W.item 0 s _ _ e hst fun v h' tk hv hst' hk'=>?_
  have hS':=hk' S _ nw hS
  show wpAny _ A.in1 (updateSeq S (fun _=>#[v,v]) >>= _) _ _ _
  refine wpAny_bind (wpAny_updateSeq hS' rfl (uI ▸ wpAny_pure ⟨plainId_quiet F.plain_max_loop _,?_⟩))
  refine gL W hc ns _ 0 _ v _ rfl e (W.frame _ _ _ hst' fun b hf o z=>?_) hv (Heap.get?_update_self _ hS' rfl) fun v' h2 tk2 hv' hk2=>?_
  ·exact (Heap.get?_update_other _ _ (fun h:S=b=>ns (by rw [h];exact hf))).trans z
  ·exact hR e v' h2 tk2 hv' fun b o h1 h3 z=>hk2 b o h1 h3 ((Heap.get?_update_other _ _ (Ne.symm h3)).trans (hk' b o h1 z))
end
theorem YJ (v:Value):Builtin.Builtins.bindParams "max" ["key","default"] 0 ⟨[],[(Str.ofString "default",v)]⟩=pure [none,some v]:=by rfl
theorem YZ (a v:Value):argsOk "max" ⟨[a],[(Str.ofString "default",v)]⟩:=by unfold argsOk;kernel_rfl
section
variable {X:Cx}
def W1 (K:PySem.W.Frag) (ta:TA) (tx:TE):TE:=fun σ H Q=>ta σ H fun xs H0=>tx σ H0 fun y H1=>∃ (p:Addr) (ns:List Int) (d:Int),xs=[.ref p]/\y = .int d/\SqL K H1 p (ns.map V.int)/\(ns=[]->Q (.int d) H1)/\∀ M,M∈ns->(∀ a∈ns,a<=M)->Q (.int M) H1
theorem YE {e x:Expr}{ta:TA}{tx:TE}{p pos kpos:Pos}(K:PySem.W.Frag) (hc:X.calm=true) (hg:Gl X "max") (hm:X.mg "max" = none) (ha:PA X [e] ta) (hx:PE X x tx) (hK:X.K=K:=by rfl)
  (he:backTo pos (starEach [e] X.env)=(false,eval e X.env)::backTo pos (starEach [] X.env):=by rfl) (hplain:(backTo pos (starEach [e] X.env)).any (·.1)=false:=by rfl) :
  PE X (.Call (.Name "max" p) [e] [⟨some (Str.ofString "default"),x,kpos⟩] pos) (W1 K ta tx):=by
 subst hK
 intro pins s σ H Q I h
 refine wpAny_Call_Name_kw (zh I hg hm boot_max ?_ (by decide) (by decide))
 refine callWith_kw (thn (ha pos pins s σ H _ I h) fun us s1 ⟨vs,H1,I1,r,q⟩=>?_) he hplain
 show wpAny _ _ (evalAll ((do let v <- eval x X.env;standAt pos;pure v)::[])) _ _ s1
 refine wpAny_evalAll_cons (wpAny_bind (thn (hx pins s1 σ H1 _ I1 q) fun v s2 ⟨y,H2,I2,ry,a,ns,d,e1,ey,hq,q0,q1⟩=>wpAny_bind (wpAny_standAt (wpAny_pure (wpAny_evalAll_nil ?_)))))
 subst e1 ey
 obtain ⟨u0,rfl,ru⟩:=xX r
 cases ru
 obtain ⟨t,rfl⟩:=ry
 show wpAny _ _ (call (.builtin "max") [.ref a] [(Str.ofString "default",.int d t)]) _ _ s2
 obtain ⟨its,rv,pl,hz⟩:=I2.list hq
 have hI:=qq rv
 have hlen:=hI.length
 have hlt:a<s2.heap.objs.size:=by
  obtain ⟨o,n,e,_⟩:=id pl
  exact Heap.lt_size e
 have item:∀ (i:Nat) (v:Value),its.toArray[i]? = some v->∃ t,v=Value.int (ns.getD i 0) t:=fun i v hP=>by
  have hP':its[i]? = some v:=by simpa using hP
  have hi:i<its.length:=(List.getElem?_eq_some_iff.mp hP').1
  obtain ⟨t',e⟩:=vn hI hi
  rw [e] at hP'
  refine ⟨t',?_⟩
  rw [List.getD_eq_getElem?_getD,List.getElem?_eq_getElem (by omega)]
  exact (Option.some.inj hP').symm
 have old:∀ (h':Heap),(∀ b o,b∉[s2.heap.objs.size]->b≠(s2.heap.push { cls:=Value.type "list_iterator",data:=Data.fields #[Value.ref a,Value.int 0 0] }).objs.size->((s2.heap.push { cls:=Value.type "list_iterator",data:=Data.fields #[Value.ref a,Value.int 0 0] }).push { cls:=Value.type "list",data:=Data.seq #[] }).get? b=some o->h'.get? b=some o)->∀ b o,s2.heap.get? b=some o->h'.get? b=some o:=fun h' hk b o eo=>by
  have lb:=Heap.lt_size eo
  refine hk b o (fun z=>absurd (List.mem_singleton.mp z) (Nat.ne_of_lt lb)) ?_ (Heap.get?_push_of_some _ (Heap.get?_push_of_some _ eo))
  rw [Heap.size_push]
  exact Nat.ne_of_lt (Nat.lt_succ_of_lt lb)
 have Wk:=Walks.list (prog:=X.prog) (w:=X.w) (show (X.A.in1).handled=none from I2.ok.hd hc) s2.heap.objs.size a (Nat.ne_of_lt hlt) its.toArray
 refine kmb_tree F.kind_max F.plain_max F.entry_max (YZ (.ref a) (.int d t)) ?_
 refine wpAny_bind (wpAny_of_eq (YJ (.int d t)) (wpAny_bind (wpAny_pure (wpAny_bind (wpAny_pyIter_list pl.isList (wpAny_bind (wpAny_newObj_type ?_)))))))
 rw [uI]
 refine wpAny_pure ⟨plainId_quiet F.plain_max_loop _,Zq Wk (bt:=fun i j=>decide (ns.getD i 0 > ns.getD j 0)) (CmpOf.ints_gt (fun i=>ns.getD i 0) ?_) ?_ (Wk.frame _ _ _ ⟨⟨_,Heap.get?_push_size _ rfl,rfl,rfl⟩,pl.isList.at fun o e=>Heap.get?_push_of_some _ e⟩ fun b _ o e=>Heap.get?_push_of_some _ e) (Heap.get?_push_size _ rfl) (fun e0 h' tk hk=>?_) fun e0 v h' tk hv hk=>?_⟩
 all_goals try clear Wk
 ·exact item
 ·intro z
  rw [show (s2.heap.push { cls:=Value.type "list_iterator",data:=Data.fields #[Value.ref a,Value.int 0 0] }).objs.size=s2.heap.objs.size+1 from Heap.size_push _ _] at z
  rcases List.mem_cons.mp z with z | z
  ·exact absurd z (Nat.ne_of_gt (Nat.lt_succ_self _))
  ·exact absurd (List.mem_singleton.mp z) (Nat.ne_of_gt (Nat.lt_succ_of_lt hlt))
 ·exact ⟨.int d,_,I2.kept (t':=tk) (fun b o eo=>old h' hk b o eo),⟨t,rfl⟩,q0 (List.eq_nil_of_length_eq_zero (by rw [<- hlen];simpa using e0))⟩
 ·obtain ⟨t',rfl⟩:=item _ _ hv
  obtain ⟨b1,b2⟩:=argBest_gt (fun i=>ns.getD i 0) (its.toArray.size-1)
  have hsz:its.toArray.size=ns.length:=by rw [<- hlen];simp
  refine ⟨.int _,_,I2.kept (t':=tk) (fun b o eo=>old h' hk b o eo),⟨t',rfl⟩,q1 _ ?_ fun x hx=>?_⟩
  ·rw [List.getD_eq_getElem?_getD,List.getElem?_eq_getElem (by omega)]
   exact List.getElem_mem _
  ·obtain ⟨k,hk',rfl⟩:=List.mem_iff_getElem.mp hx
   have:=b2 k (by omega)
   rw [List.getD_eq_getElem?_getD,List.getElem?_eq_getElem hk'] at this
   exact this
end
end L2
end
section
namespace L2
open PySem PySem.Spec PySem.W PyProof.Rows
theorem wq:∀ (ns:List Int),(∀ n∈ns,-(2 ^ 20)<=n/\n<=2 ^ 20) -> -(2 ^ 20)*(ns.length:Int)<=ns.sum/\ns.sum<=2 ^ 20*(ns.length:Int)
 | [],_=>by simp
 | n::ns,h=>by
  have a:=h n (List.mem_cons_self ..)
  have b:=wq ns fun z hz=>h z (List.mem_cons_of_mem _ hz)
  rw [List.sum_cons,List.length_cons]
  omega
section
variable {X:Cx}
theorem zy (K:PySem.W.Frag) (hc:X.calm=true) (hK:X.K=K:=by rfl):qy X (.builtin "sum") (fun xs H Q=>∃ (p:Addr) (ns:List Int),xs=[.ref p]/\SqL K H p (ns.map V.int)/\ns.length<=1000/\(∀ n∈ns,-(2 ^ 20)<=n/\n<=2 ^ 20)/\Q (.int ns.sum) H):=by
 subst hK
 intro pins s σ H xs us Q I r h
 obtain ⟨p,ns,rfl,hq,hl,hb,q⟩:=h
 obtain ⟨u,rfl,ru⟩:=xX r
 cases ru
 obtain ⟨its,rv,pl,hz⟩:=I.list hq
 have hI:=qq rv
 have hlen:=hI.length
 have hne:p≠s.heap.objs.size:=by
  obtain ⟨o,n,e,_⟩:=id pl
  exact Nat.ne_of_lt (Heap.lt_size e)
 refine call_sum_walk (wpAny_pyIter_list pl.isList ?_)
 refine ⟨s.heap.objs.size,_,_,_,_,_,fun i=>ns.getD i 0,rfl,Walks.list (show (X.A.in1).handled=none from I.ok.hd hc) s.heap.objs.size p hne its.toArray,⟨⟨_,Heap.get?_push_size _ rfl,rfl,rfl⟩,pl.isList.at fun o e=>Heap.get?_push_of_some _ e⟩,?_,?_,?_,?_⟩
 ·intro b hb'
  have hps:p<s.heap.objs.size:=by
   obtain ⟨o,n,e,_⟩:=id pl
   exact Heap.lt_size e
  show b<(s.heap.push _).objs.size
  rw [Heap.size_push]
  rcases List.mem_cons.mp hb' with rfl | hb'
  ·exact Nat.lt_succ_self _
  ·have e:b=p:=by simpa using hb'
   subst e
   exact Nat.lt_succ_of_lt hps
 ·intro i v hP
  have hP':its[i]? = some v:=by simpa using hP
  have hi:i<its.length:=(List.getElem?_eq_some_iff.mp hP').1
  obtain ⟨t,e⟩:=vn hI hi
  rw [e] at hP'
  refine ⟨t,?_⟩
  show v=Value.int (ns.getD i 0) t
  rw [List.getD_eq_getElem?_getD,List.getElem?_eq_getElem (by omega)]
  exact (Option.some.inj hP').symm
 ·intro j hj
  have hj':j<ns.length:=by
   have:its.toArray.size=its.length:=by simp
   omega
  constructor
  ·show InLong (ns.getD j 0)
   rw [List.getD_eq_getElem?_getD,List.getElem?_eq_getElem hj']
   have:=hb _ (List.getElem_mem hj')
   show -(2 ^ 63)<=ns[j]/\ns[j]<2 ^ 63
   omega
  ·rw [preSum_getD]
   have:=wq (ns.take (j+1)) fun n hn=>hb n (List.mem_of_mem_take hn)
   have hl2:(ns.take (j+1)).length<=1000:=by rw [List.length_take];omega
   show -(2 ^ 63)<=_/\_<2 ^ 63
   omega
 ·intro h' tk t' hk
  rw [preSum_getD,List.take_of_length_le (by simp;omega)]
  refine ⟨.int ns.sum,H,I.kept (t':=tk) fun b o eo=>hk b o (by
   intro z
   have:=List.mem_singleton.mp z
   subst this
   exact absurd (Heap.lt_size eo) (Nat.lt_irrefl _)) (Heap.get?_push_of_some _ eo),⟨t',rfl⟩,q⟩
end
end L2
end
section
namespace K35
open PySem PySem.Spec PyProof.Rows L2
local macro_rules | `(tactic| walk_at "hp")=>`(tactic| first | assumption | exact j4 | (rw [j5 (by first | assumption | (apply Ne.symm;assumption))];first | assumption | exact j4))
local macro_rules | `(tactic| walk_at "num")=>`(tactic| first | decide | omega)
local macro_rules | `(tactic| walk_at "rd1")=>`(tactic| first | refine ⟨_,rfl,?_⟩ | refine ⟨_,_,rfl,rfl,?_⟩ | refine And.intro (show uZ _ _ from Or.inr ⟨by walk_at "num",by walk_at "num"⟩) ?_ | refine And.intro (show uZ _ _ from Or.inl ⟨by walk_at "num",by walk_at "num"⟩) ?_ | refine And.intro (show JQ _ _ from ⟨by walk_at "num",by walk_at "num"⟩) ?_ | refine And.intro (show ZE _ _ from ⟨by walk_at "num",by walk_at "num",by walk_at "num"⟩) ?_ | refine And.intro (show (0:Int)<_ by walk_at "num") ?_ | refine ⟨_,_,_,_,rfl,rfl,SqL.of (by walk_at "hp"),(by rfl),?_⟩ | refine ⟨_,_,_,_,rfl,rfl,SqT.of (by walk_at "hp"),(by rfl),?_⟩ | refine ⟨_,_,_,_,rfl,rfl,(by assumption),(by rfl),?_⟩ | refine ⟨_,_,_,_,rfl,rfl,(by walk_at "hp"),(by rfl),?_⟩ | refine ⟨rfl,?_⟩)
local macro_rules | `(tactic| walk_at "r")=>`(tactic| repeat walk_at "rd1")
local macro_rules | `(tactic| walk_at "s")=>`(tactic| exact ⟨rfl,rfl,rfl,by decide +kernel,rfl,by decide +kernel,by decide +kernel⟩)
local macro_rules | `(tactic| walk_at "k")=>`(tactic| decide +kernel)
local macro_rules | `(tactic| walk_at "w")=>`(tactic| (intro _ z;cases z))
local macro_rules | `(tactic| walk_at "z")=>`(tactic| (intro z;cases z))
local macro_rules | `(tactic| left)=>`(tactic| walk_at "r")
def top (i:Nat):Stmt:=PySem.Challenge.pw_firnfall_k35_whole_each_round_adds_alike.main.body.getD i (.Pass ⟨0,0,0,0⟩)
abbrev za:Stmt:=top 16
abbrev zR:Stmt:=top 17
abbrev yL:Stmt:=top 18
abbrev gC:Stmt:=top 19
abbrev qJ:Stmt:=top 20
abbrev yK:Stmt:=top 21
abbrev uW:Stmt:=top 22
abbrev xa:Stmt:=top 23
abbrev yr:Stmt:=top 24
abbrev zN:Stmt:=top 29
abbrev zQ:Stmt:=top 30
abbrev uO:Stmt:=top 31
abbrev zK:Stmt:=top 36
abbrev zg:Stmt:=top 37
abbrev zn:Stmt:=top 38
abbrev qu:Stmt:=(qQ (top 39) 0)
abbrev wC:Stmt:=(qQ (top 39) 1)
abbrev y4:Stmt:=(qQ (top 39) 2)
abbrev xg:Stmt:=(qQ (top 39) 4)
abbrev qS:Stmt:=(qQ (top 39) 5)
abbrev ze:Stmt:=(qQ (top 39) 6)
abbrev zi:Stmt:=(qQ (top 39) 7)
abbrev yd:Stmt:=(qQ (top 39) 8)
abbrev zJ:Stmt:=(qQ (top 39) 10)
abbrev xT:Stmt:=(qQ (top 39) 13)
abbrev xp:Stmt:=(qQ (top 39) 14)
abbrev yX:Stmt:=(qQ (top 39) 16)
abbrev zw:Stmt:=top 41
abbrev xc:Stmt:=top 42
abbrev vi:Stmt:=top 44
abbrev uL:Stmt:=top 45
abbrev vZ:Stmt:=top 47
abbrev yc:Stmt:=top 48
abbrev yH:Stmt:=top 49
abbrev ya:Stmt:=top 50
abbrev xy:Stmt:=top 51
abbrev zp:Stmt:=top 52
abbrev xV:Stmt:=top 53
abbrev jZ:Stmt:=top 54
abbrev qO:Stmt:=top 55
abbrev xw:Stmt:=top 56
abbrev zG:Stmt:=top 57
abbrev yZ:Stmt:=top 58
abbrev xx:Stmt:=top 59
abbrev yU:Stmt:=top 60
abbrev yM:Stmt:=top 61
abbrev yG:Stmt:=top 62
abbrev yC:Stmt:=top 63
section
variable {P:Program}{w:World}{K:PySem.W.Frag}{mg:Str->Option Value}{base:Heap}
abbrev VZ:Pos:=⟨47,28,47,49⟩
abbrev qm (H:Hp) (Pt:Addr):Prop:=Tab H Pt VZ (("lanes" : Str) ++ ".<locals>." ++ "<lambda>")
def QS:Sp:=fun vs H Q _=>∃ (i:Nat) (t:Int),vs=[.int i,.int t]/\Q (.bl (xi i t)) H
theorem Jg:FnScope ["number","to"] ["number","to"] (j6 yL):=by walk_at "s"
theorem Q5 {f:Addr}{fd:FuncData}(F:Fun K "leads_on" "leads_on" yL f fd):FnOk P w K mg base CX0 1 f fd ["number","to"] QS:=by
 refine F.ok Jg (fun vs H Q E h=>?_) (fun cdv A outer s H vs Q E hr h=>?_)
 ·obtain ⟨i,t,rfl,_⟩:=h
  rfl
 ·obtain ⟨i,t,rfl,k⟩:=h
  refine ⟨_,(j7 (qj (qc uq (pv 0) j8 (qd _)) (j9 (jj (xS uq (pv 1) (yE zq j8) (qd _)))) jB)
   (j9 (jj (zx qp kF j8 (pv 1) (pv 0))))),?_⟩
  have fin:∀ b:Bool,b=xi i t->Q (.bl b) H:=fun b e=>by rw [e];exact k
  left
  refine xm (fun h1=>?_) (fun h1=>?_)
  ·left
   have h1':i=0:=by have:=V.int.inj h1;omega
   refine fin _ ?_
   unfold xi
   rw [if_pos h1']
   exact decide_eq_decide.mpr ⟨fun z=>V.int.inj z,fun z=>by rw [z]⟩
  ·have h1':i≠0:=fun z=>h1 (by rw [z];rfl)
   left
   refine xm (fun h2=>?_) (fun h2=>?_)
   ·left
    refine fin _ ?_
    unfold xi
    rw [if_neg h1']
    exact decide_eq_decide.mpr ⟨fun z=>⟨h2,z⟩,fun z=>z.2⟩
   ·refine fin _ ?_
    unfold xi
    rw [if_neg h1',decide_eq_false (fun z=>h2 z.1)]
def QQ:Sp:=fun vs H Q _=>∃ (i:Nat) (v:V) (r:Rch),vs=[.int i,v]/\gh H v r/\r.2.length<=100/\∀ H',jh H H'->Q (.bl (okR i r)) H'
theorem y3:FnScope ["number","reach","to","slope"] ["number","reach"] (j6 zR):=by walk_at "s"
theorem Jm {f:Addr}{fd:FuncData}{u0 u1:Tok}(nb:Nb2 mg) (g_MOST_HEIGHTS:mg "MOST_HEIGHTS" = some (.int 12 u0)) (g_GREATEST_HEIGHT:mg "GREATEST_HEIGHT" = some (.int 99 u1)) (c_leads_on:Cal P w K mg base 1 "leads_on" ["number","to"] QS) (F:Fun K "is_reach" "is_reach" zR f fd):FnOk P w K mg base CX0 2 f fd ["number","reach"] QQ:=by
 refine F.ok y3 (fun vs H Q E h=>?_) (fun cdv A outer s H vs Q E hr h=>?_)
 ·obtain ⟨i,v,r,rfl,_⟩:=h
  rfl
 ·obtain ⟨i,v,⟨t,hs⟩,rfl,⟨p,g,rfl,hp,hg⟩,h100,k⟩:=h
  have h100':hs.length<=100:=h100
  have fin:∀ (b:Bool) (H':Hp),jh H H'->b=okR i (t,hs)->Q (.bl b) H':=fun b H' sm e=>by rw [e];exact k H' sm
  refine ⟨_,(j7 (zS (pv 1) (qL (n:=2) K rfl (js (jb (i:=2) y3.nd rfl (Or.inl rfl)) (js (jb (i:=3) y3.nd rfl (Or.inl rfl)) qA))))
   (j7 (qj (PW.pt (ZG (qT (zf (je c_leads_on (hr.mono (by decide)) rfl (j0 (pv 0) (j0 (pv 2) j2))))) (QG (qT (xr qp qp j8 (jc (jg K) rfl nb.b_len PySem.boot_len (j0 (pv 3) j2)) (qR (v:=V.int 12) rfl g_MOST_HEIGHTS ⟨_,rfl⟩)))))) (j9 (jj kX)) jB)
   (j9 (jj (jc (zA K rfl) rfl nb.b_all boot_all (j0 (jC (osc:=(j6 zR)) (ON:=["number","reach","to","slope"]) (N:=["height"]) (own:=1) (caps:=[]) ⟨rfl,by walk_at "k",by walk_at "k",by walk_at "k",rfl,by walk_at "k"⟩ rfl rfl rfl (vD K (pv 3)) (fun _ _ _ _ _=>(jb (i:=0) (show List.Nodup (["height"]:List Str) by decide +kernel) rfl (Or.inl rfl))) (fun _ _ _ _ _=>jr) (fun _ _ _ _ _=>(zx qp qp j8 (pv 0) (qR (v:=V.int 99) rfl g_GREATEST_HEIGHT ⟨_,rfl⟩)))) j2)))))),?_⟩
  left
  refine ⟨p,_,rfl,SqT.of hp,rfl,?_⟩
  refine ⟨_,_,rfl,_,_,rfl,rfl,?_⟩
  left
  refine ⟨i,t,rfl,?_⟩
  left
  cases hl:xi i t with
  | false =>
   refine yw ?_
   left
   exact fin _ H (jh.refl H) (by unfold okR;rw [hl];rfl)
  | true =>
   refine wG ?_
   left
   refine ⟨_,_,rfl,.inr (SqT.of hg),?_⟩
   left
   rw [List.length_map]
   refine xm (fun h1=>?_) (fun h1=>?_)
   ·left
    refine zW (fun h2=>?_) (fun h2=>?_)
    ·left
     exact fin _ H (jh.refl H) (by unfold okR;rw [hl,decide_eq_false (fun z=>h2 z.2)];rfl)
    ·left
     refine ⟨⟨_,SqT.of hg⟩,fun acc hacc=>?_⟩
     refine Jf (K:=K) (a:=g) (xs:=hs.map V.int) (acc:=acc) (fun j σ H2=>∃ x:Option V,σ=[x]/\H2 acc=some (.lst (((hs.take j).map fun x=>decide (0<=x/\x<=99)).map V.bl))/\Ext acc H H2) ?_ ?_ ?_ ?_
     ·exact ⟨none,rfl,j4,Ext.put⟩
     ·rintro j σ H2 hj ⟨x,rfl,h3,e3⟩
      exact SqT.of (e3 _ _ hg (j1 hg hacc))
     ·rintro j v σ H2 hv ⟨x,rfl,h3,e3⟩
      obtain ⟨z,rfl⟩:=yj hv
      have hz:hs[j]? = some z:=by
       rw [List.getElem?_map] at hv
       cases e:hs[j]? with
       | none=>rw [e] at hv;cases hv
       | some y=>rw [e] at hv;cases hv;rfl
      have hj:j<hs.length:=(List.getElem?_eq_some_iff.mp hz).1
      have done:∀ b:Bool,b=decide (0<=z/\z<=99)->∃ ys,H2 acc=some (.lst ys)/\ys.length<sizeLine/\∃ x:Option V,[some (V.int z)]=[x]/\upd H2 acc (.lst (ys++[V.bl b])) acc=some (.lst (((hs.take (j+1)).map fun x=>decide (0<=x/\x<=99)).map V.bl))/\Ext acc H (upd H2 acc (.lst (ys++[V.bl b]))):=fun b e=>by
       refine ⟨_,h3,by rw [List.length_map,List.length_map,List.length_take];exact ja (by omega),_,rfl,?_,e3.trans Ext.put⟩
       rw [j4,qi (fun x=>decide (0<=x/\x<=99)) hs j z hz,List.map_append,e]
       rfl
      left
      refine xm (fun h4=>?_) (fun h4=>?_)
      ·left
       exact done _ (decide_eq_decide.mpr ⟨fun y=>⟨h4,y⟩,fun y=>y.2⟩)
      ·exact done _ (decide_eq_false fun y=>h4 y.1).symm
     ·rintro σ H2 ⟨x,rfl,h3,e3⟩
      rw [List.length_map,List.take_length] at h3
      refine ⟨acc,_,rfl,SqL.of h3,?_⟩
      refine fin _ H2 (fun c o hc=>e3 c o hc (j1 hc hacc)) ?_
      unfold okR
      rw [hl,decide_eq_true (show (1<=(hs.length:Int)/\(hs.length:Int)<=12) from ⟨h1,h2⟩),List.all_map]
      rfl
   ·refine ⟨_,rfl,yw ?_⟩
    left
    exact fin _ H (jh.refl H) (by unfold okR;rw [hl,decide_eq_false (fun z=>h1 z.1)];rfl)
def kl (K:PySem.W.Frag):Sp:=fun vs H Q _=>∃ (p:Addr) (xs:List V) (rs:List Rch) (h:Nat),vs=[.ref p,.int h]/\H p=some (.lst xs)/\jK H xs rs/\qU rs/\h<rs.length/\rs.length<=100/\∀ t H',H t=none->H' t=some (.tup ((qg rs h).map V.int))->jh H H'->Q (.ref t) H'
theorem zd:FnScope ["reaches","head","way","reach"] ["reaches","head"] (j6 yK):=by walk_at "s"
theorem Q7 {f:Addr}{fd:FuncData}(nb:Nb2 mg) (F:Fun K "way_down" "way_down" yK f fd):FnOk P w K mg base CX0 1 f fd ["reaches","head"] (kl K):=by
 refine F.ok zd (fun vs H Q E h=>?_) (fun cdv A outer s H vs Q E hr h=>?_)
 ·obtain ⟨p,xs,rs,h,rfl,_⟩:=h
  rfl
 ·obtain ⟨p,xs,rs,h,rfl,hp,hrw,L,hh,h100,k⟩:=h
  refine ⟨_,(j7 (jp (i:=2) zd.nd rfl (Or.inl rfl) (jT j2))
   (j7 (jp (i:=3) zd.nd rfl (Or.inl rfl) (pv 1))
   (j7 (Jn PassesOwn.never (qc Yl (pv 3) j8 (qd _)) (j7 (jV (yJ K PySem.F.plainAttrs_list PySem.F.slot_list_append PySem.F.type_list_append qK (pv 2) (j0 (pv 3) j2)))
   (j9 (jp (i:=3) zd.nd rfl (Or.inl rfl) (jq (qt K) (jq (jd K) (pv 0) (pv 3) (fun _ _=>rfl)) j8 (fun _ _=>rfl))))))
   (j9 (jj (jY (xf K) rfl nb.b_tuple PyProof.Rows.boot_tuple (j0 (pv 2) j2))))))),?_⟩
  left
  refine ⟨Nat.zero_le _,fun wy H1 hwy hwy1 s1=>?_⟩
  left
  have hlen:=hrw.length
  refine JY (fun σ H2=>∃ (pre:List Int) (r:Int),σ=[some (.ref p),some (.int h),some (.ref wy),some (.int r)]/\H2 wy=some (.lst (pre.map V.int))/\Ext wy H1 H2 /\ -1<=r/\r<rs.length/\pre.length+(r+1).toNat<=100/\pre++(if r<0 then [] else qg rs r.toNat)=qg rs h) (fun σ H2=>match σ with | [_,_,_,some (.int r)]=>(r+1).toNat | _=>0) ?_ ?_ ?_
  ·refine ⟨[],h,rfl,hwy1,Ext.refl,by omega,by omega,by simp;omega,?_⟩
   rw [if_neg (by omega)]
   rfl
  ·rintro σ H2 ⟨pre,r,rfl,hw2,e2,r0,r1,rl,heq⟩
   left
   refine xm (fun hr0=>?_) (fun hr0=>?_)
   ·have hp2:H2 p=some (.lst xs):=e2 _ _ (s1 _ _ hp) (j1 hp hwy)
    have hrw2:jK H2 xs rs:=hrw.keep ((jo.same s1).trans (jo.lst e2 hwy1))
    have hi:r.toNat<rs.length:=by omega
    obtain ⟨v,hv,q,g,rfl,hq,hg⟩:=hrw2.at (List.getElem?_eq_getElem hi)
    have ht:=L.lt hi
    have ht2:=(wm (L _ hi)).2.1
    have et:=kY (List.getElem?_eq_getElem hi)
    rw [et] at ht ht2
    generalize (rs[r.toNat]'hi).1=tt at ht ht2 et hq
    left
    refine ⟨.inl ⟨rfl,_,SqL.of hw2⟩,?_⟩
    left
    refine ⟨wy,_,_,rfl,rfl,hw2,by rw [List.length_map];exact ja (by omega),?_⟩
    have hne:q≠wy:=jk hq hw2 (by walk_at "z")
    have hp3:upd H2 wy (.lst (pre.map V.int++[.int r])) p=some (.lst xs):=by rw [j5 (j1 hp hwy)];exact hp2
    have hq3:upd H2 wy (.lst (pre.map V.int++[.int r])) q=some (.tup [.int tt,.ref g]):=by rw [j5 hne];exact hq
    left
    refine ⟨_,_,_,_,rfl,rfl,SqL.of hp3,xk hr0 hv,?_⟩
    refine ⟨_,_,_,_,rfl,rfl,SqT.of hq3,rfl,?_⟩
    refine ⟨⟨pre++[r],tt,rfl,?_,e2.trans Ext.put,by omega,by omega,?_,?_⟩,?_⟩
    ·rw [j4,List.map_append];rfl
    ·rw [List.length_append,List.length_singleton];omega
    ·rw [<- heq,if_neg (show ¬ r<0 by omega),xZ L hi,et,List.append_assoc]
     congr 1
     show r::_=_
     congr 1
     omega
    ·show (tt+1).toNat<(r+1).toNat
     omega
   ·rw [if_pos (by omega),List.append_nil] at heq
    subst heq
    left
    refine ⟨wy,_,rfl,SqL.of hw2,fun t H3 ht ht3 s3=>?_⟩
    exact k t H3 (s1.free (e2.free ht (fun z=>by rw [z,hw2] at ht;cases ht))) ht3 (fun c o hc=>s3 _ _ (e2 _ _ (s1 _ _ hc) (j1 hc hwy)))
  ·intro σ H2 Q1 Q2 hQ h
   obtain ⟨v,e,r⟩:=h
   obtain ⟨i,j,e1,e2,kk,e3,r⟩:=r
   exact ⟨v,e,i,j,e1,e2,kk,e3,hQ _ _ r⟩
def Xm (K:PySem.W.Frag):Sp:=fun vs H Q _=>∃ (p a:Addr) (xs:List V) (rs:List Rch) (way:List Int),vs=[.ref p,.ref a]/\H p=some (.lst xs)/\jK H xs rs/\(∀ r∈rs,r.2.length<=100)/\H a=some (.tup (way.map V.int))/\(∀ r∈way,0<=r/\r<rs.length)/\way.length<=100/\∀ H',jh H H'->Q (.int (jv rs way)) H'
theorem uE:FnScope ["reaches","way"] ["reaches","way"] (j6 xa):=by walk_at "s"
theorem uD {f:Addr}{fd:FuncData}(nb:Nb2 mg) (F:Fun K "count_places" "count_places" xa f fd):FnOk P w K mg base CX0 1 f fd ["reaches","way"] (Xm K):=by
 refine F.ok uE (fun vs H Q E h=>?_) (fun cdv A outer s H vs Q E hr h=>?_)
 ·obtain ⟨p,a,xs,rs,way,rfl,_⟩:=h
  rfl
 ·obtain ⟨p,a,xs,rs,way,rfl,hp,hrw,h100,ha,hin,hwl,k⟩:=h
  have hlen:=hrw.length
  refine ⟨_,(j9 (jj (jc (Y1 K rfl) rfl nb.b_sum boot_sum (j0 (jC (osc:=(j6 xa)) (ON:=["reaches","way"]) (N:=["reach","reaches"]) (own:=1) (caps:=[0]) ⟨rfl,by walk_at "k",by walk_at "k",by walk_at "k",rfl,by walk_at "k"⟩ rfl rfl rfl (vD K (pv 1)) (fun _ _ _ _ _=>(jb (i:=0) (show List.Nodup (["reach","reaches"]:List Str) by decide +kernel) rfl (Or.inl rfl))) (fun _ _ _ _ _=>jr) (fun _ _ _ _ _=>(jc (jg K) rfl nb.b_len PySem.boot_len (j0 (jq (qt K) (jq (jd K) (pv 1) (pv 0) (fun _ _=>rfl)) j8 (fun _ _=>rfl)) j2)))) j2)))),?_⟩
  left
  refine ⟨⟨_,SqT.of ha⟩,fun acc hacc=>?_⟩
  refine Jf (K:=K) (a:=a) (xs:=way.map V.int) (acc:=acc) (fun j σ H2=>∃ x:Option V,σ=[x,some (.ref p)]/\H2 acc=some (.lst (((way.take j).map fun r=>((zj rs r.toNat).length:Int)).map V.int))/\Ext acc H H2) ?_ ?_ ?_ ?_
  ·exact ⟨none,rfl,j4,Ext.put⟩
  ·rintro j σ H2 hj ⟨x,rfl,h3,e3⟩
   exact SqT.of (e3 _ _ ha (j1 ha hacc))
  ·rintro j v σ H2 hv ⟨x,rfl,h3,e3⟩
   obtain ⟨r,rfl⟩:=yj hv
   have hz:way[j]? = some r:=by
    rw [List.getElem?_map] at hv
    cases e:way[j]? with
    | none=>rw [e] at hv;cases hv
    | some y=>rw [e] at hv;cases hv;rfl
   have hj:j<way.length:=(List.getElem?_eq_some_iff.mp hz).1
   have hr:=hin r (List.mem_of_getElem? hz)
   have hi:r.toNat<rs.length:=by omega
   obtain ⟨v,hv',q,g,rfl,hq,hg⟩:=(hrw.keep (jo.new e3 hacc)).at (List.getElem?_eq_getElem hi)
   left
   refine ⟨_,_,_,_,rfl,rfl,SqL.of (e3 _ _ hp (j1 hp hacc)),xk hr.1 hv',?_⟩
   refine ⟨_,_,_,_,rfl,rfl,SqT.of hq,rfl,?_⟩
   refine ⟨_,_,rfl,.inr (SqT.of hg),?_⟩
   refine ⟨_,h3,by rw [List.length_map,List.length_map,List.length_take];exact ja (by omega),_,rfl,?_,e3.trans Ext.put⟩
   rw [j4,qi (fun r:Int=>((zj rs r.toNat).length:Int)) way j r hz,List.map_append,gg (List.getElem?_eq_getElem hi),List.length_map]
   rfl
  ·rintro σ H2 ⟨x,rfl,h3,e3⟩
   rw [List.length_map,List.take_length] at h3
   refine ⟨acc,_,rfl,SqL.of h3,by rw [List.length_map];omega,fun n hn=>?_,?_⟩
   ·obtain ⟨r,hr,rfl⟩:=List.mem_map.mp hn
    have hb:=hin r hr
    have hi:r.toNat<rs.length:=by omega
    have:=h100 _ (List.getElem_mem hi)
    rw [gg (List.getElem?_eq_getElem hi)]
    omega
   ·exact k H2 fun c o hc=>e3 c o hc (j1 hc hacc)
def vL (K:PySem.W.Frag) (Pt:Addr):Sp:=fun vs H Q _=>∃ (p:Addr) (xs:List V) (rs:List Rch),vs=[.ref p]/\H p=some (.lst xs)/\jK H xs rs/\qU rs/\rs.length<=60/\qm H Pt/\∀ l H' out ws,H l=none->H' l=some (.lst out)->zv H' out ws->jM rs ws->Ext Pt H H'->qm H' Pt->Q (.ref l) H'
theorem wk:FnScope ["reaches","entered","ways"] ["reaches"] (j6 qJ):=by walk_at "s"
theorem Jw {α:Type}(l:List α) (d:α):((List.range l.length).map fun i=>l.getD i d)=l:=by
 apply List.ext_getElem
 ·simp
 ·intro i h1 h2
  simp [h2]
theorem kH {H:Hp}{vs:List V}{ws:List (List Int)}(h:zv H vs ws):∀ ix:List Nat,(∀ i∈ix,i<vs.length)->zv H (ix.map fun i=>vs.getD i V.non) (ix.map fun i=>ws.getD i [])
 | [],_=>.nil
 | i::ix,hb=>by
  refine .cons ?_ (kH h ix fun j hj=>hb j (List.mem_cons_of_mem _ hj))
  have hi:=hb i List.mem_cons_self
  obtain ⟨y,e2,a,e3,e4⟩:=Paired.get h (List.getElem?_eq_getElem hi)
  refine ⟨a,?_,?_⟩
  ·show vs.getD i V.non=V.ref a
   rw [List.getD_eq_getElem?_getD,List.getElem?_eq_getElem hi];exact e3
  ·show H a=some (.tup ((ws.getD i []).map V.int))
   rw [List.getD_eq_getElem?_getD,e2];exact e4
theorem gp {rs:List Rch}{roads:List (List Int)}{vs out:List V}{H H':Hp}(hr:roads=(jn rs).map (qg rs)) (hv:zv H vs roads) (k:jo H H') (hs:vJ uC (fun i=>(roads.getD i []).reverse) vs out):∃ ws,zv H' out ws/\jM rs ws:=by
 obtain ⟨ix,hp,e,hpw⟩:=hs
 have hb:∀ i∈ix,i<vs.length:=fun i hi=>by have:=hp.mem_iff.mp hi;simpa using this
 refine ⟨ix.map fun i=>roads.getD i [],by rw [e];exact (kH hv ix hb).keep k,?_,?_⟩
 ·have:=hp.map fun i=>roads.getD i []
  rw [hv.length,Jw] at this
  rw [<- hr]
  exact this
 ·rw [List.map_map]
  exact hpw
theorem Yh {f c Pt:Addr}{oc:Value}{od an:Option Addr}{osl:Array (Option Value)}{kV doc pm ct:Value}(nb:Nb2 mg) (c_way_down:Cal P w K mg base 1 "way_down" ["reaches","head"] (kl K)) (CH:PySem.W.CodeHd base c Pt) (hBm:Bm mg base)
  (l:K.lookup f=some ⟨oc,od,.func (PySem.W.fnOf "lanes" "lanes" (jN qJ) (jF qJ) (j6 qJ) .none kV doc pm an (.ref c) ct),osl⟩) (cd:PySem.W.codeIn K (.ref c) "lanes" = true) :
  FnOk P w K mg base CX0 5 f (PySem.W.fnOf "lanes" "lanes" (jN qJ) (jF qJ) (j6 qJ) .none kV doc pm an (.ref c) ct) ["reaches"] (vL K Pt):=by
 refine Fun.okC l cd wk (fun vs H Q E h=>?_) (fun A outer s H vs Q E hr h=>?_)
 ·obtain ⟨p,xs,rs,rfl,_⟩:=h
  rfl
 ·obtain ⟨p,xs,rs,rfl,hp,hrw,L,h60,hT,k⟩:=h
  have hlen:=hrw.length
  refine ⟨_,(j7 (jp (i:=1) wk.nd rfl (Or.inr rfl) (jC (osc:=(j6 qJ)) (ON:=["reaches","entered","ways"]) (N:=["to","slope"]) (own:=2) (caps:=[]) ⟨rfl,by walk_at "k",by walk_at "k",by walk_at "k",rfl,by walk_at "k"⟩ rfl rfl rfl (jL K (pv 0)) (fun _ _ _ _ _=>(qL (n:=2) K rfl (js (jb (i:=0) (show List.Nodup (["to","slope"]:List Str) by decide +kernel) rfl (Or.inl rfl)) (js (jb (i:=1) (show List.Nodup (["to","slope"]:List Str) by decide +kernel) rfl (Or.inl rfl)) qA)))) (fun _ _ _ _ _=>jr) (fun _ _ _ _ _=>(pv 0))))
   (j7 (zH (j:=2) (osc:=(j6 qJ)) (ON:=["reaches","entered","ways"]) (N:=["head","reaches","entered"]) (own:=1) (caps:=[0,1]) ⟨rfl,by walk_at "k",by walk_at "k",by walk_at "k",rfl,by walk_at "k"⟩ wk.nd rfl (Or.inl rfl) rfl rfl rfl (jO rfl nb.b_range (j0 (jc (jg K) rfl nb.b_len PySem.boot_len (j0 (pv 0) j2)) j2)) (fun _ _ _ _ _=>(jb (i:=0) (show List.Nodup (["head","reaches","entered"]:List Str) by decide +kernel) rfl (Or.inl rfl))) (fun _ _ _ _ _=>(wP (qc (zk K) (pv 0) (pv 2) (by with_unfolding_all rfl)))) (fun _ _ _ _ _=>(je c_way_down (hr.mono (by decide)) rfl (j0 (pv 1) (j0 (pv 0) j2)))))
   (j9 (jj (QD (N:=["way"]) (x:="way") (k:=0) rfl nb.b_sorted (j0 (pv 2) j2) rfl CH hBm (hr.mono (by decide)) (by walk_at "s") (fun _ _ _ _=>rfl) (fun _ _ _ _=>(YK K (pv 0)))))))),?_⟩
  left
  refine ⟨⟨_,SqL.of hp⟩,fun en hen=>?_⟩
  refine jI (K:=K) (a:=p) (xs:=xs) (acc:=en) (fun j σ H2=>∃ x y:Option V,σ=[x,y]/\H2 en=some (.lst (((rs.take j).map (·.1)).map V.int))/\Ext en H H2) ?_ ?_ ?_ ?_
  ·exact ⟨none,none,rfl,j4,Ext.put⟩
  ·rintro j σ H2 hj ⟨x,y,rfl,h3,e3⟩
   exact SqL.of (e3 _ _ hp (j1 hp hen))
  ·rintro j v σ H2 hv ⟨x,y,rfl,h3,e3⟩
   obtain ⟨r,hr,q,g,rfl,hq,hg⟩:=(hrw.keep (jo.new e3 hen)).get hv
   have hj:j<rs.length:=(List.getElem?_eq_some_iff.mp hr).1
   left
   refine ⟨q,_,rfl,SqT.of hq,rfl,?_⟩
   refine ⟨_,_,rfl,_,_,rfl,rfl,?_⟩
   left
   refine ⟨_,h3,by rw [List.length_map,List.length_map,List.length_take];exact ja (by omega),_,_,rfl,?_,e3.trans Ext.put⟩
   rw [j4,qi (fun r:Rch=>r.1) rs j r hr,List.map_append]
   rfl
  ·rintro σ H2 ⟨x,y,rfl,h3,e3⟩
   rw [hlen,List.take_length] at h3
   have hp2:=e3 _ _ hp (j1 hp hen)
   have hrw2:jK H2 xs rs:=hrw.keep (jo.new e3 hen)
   have hT2:qm H2 Pt:=hT.extN hen e3
   left
   refine ⟨_,_,rfl,.inl (SqL.of hp2),?_⟩
   refine ⟨_,rfl,by omega,by omega,fun wy hwy=>?_⟩
   rw [hlen]
   refine qf (lo:=0) (n:=((rs.length:Nat):Int).toNat) (acc:=wy) (fun j σ H3=>∃ (x:Option V) (vs:List V),σ=[x,some (.ref p),some (.ref en)]/\H3 wy=some (.lst vs)/\zv H3 vs (((List.range j).filter (jE rs)).map (qg rs))/\Ext wy H2 H3/\vs.length<=j) ?_ ?_ ?_
   ·exact ⟨none,[],rfl,j4,.nil,Ext.put,Nat.le_refl _⟩
   ·rintro j σ H3 hj ⟨x,vs,rfl,h4,w4,e4,l4⟩
    have hj':j<rs.length:=by omega
    have hen4:=e4 _ _ h3 (j1 h3 hwy)
    have hp4:=e4 _ _ hp2 (j1 hp2 hwy)
    have hrw4:jK H3 xs rs:=hrw2.keep (jo.new e4 hwy)
    have er:(List.range (j+1)).filter (jE rs)=(List.range j).filter (jE rs)++(if jE rs j=true then [j] else []):=by
     rw [List.range_succ,List.filter_append]
     congr 1
     by_cases z:jE rs j=true
     ·rw [if_pos z];simp [z]
     ·rw [if_neg z];simp [z]
    left
    refine ⟨en,_,rfl,.inl (SqL.of hen4),rfl,yu _,?_⟩
    left
    rw [Int.zero_add,vj]
    refine zW (fun hin=>?_) (fun hin=>?_)
    ·have hb:jE rs j=true:=by unfold jE;rw [decide_eq_false (show ¬ (j:Int)∈tos rs from hin)];rfl
     left
     refine ⟨p,xs,rs,j,rfl,hp4,hrw4,L,hj',by omega,fun t H5 ht ht5 s5=>?_⟩
     have nt:t≠wy:=fun z=>by rw [z,h4] at ht;cases ht
     have h5:=s5 _ _ h4
     refine ⟨vs,h5,ja (by omega),_,vs++[.ref t],rfl,j4,?_,fun c o hc n=>by rw [j5 n];exact s5 _ _ (e4 c o hc n),by rw [List.length_append,List.length_singleton];omega⟩
     rw [er,if_pos hb,List.map_append]
     exact zv.keep (jo.lst Ext.put h5) (Paired.snoc (w4.keep (jo.same s5)) ⟨t,rfl,ht5⟩)
    ·have hb:¬ jE rs j=true:=by unfold jE;rw [decide_eq_true (show (j:Int)∈tos rs from hin)];exact Bool.false_ne_true
     refine ⟨_,vs,rfl,h4,?_,e4,by omega⟩
     rw [er,if_neg hb,List.append_nil]
     exact w4
   ·rintro σ H3 ⟨x,vs,rfl,h4,w4,e4,l4⟩
    have hT3:qm H3 Pt:=hT2.extN hwy e4
    obtain ⟨ps,hPt⟩:=hT3.ne
    rw [Int.toNat_natCast] at w4 l4
    have hvl:=w4.length
    left
    refine ⟨hT3,wy,vs,fun i=>((((jn rs).map (qg rs)).getD i []).reverse),rfl,SqL.of h4,by omega,fun i hi z=>?_,fun H5 X5 i v hv=>?_,fun lo H5 out hlo hlo5 X5 T5 hs=>?_⟩
    ·have hi2:i<(jn rs).length:=by
      rw [List.length_map] at hvl
      exact Nat.lt_of_lt_of_eq hi hvl
     have z2:((jn rs).map (qg rs)).getD i []=[]:=List.reverse_eq_nil_iff.mp z
     rw [List.getD_eq_getElem?_getD,List.getElem?_map,List.getElem?_eq_getElem hi2] at z2
     exact YR _ z2
    ·obtain ⟨y,e2,a,rfl,ha⟩:=Paired.get w4 hv
     have ha5:=jo.tbl X5 hPt _ _ ha
     left
     refine ⟨a,_,rfl,SqT.of ha5,fun q H6 hq hq6 s6=>⟨s6,q,rfl,?_⟩⟩
     show H6 q=some (.tup (((((jn rs).map (qg rs)).getD i []).reverse).map V.int))
     rw [hq6,List.getD_eq_getElem?_getD,show ((jn rs).map (qg rs))[i]? = some y from e2,<- List.map_reverse]
     rfl
    ·obtain ⟨ws,hw,hrd⟩:=gp (rs:=rs) rfl w4 (jo.tbl X5 hPt) hs
     have wyP:wy≠Pt:=jk h4 hPt (by walk_at "z")
     have enP:en≠Pt:=jk (e4 _ _ h3 (j1 h3 hwy)) hPt (by walk_at "z")
     have hlo3:H lo=none:=by
      have a1:H2 lo=none:=e4.free hlo (fun z=>by rw [z,h4] at hlo;cases hlo)
      exact e3.free a1 (fun z=>by rw [z,h3] at a1;cases a1)
     exact k lo H5 out ws hlo3 hlo5 hw hrd (fun c o hc n=>X5 _ _ (e4 _ _ (e3 _ _ hc (j1 hc hen)) (j1 (e3 _ _ hc (j1 hc hen)) hwy)) n) T5
def ZK (K:PySem.W.Frag):Sp:=fun vs H Q _=>∃ (p wl:Addr) (xs out:List V) (rs:List Rch) (ws:List (List Int)),vs=[.ref p,.ref wl]/\H p=some (.lst xs)/\jK H xs rs/\(∀ r∈rs,r.2.length<=100)/\H wl=some (.lst out)/\zv H out ws/\jM rs ws/\qU rs/\rs.length<=60 /\
 ∀ H',jh H H'->Q (.bl (decide (((jn rs).length:Int)<=6) && (jn rs).all fun h=>decide (jv rs (qg rs h)<=30))) H'
theorem Yx:FnScope ["reaches","ways"] ["reaches","ways"] (j6 gC):=by walk_at "s"
theorem YQ {f:Addr}{fd:FuncData}{u0 u1:Tok}(nb:Nb2 mg) (g_MOST_LANES:mg "MOST_LANES" = some (.int 6 u0)) (g_LONGEST_LANE:mg "LONGEST_LANE" = some (.int 30 u1)) (c_count_places:Cal P w K mg base 1 "count_places" ["reaches","way"] (Xm K)) (F:Fun K "fits" "fits" gC f fd):FnOk P w K mg base CX0 2 f fd ["reaches","ways"] (ZK K):=by
 refine F.ok Yx (fun vs H Q E h=>?_) (fun cdv A outer s H vs Q E hr h=>?_)
 ·obtain ⟨p,wl,xs,out,rs,ws,rfl,_⟩:=h
  rfl
 ·obtain ⟨p,wl,xs,out,rs,ws,rfl,hp,hrw,h100,hw,hws,hrd,L,h60,k⟩:=h
  have hwl:=hws.length
  have hrl:=hrd.length
  have hhl:(jn rs).length<=60:=by
   unfold jn
   exact Nat.le_trans (List.length_filter_le _ _) (by rw [List.length_range];exact h60)
  have fin:∀ (b:Bool) (H':Hp),jh H H'->b=(decide (((jn rs).length:Int)<=6) && (jn rs).all fun h=>decide (jv rs (qg rs h)<=30))->Q (.bl b) H':=fun b H' sm e=>by rw [e];exact k H' sm
  refine ⟨_,(j9 (jj (zI (xS qp (jc (jg K) rfl nb.b_len PySem.boot_len (j0 (pv 1) j2)) (qR (v:=V.int 6) rfl g_MOST_LANES ⟨_,rfl⟩) (qd _)) (zZ (jc (zA K rfl) rfl nb.b_all boot_all (j0 (jC (osc:=(j6 gC)) (ON:=["reaches","ways"]) (N:=["way","reaches"]) (own:=1) (caps:=[0]) ⟨rfl,by walk_at "k",by walk_at "k",by walk_at "k",rfl,by walk_at "k"⟩ rfl rfl rfl (jL K (pv 1)) (fun _ _ _ _ _=>(jb (i:=0) (show List.Nodup (["way","reaches"]:List Str) by decide +kernel) rfl (Or.inl rfl))) (fun _ _ _ _ _=>jr) (fun _ _ _ _ _=>(xS qp (je c_count_places (hr.mono (by decide)) rfl (j0 (pv 1) (j0 (pv 0) j2))) (qR (v:=V.int 30) rfl g_LONGEST_LANE ⟨_,rfl⟩) (qd _)))) j2)))))),?_⟩
  left
  refine ⟨_,_,rfl,.inl (SqL.of hw),?_⟩
  left
  refine xm (fun h1=>?_) (fun h1=>?_)
  ·left
   refine ⟨⟨_,SqL.of hw⟩,fun acc hacc=>?_⟩
   refine jI (K:=K) (a:=wl) (xs:=out) (acc:=acc) (fun j σ H2=>∃ x:Option V,σ=[x,some (.ref p)]/\H2 acc=some (.lst (((ws.take j).map fun w=>decide (jv rs w<=30)).map V.bl))/\Ext acc H H2) ?_ ?_ ?_ ?_
   ·exact ⟨none,rfl,j4,Ext.put⟩
   ·rintro j σ H2 hj ⟨x,rfl,h3,e3⟩
    exact SqL.of (e3 _ _ hw (j1 hw hacc))
   ·rintro j v σ H2 hv ⟨x,rfl,h3,e3⟩
    obtain ⟨wy,ew,a,rfl,ha⟩:=Paired.get (hws.keep (jo.new e3 hacc)) hv
    have hj:j<ws.length:=(List.getElem?_eq_some_iff.mp ew).1
    obtain ⟨hd,hhd,ewy⟩:=hrd.mem (List.mem_of_getElem? ew)
    have hdl:=qY hhd
    have hwlen:wy.length<=100:=by rw [ewy];have:=vN L hd hdl;omega
    left
    refine ⟨p,a,xs,rs,wy,rfl,e3 _ _ hp (j1 hp hacc),hrw.keep (jo.new e3 hacc),h100,ha,by rw [ewy];exact xA L hd hdl,hwlen,fun H4 s4=>?_⟩
    left
    refine ⟨_,s4 _ _ h3,by rw [List.length_map,List.length_map,List.length_take];exact ja (by omega),_,rfl,?_,fun c o hc n=>by rw [j5 n];exact s4 _ _ (e3 c o hc n)⟩
    rw [j4,qi (fun w=>decide (jv rs w<=30)) ws j wy ew,List.map_append]
    rfl
   ·rintro σ H2 ⟨x,rfl,h3,e3⟩
    rw [hwl,List.take_length] at h3
    refine ⟨acc,_,rfl,SqL.of h3,?_⟩
    refine fin _ H2 (fun c o hc=>e3 c o hc (j1 hc hacc)) ?_
    rw [decide_eq_true (show ((jn rs).length:Int)<=6 by rw [<- hrl,<- hwl];exact h1),Bool.true_and,hrd.all]
  ·refine fin _ H (jh.refl H) ?_
   rw [decide_eq_false (show ¬ ((jn rs).length:Int)<=6 by rw [<- hrl,<- hwl];exact h1)]
   rfl
def JH (K:PySem.W.Frag) (Pt:Addr):Sp:=fun vs H Q _=>∃ (p:Addr) (xs:List V) (rs:List Rch),vs=[.ref p]/\H p=some (.lst xs)/\jK H xs rs/\(∀ r∈rs,r.2.length<=100)/\rs.length<=60/\qm H Pt/\∀ H',Ext Pt H H'->qm H' Pt->Q (.bl (xY rs)) H'
theorem hZ:FnScope ["reaches"] ["reaches"] (j6 za):=by walk_at "s"
theorem gZ {f Pt:Addr}{fd:FuncData}{u0:Tok}(nb:Nb2 mg) (g_MOST_REACHES:mg "MOST_REACHES" = some (.int 8 u0)) (c_is_reach:Cal P w K mg base 2 "is_reach" ["number","reach"] QQ) (c_lanes:Cal P w K mg base 5 "lanes" ["reaches"] (vL K Pt)) (c_fits:Cal P w K mg base 2 "fits" ["reaches","ways"] (ZK K)) (F:Fun K "is_valley" "is_valley" za f fd):FnOk P w K mg base CX0 6 f fd ["reaches"] (JH K Pt):=by
 refine F.ok hZ (fun vs H Q E h=>?_) (fun cdv A outer s H vs Q E hr h=>?_)
 ·obtain ⟨p,xs,rs,rfl,_⟩:=h
  rfl
 ·obtain ⟨p,xs,rs,rfl,hp,hrw,h100,h60,hT,k⟩:=h
  have hlen:=hrw.length
  have fin:∀ (b:Bool) (H':Hp),Ext Pt H H'->qm H' Pt->b=xY rs->Q (.bl b) H':=fun b H' x t e=>by rw [e];exact k H' x t
  refine ⟨_,(j7 (qj (qT (xr qp qp j8 (jc (jg K) rfl nb.b_len PySem.boot_len (j0 (pv 0) j2)) (qR (v:=V.int 8) rfl g_MOST_REACHES ⟨_,rfl⟩))) (j9 (jj kX)) jB)
   (j7 (qj (qT (zf (jc (zA K rfl) rfl nb.b_all boot_all (j0 (jC (osc:=(j6 za)) (ON:=["reaches"]) (N:=["number","reach"]) (own:=2) (caps:=[]) ⟨rfl,by walk_at "k",by walk_at "k",by walk_at "k",rfl,by walk_at "k"⟩ rfl rfl rfl (QN K rfl nb.b_enumerate (j0 (pv 0) j2)) (fun _ _ _ _ _=>(qL (n:=2) K rfl (js (jb (i:=0) (show List.Nodup (["number","reach"]:List Str) by decide +kernel) rfl (Or.inl rfl)) (js (jb (i:=1) (show List.Nodup (["number","reach"]:List Str) by decide +kernel) rfl (Or.inl rfl)) qA)))) (fun _ _ _ _ _=>jr) (fun _ _ _ _ _=>(je c_is_reach (hr.mono (by decide)) rfl (j0 (pv 0) (j0 (pv 1) j2))))) j2)))) (j9 (jj kX)) jB)
   (j9 (jj (je c_fits (hr.mono (by decide)) rfl (j0 (pv 0) (j0 (je c_lanes (hr.mono (by decide)) rfl (j0 (pv 0) j2)) j2))))))),?_⟩
  left
  refine ⟨_,_,rfl,.inl (SqL.of hp),?_⟩
  left
  have no:¬ (1<=(xs.length:Int)/\(xs.length:Int)<=8)->Q (.bl false) H:=fun z=>fin _ H Ext.refl hT (by unfold xY;rw [decide_eq_false (by rw [<- hlen];exact z)];rfl)
  refine xm (fun h1=>?_) (fun h1=>?_)
  ·left
   refine zW (fun h2=>?_) (fun h2=>?_)
   ·left
    exact no fun z=>h2 z.2
   ·have h18:decide (1<=(rs.length:Int)/\(rs.length:Int)<=8)=true:=decide_eq_true (by rw [<- hlen];exact ⟨h1,h2⟩)
    left
    refine ⟨⟨_,SqL.of hp⟩,fun acc hacc=>?_⟩
    refine Z5 (K:=K) (a:=p) (xs:=xs) (acc:=acc) (fun j σ H2=>∃ x y:Option V,σ=[x,y]/\H2 acc=some (.lst ((((List.range j)).map fun i=>okR i (rs.getD i (-1,[]))).map V.bl))/\Ext acc H H2) ?_ ?_ ?_ ?_
    ·exact ⟨none,none,rfl,j4,Ext.put⟩
    ·rintro j σ H2 hj ⟨x,y,rfl,h3,e3⟩
     exact SqL.of (e3 _ _ hp (j1 hp hacc))
    ·rintro j v σ H2 t hv ⟨x,y,rfl,h3,e3⟩ ht
     have hacct:acc≠t:=fun z=>by rw [z] at h3;rw [h3] at ht;cases ht
     obtain ⟨r,hr,hrow⟩:=(hrw.keep (jo.new e3 hacc)).get hv
     have hj:j<rs.length:=(List.getElem?_eq_some_iff.mp hr).1
     left
     refine ⟨t,_,rfl,SqT.of j4,rfl,?_⟩
     refine ⟨_,_,rfl,_,_,rfl,rfl,?_⟩
     left
     refine ⟨j,v,r,rfl,hrow.keep (jo.same (jh.new ht)),h100 r (List.mem_of_getElem? hr),fun H4 s4=>?_⟩
     refine ⟨_,s4 _ _ ((jh.new ht) _ _ h3),by rw [List.length_map,List.length_map,List.length_range];exact ja (by omega),_,_,rfl,?_,fun c o hc n=>by rw [j5 n];exact s4 _ _ ((jh.new ht) _ _ (e3 c o hc n))⟩
     rw [j4,List.range_succ,List.map_append,List.map_append]
     simp only [List.map_cons,List.map_nil]
     rw [List.getD_eq_getElem?_getD,hr]
     rfl
    ·rintro σ H2 ⟨x,y,rfl,h3,e3⟩
     rw [hlen] at h3
     have sm:jh H H2:=fun c o hc=>e3 c o hc (j1 hc hacc)
     refine ⟨acc,_,rfl,SqL.of h3,?_⟩
     left
     have eok:(((List.range rs.length).map fun i=>okR i (rs.getD i (-1,[]))).all fun b=>b)=vW rs:=by rw [List.all_map];rfl
     rw [eok]
     cases hok:vW rs with
     | false =>
      refine yw ?_
      left
      exact fin _ H2 (Ext.of_same sm) (hT.same sm) (by unfold xY;rw [hok,h18];rfl)
     | true =>
      refine wG ?_
      have L:=jP hok
      left
      refine ⟨p,xs,rs,rfl,sm _ _ hp,hrw.keep (jo.same sm),L,h60,hT.same sm,fun l H3 out ws hl hl3 w3 r3 X3 T3=>?_⟩
      obtain ⟨ps,hPt⟩:=(hT.same sm).ne
      have hp3:=X3 _ _ (sm _ _ hp) (jk (sm _ _ hp) hPt (by walk_at "z"))
      refine ⟨p,l,xs,out,rs,ws,rfl,hp3,hrw.keep ((jo.same sm).trans (jo.tbl X3 hPt)),h100,hl3,w3,r3,L,h60,fun H4 s4=>?_⟩
      exact fin _ H4 (((Ext.of_same sm).trans X3).trans (Ext.of_same s4)) (T3.same s4) (by unfold xY;rw [hok,h18];rfl)
  ·refine ⟨_,rfl,yw ?_⟩
   left
   exact no fun z=>h1 z.1
end
section
variable {P:Program}{w:World}{K:PySem.W.Frag}{mg:Str->Option Value}{base:Heap}
theorem vg:FnScope ["_law_number","_law_turn","_law_one"] ["_law_number","_law_turn"] (j6 yc):=by walk_at "s"
theorem ZC {f:Addr}{fd:FuncData}(F:Fun K "_law_mixed" "_law_mixed" yc f fd):FnOk P w K mg base CX0 1 f fd ["_law_number","_law_turn"] QY:=by
 refine F.ok vg (fun vs H Q E h=>?_) (fun cdv A outer s H vs Q E hr h=>?_)
 ·obtain ⟨a,b,rfl,_⟩:=h
  rfl
 ·obtain ⟨a,b,rfl,k⟩:=h
  refine ⟨_,(j7 (jp (i:=2) vg.nd rfl (Or.inl rfl) (ji xM (ji jA (ji jA (ji zo (pv 0) j8) (ji zo (pv 1) j8)) j8) j8))
   (j9 (jj (ji zt (ji xM (ji jA (ji jA (ji zo (pv 2) (ji jA (ji xM (pv 2) j8) j8)) (ji zo (pv 1) j8)) (ji xM (ji zt (pv 0) j8) j8)) j8) j8)))),?_⟩
  left
  exact k _
theorem y8:FnScope ["_law_box_here","_law_size","_law_left","_law_cell"] ["_law_box_here","_law_size"] (j6 yH):=by walk_at "s"
theorem YV {f:Addr}{fd:FuncData}(nb:Nb mg) (c_law_mixed:Cal P w K mg base 1 "_law_mixed" ["_law_number","_law_turn"] QY) (F:Fun K "_law_take" "_law_take" yH f fd):FnOk P w K mg base CX0 2 f fd ["_law_box_here","_law_size"] xE:=by
 refine F.ok y8 (fun vs H Q E h=>?_) (fun cdv A outer s H vs Q E hr h=>?_)
 ·obtain ⟨L,b,n,rfl,_⟩:=h
  rfl
 ·obtain ⟨L,b,n,rfl,B,⟨hn,hn2⟩,k⟩:=h
  obtain ⟨ns,a,r,c,d,hb,hL,hS,ha⟩:=B
  refine ⟨_,(j7 (zS (ji jA (jq (jd K) (pv 0) j8 (fun _ _=>rfl)) j8) (gU (pv 0) j8 vH))
   (j7 (qj (qc Vu (jq (jd K) (pv 0) j8 (fun _ _=>rfl)) j8 (qd _)) (j7 (jp (i:=2) y8.nd rfl (Or.inl rfl) (jq (jd K) (pv 0) j8 (fun _ _=>rfl)))
   (j7 (zS (ji zt (pv 2) (pv 1)) (gU (pv 0) j8 vH))
   (j9 (jj (ji xM (pv 2) (pv 1)))))) jB)
   (j7 (qj (qc Yl (jq (jd K) (pv 0) j8 (fun _ _=>rfl)) (jc (jg K) rfl nb.b_len PySem.boot_len (j0 (jq (jd K) (pv 0) j8 (fun _ _=>rfl)) j2)) (qd _)) (j9 (jj (ji xM (je c_law_mixed (hr.mono (by decide)) rfl (j0 (jq (jd K) (pv 0) j8 (fun _ _=>rfl)) (j0 (jq (jd K) (pv 0) j8 (fun _ _=>rfl)) j2))) (pv 1)))) jB)
   (j7 (jp (i:=3) y8.nd rfl (Or.inl rfl) (jq (jd K) (jq (jd K) (pv 0) j8 (fun _ _=>rfl)) (jq (jd K) (pv 0) j8 (fun _ _=>rfl)) (fun _ _=>rfl)))
   (j7 (zS (ji jA (jq (jd K) (pv 0) j8 (fun _ _=>rfl)) j8) (gU (pv 0) j8 vH))
   (j7 (qj (qc kF (pv 3) (ji Yv j8 j8) (qd _)) (j9 (jj (ji xM (je c_law_mixed (hr.mono (by decide)) rfl (j0 (pv 3) (j0 (jq (jd K) (pv 0) j8 (fun _ _=>rfl)) j2))) (pv 1)))) jB)
   (j7 (zS (ji zt (pv 3) (pv 1)) (gU (pv 0) j8 vH))
   (j9 (jj (ji xM (pv 3) (pv 1))))))))))),?_⟩
  left
  refine xm (fun h1=>?_) (fun h1=>?_)
  ·left
   exact k _ _ (Int.emod_nonneg _ (by omega)) (Int.emod_lt_of_pos _ hn) ⟨ns,_,_,_,_,j4,hL,(Ext.put.trans Ext.put) _ _ hS hL,ha⟩ (Ext.put.trans Ext.put)
  ·have hS1:∀ o,SqL K (upd H b o) L (ns.map V.int):=fun o=>SqL.of (Ext.put _ _ hS hL)
   left
   refine ⟨_,_,rfl,.inl (hS1 _),?_⟩
   left
   refine xm (fun h2=>?_) (fun h2=>?_)
   ·left
    refine ⟨_,_,rfl,fun z=>?_⟩
    left
    exact k _ _ (Int.emod_nonneg _ (by omega)) (Int.emod_lt_of_pos _ hn) ⟨ns,_,_,_,_,j4,hL,Ext.put _ _ hS hL,ha⟩ Ext.put
   ·have h3:a<ns.length:=by
     rw [List.length_map] at h2
     omega
    obtain ⟨z,hz⟩:=xN ha h3
    left
    refine ⟨_,_,_,_,rfl,rfl,hS1 _,hz,?_⟩
    left
    refine xm (fun h4=>?_) (fun h4=>?_)
    ·left
     refine ⟨_,_,rfl,fun z=>?_⟩
     left
     exact k _ _ (Int.emod_nonneg _ (by omega)) (Int.emod_lt_of_pos _ hn) ⟨ns,_,_,_,_,j4,hL,(Ext.put.trans Ext.put) _ _ hS hL,by omega⟩ (Ext.put.trans Ext.put)
    ·left
     exact k _ _ (Int.emod_nonneg _ (by omega)) (Int.emod_lt_of_pos _ hn) ⟨ns,_,_,_,_,j4,hL,((Ext.put.trans Ext.put).trans Ext.put) _ _ hS hL,by omega⟩ ((Ext.put.trans Ext.put).trans Ext.put)
theorem zF:FnScope ["_law_script","_law_seed","_law_cell"] ["_law_script"] (j6 vZ):=by walk_at "s"
theorem Ua {f:Addr}{fd:FuncData}(nb:Nb mg) (F:Fun K "_law_box" "_law_box" vZ f fd):FnOk P w K mg base CX0 1 f fd ["_law_script"] (Y4 K):=by
 refine F.ok zF (fun vs H Q E h=>?_) (fun cdv A outer s H vs Q E hr h=>?_)
 ·obtain ⟨a,ns,rfl,_⟩:=h
  rfl
 ·obtain ⟨a,ns,rfl,hS,k⟩:=h
  refine ⟨_,(j7 (jp (i:=1) zF.nd rfl (Or.inl rfl) j8)
   (j7 (xB PassesOwn.never rfl (jL K (pv 0)) (jb (i:=2) zF.nd rfl (Or.inl rfl)) (j9 (jp (i:=1) zF.nd rfl (Or.inl rfl) (ji xM (ji jA (ji jA (ji zo (pv 1) j8) (ji xM (pv 2) j8)) j8) j8))))
   (j9 (jj (jT (j0 (jY (qh K) rfl nb.b_list PyProof.Rows.boot_list (j0 (pv 0) j2)) (j0 j8 (j0 j8 (j0 j8 (j0 (pv 1) j2)))))))))),?_⟩
  left
  refine ⟨⟨_,hS⟩,JJ (K:=K) (a:=a) (xs:=ns.map V.int) (fun i σ H2=>∃ (seed:Int) (v:Option V),σ=[some (.ref a),some (.int seed),v]/\H2=H) ⟨_,_,rfl,rfl⟩ (fun i σ H2 _ ⟨_,_,_,e⟩=>by rw [e];exact hS) ?_ ?_⟩
  ·rintro i y σ H2 hi ⟨seed,v,rfl,rfl⟩
   obtain ⟨z,rfl⟩:=yj hi
   left
   exact ⟨_,_,rfl,rfl⟩
  ·rintro σ H2 ⟨seed,v,rfl,rfl⟩
   left
   refine ⟨a,_,rfl,.inl hS,fun L H3 hL hL3 s3=>?_⟩
   left
   refine ⟨by show 5<=sizeLine;decide,fun b H4 hb hb4 s4=>?_⟩
   exact k L b _ (s3.free hb) ⟨ns,_,_,_,_,hb4,j1 hL3 hb,s4 _ _ hL3,Int.le_refl _⟩ (s3.trans s4)
def good (t:T3):Bool:=decide (0<=t.1/\t.1<=100/\0<=t.2.1/\t.2.1<=9/\0<=t.2.2/\t.2.2<=9)
def gr (ts:List T3):Bool:=decide (1<=(ts.length:Int)/\(ts.length:Int)<=12) && ts.all good
theorem Vq {ts:List T3}(h:¬ (1<=(ts.length:Int)/\(ts.length:Int)<=12)):gr ts=false:=by unfold gr;rw [decide_eq_false h];rfl
theorem U9 {ts:List T3}(h:1<=(ts.length:Int)/\(ts.length:Int)<=12):gr ts=(ts.map good).all fun b=>b:=by
 unfold gr
 rw [decide_eq_true h,Bool.true_and,List.all_map]
 rfl
def Qn:Sp:=fun vs H Q _=>∃ (p:Addr) (t:T3),vs=[.ref p]/\H p=some (yb t)/\Q (.bl (good t)) H
local macro_rules | `(tactic| walk_at "forks")=>`(tactic| (walk_at "r";first | (refine xm (fun _=>?_) (fun _=>?_) <;> walk_at "forks") | skip))
theorem xq:FnScope ["row","line","snow","sun"] ["row"] (j6 zN):=by walk_at "s"
theorem wS {f:Addr}{fd:FuncData}{u0 u1:Tok}(g_HIGHEST_LINE:mg "HIGHEST_LINE" = some (.int 100 u0)) (g_MOST_HANDS:mg "MOST_HANDS" = some (.int 9 u1)) (F:Fun K "is_weather" "is_weather" zN f fd):FnOk P w K mg base CX0 1 f fd ["row"] Qn:=by
 refine F.ok xq (fun vs H Q E h=>?_) (fun cdv A outer s H vs Q E hr h=>?_)
 ·obtain ⟨p,t,rfl,_⟩:=h
  rfl
 ·obtain ⟨p,⟨l,sn,u⟩,rfl,hp,k⟩:=h
  refine ⟨_,(j7 (zS (pv 0) (qL (n:=3) K rfl (js (jb (i:=1) xq.nd rfl (Or.inl rfl)) (js (jb (i:=2) xq.nd rfl (Or.inl rfl)) (js (jb (i:=3) xq.nd rfl (Or.inl rfl)) qA)))))
   (j9 (jj (zI (zx qp qp j8 (pv 1) (qR (v:=V.int 100) rfl g_HIGHEST_LINE ⟨_,rfl⟩)) (zI (zx qp qp j8 (pv 2) (qR (v:=V.int 9) rfl g_MOST_HANDS ⟨_,rfl⟩)) (zZ (zx qp qp j8 (pv 3) (qR (v:=V.int 9) rfl g_MOST_HANDS ⟨_,rfl⟩)))))))),?_⟩
  left
  refine ⟨p,_,rfl,SqT.of hp,rfl,?_⟩
  refine ⟨_,_,rfl,_,_,rfl,_,_,rfl,rfl,?_⟩
  walk_at "forks"
  all_goals
   refine Eq.mp (congrArg (fun z=>Q (V.bl z) H) ?_) k
   unfold good
   dsimp only at *
   first | (apply decide_eq_false;omega) | (apply decide_eq_decide.mpr;omega)
theorem Jj:FnScope ["rows"] ["rows"] (j6 zQ):=by walk_at "s"
def Xp (K:PySem.W.Frag):Sp:=fun vs H Q _=>∃ (p:Addr) (xs:List V) (ts:List T3),vs=[.ref p]/\H p=some (.lst xs)/\qz H xs ts/\ts.length<=1000/\∀ H',jh H H'->Q (.bl (gr ts)) H'
theorem Jl {f:Addr}{fd:FuncData}{u0:Tok}(nb:Nb mg) (g_MOST_ROWS:mg "MOST_ROWS" = some (.int 12 u0)) (c_is_weather:Cal P w K mg base 1 "is_weather" ["row"] Qn) (F:Fun K "is_round" "is_round" zQ f fd):FnOk P w K mg base CX0 2 f fd ["rows"] (Xp K):=by
 refine F.ok Jj (fun vs H Q E h=>?_) (fun cdv A outer s H vs Q E hr h=>?_)
 ·obtain ⟨p,xs,ts,rfl,_⟩:=h
  rfl
 ·obtain ⟨p,xs,ts,rfl,hp,hr3,h1000,k⟩:=h
  have hlen:=hr3.length
  refine ⟨_,(j9 (jj (zI (zx qp qp j8 (jc (jg K) rfl nb.b_len PySem.boot_len (j0 (pv 0) j2)) (qR (v:=V.int 12) rfl g_MOST_ROWS ⟨_,rfl⟩)) (zZ (jc (zA K rfl) rfl nb.b_all boot_all (j0 (jC (osc:=(j6 zQ)) (ON:=["rows"]) (N:=["row"]) (own:=1) (caps:=[]) ⟨rfl,by walk_at "k",by walk_at "k",by walk_at "k",rfl,by walk_at "k"⟩ rfl rfl rfl (jL K (pv 0)) (fun _ _ _ _ _=>(jb (i:=0) (show List.Nodup (["row"]:List Str) by decide +kernel) rfl (Or.inl rfl))) (fun _ _ _ _ _=>jr) (fun _ _ _ _ _=>(je c_is_weather (hr.mono (by decide)) rfl (j0 (pv 0) j2)))) j2)))))),?_⟩
  left
  refine ⟨_,_,rfl,.inl (SqL.of hp),?_⟩
  left
  refine xm (fun h1=>?_) (fun h1=>?_)
  ·left
   refine xm (fun h2=>?_) (fun h2=>?_)
   ·left
    refine ⟨⟨_,SqL.of hp⟩,fun acc hacc=>?_⟩
    refine jI (K:=K) (a:=p) (xs:=xs) (acc:=acc) (fun i σ H2=>∃ x:Option V,σ=[x]/\H2 acc=some (.lst (((ts.take i).map good).map V.bl))/\Ext acc H H2) ?_ ?_ ?_ ?_
    ·exact ⟨none,rfl,j4,Ext.put⟩
    ·rintro i σ H2 hi ⟨x,rfl,h3,e3⟩
     exact SqL.of (e3 _ _ hp (j1 hp hacc))
    ·rintro i v σ H2 hv ⟨x,rfl,h3,e3⟩
     obtain ⟨t,ht,q,rfl,hq⟩:=hr3.get hv
     have hi:i<ts.length:=(List.getElem?_eq_some_iff.mp ht).1
     left
     refine ⟨q,t,rfl,e3 _ _ hq (j1 hq hacc),?_⟩
     refine ⟨_,h3,by rw [List.length_map,List.length_map,List.length_take];exact ja (by omega),_,rfl,?_,e3.trans Ext.put⟩
     rw [j4,qi good ts i t ht,List.map_append]
     rfl
    ·rintro σ H2 ⟨x,rfl,h3,e3⟩
     rw [hlen,List.take_length] at h3
     refine ⟨acc,ts.map good,rfl,SqL.of h3,?_⟩
     have k2:=k H2 fun c o hc=>e3 c o hc (j1 hc hacc)
     rw [U9 (by rw [hlen] at h1 h2;exact ⟨h1,h2⟩)] at k2
     exact k2
   ·left
    have k2:=k H (jh.refl H)
    rw [Vq (by rw [hlen] at h2;intro z;exact h2 z.2)] at k2
    exact k2
  ·left
   have k2:=k H (jh.refl H)
   rw [Vq (by rw [hlen] at h1;intro z;exact h1 z.1)] at k2
   exact k2
def vT:Sp:=fun vs H Q _=>∃ (L b:Addr),vs=[.ref b]/\jS L H b/\∀ (p:Addr) (H':Hp) (t:T3),jS L H' b->Ext b H H'->H' p=some (yb t)->good t=true->Q (.ref p) H'
theorem yk:FnScope ["_law_box_here","_law_line"] ["_law_box_here"] (j6 zp):=by walk_at "s"
theorem five {v3 v1 v2:Int}(a:0<=v3) (b:v3<5) (c:0<=v1) (d:v1<20) (e:0<=v2) (g:v2<101):∃ ln,atI [V.int (40+v1),V.int v2,V.int 0,V.int 100,V.int 50] v3=some (V.int ln)/\0<=ln/\ln<=100:=by
 have h:v3=0\/v3=1\/v3=2\/v3=3\/v3=4:=by omega
 rcases h with rfl | rfl | rfl | rfl | rfl
 ·exact ⟨40+v1,rfl,by omega,by omega⟩
 ·exact ⟨v2,rfl,by omega,by omega⟩
 ·exact ⟨0,rfl,by omega,by omega⟩
 ·exact ⟨100,rfl,by omega,by omega⟩
 ·exact ⟨50,rfl,by omega,by omega⟩
theorem Qp {f:Addr}{fd:FuncData}(c_law_take:Cal P w K mg base 2 "_law_take" ["_law_box_here","_law_size"] xE) (F:Fun K "_law_weather" "_law_weather" zp f fd):FnOk P w K mg base CX0 3 f fd ["_law_box_here"] vT:=by
 refine F.ok yk (fun vs H Q E h=>?_) (fun cdv A outer s H vs Q E hr h=>?_)
 ·obtain ⟨L,b,rfl,_⟩:=h
  rfl
 ·obtain ⟨L,b,rfl,B,k⟩:=h
  refine ⟨_,(j7 (jp (i:=1) yk.nd rfl (Or.inl rfl) (jq (jd K) (jT (j0 (ji jA j8 (je c_law_take (hr.mono (by decide)) rfl (j0 (pv 0) (j0 j8 j2)))) (j0 (je c_law_take (hr.mono (by decide)) rfl (j0 (pv 0) (j0 j8 j2))) (j0 j8 (j0 j8 (j0 j8 j2)))))) (je c_law_take (hr.mono (by decide)) rfl (j0 (pv 0) (j0 j8 j2))) (fun _ _=>rfl)))
   (j9 (jj (xH (j0 (pv 1) (j0 (je c_law_take (hr.mono (by decide)) rfl (j0 (pv 0) (j0 j8 j2))) (j0 (je c_law_take (hr.mono (by decide)) rfl (j0 (pv 0) (j0 j8 j2))) j2))))))),?_⟩
  left
  refine ⟨L,b,_,rfl,B,⟨by decide,by decide⟩,fun v1 H1 p1 q1 B1 X1=>?_⟩
  left
  refine ⟨L,b,_,rfl,B1,⟨by decide,by decide⟩,fun v2 H2 p2 q2 B2 X2=>?_⟩
  refine ⟨by show 5<=sizeLine;decide,fun q Hq hq hqq sq=>?_⟩
  left
  refine ⟨L,b,_,rfl,B2.same sq,⟨by decide,by decide⟩,fun v3 H3 p3 q3 B3 X3=>?_⟩
  have hq3:=X3 _ _ hqq (B2.ne hq)
  obtain ⟨ln,hln,l0,l1⟩:=five p3 q3 p1 q1 p2 q2
  refine ⟨_,_,_,_,rfl,rfl,SqL.of hq3,hln,?_⟩
  left
  refine ⟨L,b,_,rfl,B3,⟨by decide,by decide⟩,fun v4 H4 p4 q4 B4 X4=>?_⟩
  left
  refine ⟨L,b,_,rfl,B4,⟨by decide,by decide⟩,fun v5 H5 p5 q5 B5 X5=>?_⟩
  refine ⟨by show 3<=sizeLine;decide,fun p Hp hp hpp sp=>?_⟩
  exact k p _ (ln,v4,v5) (B5.same sp) ((((((X1.trans X2).trans (Ext.of_same sq)).trans X3).trans X4).trans X5).trans (Ext.of_same sp)) hpp (decide_eq_true ⟨l0,l1,p4,(show v4<=9 by omega),p5,(show v5<=9 by omega)⟩)
def uz:Sp:=fun vs H Q _=>∃ (L b:Addr),vs=[.ref b]/\jS L H b/\∀ (p:Addr) (H':Hp) (xs:List V) (ts:List T3),jS L H' b->Ext b H H'->H p=none->H' p=some (.lst xs)->qz H' xs ts->(1<=ts.length/\ts.length<=12)->ts.all good=true->Q (.ref p) H'
theorem hV:FnScope ["_law_box_here"] ["_law_box_here"] (j6 xV):=by walk_at "s"
theorem Uz {v:Int}(a:0<=v) (b:v<3):∃ n,atI [V.int 1,V.int 3,V.int 12] v=some (V.int n)/\0<n/\n<=12:=by
 have h:v=0\/v=1\/v=2:=by omega
 rcases h with rfl | rfl | rfl
 ·exact ⟨1,rfl,by omega,by omega⟩
 ·exact ⟨3,rfl,by omega,by omega⟩
 ·exact ⟨12,rfl,by omega,by omega⟩
theorem ZP {f:Addr}{fd:FuncData}(nb:Nb mg) (c_law_take:Cal P w K mg base 2 "_law_take" ["_law_box_here","_law_size"] xE) (c_law_weather:Cal P w K mg base 3 "_law_weather" ["_law_box_here"] vT) (F:Fun K "_law_round" "_law_round" xV f fd):FnOk P w K mg base CX0 4 f fd ["_law_box_here"] uz:=by
 refine F.ok hV (fun vs H Q E h=>?_) (fun cdv A outer s H vs Q E hr h=>?_)
 ·obtain ⟨L,b,rfl,_⟩:=h
  rfl
 ·obtain ⟨L,b,rfl,B,k⟩:=h
  refine ⟨_,(j9 (jj (jC (osc:=(j6 xV)) (ON:=["_law_box_here"]) (N:=["_law_turn","_law_box_here"]) (own:=1) (caps:=[0]) ⟨rfl,by walk_at "k",by walk_at "k",by walk_at "k",rfl,by walk_at "k"⟩ rfl rfl rfl (jO rfl nb.b_range (j0 (ji jA j8 (je c_law_take (hr.mono (by decide)) rfl (j0 (pv 0) (j0 (jq (jd K) (jT (j0 j8 (j0 j8 (j0 j8 j2)))) (je c_law_take (hr.mono (by decide)) rfl (j0 (pv 0) (j0 j8 j2))) (fun _ _=>rfl)) j2)))) j2)) (fun _ _ _ _ _=>(jb (i:=0) (show List.Nodup (["_law_turn","_law_box_here"]:List Str) by decide +kernel) rfl (Or.inl rfl))) (fun _ _ _ _ _=>jr) (fun _ _ _ _ _=>(je c_law_weather (hr.mono (by decide)) rfl (j0 (pv 1) j2)))))),?_⟩
  left
  refine ⟨by show 3<=sizeLine;decide,fun q Hq hq hqq sq=>?_⟩
  left
  refine ⟨L,b,_,rfl,B.same sq,⟨by decide,by decide⟩,fun v1 H1 p1 q1 B1 X1=>?_⟩
  obtain ⟨n,hn,n0,n1⟩:=Uz p1 q1
  refine ⟨_,_,_,_,rfl,rfl,SqL.of (X1 _ _ hqq (B.ne hq)),hn,?_⟩
  refine ⟨L,b,_,rfl,B1,⟨n0,by omega⟩,fun v2 H2 p2 q2 B2 X2=>?_⟩
  refine ⟨_,_,rfl,rfl,?_⟩
  refine ⟨1+v2,rfl,by omega,by omega,fun acc hacc=>?_⟩
  have nb1:=B2.ne hacc
  have nb2:=B2.neL hacc
  have hfree:∀ a,H2 a=none->a≠b->H a=none:=fun a n nb=>jh.free sq (X1.free (X2.free n nb) nb)
  refine qf (lo:=0) (n:=(1+v2).toNat) (acc:=acc) (fun i σ H3=>∃ (x:Option V) (xs:List V) (ts:List T3),σ=[x,some (.ref b)]/\jS L H3 b/\(∀ c o,H2 c=some o->c≠b->H3 c=some o)/\H3 acc=some (.lst xs)/\qz H3 xs ts/\ts.length=i/\ts.all good=true) ?_ ?_ ?_
  ·exact ⟨none,[],[],rfl,B2.put nb1 nb2,fun c o hc n=>Ext.put _ _ hc (j1 hc hacc),j4,.nil,rfl,rfl⟩
  ·rintro i σ H3 hi ⟨x,xs,ts,rfl,B3,ks,h3,r3,hl,hg⟩
   left
   refine ⟨L,b,rfl,B3,fun p H4 t B4 X4 hp ht=>?_⟩
   have h4:=X4 _ _ h3 nb1
   have r4:qz H4 xs ts:=r3.imp fun p t e=>X4 _ _ e (B3.ne_tup e)
   have hlen:=r4.length
   refine ⟨xs,h4,ja (by omega),_,xs++[.ref p],ts++[t],rfl,B4.put nb1 nb2,fun c o hc n=>Ext.put _ _ (X4 _ _ (ks c o hc n) n) (j1 hc hacc),j4,?_,by rw [List.length_append,hl];rfl,by rw [List.all_append,hg];simp [ht]⟩
   exact qz.imp (r4.snoc ⟨p,rfl,hp⟩) fun q t e=>Ext.put _ _ e (jk e h4 (by walk_at "z"))
  ·rintro σ H3 ⟨x,xs,ts,rfl,B3,ks,h3,r3,hl,hg⟩
   exact k acc H3 xs ts B3 (fun c o hc n=>ks c o (X2 _ _ (X1 _ _ (sq _ _ hc) n) n) n) (hfree acc hacc nb1) h3 r3 (by omega) hg
theorem gY:FnScope ["_law_found"] ["_law_found"] (j6 ya):=by walk_at "s"
theorem Yo {f:Addr}{fd:FuncData}(nb:Nb2 mg) (F:Fun K "_law_whole" "_law_whole" ya f fd):FnOk P w K mg base CX0 1 f fd ["_law_found"] QW:=by
 refine F.ok gY (fun vs H Q E h=>?_) (fun cdv A outer s H vs Q E hr h=>?_)
 ·obtain ⟨i,rfl,_⟩:=h
  rfl
 ·obtain ⟨i,rfl,k⟩:=h
  refine ⟨_,(j9 (jj (zI (jc (jG K) rfl nb.b_isinstance boot_isinstance (j0 (pv 0) (j0 (qX (v:=V.ty "int") rfl nb.b_int PyProof.Rows.boot_int rfl) j2))) (zZ (Ue (jc (jG K) rfl nb.b_isinstance boot_isinstance (j0 (pv 0) (j0 (qX (v:=V.ty "bool") rfl nb.b_bool PyProof.Rows.boot_bool rfl) j2)))))))),?_⟩
  left
  refine ⟨_,_,_,_,rfl,.int _,wO K,_,rfl,yw ?_⟩
  left
  refine ⟨_,_,_,_,rfl,.int _,uw K,_,rfl,?_⟩
  exact k
theorem vo:FnScope ["_law_found","_law_due"] ["_law_found","_law_due"] (j6 xy):=by walk_at "s"
theorem Z8 {f:Addr}{fd:FuncData}(F:Fun K "_law_alike" "_law_alike" xy f fd):FnOk P w K mg base CX0 1 f fd ["_law_found","_law_due"] (Vh 0):=by
 refine F.ok vo (fun vs H Q E h=>?_) (fun cdv A outer s H vs Q E hr h=>?_)
 ·obtain ⟨x,y,d,rfl,_⟩:=h
  rfl
 ·obtain ⟨x,y,d,rfl,_,_,z,_⟩:=h
  cases z
theorem kQ (n:Nat) {f:Addr}{fd:FuncData}(nb:Nb2 mg) (c_law_whole:Cal P w K mg base 1 "_law_whole" ["_law_found"] QW) (c_law_alike:Cal P w K mg base (n+1) "_law_alike" ["_law_found","_law_due"] (Vh n)) (F:Fun K "_law_alike" "_law_alike" xy f fd):FnOk P w K mg base CX0 (n+2) f fd ["_law_found","_law_due"] (Vh (n+1)):=by
 refine F.ok vo (fun vs H Q E h=>?_) (fun cdv A outer s H vs Q E hr h=>?_)
 ·obtain ⟨x,y,d,rfl,_⟩:=h
  rfl
 ·obtain ⟨x,y,d,rfl,hx,hy,hs,k⟩:=h
  refine ⟨_,(j7 (qj (qc ZX (pv 1) Yt (qd _)) (j9 (jj (xS ZX (pv 0) Yt (qd _)))) jB)
   (j7 (qj (zf (jc (jG K) rfl nb.b_isinstance boot_isinstance (j0 (pv 1) (j0 (qX (v:=V.ty "bool") rfl nb.b_bool PyProof.Rows.boot_bool rfl) j2)))) (j9 (jj (zI (jc (jG K) rfl nb.b_isinstance boot_isinstance (j0 (pv 0) (j0 (qX (v:=V.ty "bool") rfl nb.b_bool PyProof.Rows.boot_bool rfl) j2))) (zZ (xS uq (pv 0) (pv 1) (qd _)))))) jB)
   (j7 (qj (zf (jc (jG K) rfl nb.b_isinstance boot_isinstance (j0 (pv 1) (j0 (qX (v:=V.ty "int") rfl nb.b_int PyProof.Rows.boot_int rfl) j2)))) (j9 (jj (zI (je c_law_whole (hr.mono (by omega)) rfl (j0 (pv 0) j2)) (zZ (xS uq (pv 0) (pv 1) (qd _)))))) jB)
   (j7 (qj (zf (jc (jG K) rfl nb.b_isinstance boot_isinstance (j0 (pv 1) (j0 (qX (v:=V.ty "str") rfl nb.b_str PyProof.Rows.boot_str rfl) j2)))) (j9 (jj (zI (jc (jG K) rfl nb.b_isinstance boot_isinstance (j0 (pv 0) (j0 (qX (v:=V.ty "str") rfl nb.b_str PyProof.Rows.boot_str rfl) j2))) (zZ (xS uq (pv 0) (pv 1) (qd _)))))) jB)
   (j7 (qj (PW.pt (ZG (qc Zr (jc (jG K) rfl nb.b_isinstance boot_isinstance (j0 (pv 1) (j0 (qX (v:=V.ty "list") rfl nb.b_list PyProof.Rows.boot_list rfl) j2))) (jc (jG K) rfl nb.b_isinstance boot_isinstance (j0 (pv 0) (j0 (qX (v:=V.ty "list") rfl nb.b_list PyProof.Rows.boot_list rfl) j2))) (qd _)) (QG (qc Zr (jc (jG K) rfl nb.b_isinstance boot_isinstance (j0 (pv 1) (j0 (qX (v:=V.ty "tuple") rfl nb.b_tuple PyProof.Rows.boot_tuple rfl) j2))) (jc (jG K) rfl nb.b_isinstance boot_isinstance (j0 (pv 0) (j0 (qX (v:=V.ty "tuple") rfl nb.b_tuple PyProof.Rows.boot_tuple rfl) j2))) (qd _))))) (j9 (jj kX)) jB)
   (j9 (jj (zI (xS uq (jc (jg K) rfl nb.b_len PySem.boot_len (j0 (pv 0) j2)) (jc (jg K) rfl nb.b_len PySem.boot_len (j0 (pv 1) j2)) (qd _)) (zZ (jc (zA K rfl) rfl nb.b_all boot_all (j0 (jC (osc:=(j6 xy)) (ON:=["_law_found","_law_due"]) (N:=["_law_one","_law_other"]) (own:=2) (caps:=[]) ⟨rfl,by walk_at "k",by walk_at "k",by walk_at "k",rfl,by walk_at "k"⟩ rfl rfl rfl (gK K rfl nb.b_zip (j0 (pv 0) (j0 (pv 1) j2))) (fun _ _ _ _ _=>(qL (n:=2) K rfl (js (jb (i:=0) (show List.Nodup (["_law_one","_law_other"]:List Str) by decide +kernel) rfl (Or.inl rfl)) (js (jb (i:=1) (show List.Nodup (["_law_one","_law_other"]:List Str) by decide +kernel) rfl (Or.inl rfl)) qA)))) (fun _ _ _ _ _=>jr) (fun _ _ _ _ _=>(je c_law_alike (hr.mono (by omega)) rfl (j0 (pv 0) (j0 (pv 1) j2))))) j2))))))))))),?_⟩
  cases d with
  | none =>
   cases hx;cases hy
   left
   exact k H (jh.refl _)
  | bool b =>
   cases hx;cases hy
   left
   refine ⟨_,_,_,_,rfl,.bl _,vd K,_,rfl,yw ?_⟩
   left
   refine ⟨_,_,_,_,rfl,.bl _,vd K,_,rfl,yw ?_⟩
   left
   have k':=k H (jh.refl _)
   rw [decide_eq_true rfl]
   exact k'
  | int i =>
   cases hx;cases hy
   left
   refine ⟨_,_,_,_,rfl,.int _,uw K,_,rfl,wG ?_⟩
   left
   refine ⟨_,_,_,_,rfl,.int _,wO K,_,rfl,yw ?_⟩
   left
   have k':=k H (jh.refl _)
   rw [decide_eq_true rfl]
   exact k'
  | str i =>
   cases hx;cases hy
   left
   refine ⟨_,_,_,_,rfl,.str _,JZ K,_,rfl,wG ?_⟩
   left
   refine ⟨_,_,_,_,rfl,.str _,Qa K,_,rfl,wG ?_⟩
   left
   refine ⟨_,_,_,_,rfl,.str _,wd K,_,rfl,yw ?_⟩
   left
   refine ⟨_,_,_,_,rfl,.str _,wd K,_,rfl,yw ?_⟩
   left
   have k':=k H (jh.refl _)
   rw [decide_eq_true rfl]
   exact k'
  | list ds =>
   cases hx with
   | @lst a va _ ha da =>
   cases hy with
   | @lst b vb _ hb db =>
   have el:=da.length
   have el2:=db.length
   have hsm:ds.length<=1000/\ds.all (yT n)=true:=by
    have z:(decide (ds.length<=1000) && ds.all (yT n))=true:=hs
    rw [Bool.and_eq_true] at z
    exact ⟨of_decide_eq_true z.1,z.2⟩
   left
   refine ⟨_,_,_,_,rfl,.lst hb,gj K,_,rfl,wG ?_⟩
   left
   refine ⟨_,_,_,_,rfl,.lst hb,JV K,_,rfl,wG ?_⟩
   left
   refine ⟨_,_,_,_,rfl,.lst hb,JT K,_,rfl,wG ?_⟩
   left
   refine ⟨_,_,_,_,rfl,.lst hb,vm K,?_⟩
   left
   refine ⟨_,_,_,_,rfl,.lst ha,vm K,?_⟩
   left
   refine ⟨_,_,_,_,rfl,.lst hb,yz K,?_⟩
   left
   refine ⟨_,_,_,_,rfl,.lst ha,yz K,?_⟩
   left
   refine ⟨_,_,rfl,.inl (SqL.of ha),?_⟩
   left
   refine ⟨_,_,rfl,.inl (SqL.of hb),?_⟩
   left
   rw [el,el2]
   refine xm (fun _=>?_) (fun z=>absurd rfl z)
   left
   refine ⟨false,false,_,_,rfl,⟨_,SqL.of ha⟩,⟨_,SqL.of hb⟩,fun acc hacc=>?_⟩
   refine yp (K:=K) (t0:=false) (u0:=false) (a:=a) (b:=b) (xs:=va) (ys:=vb) (acc:=acc) (el.trans el2.symm) (fun j σ H2=>∃ x y:Option V,σ=[x,y]/\H2 acc=some (.lst ((List.replicate j true).map V.bl))/\Ext acc H H2) ?_ ?_ ?_ ?_
   ·exact ⟨none,none,rfl,j4,Ext.put⟩
   ·rintro j σ H2 hj ⟨x,y,rfl,h3,e3⟩
    exact ⟨SqL.of (e3 _ _ ha (j1 ha hacc)),SqL.of (e3 _ _ hb (j1 hb hacc))⟩
   ·rintro j x y σ H2 p hx hy ⟨v1,v2,rfl,h3,e3⟩ hp
    obtain ⟨d1,hd1,q1⟩:=da.get hx
    obtain ⟨d2,hd2,q2⟩:=db.get hy
    rw [hd1] at hd2
    cases hd2
    have hj:j<ds.length:=(List.getElem?_eq_some_iff.mp hd1).1
    have s2:jh H (upd H2 p (.tup [x,y])):=fun c o hc=>(jh.new hp) _ _ (e3 _ _ hc (j1 hc hacc))
    have q1':=q1.same s2
    have q2':=q2.same s2
    have h3':upd H2 p (.tup [x,y]) acc=_:=(jh.new hp) _ _ h3
    have e3':Ext acc H (upd H2 p (.tup [x,y])):=fun c o hc n=>(jh.new hp) _ _ (e3 _ _ hc n)
    have hp':upd H2 p (.tup [x,y]) p=some (.tup [x,y]):=j4
    generalize upd H2 p (.tup [x,y])=H4 at s2 q1' q2' h3' e3' hp'
    left
    refine ⟨p,_,rfl,SqT.of hp',rfl,?_⟩
    refine ⟨_,_,rfl,_,_,rfl,rfl,?_⟩
    left
    refine ⟨x,y,d1,rfl,q1',q2',List.all_eq_true.mp hsm.2 _ (List.mem_of_getElem? hd1),fun H5 s5=>?_⟩
    refine ⟨_,s5 _ _ h3',by rw [List.length_map,List.length_replicate];exact ja (by omega),_,_,rfl,?_,fun c o hc n=>by rw [j5 n];exact s5 _ _ (e3' c o hc n)⟩
    rw [j4,List.replicate_succ',List.map_append]
    rfl
   ·rintro σ H2 ⟨v1,v2,rfl,h3,e3⟩
    refine ⟨acc,_,rfl,SqL.of h3,?_⟩
    have e:((List.replicate va.length true).all fun b=>b)=true:=by
     rw [List.all_eq_true]
     intro x hx
     exact (List.mem_replicate.mp hx).2
    rw [e]
    exact k H2 fun c o hc=>e3 c o hc (j1 hc hacc)
  | tuple ds =>
   cases hx with
   | @tup a va _ ha da =>
   cases hy with
   | @tup b vb _ hb db =>
   have el:=da.length
   have el2:=db.length
   have hsm:ds.length<=1000/\ds.all (yT n)=true:=by
    have z:(decide (ds.length<=1000) && ds.all (yT n))=true:=hs
    rw [Bool.and_eq_true] at z
    exact ⟨of_decide_eq_true z.1,z.2⟩
   left
   refine ⟨_,_,_,_,rfl,.tup hb,k7 K,_,rfl,wG ?_⟩
   left
   refine ⟨_,_,_,_,rfl,.tup hb,gA K,_,rfl,wG ?_⟩
   left
   refine ⟨_,_,_,_,rfl,.tup hb,hE K,_,rfl,wG ?_⟩
   left
   refine ⟨_,_,_,_,rfl,.tup hb,yF K,?_⟩
   left
   refine ⟨_,_,_,_,rfl,.tup ha,yF K,?_⟩
   left
   refine ⟨_,_,_,_,rfl,.tup hb,yl K,?_⟩
   left
   refine ⟨_,_,_,_,rfl,.tup ha,yl K,?_⟩
   left
   refine ⟨_,_,rfl,.inr (SqT.of ha),?_⟩
   left
   refine ⟨_,_,rfl,.inr (SqT.of hb),?_⟩
   left
   rw [el,el2]
   refine xm (fun _=>?_) (fun z=>absurd rfl z)
   left
   refine ⟨true,true,_,_,rfl,⟨_,SqT.of ha⟩,⟨_,SqT.of hb⟩,fun acc hacc=>?_⟩
   refine yp (K:=K) (t0:=true) (u0:=true) (a:=a) (b:=b) (xs:=va) (ys:=vb) (acc:=acc) (el.trans el2.symm) (fun j σ H2=>∃ x y:Option V,σ=[x,y]/\H2 acc=some (.lst ((List.replicate j true).map V.bl))/\Ext acc H H2) ?_ ?_ ?_ ?_
   ·exact ⟨none,none,rfl,j4,Ext.put⟩
   ·rintro j σ H2 hj ⟨x,y,rfl,h3,e3⟩
    exact ⟨SqT.of (e3 _ _ ha (j1 ha hacc)),SqT.of (e3 _ _ hb (j1 hb hacc))⟩
   ·rintro j x y σ H2 p hx hy ⟨v1,v2,rfl,h3,e3⟩ hp
    obtain ⟨d1,hd1,q1⟩:=da.get hx
    obtain ⟨d2,hd2,q2⟩:=db.get hy
    rw [hd1] at hd2
    cases hd2
    have hj:j<ds.length:=(List.getElem?_eq_some_iff.mp hd1).1
    have s2:jh H (upd H2 p (.tup [x,y])):=fun c o hc=>(jh.new hp) _ _ (e3 _ _ hc (j1 hc hacc))
    have q1':=q1.same s2
    have q2':=q2.same s2
    have h3':upd H2 p (.tup [x,y]) acc=_:=(jh.new hp) _ _ h3
    have e3':Ext acc H (upd H2 p (.tup [x,y])):=fun c o hc n=>(jh.new hp) _ _ (e3 _ _ hc n)
    have hp':upd H2 p (.tup [x,y]) p=some (.tup [x,y]):=j4
    generalize upd H2 p (.tup [x,y])=H4 at s2 q1' q2' h3' e3' hp'
    left
    refine ⟨p,_,rfl,SqT.of hp',rfl,?_⟩
    refine ⟨_,_,rfl,_,_,rfl,rfl,?_⟩
    left
    refine ⟨x,y,d1,rfl,q1',q2',List.all_eq_true.mp hsm.2 _ (List.mem_of_getElem? hd1),fun H5 s5=>?_⟩
    refine ⟨_,s5 _ _ h3',by rw [List.length_map,List.length_replicate];exact ja (by omega),_,_,rfl,?_,fun c o hc n=>by rw [j5 n];exact s5 _ _ (e3' c o hc n)⟩
    rw [j4,List.replicate_succ',List.map_append]
    rfl
   ·rintro σ H2 ⟨v1,v2,rfl,h3,e3⟩
    refine ⟨acc,_,rfl,SqL.of h3,?_⟩
    have e:((List.replicate va.length true).all fun b=>b)=true:=by
     rw [List.all_eq_true]
     intro x hx
     exact (List.mem_replicate.mp hx).2
    rw [e]
    exact k H2 fun c o hc=>e3 c o hc (j1 hc hacc)
  | _=>cases hx
end
section
variable {P:Program}{w:World}{K:PySem.W.Frag}{mg:Str->Option Value}{base:Heap}
def yB:Sp:=fun vs H Q _=>∃ (L b:Addr) (tp sz:Int),vs=[.ref b,.int tp,.int sz]/\jS L H b/\tp<=99/\0<=sz/\sz<=100/\∀ p H' (hs:List Int),jS L H' b->Ext b H H'->H p=none->H' p=some (.lst (hs.map V.int))->(hs.length:Int)=sz->(∀ x∈hs,0<=x/\x<=99)->Q (.ref p) H'
theorem qN:FnScope ["_law_box_here","_law_top","_law_size","_law_pick","_law_step"] ["_law_box_here","_law_top","_law_size"] (j6 jZ):=by walk_at "s"
theorem uA {f:Addr}{fd:FuncData}(nb:Nb2 mg) (c_law_take:Cal P w K mg base 2 "_law_take" ["_law_box_here","_law_size"] xE) (F:Fun K "_law_ground_drawn" "_law_ground_drawn" jZ f fd):FnOk P w K mg base CX0 3 f fd ["_law_box_here","_law_top","_law_size"] yB:=by
 refine F.ok qN (fun vs H Q E h=>?_) (fun cdv A outer s H vs Q E hr h=>?_)
 ·obtain ⟨L,b,tp,sz,rfl,_⟩:=h
  rfl
 ·obtain ⟨L,b,tp,sz,rfl,B,htp,h0,h1,k⟩:=h
  refine ⟨_,(j7 (jp (i:=3) qN.nd rfl (Or.inl rfl) (je c_law_take (hr.mono (by decide)) rfl (j0 (pv 0) (j0 j8 j2))))
   (j7 (qj (qc uq (pv 3) j8 (qd _)) (j9 (jj (jC (osc:=(j6 jZ)) (ON:=["_law_box_here","_law_top","_law_size","_law_pick","_law_step"]) (N:=["_law_turn","_law_box_here"]) (own:=1) (caps:=[0]) ⟨rfl,by walk_at "k",by walk_at "k",by walk_at "k",rfl,by walk_at "k"⟩ rfl rfl rfl (jO rfl nb.b_range (j0 (pv 2) j2)) (fun _ _ _ _ _=>(jb (i:=0) (show List.Nodup (["_law_turn","_law_box_here"]:List Str) by decide +kernel) rfl (Or.inl rfl))) (fun _ _ _ _ _=>jr) (fun _ _ _ _ _=>(je c_law_take (hr.mono (by decide)) rfl (j0 (pv 1) (j0 j8 j2))))))) jB)
   (j7 (jp (i:=4) qN.nd rfl (Or.inr rfl) (ji jA j8 (je c_law_take (hr.mono (by decide)) rfl (j0 (pv 0) (j0 j8 j2)))))
   (j9 (jj (jC (osc:=(j6 jZ)) (ON:=["_law_box_here","_law_top","_law_size","_law_pick","_law_step"]) (N:=["_law_place","_law_top","_law_step"]) (own:=1) (caps:=[1,4]) ⟨rfl,by walk_at "k",by walk_at "k",by walk_at "k",rfl,by walk_at "k"⟩ rfl rfl rfl (jO rfl nb.b_range (j0 (pv 2) j2)) (fun _ _ _ _ _=>(jb (i:=0) (show List.Nodup (["_law_place","_law_top","_law_step"]:List Str) by decide +kernel) rfl (Or.inl rfl))) (fun _ _ _ _ _=>jr) (fun _ _ _ _ _=>(jc (ui rfl) rfl nb.b_max boot_max (j0 j8 (j0 (ji xC (pv 1) (ji zo (pv 2) (pv 0))) j2)))))))))),?_⟩
  left
  refine ⟨L,b,_,rfl,B,⟨by decide,by decide⟩,fun v1 H1 p1 q1 B1 X1=>?_⟩
  left
  refine xm (fun _=>?_) (fun _=>?_)
  ·left
   refine ⟨by omega,by omega,fun acc hacc=>?_⟩
   have na1:=B1.ne hacc
   have na2:=B1.neL hacc
   refine qf (lo:=0) (n:=sz.toNat) (acc:=acc) (fun i σ H2=>∃ (x:Option V) (hs:List Int),σ=[x,some (.ref b)]/\jS L H2 b/\H2 acc=some (.lst (hs.map V.int))/\hs.length=i/\(∀ x∈hs,0<=x/\x<=99)/\Ext b H1 H2) ?_ ?_ ?_
   ·exact ⟨none,[],rfl,B1.put na1 na2,j4,rfl,(by intro x hx;cases hx),Ext.new hacc⟩
   ·rintro i σ H2 hi ⟨x,hs,rfl,B2,h2,hl,hb,e2⟩
    left
    refine ⟨L,b,_,rfl,B2,⟨by decide,by decide⟩,fun v H3 p3 q3 B3 X3=>?_⟩
    have h3:=X3 _ _ h2 na1
    refine ⟨_,h3,by rw [List.length_map];exact ja (by omega),_,hs++[v],rfl,B3.put na1 na2,by rw [j4,List.map_append];rfl,by rw [List.length_append,hl];rfl,fun x hx=>?_,fun c o hc n=>?_⟩
    ·rcases List.mem_append.mp hx with hx | hx
     ·exact hb x hx
     ·have:x=v:=by simpa using hx
      omega
    ·rw [j5 (j1 hc hacc)]
     exact X3 _ _ (e2 c o hc n) n
   ·rintro σ H2 ⟨x,hs,rfl,B2,h2,hl,hb,e2⟩
    exact k acc H2 hs B2 (X1.trans e2) (X1.free hacc na1) h2 (by omega) hb
  ·left
   refine ⟨L,b,_,rfl,B1,⟨by decide,by decide⟩,fun v2 H2 p2 q2 B2 X2=>?_⟩
   left
   refine ⟨by omega,by omega,fun acc hacc=>?_⟩
   have na1:=B2.ne hacc
   have na2:=B2.neL hacc
   refine qf (lo:=0) (n:=sz.toNat) (acc:=acc) (fun i σ H3=>∃ (x:Option V) (hs:List Int),σ=[x,some (.int tp),some (.int (1+v2))]/\jS L H3 b/\H3 acc=some (.lst (hs.map V.int))/\hs.length=i/\(∀ x∈hs,0<=x/\x<=99)/\Ext b H2 H3) ?_ ?_ ?_
   ·exact ⟨none,[],rfl,B2.put na1 na2,j4,rfl,(by intro x hx;cases hx),Ext.new hacc⟩
   ·rintro i σ H3 hi ⟨x,hs,rfl,B3,h3,hl,hb,e3⟩
    left
    have hm:(0:Int)<=(1+v2)*(0+(i:Int)):=Int.mul_nonneg (by omega) (by omega)
    refine ⟨_,_,rfl,?_⟩
    refine ⟨_,h3,by rw [List.length_map];exact ja (by omega),_,hs++[if tp-(1+v2)*(0+(i:Int)) > 0 then tp-(1+v2)*(0+(i:Int)) else 0],rfl,B3.put na1 na2,by rw [j4,List.map_append];rfl,by rw [List.length_append,hl];rfl,fun x hx=>?_,fun c o hc n=>?_⟩
    ·rcases List.mem_append.mp hx with hx | hx
     ·exact hb x hx
     ·have:x=if tp-(1+v2)*(0+(i:Int)) > 0 then tp-(1+v2)*(0+(i:Int)) else 0:=by simpa using hx
      rw [this]
      split <;> omega
    ·rw [j5 (j1 hc hacc)]
     exact e3 c o hc n
   ·rintro σ H3 ⟨x,hs,rfl,B3,h3,hl,hb,e3⟩
    have hacc1:=X2.free hacc na1
    exact k acc H3 hs B3 ((X1.trans X2).trans e3) (X1.free hacc1 na1) h3 (by omega) hb
structure RD (L b tp rw dp:Addr) (H0:Hp):Prop where
 tb:tp≠b
 rb:rw≠b
 db:dp≠b
 tL:tp≠L
 rL:rw≠L
 dL:dp≠L
 tr:tp≠rw
 td:tp≠dp
 rd:rw≠dp
 nt:H0 tp=none
 nr:H0 rw=none
 nd:H0 dp=none
structure RG (L b tp rw dp:Addr) (H0 H:Hp) (ts:List Int) (xs:List V) (rs:List Rch) (ds:List Int):Prop where
 box:jS L H b
 htp:H tp=some (.lst (ts.map V.int))
 hrw:H rw=some (.lst xs)
 hdp:H dp=some (.lst (ds.map V.int))
 rows:jK H xs rs
 ext:Ext b H0 H
section
variable {L b tp rw dp:Addr}{H0 H H':Hp}{ts ds:List Int}{xs:List V}{rs:List Rch}
theorem RG.take (D:RD L b tp rw dp H0) (G:RG L b tp rw dp H0 H ts xs rs ds) (B:jS L H' b) (X:Ext b H H'):RG L b tp rw dp H0 H' ts xs rs ds :=
 ⟨B,X _ _ G.htp D.tb,X _ _ G.hrw D.rb,X _ _ G.hdp D.db,G.rows.keep (by obtain ⟨ns,a,r,c,d,h1,_⟩:=G.box;exact jo.lst X h1),G.ext.trans X⟩
theorem RG.same (G:RG L b tp rw dp H0 H ts xs rs ds) (s:jh H H'):RG L b tp rw dp H0 H' ts xs rs ds :=
 ⟨G.box.same s,s _ _ G.htp,s _ _ G.hrw,s _ _ G.hdp,G.rows.keep (jo.same s),G.ext.trans (Ext.of_same s)⟩
theorem RG.extN {a:Addr}(G:RG L b tp rw dp H0 H ts xs rs ds) (hn:H a=none) (e:Ext a H H'):RG L b tp rw dp H0 H' ts xs rs ds:=G.same fun c o h=>e c o h (j1 h hn)
theorem RG.putT (D:RD L b tp rw dp H0) (G:RG L b tp rw dp H0 H ts xs rs ds) (ts':List Int):RG L b tp rw dp H0 (upd H tp (.lst (ts'.map V.int))) ts' xs rs ds :=
 ⟨G.box.put D.tb D.tL,j4,by rw [j5 D.tr.symm];exact G.hrw,by rw [j5 D.td.symm];exact G.hdp,G.rows.keep (jo.lst Ext.put G.htp),fun c o h n=>by rw [j5 (j1 h D.nt)];exact G.ext c o h n⟩
theorem RG.putR (D:RD L b tp rw dp H0) (G:RG L b tp rw dp H0 H ts xs rs ds) {v:V}{r:Rch}(q:gh H v r):RG L b tp rw dp H0 (upd H rw (.lst (xs++[v]))) ts (xs++[v]) (rs++[r]) ds :=
 ⟨G.box.put D.rb D.rL,by rw [j5 D.tr];exact G.htp,j4,by rw [j5 D.rd.symm];exact G.hdp,(G.rows.snoc q).keep (jo.lst Ext.put G.hrw),fun c o h n=>by rw [j5 (j1 h D.nr)];exact G.ext c o h n⟩
theorem RG.putD (D:RD L b tp rw dp H0) (G:RG L b tp rw dp H0 H ts xs rs ds) (ds':List Int):RG L b tp rw dp H0 (upd H dp (.lst (ds'.map V.int))) ts xs rs ds' :=
 ⟨G.box.put D.db D.dL,by rw [j5 D.td];exact G.htp,by rw [j5 D.rd];exact G.hrw,j4,G.rows.keep (jo.lst Ext.put G.hdp),fun c o h n=>by rw [j5 (j1 h D.nd)];exact G.ext c o h n⟩
end
def xn (rs:List Rch):List Int:=(List.range rs.length).map fun i=>jv rs (qg rs i)
theorem JM {rs:List Rch}{t:Int}{hs:List Int}(G:Grown rs) (h0:0<=t) (h1:t<rs.length) (hx:okR rs.length (t,hs)=true):xn (rs++[(t,hs)])=xn rs++[jv rs (qg rs t.toNat)+hs.length]:=by
 have Ld:=jP G.ok
 unfold xn
 rw [List.length_append,List.length_singleton,List.range_succ,List.map_append]
 congr 1
 ·apply List.map_congr_left
  intro i hi
  have hi':=List.mem_range.mp hi
  rw [yo Ld hi',xu _ (xA Ld i hi')]
 ·show [jv (rs++[(t,hs)]) (qg (rs++[(t,hs)]) rs.length)]=[_]
  rw [G.deep_snoc h0 h1 hx]
theorem Zd {rs:List Rch}{t:Int}(h0:0<=t) (h1:t<rs.length):atI ((xn rs).map V.int) t=some (.int (jv rs (qg rs t.toNat))):=by
 refine xk h0 ?_
 unfold xn
 rw [List.getElem?_map,List.getElem?_map,List.getElem?_range (by omega)]
 rfl
theorem Vk {i:Nat}{t sz:Int}{hs:List Int}(hi:0<i) (h0:0<=t) (h1:t<i) (hl:(hs.length:Int)=sz) (hz0:1<=sz) (hz1:sz<=12) (hb:∀ x∈hs,0<=x/\x<=99):okR i (t,hs)=true:=by
 unfold okR xi
 rw [if_neg (by omega),decide_eq_true (show 0<=t/\t<(i:Int) from ⟨h0,h1⟩),decide_eq_true (show 1<=(hs.length:Int)/\(hs.length:Int)<=12 by omega),Bool.true_and,Bool.true_and,List.all_eq_true]
 intro x hx
 exact decide_eq_true (hb x hx)
def uS:Sp:=fun vs H Q _=>∃ (L b:Addr),vs=[.ref b]/\jS L H b/\∀ p H' xs rs,jS L H' b->Ext b H H'->H p=none->H' p=some (.lst xs)->jK H' xs rs->Grown rs->1<=rs.length->rs.length<=8->Q (.ref p) H'
theorem jz:FnScope ["_law_box_here","_law_tops","_law_sizes","_law_rows","_law_deep","_law_number","_law_to","_law_led","_law_heads","_law_size"] ["_law_box_here"] (j6 qO):=by walk_at "s"
theorem Uh {v:Int}(a:0<=v) (b:v<3):∃ n,atI [V.int 1,V.int 3,V.int 8] v=some (V.int n)/\0<n/\n<=8:=by
 have h:v=0\/v=1\/v=2:=by omega
 rcases h with rfl | rfl | rfl
 ·exact ⟨1,rfl,by omega,by omega⟩
 ·exact ⟨3,rfl,by omega,by omega⟩
 ·exact ⟨8,rfl,by omega,by omega⟩
theorem Qd {f:Addr}{fd:FuncData}(nb:Nb2 mg) (c_law_take:Cal P w K mg base 2 "_law_take" ["_law_box_here","_law_size"] xE) (c_law_ground_drawn:Cal P w K mg base 3 "_law_ground_drawn" ["_law_box_here","_law_top","_law_size"] yB) (F:Fun K "_law_reaches" "_law_reaches" qO f fd):FnOk P w K mg base CX0 4 f fd ["_law_box_here"] uS:=by
 refine F.ok jz (fun vs H Q E h=>?_) (fun cdv A outer s H vs Q E hr h=>?_)
 ·obtain ⟨L,b,rfl,_⟩:=h
  rfl
 ·obtain ⟨L,b,rfl,B,k⟩:=h
  refine ⟨_,(j7 (jp (i:=1) jz.nd rfl (Or.inl rfl) (jT (j0 (ji jA j8 (je c_law_take (hr.mono (by decide)) rfl (j0 (pv 0) (j0 j8 j2)))) j2)))
   (j7 (jp (i:=2) jz.nd rfl (Or.inl rfl) (jT (j0 (ji jA j8 (je c_law_take (hr.mono (by decide)) rfl (j0 (pv 0) (j0 j8 j2)))) j2)))
   (j7 (jp (i:=3) jz.nd rfl (Or.inl rfl) (jT (j0 (xH (j0 (ji xC j8 j8) (j0 (jY (xf K) rfl nb.b_tuple PyProof.Rows.boot_tuple (j0 (je c_law_ground_drawn (hr.mono (by decide)) rfl (j0 (pv 0) (j0 (jq (jd K) (pv 1) j8 (fun _ _=>rfl)) (j0 (jq (jd K) (pv 2) j8 (fun _ _=>rfl)) j2)))) j2)) j2))) j2)))
   (j7 (jp (i:=4) jz.nd rfl (Or.inl rfl) (jT (j0 (jq (jd K) (pv 2) j8 (fun _ _=>rfl)) j2)))
   (j7 (xB PassesOwn.never rfl (Zi rfl nb.b_range (j0 j8 (j0 (ji jA j8 (je c_law_take (hr.mono (by decide)) rfl (j0 (pv 0) (j0 (jq (jd K) (jT (j0 j8 (j0 j8 (j0 j8 j2)))) (je c_law_take (hr.mono (by decide)) rfl (j0 (pv 0) (j0 j8 j2))) (fun _ _=>rfl)) j2)))) j2))) (jb (i:=5) jz.nd rfl (Or.inl rfl)) (j7 (jp (i:=6) jz.nd rfl (Or.inl rfl) (je c_law_take (hr.mono (by decide)) rfl (j0 (pv 0) (j0 (pv 5) j2))))
   (j7 (jp (i:=7) jz.nd rfl (Or.inr rfl) (jC (osc:=(j6 qO)) (ON:=["_law_box_here","_law_tops","_law_sizes","_law_rows","_law_deep","_law_number","_law_to","_law_led","_law_heads","_law_size"]) (N:=["_law_row"]) (own:=1) (caps:=[]) ⟨rfl,by walk_at "k",by walk_at "k",by walk_at "k",rfl,by walk_at "k"⟩ rfl rfl rfl (jL K (pv 3)) (fun _ _ _ _ _=>(jb (i:=0) (show List.Nodup (["_law_row"]:List Str) by decide +kernel) rfl (Or.inl rfl))) (fun _ _ _ _ _=>jr) (fun _ _ _ _ _=>(jq (qt K) (pv 0) j8 (fun _ _=>rfl)))))
   (j7 (jp (i:=8) jz.nd rfl (Or.inl rfl) (jc (jg K) rfl nb.b_len PySem.boot_len (j0 (jC (osc:=(j6 qO)) (ON:=["_law_box_here","_law_tops","_law_sizes","_law_rows","_law_deep","_law_number","_law_to","_law_led","_law_heads","_law_size"]) (N:=["_law_one","_law_led"]) (own:=1) (caps:=[7]) ⟨rfl,by walk_at "k",by walk_at "k",by walk_at "k",rfl,by walk_at "k"⟩ rfl rfl rfl (jO rfl nb.b_range (j0 (pv 5) j2)) (fun _ _ _ _ _=>(jb (i:=0) (show List.Nodup (["_law_one","_law_led"]:List Str) by decide +kernel) rfl (Or.inl rfl))) (fun _ _ _ _ _=>(wP (qc (zk K) (pv 0) (pv 1) (by with_unfolding_all rfl)))) (fun _ _ _ _ _=>(pv 0))) j2)))
   (vI (qj (PW.pt (U0 (qc uq (pv 8) j8 (qd _)) (YH (qc (Qb K) (pv 6) (pv 7) (by with_unfolding_all rfl))))) (j9 (jp (i:=6) jz.nd rfl (Or.inl rfl) (ji xC (pv 5) j8))) jB)
   (j9 (qj (qc kF (jq (jd K) (pv 4) (pv 6) (fun _ _=>rfl)) j8 (qd _)) (j7 (jp (i:=9) jz.nd rfl (Or.inl rfl) (ji jA j8 (je c_law_take (hr.mono (by decide)) rfl (j0 (pv 0) (j0 (jc (uc rfl) rfl nb.b_min boot_min (j0 j8 (j0 (ji xC j8 (jq (jd K) (pv 4) (pv 6) (fun _ _=>rfl))) j2))) j2)))))
   (j7 (jV (yJ K PySem.F.plainAttrs_list PySem.F.slot_list_append PySem.F.type_list_append qK (pv 1) (j0 (jc (uc rfl) rfl nb.b_min boot_min (j0 j8 (j0 (ji jA (jq (jd K) (pv 1) (pv 6) (fun _ _=>rfl)) (je c_law_take (hr.mono (by decide)) rfl (j0 (pv 0) (j0 j8 j2)))) j2))) j2)))
   (j7 (jV (yJ K PySem.F.plainAttrs_list PySem.F.slot_list_append PySem.F.type_list_append qK (pv 3) (j0 (xH (j0 (pv 6) (j0 (jY (xf K) rfl nb.b_tuple PyProof.Rows.boot_tuple (j0 (je c_law_ground_drawn (hr.mono (by decide)) rfl (j0 (pv 0) (j0 (jq (jd K) (pv 1) (yE zq j8) (fun _ _=>rfl)) (j0 (pv 9) j2)))) j2)) j2))) j2)))
   (j9 (jV (yJ K PySem.F.plainAttrs_list PySem.F.slot_list_append PySem.F.type_list_append qK (pv 4) (j0 (ji jA (jq (jd K) (pv 4) (pv 6) (fun _ _=>rfl)) (pv 9)) j2))))))) (j9 (jj (pv 3))))))))))
   (j9 (jj (pv 3)))))))),?_⟩
  left
  refine ⟨L,b,_,rfl,B,⟨by decide,by decide⟩,fun v1 H1 p1 q1 B1 X1=>?_⟩
  left
  refine ⟨by show 1<=sizeLine;decide,fun tp H2 htp htp2 s2=>?_⟩
  have B2:=B1.same s2
  left
  refine ⟨L,b,_,rfl,B2,⟨by decide,by decide⟩,fun v2 H3 p3 q3 B3 X3=>?_⟩
  have tb:=B1.ne htp
  have tL:=B1.neL htp
  left
  refine ⟨by show 1<=sizeLine;decide,fun sz H4 hsz hsz4 s4=>?_⟩
  have B4:=B3.same s4
  have htp4:=s4 _ _ (X3 _ _ htp2 tb)
  left
  refine ⟨L,b,20+v1,1+v2,rfl,B4,by omega,by omega,by omega,fun gl H5 hs B5 X5 hgl hgl5 hl hb=>?_⟩
  have szb:=B3.ne hsz
  have htp5:=X5 _ _ htp4 tb
  have hsz5:=X5 _ _ hsz4 szb
  refine ⟨gl,_,rfl,SqL.of hgl5,fun gt H6 hgt hgt6 s6=>?_⟩
  refine ⟨by show 2<=sizeLine;decide,fun rt H7 hrt hrt7 s7=>?_⟩
  refine ⟨by show 1<=sizeLine;decide,fun rw H8 hrw hrw8 s8=>?_⟩
  have B8:=((B5.same s6).same s7).same s8
  have sm58:jh H5 H8:=(s6.trans s7).trans s8
  have hsz8:=sm58 _ _ hsz5
  have htp8:=sm58 _ _ htp5
  have hrw5:H5 rw=none:=(s6.trans s7).free hrw
  have B7:=(B5.same s6).same s7
  have rb:=B7.ne hrw
  have rL:=B7.neL hrw
  have tr:tp≠rw:=j1 ((s6.trans s7) _ _ htp5) hrw
  left
  refine ⟨by show 1<=sizeLine;decide,fun dp H9 hdp hdp9 s9=>?_⟩
  have db:=B8.ne hdp
  have dL:=B8.neL hdp
  have td:tp≠dp:=j1 htp8 hdp
  have rd:rw≠dp:=j1 hrw8 hdp
  have nz:∀ a,H8 a=none->a≠b->a≠L->H a=none:=fun a ha ab aL=>by
   have a5:=sm58.free ha
   have a4:=X5.free a5 ab
   exact X1.free (s2.free (X3.free (s4.free a4) ab)) ab
  have nt:H tp=none:=X1.free htp tb
  have nr:H rw=none:=X1.free (s2.free (X3.free (s4.free (X5.free hrw5 rb)) rb)) rb
  have nd:H dp=none:=nz dp hdp db dL
  have D:RD L b tp rw dp H:=⟨tb,rb,db,tL,rL,dL,tr,td,rd,nt,nr,nd⟩
  have ok0:vW [((0-1:Int),hs)]=true:=by
   unfold vW okR xi
   simp only [List.length_singleton,List.range_one,List.all_cons,List.all_nil,Bool.and_true]
   show (decide ((0-1:Int) = -1) && decide (1<=(hs.length:Int)/\(hs.length:Int)<=12) && hs.all fun x=>decide (0<=x/\x<=99))=true
   rw [decide_eq_true (show 1<=(hs.length:Int)/\(hs.length:Int)<=12 by omega),Bool.and_eq_true,List.all_eq_true]
   exact ⟨rfl,fun x hx=>decide_eq_true (hb x hx)⟩
  have rd0:qg [((0-1:Int),hs)] 0=[0]:=rfl
  have pl0:jv [((0-1:Int),hs)] [0]=hs.length:=by unfold jv;simp [zj]
  have G0:Grown [((0-1:Int),hs)]:=by
   refine ⟨ok0,Nat.le_trans (List.length_filter_le _ _) (by simp),fun i hi=>?_⟩
   have:i=0:=by simp at hi;exact hi
   subst this
   rw [rd0,pl0]
   omega
  have ext8:Ext b H H8:=((((X1.trans (Ext.of_same s2)).trans X3).trans (Ext.of_same s4)).trans X5).trans (Ext.of_same sm58)
  have RG0:RG L b tp rw dp H H9 [20+v1] [.ref rt] [((0-1:Int),hs)] (xn [((0-1:Int),hs)]):=by
   refine ⟨B8.same s9,s9 _ _ htp8,s9 _ _ hrw8,?_,.cons ⟨rt,gt,rfl,s9 _ _ (s8 _ _ hrt7),s9 _ _ (s8 _ _ (s7 _ _ hgt6))⟩ .nil,ext8.trans (Ext.of_same s9)⟩
   rw [hdp9]
   show some (HO.lst [V.int (1+v2)])=some (.lst [V.int (jv [((0-1:Int),hs)] (qg [((0-1:Int),hs)] 0))])
   rw [rd0,pl0,hl]
  left
  refine ⟨by show 3<=sizeLine;decide,fun q3' H10 hq hq10 s10=>?_⟩
  have RG1:=RG0.same s10
  left
  refine ⟨L,b,_,rfl,RG1.box,⟨by decide,by decide⟩,fun v3 H11 p11 q11 B11 X11=>?_⟩
  have RG2:=RG1.take D B11 X11
  have hq11:=X11 _ _ hq10 (RG0.box.ne hq)
  obtain ⟨n,hn,n0,n8⟩:=Uh p11 q11
  refine ⟨_,_,_,_,rfl,rfl,SqL.of hq11,hn,?_⟩
  refine ⟨L,b,_,rfl,B11,⟨n0,by omega⟩,fun v4 H12 p12 q12 B12 X12=>?_⟩
  have RG3:=RG2.take D B12 X12
  left
  refine ⟨1,1+v4,rfl,⟨by omega,by omega,by omega,by omega⟩,?_⟩
  have ht99:∀ t∈[20+v1],t<=99:=fun t ht=>by
   have:t=20+v1:=by simpa using ht
   omega
  have done:∀ (H':Hp) ts xs rs ds,RG L b tp rw dp H H' ts xs rs ds->Grown rs->1<=rs.length->rs.length<=8->Q (.ref rw) H':=fun H' ts xs rs ds G gr h1 h8=>k rw H' xs rs G.box G.ext nr G.hrw G.rows gr h1 h8
  refine xI (lo:=1) (n:=(1+v4-1).toNat) (fun i σ H'=>∃ (v5 v6 v7 v8 v9:Option V) (ts:List Int) (xs:List V) (rs:List Rch),σ=[some (.ref b),some (.ref tp),some (.ref sz),some (.ref rw),some (.ref dp),v5,v6,v7,v8,v9]/\RG L b tp rw dp H H' ts xs rs (xn rs)/\Grown rs/\rs.length=i+1/\ts.length=i+1/\∀ t∈ts,t<=99) ⟨_,_,_,_,_,_,_,_,rfl,RG3,G0,rfl,rfl,ht99⟩ ?_ ?_
  ·rintro i σ H' hi ⟨v5,v6,v7,v8,v9,ts,xs,rs,rfl,G,gr,hrl,htl,htb⟩
   have Ld:=jP gr.ok
   have hxl:=G.rows.length
   left
   refine ⟨L,b,_,rfl,G.box,⟨by omega,by omega⟩,fun t Ha ha0 ha1 Ba Xa=>?_⟩
   have Ga:=G.take D Ba Xa
   left
   refine ⟨⟨_,SqL.of Ga.hrw⟩,fun ld hld=>?_⟩
   refine jI (K:=K) (a:=rw) (xs:=xs) (acc:=ld) (fun j σ H2=>∃ x:Option V,σ=[x]/\H2 ld=some (.lst (((rs.take j).map (·.1)).map V.int))/\Ext ld Ha H2) ?_ ?_ ?_ ?_
   ·exact ⟨none,rfl,j4,Ext.put⟩
   ·rintro j σ H2 hj ⟨x,rfl,h3,e3⟩
    exact SqL.of (e3 _ _ Ga.hrw (j1 Ga.hrw hld))
   ·rintro j v σ H2 hv ⟨x,rfl,h3,e3⟩
    obtain ⟨r,hr,q,g,rfl,hq,hg⟩:=(Ga.rows.keep (jo.new e3 hld)).get hv
    have hj:j<rs.length:=(List.getElem?_eq_some_iff.mp hr).1
    left
    refine ⟨_,h3,by rw [List.length_map,List.length_map,List.length_take];exact ja (by omega),_,rfl,?_,e3.trans Ext.put⟩
    rw [j4,qi (fun r:Rch=>r.1) rs j r hr,List.map_append]
    rfl
   ·rintro σ H2 ⟨x,rfl,h3,e3⟩
    rw [hxl,List.take_length] at h3
    have Gb:=Ga.extN hld e3
    left
    refine ⟨by omega,by omega,fun hd hhd=>?_⟩
    have en:(1+(i:Int)).toNat=rs.length:=by omega
    refine qf (lo:=0) (n:=(1+(i:Int)).toNat) (acc:=hd) (fun j σ H3=>∃ (x:Option V) (vs:List V),σ=[x,some (.ref ld)]/\H3 hd=some (.lst vs)/\vs.length=((List.range j).filter (jE rs)).length/\Ext hd H2 H3) ?_ ?_ ?_
    ·exact ⟨none,[],rfl,j4,rfl,Ext.put⟩
    ·rintro j σ H3 hj ⟨x,vs,rfl,h4,l4,e4⟩
     have er:((List.range (j+1)).filter (jE rs)).length=((List.range j).filter (jE rs)).length+(if jE rs j=true then 1 else 0):=by
      rw [List.range_succ,List.filter_append,List.length_append]
      congr 1
      by_cases z:jE rs j=true
      ·rw [if_pos z];simp [z]
      ·rw [if_neg z];simp [z]
     have hfl:((List.range j).filter (jE rs)).length<=j:=Nat.le_trans (List.length_filter_le _ _) (by rw [List.length_range];exact Nat.le_refl _)
     left
     refine ⟨ld,_,rfl,.inl (SqL.of (e4 _ _ h3 (j1 h3 hhd))),rfl,yu _,?_⟩
     left
     rw [Int.zero_add,vj]
     refine zW (fun hin=>?_) (fun hin=>?_)
     ·have hb:jE rs j=true:=by unfold jE;rw [decide_eq_false (show ¬ (j:Int)∈tos rs from hin)];rfl
      left
      refine ⟨vs,h4,ja (by omega),_,_,rfl,j4,?_,e4.trans Ext.put⟩
      rw [List.length_append,List.length_singleton,er,if_pos hb,l4]
     ·have hb:¬ jE rs j=true:=by unfold jE;rw [decide_eq_true (show (j:Int)∈tos rs from hin)];exact Bool.false_ne_true
      exact ⟨_,vs,rfl,h4,by rw [er,if_neg hb,l4,Nat.add_zero],e4⟩
    ·rintro σ H3 ⟨x,vs,rfl,h4,l4,e4⟩
     have Gc:=Gb.extN hhd e4
     have hld4:=e4 _ _ h3 (j1 h3 hhd)
     rw [en] at l4
     have l4':vs.length=(jn rs).length:=l4
     refine ⟨_,_,rfl,.inl (SqL.of h4),?_⟩
     refine ⟨fun σ H5=>∃ t':Int,σ=[some (.ref b),some (.ref tp),some (.ref sz),some (.ref rw),some (.ref dp),some (.int (1+(i:Int))),some (.int t'),some (.ref ld),some (.int vs.length),v9]/\H5=H3/\0<=t'/\t'<rs.length/\(t'∈tos rs->(jn rs).length<6),?_,?_⟩
     ·have hh:=gr.heads
      left
      refine xm (fun h6=>?_) (fun h6=>?_)
      ·left
       refine ⟨ld,_,rfl,.inl (SqL.of hld4),rfl,yu _,?_⟩
       left
       rw [vj]
       refine xm (fun hin=>?_) (fun hin=>?_)
       ·left
        refine ⟨by omega,by omega,fun z=>?_⟩
        have:=Qs Ld z
        omega
       ·exact ⟨t,rfl,rfl,ha0,by omega,fun z=>absurd z hin⟩
      ·have:(jn rs).length<6:=by
        have:(vs.length:Int)≠6:=fun z=>h6 (by rw [z])
        omega
       exact ⟨t,rfl,rfl,ha0,by omega,fun _=>this⟩
     ·rintro σ H5 ⟨t',rfl,rfl,t0,t1,th⟩
      have hde:=Zd t0 t1
      left
      refine ⟨_,_,_,_,rfl,rfl,SqL.of Gc.hdp,hde,?_⟩
      left
      refine xm (fun h30=>?_) (fun h30=>?_)
      ·have hdp0:=gr.deep t'.toNat (by omega)
       generalize hdt:jv rs (qg rs t'.toNat)=dt at hde h30 hdp0
       left
       refine ⟨_,_,_,_,rfl,rfl,SqL.of Gc.hdp,hde,?_⟩
       left
       refine ⟨_,_,rfl,?_⟩
       refine ⟨L,b,_,rfl,Gc.box,⟨by split <;> omega,by split <;> omega⟩,fun v5' H6 p6 q6 B6 X6=>?_⟩
       have Gd:=Gc.take D B6 X6
       have hz12:1+v5'<=12/\dt+(1+v5')<=30:=by
        have q6':=q6
        split at q6' <;> omega
       left
       refine ⟨.inl ⟨rfl,_,SqL.of Gd.htp⟩,?_⟩
       left
       have hti:t'.toNat<ts.length:=by omega
       refine ⟨_,_,_,_,rfl,rfl,SqL.of Gd.htp,xk t0 (by rw [List.getElem?_map,List.getElem?_eq_getElem hti];rfl),?_⟩
       left
       refine ⟨L,b,_,rfl,Gd.box,⟨by decide,by decide⟩,fun v6' H7 p7 q7 B7 X7=>?_⟩
       have Ge:=Gd.take D B7 X7
       left
       refine ⟨_,_,rfl,?_⟩
       generalize hnew:(if ts[t'.toNat]'hti+v6'<99 then ts[t'.toNat]'hti+v6' else 99)=new
       have hnew99:new<=99:=by rw [<- hnew];split <;> omega
       left
       refine ⟨tp,_,_,rfl,rfl,Ge.htp,by rw [List.length_map];exact ja (by omega),?_⟩
       have Gf:RG L b tp rw dp H (upd H7 tp (.lst (ts.map V.int++[V.int new]))) (ts++[new]) xs rs (xn rs):=by
        have:=Ge.putT D (ts++[new])
        rw [List.map_append] at this
        exact this
       left
       refine ⟨.inl ⟨rfl,_,SqL.of Gf.hrw⟩,?_⟩
       left
       refine ⟨_,_,_,_,rfl,rfl,SqL.of j4,Q3 _ _,?_⟩
       left
       refine ⟨L,b,new,1+v5',rfl,Gf.box,hnew99,by omega,by omega,fun gl' H8 hs' B8' X8 hgl' hgl8 hl' hb'=>?_⟩
       have Gg:=Gf.take D B8' X8
       refine ⟨gl',_,rfl,SqL.of hgl8,fun gt' H9' hgt' hgt9 s9'=>?_⟩
       refine ⟨by show 2<=sizeLine;decide,fun rt' H10' hrt' hrt10 s10'=>?_⟩
       have Gh:=(Gg.same s9').same s10'
       left
       refine ⟨rw,_,_,rfl,rfl,Gh.hrw,ja (by omega),?_⟩
       have okn:okR rs.length (t',hs')=true:=Vk (by omega) t0 t1 hl' (by omega) (by omega) hb'
       have Gi:=Gh.putR D (v:=.ref rt') (r:=(t',hs')) ⟨rt',gt',rfl,hrt10,s10' _ _ hgt9⟩
       left
       refine ⟨.inl ⟨rfl,_,SqL.of Gi.hdp⟩,?_⟩
       left
       refine ⟨_,_,_,_,rfl,rfl,SqL.of Gi.hdp,hde,?_⟩
       left
       have hdl:(xn rs).length=rs.length:=by unfold xn;simp
       refine ⟨dp,_,_,rfl,rfl,Gi.hdp,by rw [List.length_map];exact ja (by omega),?_⟩
       have Gj:RG L b tp rw dp H (upd (upd H10' rw (.lst (xs++[.ref rt']))) dp (.lst ((xn rs).map V.int++[V.int (dt+(1+v5'))]))) (ts++[new]) (xs++[.ref rt']) (rs++[(t',hs')]) (xn (rs++[(t',hs')])):=by
        have:=Gi.putD D (xn rs++[dt+(1+v5')])
        rw [List.map_append] at this
        rw [JM gr t0 t1 okn,hdt,hl']
        exact this
       refine ⟨_,_,_,_,_,_,_,_,rfl,Gj,gr.snoc t0 t1 okn th (by rw [hdt];omega),by rw [List.length_append,hrl];rfl,by rw [List.length_append,htl];rfl,fun t ht=>?_⟩
       rcases List.mem_append.mp ht with ht | ht
       ·exact htb t ht
       ·have:t=new:=by simpa using ht
        omega
      ·left
       exact done _ _ _ _ _ Gc gr (by omega) (by omega)
  ·rintro σ H' ⟨v5,v6,v7,v8,v9,ts,xs,rs,rfl,G,gr,hrl,htl,htb⟩
   left
   exact done _ _ _ _ _ G gr (by omega) (by omega)
def XG (t:TE):Prop:=∀ σ H Q Q',(∀ v H,Q v H->Q' v H)->t σ H Q->t σ H Q'
def Y2 (r:R2):Prop:=∀ x y H Q Q',(∀ v H,Q v H->Q' v H)->r x y H Q->r x y H Q'
theorem QZ (i:Nat):XG (U6 i):=fun _ _ _ _ h ⟨v,e,q⟩=>⟨v,e,h _ _ q⟩
theorem Xl (v:V):XG (tC v):=fun _ _ _ _ h q=>h _ _ q
theorem wf {r:R2}{ta tb:TE}(hr:Y2 r) (ha:XG ta) (hb:XG tb):XG (tOp r ta tb):=fun σ H Q Q' h q=>ha σ H _ _ (fun x H1 q1=>hb σ H1 _ _ (fun y H2 q2=>hr x y H2 _ _ h q2) q1) q
theorem Xu (K:PySem.W.Frag):Y2 (VI K):=fun _ _ _ _ _ h ⟨a,xs,i,v,e1,e2,e3,e4,q⟩=>⟨a,xs,i,v,e1,e2,e3,e4,h _ _ q⟩
theorem YI (K:PySem.W.Frag):Y2 (VW K):=fun _ _ _ _ _ h ⟨a,xs,i,v,e1,e2,e3,e4,q⟩=>⟨a,xs,i,v,e1,e2,e3,e4,h _ _ q⟩
theorem U7 (g:Int->Int->V):Y2 (rI0 g):=fun _ _ _ _ _ h ⟨i,j,e1,e2,q⟩=>⟨i,j,e1,e2,h _ _ q⟩
theorem Vx:Y2 rNe:=fun _ _ _ _ _ h ⟨e,q⟩=>⟨e,h _ _ q⟩
theorem Y8 {t:TE}(ht:XG t):∀ σ H Q Q',(∀ b H1,Q b H1->Q' b H1)->Xe t σ H Q->Xe t σ H Q':=fun σ H Q Q' h q=>ht σ H _ _ (fun _ _ ⟨k,e,q⟩=>⟨k,e,h _ _ q⟩) q
theorem Q4 {α:Type}{x:α}{l:List α}:atI (x::l) 0=some x:=xW (j:=0) rfl
def vy (fd:Addr) (H:Hp) (vs:List V) (rows:List (List Int)):Prop:=Paired (fun v (r:List Int)=>∃ a,v=V.ref a/\a≠fd/\H a=some (.lst (r.map V.int))) vs rows
theorem vy.ext {fd:Addr}{H H':Hp}{vs:List V}{rows:List (List Int)}(h:vy fd H vs rows) (e:Ext fd H H'):vy fd H' vs rows:=Paired.mapP h fun _ _ ⟨a,e1,n,q⟩=>⟨a,e1,n,e _ _ q n⟩
theorem vy.rowsI {fd:Addr}{H:Hp}{vs:List V}{rows:List (List Int)}(h:vy fd H vs rows):zV H vs rows:=Paired.mapP h fun _ _ ⟨a,e1,n,q⟩=>⟨a,e1,q⟩
theorem wB {H:Hp}{vs:List V}{ws:List (List Int)}(h:zV H vs ws):∀ ix:List Nat,(∀ i∈ix,i<vs.length)->zV H (ix.map fun i=>vs.getD i V.non) (ix.map fun i=>ws.getD i [])
 | [],_=>.nil
 | i::ix,hb=>by
  refine .cons ?_ (wB h ix fun j hj=>hb j (List.mem_cons_of_mem _ hj))
  have hi:=hb i List.mem_cons_self
  obtain ⟨y,e2,a,e3,e4⟩:=Paired.get h (List.getElem?_eq_getElem hi)
  refine ⟨a,?_,?_⟩
  ·show vs.getD i V.non=V.ref a
   rw [List.getD_eq_getElem?_getD,List.getElem?_eq_getElem hi];exact e3
  ·show H a=some (.lst ((ws.getD i []).map V.int))
   rw [List.getD_eq_getElem?_getD,e2];exact e4
def Jr (K:PySem.W.Frag):Sp:=fun vs H Q _=>∃ (p:Addr) (xs:List V) (rs:List Rch),vs=[.ref p]/\H p=some (.lst xs)/\jK H xs rs/\qU rs/\rs.length<=60/\∀ l H' out ws,H l=none->H' l=some (.lst out)->zV H' out ws->jM rs ws->jh H H'->Q (.ref l) H'
theorem qG:FnScope ["_law_reaches_here","_law_led","_law_found","_law_head","_law_road"] ["_law_reaches_here"] (j6 xw):=by walk_at "s"
theorem ZR {f:Addr}{fd:FuncData}(nb:Nb2 mg) (F:Fun K "_law_roads" "_law_roads" xw f fd):FnOk P w K mg base CX0 1 f fd ["_law_reaches_here"] (Jr K):=by
 refine F.ok qG (fun vs H Q E h=>?_) (fun cdv A outer s H vs Q E hr h=>?_)
 ·obtain ⟨p,xs,rs,rfl,_⟩:=h
  rfl
 ·obtain ⟨p,xs,rs,rfl,hp,hrw,L,h60,k⟩:=h
  have hlen:=hrw.length
  refine ⟨_,(j7 (zH (j:=1) (osc:=(j6 xw)) (ON:=["_law_reaches_here","_law_led","_law_found","_law_head","_law_road"]) (N:=["_law_to","_law_ground_here"]) (own:=2) (caps:=[]) ⟨rfl,by walk_at "k",by walk_at "k",by walk_at "k",rfl,by walk_at "k"⟩ qG.nd rfl (Or.inl rfl) rfl rfl rfl (jL K (pv 0)) (fun _ _ _ _ _=>(qL (n:=2) K rfl (js (jb (i:=0) (show List.Nodup (["_law_to","_law_ground_here"]:List Str) by decide +kernel) rfl (Or.inl rfl)) (js (jb (i:=1) (show List.Nodup (["_law_to","_law_ground_here"]:List Str) by decide +kernel) rfl (Or.inl rfl)) qA)))) (fun _ _ _ _ _=>jr) (fun _ _ _ _ _=>(pv 0)))
   (j7 (jp (i:=2) qG.nd rfl (Or.inl rfl) (jT j2))
   (j7 (xB PassesOwn.never rfl (jO rfl nb.b_range (j0 (jc (jg K) rfl nb.b_len PySem.boot_len (j0 (pv 0) j2)) j2)) (jb (i:=3) qG.nd rfl (Or.inl rfl)) (j9 (qj (qc (zk K) (pv 3) (pv 1) (by with_unfolding_all rfl)) (j7 (jp (i:=4) qG.nd rfl (Or.inl rfl) (jT (j0 (pv 3) j2)))
   (j7 (Jn PassesOwn.never (qc Zr (jq (qt K) (jq (jd K) (pv 0) (jq (jd K) (pv 4) j8 (fun _ _=>rfl)) (fun _ _=>rfl)) j8 (fun _ _=>rfl)) (ji xC j8 j8) (qd _)) (j9 (jp (i:=4) qG.nd rfl (Or.inl rfl) (ji vk (jT (j0 (jq (qt K) (jq (jd K) (pv 0) (jq (jd K) (pv 4) j8 (fun _ _=>rfl)) (fun _ _=>rfl)) j8 (fun _ _=>rfl)) j2)) (pv 4)))))
   (j9 (jV (yJ K PySem.F.plainAttrs_list PySem.F.slot_list_append PySem.F.type_list_append qK (pv 2) (j0 (pv 4) j2)))))) jB)))
   (j9 (jj (jC (osc:=(j6 xw)) (ON:=["_law_reaches_here","_law_led","_law_found","_law_head","_law_road"]) (N:=["_law_road"]) (own:=1) (caps:=[]) ⟨rfl,by walk_at "k",by walk_at "k",by walk_at "k",rfl,by walk_at "k"⟩ rfl rfl rfl (jL K (jc (wX K hr.units) rfl nb.b_sorted boot_sorted (j0 (pv 2) j2))) (fun _ _ _ _ _=>(jb (i:=0) (show List.Nodup (["_law_road"]:List Str) by decide +kernel) rfl (Or.inl rfl))) (fun _ _ _ _ _=>jr) (fun _ _ _ _ _=>(V5 K (pv 0))))))))),?_⟩
  left
  refine ⟨⟨_,SqL.of hp⟩,fun en hen=>?_⟩
  refine jI (K:=K) (a:=p) (xs:=xs) (acc:=en) (fun j σ H2=>∃ x y:Option V,σ=[x,y]/\H2 en=some (.lst (((rs.take j).map (·.1)).map V.int))/\Ext en H H2) ?_ ?_ ?_ ?_
  ·exact ⟨none,none,rfl,j4,Ext.put⟩
  ·rintro j σ H2 hj ⟨x,y,rfl,h3,e3⟩
   exact SqL.of (e3 _ _ hp (j1 hp hen))
  ·rintro j v σ H2 hv ⟨x,y,rfl,h3,e3⟩
   obtain ⟨r,hr,q,g,rfl,hq,hg⟩:=(hrw.keep (jo.new e3 hen)).get hv
   have hj:j<rs.length:=(List.getElem?_eq_some_iff.mp hr).1
   left
   refine ⟨q,_,rfl,SqT.of hq,rfl,?_⟩
   refine ⟨_,_,rfl,_,_,rfl,rfl,?_⟩
   left
   refine ⟨_,h3,by rw [List.length_map,List.length_map,List.length_take];exact ja (by omega),_,_,rfl,?_,e3.trans Ext.put⟩
   rw [j4,qi (fun r:Rch=>r.1) rs j r hr,List.map_append]
   rfl
  ·rintro σ H2 ⟨x,y,rfl,h3,e3⟩
   rw [hlen,List.take_length] at h3
   have sm2:jh H H2:=fun c o hc=>e3 c o hc (j1 hc hen)
   left
   refine ⟨Nat.zero_le _,fun fo H3 hfo hfo3 s3=>?_⟩
   have hp3:=s3 _ _ (sm2 _ _ hp)
   have hrw3:jK H3 xs rs:=hrw.keep (jo.same (sm2.trans s3))
   have hen3:=s3 _ _ h3
   have hfoH:H fo=none:=sm2.free hfo
   left
   refine ⟨_,_,rfl,.inl (SqL.of hp3),?_⟩
   refine ⟨_,rfl,by omega,by omega,?_⟩
   rw [hlen]
   refine xI (lo:=0) (n:=((rs.length:Nat):Int).toNat) (fun j σ H4=>∃ (v3 v4:Option V) (vs:List V),σ=[some (.ref p),some (.ref en),some (.ref fo),v3,v4]/\H4 fo=some (.lst vs)/\vy fo H4 vs (((List.range j).filter (jE rs)).map fun h=>(qg rs h).reverse)/\Ext fo H3 H4/\vs.length<=j) ?_ ?_ ?_
   ·exact ⟨_,_,[],rfl,hfo3,.nil,Ext.refl,Nat.le_refl _⟩
   ·rintro j σ H4 hj ⟨v3,v4,vs,rfl,h4,w4,e4,l4⟩
    have hj':j<rs.length:=by omega
    have kt4:jo H3 H4:=jo.lst e4 hfo3
    have hen4:=e4 _ _ hen3 (j1 h3 hfo)
    have hp4:=e4 _ _ hp3 (j1 (sm2 _ _ hp) hfo)
    have hrw4:jK H4 xs rs:=hrw3.keep kt4
    have er:(List.range (j+1)).filter (jE rs)=(List.range j).filter (jE rs)++(if jE rs j=true then [j] else []):=by
     rw [List.range_succ,List.filter_append]
     congr 1
     by_cases z:jE rs j=true
     ·rw [if_pos z];simp [z]
     ·rw [if_neg z];simp [z]
    left
    refine ⟨en,_,rfl,.inl (SqL.of hen4),rfl,yu _,?_⟩
    left
    rw [Int.zero_add,vj]
    refine zW (fun hin=>?_) (fun hin=>?_)
    ·have hb:jE rs j=true:=by unfold jE;rw [decide_eq_false (show ¬ (j:Int)∈tos rs from hin)];rfl
     left
     refine ⟨by show 1<=sizeLine;decide,fun r0 H5 hr0 hr05 s5=>?_⟩
     left
     refine JY (fun σ H6=>∃ (a:Addr) (r:Nat) (l:List Int),σ=[some (.ref p),some (.ref en),some (.ref fo),some (.int (j:Int)),some (.ref a)]/\jh H4 H6/\H4 a=none/\H6 a=some (.lst (((r:Int)::l).map V.int))/\r<rs.length/\l.length+r<=100/\l.reverse++qg rs r=qg rs j) (fun σ H6=>match σ with | [_,_,_,_,some (.ref a)]=>(match H6 a with | some (.lst (.int r::_))=>r.toNat | _=>0) | _=>0) ?_ ?_ ?_
     ·exact ⟨r0,j,[],rfl,s5,hr0,hr05,hj',by simp;omega,rfl⟩
     ·rintro σ H6 ⟨a,r,l,rfl,s6,ha4,ha6,hrl,hll,heq⟩
      have hp6:=s6 _ _ hp4
      obtain ⟨v,hv,q,g,rfl,hq,hg⟩:=(hrw4.keep (jo.same s6)).at (List.getElem?_eq_getElem hrl)
      have ht:=L.lt hrl
      have hl3:=wm (L _ hrl)
      have et:=kY (List.getElem?_eq_getElem hrl)
      rw [et] at ht hl3
      generalize (rs[r]'hrl).1=tt at ht hl3 et hq
      left
      refine ⟨_,_,_,_,rfl,rfl,SqL.of ha6,Q4,?_⟩
      refine ⟨_,_,_,_,rfl,rfl,SqL.of hp6,xW hv,?_⟩
      refine ⟨_,_,_,_,rfl,rfl,SqT.of hq,rfl,?_⟩
      left
      refine zW (fun hne=>?_) (fun hne=>?_)
      ·have htt:0<=tt:=by
        have:tt ≠ -1:=fun z=>hne (by rw [z];rfl)
        omega
       left
       refine ⟨_,_,_,_,rfl,rfl,SqL.of ha6,Q4,?_⟩
       refine ⟨_,_,_,_,rfl,rfl,SqL.of hp6,xW hv,?_⟩
       refine ⟨_,_,_,_,rfl,rfl,SqT.of hq,rfl,?_⟩
       refine ⟨by show 1<=sizeLine;decide,fun c1 H7 hc1 hc17 s7=>?_⟩
       left
       refine ⟨c1,a,_,_,rfl,rfl,hc17,s7 _ _ ha6,?_,fun c2 H8 hc2 hc28 s8=>?_⟩
       ·show 1+(((r:Int)::l).map V.int).length<=sizeLine
        rw [List.length_map,List.length_cons]
        exact Nat.le_of_lt (ja (by omega))
       ·have ett:tt=((tt.toNat:Nat):Int):=by omega
        refine ⟨⟨c2,tt.toNat,(r:Int)::l,rfl,(s6.trans s7).trans s8,(s6.trans s7).free hc2,?_,by omega,?_,?_⟩,?_⟩
        ·rw [hc28,ett]
         simp only [Int.toNat_natCast]
         rfl
        ·rw [List.length_cons];omega
        ·rw [List.reverse_cons,List.append_assoc,<- heq,xZ L hrl,et,if_neg (by omega)]
         rfl
        ·show (match H8 c2 with | some (.lst (.int r::_))=>r.toNat | _=>0)<(match H6 a with | some (.lst (.int r::_))=>r.toNat | _=>0)
         rw [hc28,ha6]
         show tt.toNat<((r:Int)).toNat
         omega
      ·have htm:tt = -1:=V.int.inj hne
       have hfo6:=s6 _ _ h4
       left
       refine ⟨.inl ⟨rfl,_,SqL.of hfo6⟩,?_⟩
       left
       refine ⟨fo,_,_,rfl,rfl,hfo6,ja (by omega),?_⟩
       have naf:a≠fo:=fun z=>by rw [z,h4] at ha4;cases ha4
       refine ⟨_,_,vs++[.ref a],rfl,j4,?_,fun c o hc n=>by rw [j5 n];exact s6 _ _ (e4 c o hc n),by rw [List.length_append,List.length_singleton];omega⟩
       rw [er,if_pos hb,List.map_append]
       refine vy.ext (Paired.snoc (w4.ext (Ext.of_same s6)) ⟨a,rfl,naf,?_⟩) Ext.put
       show H6 a=some (.lst (((qg rs j).reverse).map V.int))
       rw [ha6,<- heq,xZ L hrl,et,if_pos (by omega),List.reverse_append,List.reverse_reverse]
       rfl
     ·exact Y8 (wf Vx (wf (YI K) (wf (Xu K) (QZ 0) (wf (Xu K) (QZ 4) (Xl _))) (Xl _)) (wf (U7 _) (Xl _) (Xl _)))
    ·have hb:¬ jE rs j=true:=by unfold jE;rw [decide_eq_true (show (j:Int)∈tos rs from hin)];exact Bool.false_ne_true
     refine ⟨_,_,vs,rfl,h4,?_,e4,by omega⟩
     rw [er,if_neg hb,List.append_nil]
     exact w4
   ·rintro σ H4 ⟨v3,v4,vs,rfl,h4,w4,e4,l4⟩
    rw [Int.toNat_natCast] at w4 l4
    have sm4:jh H H4:=fun c o hc=>e4 _ _ (s3 _ _ (sm2 _ _ hc)) (j1 hc hfoH)
    left
    refine ⟨fo,vs,_,rfl,SqL.of h4,by omega,w4.rowsI,fun so H5 out hso hso5 s5 hs=>?_⟩
    obtain ⟨ix,hpx,eo,hpw⟩:=hs
    have hvl:vs.length=(jn rs).length:=by rw [Paired.length w4,List.length_map];rfl
    have hb:∀ i∈ix,i<vs.length:=fun i hi=>by have:=hpx.mem_iff.mp hi;simpa using this
    have hri:=wB (w4.rowsI) ix hb
    have hw5:zV H5 out (ix.map fun i=>(((jn rs).map fun h=>(qg rs h).reverse).getD i [])):=by
     rw [eo]
     exact Paired.mapP hri fun _ _ ⟨a,e1,q⟩=>⟨a,e1,s5 _ _ q⟩
    have hol:out.length<=60:=by rw [eo,List.length_map,hpx.length_eq,List.length_range];omega
    generalize hrv:(ix.map fun i=>(((jn rs).map fun h=>(qg rs h).reverse).getD i []))=rv at hw5
    have hrvl:=Paired.length hw5
    have isr:jM rs (rv.map List.reverse):=by
     refine ⟨?_,?_⟩
     ·have h1:=hpx.map fun i=>(((jn rs).map fun h=>(qg rs h).reverse).getD i [])
      rw [hvl,show (jn rs).length=((jn rs).map fun h=>(qg rs h).reverse).length by rw [List.length_map],Jw,hrv] at h1
      have h2:=h1.map List.reverse
      rw [List.map_map] at h2
      refine h2.trans (List.Perm.of_eq (List.map_congr_left fun x _=>?_))
      exact List.reverse_reverse _
     ·rw [List.map_map,show (List.reverse ∘ List.reverse:List Int->List Int)=id from funext fun x=>List.reverse_reverse x,List.map_id,<- hrv]
      exact hpw
    refine ⟨so,rfl,⟨_,SqL.of hso5⟩,fun acc hacc=>?_⟩
    refine jI (K:=K) (a:=so) (xs:=out) (acc:=acc) (fun j σ H6=>∃ (x:Option V) (us:List V),σ=[x]/\H6 acc=some (.lst us)/\vy acc H6 us ((rv.take j).map List.reverse)/\Ext acc H5 H6/\us.length=j) ?_ ?_ ?_ ?_
    ·exact ⟨none,[],rfl,j4,.nil,Ext.put,rfl⟩
    ·rintro j σ H6 hj ⟨x,us,rfl,h6,w6,e6,l6⟩
     exact SqL.of (e6 _ _ hso5 (j1 hso5 hacc))
    ·rintro j v σ H6 hv ⟨x,us,rfl,h6,w6,e6,l6⟩
     obtain ⟨y,e2,a,rfl,ha⟩:=Paired.get hw5 hv
     have hj:j<rv.length:=(List.getElem?_eq_some_iff.mp e2).1
     left
     refine ⟨a,_,rfl,SqL.of (e6 _ _ ha (j1 ha hacc)),fun q H7 hq hq7 s7=>?_⟩
     have h7:=s7 _ _ h6
     have nq:q≠acc:=fun z=>by rw [z,h6] at hq;cases hq
     refine ⟨us,h7,ja (by omega),_,us++[.ref q],rfl,j4,?_,fun c o hc n=>by rw [j5 n];exact s7 _ _ (e6 c o hc n),by rw [List.length_append,l6];rfl⟩
     rw [qi List.reverse rv j y e2]
     refine vy.ext (Paired.snoc (w6.ext (Ext.of_same s7)) ⟨q,rfl,nq,?_⟩) Ext.put
     rw [hq7,List.map_reverse]
    ·rintro σ H6 ⟨x,us,rfl,h6,w6,e6,l6⟩
     rw [hrvl,List.take_length] at w6
     exact k acc H6 us _ (sm4.free (s5.free hacc)) h6 w6.rowsI isr fun c o hc=>e6 _ _ (s5 _ _ (sm4 _ _ hc)) (j1 (s5 _ _ (sm4 _ _ hc)) hacc)
def jf (rs:List Rch) (way:List Int):List Int:=(way.map fun r=>zj rs r.toNat).flatten
theorem wc (rs:List Rch):∀ way:List Int,((jf rs way).length:Int)=jv rs way
 | []=>rfl
 | r::way=>by
  rw [qP,<- wc rs way]
  unfold jf
  rw [List.map_cons,List.flatten_cons,List.length_append]
  push_cast
  rfl
theorem VF {n:Nat}(h:n<=100000):n<sizeLine:=Nat.lt_of_le_of_lt h (by decide)
theorem uy (rs:List Rch) (way:List Int) (j:Nat) (r:Int) (h:way[j]? = some r):jf rs (way.take (j+1))=jf rs (way.take j)++zj rs r.toNat:=by
 unfold jf
 rw [List.take_add_one,h,List.map_append,List.flatten_append]
 congr 1
 show [zj rs r.toNat].flatten=_
 simp
theorem vS {rs:List Rch}(h100:∀ r∈rs,r.2.length<=100):∀ way:List Int,(jf rs way).length<=100*way.length
 | []=>by unfold jf;simp
 | r::way=>by
  have ih:=vS h100 way
  have h1:(zj rs r.toNat).length<=100:=by
   unfold zj
   rw [List.getD_eq_getElem?_getD]
   cases e:rs[r.toNat]? with
   | none=>simp
   | some q=>exact h100 q (List.mem_of_getElem? e)
  unfold jf at ih ⊢
  rw [List.map_cons,List.flatten_cons,List.length_append,List.length_cons]
  omega
def JD (K:PySem.W.Frag):Sp:=fun vs H Q _=>∃ (p a:Addr) (xs:List V) (rs:List Rch) (way:List Int),vs=[.ref p,.ref a]/\H p=some (.lst xs)/\jK H xs rs/\(∀ r∈rs,r.2.length<=100)/\H a=some (.lst (way.map V.int))/\(∀ r∈way,0<=r/\r<rs.length)/\way.length<=100/\∀ l H',H l=none->H' l=some (.lst ((jf rs way).map V.int))->jh H H'->Q (.ref l) H'
theorem xo:FnScope ["_law_reaches_here","_law_road","_law_found","_law_reach","_law_height"] ["_law_reaches_here","_law_road"] (j6 zG):=by walk_at "s"
theorem XU {f:Addr}{fd:FuncData}(F:Fun K "_law_ground" "_law_ground" zG f fd):FnOk P w K mg base CX0 1 f fd ["_law_reaches_here","_law_road"] (JD K):=by
 refine F.ok xo (fun vs H Q E h=>?_) (fun cdv A outer s H vs Q E hr h=>?_)
 ·obtain ⟨p,a,xs,rs,way,rfl,_⟩:=h
  rfl
 ·obtain ⟨p,a,xs,rs,way,rfl,hp,hrw,h100,ha,hin,hwl,k⟩:=h
  have hlen:=hrw.length
  refine ⟨_,(j7 (jp (i:=2) xo.nd rfl (Or.inl rfl) (jT j2))
   (j7 (xB PassesOwn.never rfl (jL K (pv 1)) (jb (i:=3) xo.nd rfl (Or.inl rfl)) (j9 (xB PassesOwn.never rfl (vD K (jq (qt K) (jq (jd K) (pv 0) (pv 3) (fun _ _=>rfl)) j8 (fun _ _=>rfl))) (jb (i:=4) xo.nd rfl (Or.inl rfl)) (j9 (jV (yJ K PySem.F.plainAttrs_list PySem.F.slot_list_append PySem.F.type_list_append qK (pv 2) (j0 (pv 4) j2)))))))
   (j9 (jj (pv 2))))),?_⟩
  left
  refine ⟨Nat.zero_le _,fun fo H1 hfo hfo1 s1=>?_⟩
  have ha1:=s1 _ _ ha
  left
  refine ⟨⟨_,SqL.of ha1⟩,JJ (K:=K) (a:=a) (xs:=way.map V.int) (fun j σ H2=>∃ x y:Option V,σ=[some (.ref p),some (.ref a),some (.ref fo),x,y]/\H2 fo=some (.lst ((jf rs (way.take j)).map V.int))/\Ext fo H1 H2) ⟨_,_,rfl,hfo1,Ext.refl⟩ ?_ ?_ ?_⟩
  ·rintro j σ H2 hj ⟨x,y,rfl,h2,e2⟩
   exact SqL.of (e2 _ _ ha1 (j1 ha hfo))
  ·rintro j v σ H2 hv ⟨x,y,rfl,h2,e2⟩
   obtain ⟨r,rfl⟩:=yj hv
   have hz:way[j]? = some r:=by
    rw [List.getElem?_map] at hv
    cases e:way[j]? with
    | none=>rw [e] at hv;cases hv
    | some y=>rw [e] at hv;cases hv;rfl
   have hj:j<way.length:=(List.getElem?_eq_some_iff.mp hz).1
   have hr:=hin r (List.mem_of_getElem? hz)
   have hi:r.toNat<rs.length:=by omega
   obtain ⟨v,hv',q,g,rfl,hq,hg⟩:=(hrw.keep ((jo.same s1).trans (jo.lst e2 hfo1))).at (List.getElem?_eq_getElem hi)
   have hsl:=h100 _ (List.getElem_mem hi)
   have hgl:=vS h100 (way.take j)
   have htl:(way.take j).length<=100:=by rw [List.length_take];omega
   left
   refine ⟨_,_,_,_,rfl,rfl,SqL.of (e2 _ _ (s1 _ _ hp) (j1 hp hfo)),xk hr.1 hv',?_⟩
   refine ⟨_,_,_,_,rfl,rfl,SqT.of hq,rfl,?_⟩
   refine ⟨g,rfl,⟨_,SqT.of hg⟩,Vj (K:=K) (a:=g) (xs:=(rs[r.toNat]'hi).2.map V.int) (fun i σ H3=>∃ y:Option V,σ=[some (.ref p),some (.ref a),some (.ref fo),some (.int r),y]/\H3 fo=some (.lst ((jf rs (way.take j)++(rs[r.toNat]'hi).2.take i).map V.int))/\Ext fo H2 H3) ⟨_,rfl,?_,Ext.refl⟩ ?_ ?_ ?_⟩
   ·rw [List.take_zero,List.append_nil];exact h2
   ·rintro i σ H3 hi3 ⟨y,rfl,h3,e3⟩
    exact SqT.of (jo.lst e3 h2 _ _ hg)
   ·rintro i v σ H3 hv3 ⟨y,rfl,h3,e3⟩
    obtain ⟨z,rfl⟩:=yj hv3
    have hz3:(rs[r.toNat]'hi).2[i]? = some z:=by
     rw [List.getElem?_map] at hv3
     cases e:(rs[r.toNat]'hi).2[i]? with
     | none=>rw [e] at hv3;cases hv3
     | some y=>rw [e] at hv3;cases hv3;rfl
    left
    refine ⟨.inl ⟨rfl,_,SqL.of h3⟩,?_⟩
    left
    refine ⟨fo,_,_,rfl,rfl,h3,?_,?_⟩
    ·rw [List.length_map,List.length_append,List.length_take]
     exact VF (by omega)
    ·refine ⟨_,rfl,?_,e3.trans Ext.put⟩
     rw [j4,List.take_add_one,hz3,<- List.append_assoc,List.map_append,List.map_append,List.map_append]
     rfl
   ·rintro σ H3 ⟨y,rfl,h3,e3⟩
    refine ⟨_,_,rfl,?_,e2.trans e3⟩
    rw [h3,List.length_map,List.take_length,uy rs way j r hz,gg (List.getElem?_eq_getElem hi)]
  ·rintro σ H2 ⟨x,y,rfl,h2,e2⟩
   rw [List.length_map,List.take_length] at h2
   left
   exact k fo H2 hfo h2 fun c o hc=>e2 _ _ (s1 _ _ hc) (j1 hc hfo)
end
section
variable {P:Program}{w:World}{K:PySem.W.Frag}{mg:Str->Option Value}{base:Heap}
def QX (Pt C:Addr):Sp:=fun vs H Q E=>∃ (p:Addr) (xs:List V) (rs:List Rch) (l:Int),vs=[.ref p,.int l]/\H p=some (.lst xs)/\jK H xs rs/\qU rs/\rs.length<=60/\qm H Pt /\
 (∀ t H' ws (i:Nat),l=i->i<ws.length->jM rs ws->H' t=some (.tup ((ws.getD i []).map V.int))->Ext Pt H H'->qm H' Pt->Q (.ref t) H')/\∀ H',(l<0\/((jn rs).length:Int)<=l)->Ext Pt H H'->qm H' Pt->E (.ref C) none H'
theorem kg:FnScope ["reaches","lane","ways"] ["reaches","lane"] (j6 uW):=by walk_at "s"
theorem Xv {f Pt C:Addr}{fd:FuncData}(nb:Nb2 mg) (e_NoLane:mg "NoLane" = some (.ref C)) (x_NoLane:PySem.W.excIn K C [.type "ValueError",.type "Exception",.type "BaseException",.type "object"] "ValueError.__new__" = true) (c_lanes:Cal P w K mg base 5 "lanes" ["reaches"] (vL K Pt)) (F:Fun K "way_of" "way_of" uW f fd):FnOk P w K mg base (CX1 P w) 6 f fd ["reaches","lane"] (QX Pt C):=by
 refine Fun.okX F kg (fun vs H Q E h=>?_) (fun cdv A outer s H vs Q E hr h=>?_)
 ·obtain ⟨p,xs,rs,l,rfl,_⟩:=h
  rfl
 ·obtain ⟨p,xs,rs,l,rfl,hp,hrw,L,h60,hT,k,kx⟩:=h
  refine ⟨_,(j7 (jp (i:=2) kg.nd rfl (Or.inl rfl) (je c_lanes (hr.mono (by decide)) rfl (j0 (pv 0) j2)))
   (j7 (qj (qT (xr qp kF j8 (pv 1) (jc (jg K) rfl nb.b_len PySem.boot_len (j0 (pv 2) j2)))) (j9 (xb PySem.F.excBase_ValueError x_NoLane e_NoLane rfl xF rfl (j0 jH j2))) jB)
   (j9 (jj (jq (jd K) (pv 2) (pv 1) (fun _ _=>rfl)))))),?_⟩
  left
  refine ⟨p,xs,rs,rfl,hp,hrw,L,h60,hT,fun o H1 out ws ho ho1 hw hR X1 T1=>?_⟩
  have hlen:out.length=ws.length:=hw.length
  have hws:(ws.length:Int)=((jn rs).length:Int):=by rw [hR.length]
  left
  refine xm (fun h0=>?_) (fun h0=>?_)
  ·left
   refine ⟨_,_,rfl,.inl (SqL.of ho1),?_⟩
   left
   refine zW (fun h1=>?_) (fun h1=>?_)
   ·left
    exact ⟨by show 1<=sizeLine;decide,kx H1 (.inr (by omega)) X1 T1⟩
   ·have hi:l.toNat<out.length:=by omega
    obtain ⟨wy,hwy,a,hov,ha⟩:=Paired.get hw (List.getElem?_eq_getElem hi)
    have el:l=(l.toNat:Int):=by omega
    left
    refine ⟨_,_,_,_,rfl,rfl,SqL.of ho1,(by rw [el];exact xW (List.getElem?_eq_getElem hi)),?_⟩
    rw [hov]
    refine k a H1 ws l.toNat el (by omega) hR ?_ X1 T1
    rw [ha,List.getD_eq_getElem?_getD,hwy]
    rfl
  ·left
   refine yw ?_
   left
   exact ⟨by show 1<=sizeLine;decide,kx H1 (.inl (by omega)) X1 T1⟩
def kU (Pt C:Addr):Sp:=fun vs H Q E=>∃ (p:Addr) (xs:List V) (rs:List Rch) (l:Int),vs=[.ref p,.int l]/\H p=some (.lst xs)/\jK H xs rs/\qU rs/\rs.length<=60/\(∀ r∈rs,r.2.length<=100)/\qm H Pt /\
 (∀ t H' ws (i:Nat),l=i->i<ws.length->jM rs ws->H t=none->H' t=some (.lst ((jf rs (ws.getD i [])).map V.int))->Ext Pt H H'->qm H' Pt->Q (.ref t) H')/\∀ H',(l<0\/((jn rs).length:Int)<=l)->Ext Pt H H'->qm H' Pt->E (.ref C) none H'
theorem Qu:FnScope ["reaches","lane"] ["reaches","lane"] (j6 yr):=by walk_at "s"
theorem Uk {rs:List Rch}{ws:List (List Int)}(L:qU rs) (h:jM rs ws) {a:Nat}(ha:a<ws.length):(∀ r∈ws.getD a [],0<=r/\r<rs.length)/\(ws.getD a []).length<=rs.length:=by
 rw [List.getD_eq_getElem?_getD,List.getElem?_eq_getElem ha]
 obtain ⟨x,hx,e⟩:=h.mem (List.getElem_mem ha)
 show (∀ r∈ws[a],_)/\ws[a].length<=_
 rw [e]
 exact ⟨xA L x (qY hx),by have:=vN L x (qY hx);have:=qY hx;omega⟩
theorem xN {l:List Int}{j:Nat}{v:V}(h:(l.map V.int)[j]? = some v):∃ x,v = .int x/\l[j]? = some x:=by
 rw [List.getElem?_map] at h
 cases e:l[j]? with
 | none=>rw [e] at h;cases h
 | some y=>rw [e] at h;cases h;exact ⟨y,rfl,rfl⟩
theorem Jx {H H':Hp}{Pt a:Addr}(T:qm H Pt) (e:Ext Pt H H') (T':qm H' Pt) (n:H' a=none):H a=none:=by
 cases q:H a with
 | none=>rfl
 | some o =>
  by_cases z:a=Pt
  ·obtain ⟨ps,h⟩:=T'.ne
   rw [z,h] at n
   cases n
  ·have:=e _ _ q z
   rw [n] at this
   cases this
theorem Qe {f Pt C:Addr}{fd:FuncData}(nb:Nb2 mg) (c_way_of:CalX P w K mg base 6 "way_of" ["reaches","lane"] (QX Pt C)) (F:Fun K "heights" "heights" yr f fd):FnOk P w K mg base (CX1 P w) 7 f fd ["reaches","lane"] (kU Pt C):=by
 refine Fun.okX F Qu (fun vs H Q E h=>?_) (fun cdv A outer s H vs Q E hr h=>?_)
 ·obtain ⟨p,xs,rs,l,rfl,_⟩:=h
  rfl
 ·obtain ⟨p,xs,rs,l,rfl,hp,hrw,L,h60,h100,hT,k,kx⟩:=h
  refine ⟨_,(j9 (jj (Ys (osc:=(j6 yr)) (ON:=["reaches","lane"]) (N:=["reach","height","reaches"]) (own:=2) (caps:=[0]) ⟨rfl,by walk_at "k",by walk_at "k",by walk_at "k",rfl,by walk_at "k"⟩ rfl rfl rfl (vD K (zT c_way_of (hr.mono (by decide)) qC rfl (j0 (pv 0) (j0 (pv 1) j2)))) (fun _ _ _ _ _=>(jb (i:=0) (show List.Nodup (["reach","height","reaches"]:List Str) by decide +kernel) rfl (Or.inl rfl))) (fun _ _ _ _ _=>jr) (fun _ _ _ _ _=>(vD K (jq (qt K) (jq (jd K) (pv 2) (pv 0) (fun _ _=>rfl)) j8 (fun _ _=>rfl)))) (fun _ _ _ _ _=>(jb (i:=1) (show List.Nodup (["reach","height","reaches"]:List Str) by decide +kernel) rfl (Or.inl rfl))) (fun _ _ _ _ _=>jr) (fun _ _ _ _ _=>(pv 1))))),?_⟩
  obtain ⟨ps,hPt⟩:=hT.ne
  left
  refine ⟨p,xs,rs,l,rfl,hp,hrw,L,h60,hT,fun t H1 ws i ei hi hR ht1 X1 T1=>?_,fun H1 hbad X1 T1=>kx H1 hbad X1 T1⟩
  have hp1:=X1 _ _ hp (jk hp hPt (by walk_at "z"))
  have hrw1:jK H1 xs rs:=hrw.keep (jo.tbl X1 hPt)
  obtain ⟨inw,lenw⟩:=Uk L hR hi
  have kk:=fun t H'=>k t H' ws i ei hi hR
  generalize ws.getD i []=way at *
  left
  refine ⟨⟨_,SqT.of ht1⟩,fun acc hacc=>?_⟩
  refine XA (K:=K) (a:=t) (xs:=way.map V.int) (acc:=acc) (fun j σ H2=>∃ x y:Option V,σ=[x,y,some (.ref p)]/\H2 acc=some (.lst ((jf rs (way.take j)).map V.int))/\Ext acc H1 H2) ?_ ?_ ?_ ?_
  ·exact ⟨none,none,rfl,j4,Ext.put⟩
  ·rintro j σ H2 hj ⟨x,y,rfl,h3,e3⟩
   exact SqT.of (e3 _ _ ht1 (j1 ht1 hacc))
  ·rintro j v σ H2 hv ⟨x,y,rfl,h3,e3⟩
   obtain ⟨r,rfl,hr'⟩:=xN hv
   have hin:=inw r (List.mem_of_getElem? hr')
   have hri:r.toNat<rs.length:=by omega
   obtain ⟨v,hv2,q,g,rfl,hq1,hg1⟩:=hrw1.at (List.getElem?_eq_getElem hri)
   have hp2:=e3 _ _ hp1 (j1 hp1 hacc)
   have hq:=e3 _ _ hq1 (j1 hq1 hacc)
   have gl:=vS h100 (way.take j)
   have jl:(way.take j).length<=60:=by rw [List.length_take];omega
   have hsn:=uy rs way j r hr'
   have ehs:zj rs r.toNat=(rs[r.toNat]'hri).2:=by
    unfold zj
    rw [List.getD_eq_getElem?_getD,List.getElem?_eq_getElem hri]
    rfl
   have hl100:=h100 _ (List.getElem_mem hri)
   rw [ehs] at hsn
   generalize (rs[r.toNat]'hri).2=hs at hg1 hsn hl100
   left
   refine ⟨_,_,_,_,rfl,rfl,SqL.of hp2,(by rw [show r=((r.toNat:Nat):Int) by omega];exact xW hv2),?_⟩
   refine ⟨_,_,_,_,rfl,rfl,SqT.of hq,rfl,?_⟩
   refine ⟨g,rfl,⟨_,SqT.of (e3 _ _ hg1 (j1 hg1 hacc))⟩,?_⟩
   refine Uj (K:=K) (a:=g) (acc:=acc) (xs:=hs.map V.int) (fun n σ H4=>∃ y:Option V,σ=[some (.int r),y,some (.ref p)]/\H4 acc=some (.lst ((jf rs (way.take j)++hs.take n).map V.int))/\Ext acc H1 H4) ?_ ?_ ?_ ?_
   ·exact ⟨y,rfl,by rw [List.take_zero,List.append_nil];exact h3,e3⟩
   ·rintro n σ H4 hn ⟨y,rfl,h4,e4⟩
    exact SqT.of (e4 _ _ hg1 (j1 hg1 hacc))
   ·rintro n v σ H4 hv4 ⟨y,rfl,h4,e4⟩
    obtain ⟨h,rfl,hh⟩:=xN hv4
    have hnl:=(List.getElem?_eq_some_iff.mp hh).1
    left
    refine ⟨_,h4,by rw [List.length_map,List.length_append,List.length_take];exact Nat.lt_of_lt_of_le (show _<10000 by omega) (by decide),some (.int h),rfl,?_,e4.trans Ext.put⟩
    rw [j4,List.take_add_one,hh,Option.toList_some,<- List.append_assoc,List.map_append (l₁:=jf rs (way.take j)++hs.take n)]
    rfl
   ·rintro σ H4 ⟨y,rfl,h4,e4⟩
    rw [List.length_map,List.take_length,<- hsn] at h4
    exact ⟨_,_,rfl,h4,e4⟩
  ·rintro σ H2 ⟨x,y,rfl,h3,e3⟩
   rw [List.length_map,List.take_length] at h3
   exact kk acc H2 (Jx hT X1 T1 hacc) h3 (fun c o hc n=>e3 _ _ (X1 _ _ hc n) (fun z=>by rw [z,Jx hT X1 T1 hacc] at hc;cases hc)) (T1.extN hacc e3)
def yV (va cy sl ye le:Addr):List (Str×V):=jm "leaps" (.ref le) (jm "years" (.ref ye) (jm "slopes" (.ref sl) (jm "cycle" (.ref cy) (jm "valley" (.ref va) []))))
theorem yO (va cy sl ye le:Addr):(yV va cy sl ye le).lookup ("cycle" : Str)=some (.ref cy):=by
 unfold yV
 rw [ju,if_neg (by walk_at "k"),ju,if_neg (by walk_at "k"),ju,if_neg (by walk_at "k"),ju,if_pos rfl]
theorem zc (va cy sl ye le:Addr):(yV va cy sl ye le).lookup ("slopes" : Str)=some (.ref sl):=by
 unfold yV
 rw [ju,if_neg (by walk_at "k"),ju,if_neg (by walk_at "k"),ju,if_pos rfl]
theorem zM (va cy sl ye le:Addr):(yV va cy sl ye le).lookup ("years" : Str)=some (.ref ye):=by
 unfold yV
 rw [ju,if_neg (by walk_at "k"),ju,if_pos rfl]
theorem yP (va cy sl ye le:Addr):(yV va cy sl ye le).lookup ("leaps" : Str)=some (.ref le):=by
 unfold yV
 rw [ju,if_pos rfl]
theorem xG (va cy sl ye le:Addr) {m:Str}(h1:¬ m = "leaps") (h2:¬ m = "years") (h3:¬ m = "slopes") (h4:¬ m = "cycle") (h5:¬ m = "valley"):(yV va cy sl ye le).lookup m=none:=by
 unfold yV
 rw [ju,if_neg h1,ju,if_neg h2,ju,if_neg h3,ju,if_neg h4,ju,if_neg h5]
 rfl
structure IceC (K:PySem.W.Frag) (C:Addr):Prop where
 cl:Cls K C
 nV:xQ K C "valley"
 nC:xQ K C "cycle"
 nS:xQ K C "slopes"
 nY:xQ K C "years"
 nL:xQ K C "leaps"
structure IceG where
 dx:Addr
 va:Addr
 cy:Addr
 sl:Addr
 ye:Addr
 le:Addr
 xs:List V
 ys:List V
 zs:List V
 lds:List (Addr×List (Key×V))
 kvs:List (Key×V)
 rs:List Rch
 rows:List T3
 slopes:List (List Int)
structure IceAt (C:Addr) (H:Hp) (p:Addr) (g:IceG):Prop where
 ob:H p=some (.ins C g.dx (yV g.va g.cy g.sl g.ye g.le))
 va:H g.va=some (.lst g.xs)
 rs:jK H g.xs g.rs
 cy:H g.cy=some (.lst g.ys)
 rows:qz H g.ys g.rows
 sl:H g.sl=some (.lst g.zs)
 slopes:zV H g.zs g.slopes
 ye:H g.ye=some (.dK g.kvs)
 le:H g.le=some (.lst (g.lds.map fun x=>V.ref x.1))
 lds:∀ x∈g.lds,H x.1=some (.dK x.2)
theorem IceAt.same {C:Addr}{H H':Hp}{p:Addr}{g:IceG}(I:IceAt C H p g) (s:jh H H'):IceAt C H' p g :=
 ⟨s _ _ I.ob,s _ _ I.va,I.rs.keep (jo.same s),s _ _ I.cy,I.rows.imp fun _ _ q=>s _ _ q,s _ _ I.sl,Paired.mapP I.slopes fun _ _ ⟨a,e,q⟩=>⟨a,e,s _ _ q⟩,s _ _ I.ye,s _ _ I.le,fun x hx=>s _ _ (I.lds x hx)⟩
theorem J0 {C:Addr}{H:Hp}{p:Addr}{g:IceG}(I:IceAt C H p g) {l:Int}(h0:0<=l) (h1:l<(g.slopes.length:Int)):∃ a,atI g.zs l=some (.ref a)/\H a=some (.lst ((g.slopes.getD l.toNat []).map V.int)):=by
 have hz:g.zs.length=g.slopes.length:=Paired.length I.slopes
 have hi:l.toNat<g.zs.length:=by omega
 obtain ⟨w,hw,a,e,ha⟩:=Paired.get I.slopes (List.getElem?_eq_getElem hi)
 refine ⟨a,?_,?_⟩
 ·rw [show l=((l.toNat:Nat):Int) by omega]
  refine xW ?_
  rw [List.getElem?_eq_getElem hi,e]
 ·rw [ha,List.getD_eq_getElem?_getD,hw]
  rfl
theorem VX {l:List Int}{n:Nat}(h:n<l.length):(l.map V.int)[n]? = some (V.int (l.getD n 0)):=by
 rw [List.getElem?_map,List.getD_eq_getElem?_getD,List.getElem?_eq_getElem h]
 rfl
theorem Zp:FnScope ["self"] ["self"] (j6 wC):=by walk_at "s"
def QT (C:Addr):Sp:=fun vs H Q _=>∃ (p:Addr) (g:IceG),vs=[.ref p]/\IceAt C H p g/\∀ l H',H l=none->H' l=some (.lst g.ys)->jh H H'->Q (.ref l) H'
theorem gJ:FnScope ["self"] ["self"] (j6 y4):=by walk_at "s"
theorem hW {f C:Addr}{fd:FuncData}(nb:Nb2 mg) (T:IceC K C) (F:Fun K "rows" "Ice.rows" y4 f fd):FnOk P w K mg base CX0 1 f fd ["self"] (QT C):=by
 refine F.ok gJ (fun vs H Q E h=>?_) (fun cdv A outer s H vs Q E hr h=>?_)
 ·obtain ⟨p,g,rfl,_⟩:=h
  rfl
 ·obtain ⟨p,g,rfl,I,k⟩:=h
  refine ⟨_,(j9 (jj (jY (qh K) rfl nb.b_list PyProof.Rows.boot_list (j0 (qr K (pv 0)) j2)))),?_⟩
  left
  refine ⟨p,C,g.dx,_,_,rfl,I.ob,T.cl,T.nC,yO _ _ _ _ _,?_⟩
  left
  exact ⟨_,_,rfl,.inl (SqL.of I.cy),fun l H1 hl hl1 s1=>k l H1 hl hl1 s1⟩
def qW (C CN:Addr):Sp:=fun vs H Q E=>∃ (p:Addr) (g:IceG) (l:Int),vs=[.ref p,.int l]/\IceAt C H p g/\(0<=l->l<(g.slopes.length:Int)->Q .non H)/\(l<0\/(g.slopes.length:Int)<=l->E (.ref CN) none H)
theorem yN:FnScope ["self","lane"] ["self","lane"] (j6 xg):=by walk_at "s"
theorem yI {f C CN:Addr}{fd:FuncData}(nb:Nb2 mg) (T:IceC K C) (e_NoLane:mg "NoLane" = some (.ref CN)) (x_NoLane:PySem.W.excIn K CN [.type "ValueError",.type "Exception",.type "BaseException",.type "object"] "ValueError.__new__" = true) (F:Fun K "check_lane" "Ice.check_lane" xg f fd):FnOk P w K mg base (CX1 P w) 1 f fd ["self","lane"] (qW C CN):=by
 refine Fun.okX F yN (fun vs H Q E h=>?_) (fun cdv A outer s H vs Q E hr h=>?_)
 ·obtain ⟨p,g,l,rfl,_⟩:=h
  rfl
 ·obtain ⟨p,g,l,rfl,I,k,kx⟩:=h
  have hz:g.zs.length=g.slopes.length:=Paired.length I.slopes
  refine ⟨_,(j9 (qj (qT (xr qp kF j8 (pv 1) (jc (jg K) rfl nb.b_len PySem.boot_len (j0 (qr K (pv 0)) j2)))) (j9 (xb PySem.F.excBase_ValueError x_NoLane e_NoLane rfl xF rfl (j0 jH j2))) jB)),?_⟩
  left
  refine xm (fun h0=>?_) (fun h0=>?_)
  ·left
   refine ⟨p,C,g.dx,_,_,rfl,I.ob,T.cl,T.nS,zc _ _ _ _ _,?_⟩
   left
   refine ⟨_,_,rfl,.inl (SqL.of I.sl),?_⟩
   rw [hz]
   left
   refine zW (fun h1=>?_) (fun h1=>?_)
   ·left
    exact ⟨by show 1<=sizeLine;decide,kx (.inr (by omega))⟩
   ·left
    exact k h0 h1
  ·left
   refine yw ?_
   left
   exact ⟨by show 1<=sizeLine;decide,kx (.inl (by omega))⟩
def vG (C CN CP:Addr):Sp:=fun vs H Q E=>∃ (p:Addr) (g:IceG) (l n:Int),vs=[.ref p,.int l,.int n]/\IceAt C H p g/\(0<=l->l<(g.slopes.length:Int)->0<=n->n<((g.slopes.getD l.toNat []).length:Int)->Q .non H) /\
 (l<0\/(g.slopes.length:Int)<=l->E (.ref CN) none H)/\(0<=l->l<(g.slopes.length:Int)->(n<0\/((g.slopes.getD l.toNat []).length:Int)<=n)->E (.ref CP) none H)
theorem yy:FnScope ["self","lane","place"] ["self","lane","place"] (j6 qS):=by walk_at "s"
theorem yx {f C CN CP:Addr}{fd:FuncData}(nb:Nb2 mg) (T:IceC K C) (e_NoPlace:mg "NoPlace" = some (.ref CP)) (x_NoPlace:PySem.W.excIn K CP [.type "ValueError",.type "Exception",.type "BaseException",.type "object"] "ValueError.__new__" = true) (cl_Ice:Cls K C) (c_Ice__check_lane:CalMX P w K mg base 1 C "check_lane" ["self","lane"] (qW C CN)) (F:Fun K "check_place" "Ice.check_place" qS f fd):FnOk P w K mg base (CX1 P w) 2 f fd ["self","lane","place"] (vG C CN CP):=by
 refine Fun.okX F yy (fun vs H Q E h=>?_) (fun cdv A outer s H vs Q E hr h=>?_)
 ·obtain ⟨p,g,l,n,rfl,_⟩:=h
  rfl
 ·obtain ⟨p,g,l,n,rfl,I,k,kx,ky⟩:=h
  refine ⟨_,(j7 (jV (zC (pv 0) cl_Ice c_Ice__check_lane (hr.mono (by decide)) qC (j0 (pv 1) j2)))
   (j9 (qj (qT (xr qp kF j8 (pv 2) (jc (jg K) rfl nb.b_len PySem.boot_len (j0 (jq (jd K) (qr K (pv 0)) (pv 1) (fun _ _=>rfl)) j2)))) (j9 (xb PySem.F.excBase_ValueError x_NoPlace e_NoPlace rfl xF rfl (j0 jH j2))) jB))),?_⟩
  left
  refine ⟨p,g.dx,_,rfl,I.ob,xG _ _ _ _ _ (by walk_at "k") (by walk_at "k") (by walk_at "k") (by walk_at "k") (by walk_at "k"),?_⟩
  left
  refine ⟨p,g,l,rfl,I,fun l0 l1=>?_,fun hb=>kx hb⟩
  obtain ⟨a,ha,hla⟩:=J0 I l0 l1
  left
  refine xm (fun h0=>?_) (fun h0=>?_)
  ·left
   refine ⟨p,C,g.dx,_,_,rfl,I.ob,T.cl,T.nS,zc _ _ _ _ _,?_⟩
   left
   refine ⟨_,_,_,_,rfl,rfl,SqL.of I.sl,ha,?_⟩
   left
   refine ⟨_,_,rfl,.inl (SqL.of hla),?_⟩
   rw [List.length_map]
   left
   refine zW (fun h1=>?_) (fun h1=>?_)
   ·left
    exact ⟨by show 1<=sizeLine;decide,ky l0 l1 (.inr (by omega))⟩
   ·left
    exact k l0 l1 h0 h1
  ·left
   refine yw ?_
   left
   exact ⟨by show 1<=sizeLine;decide,ky l0 l1 (.inl (by omega))⟩
def uf (C CN:Addr):Sp:=fun vs H Q E=>∃ (p:Addr) (g:IceG) (l:Int),vs=[.ref p,.int l]/\IceAt C H p g/\(0<=l->l<(g.slopes.length:Int)->Q (.int ((g.slopes.getD l.toNat []).length:Int)) H)/\(l<0\/(g.slopes.length:Int)<=l->E (.ref CN) none H)
theorem we:FnScope ["self","lane"] ["self","lane"] (j6 ze):=by walk_at "s"
theorem wo {f C CN:Addr}{fd:FuncData}(nb:Nb2 mg) (T:IceC K C) (cl_Ice:Cls K C) (c_Ice__check_lane:CalMX P w K mg base 1 C "check_lane" ["self","lane"] (qW C CN)) (F:Fun K "length" "Ice.length" ze f fd):FnOk P w K mg base (CX1 P w) 2 f fd ["self","lane"] (uf C CN):=by
 refine Fun.okX F we (fun vs H Q E h=>?_) (fun cdv A outer s H vs Q E hr h=>?_)
 ·obtain ⟨p,g,l,rfl,_⟩:=h
  rfl
 ·obtain ⟨p,g,l,rfl,I,k,kx⟩:=h
  refine ⟨_,(j7 (jV (zC (pv 0) cl_Ice c_Ice__check_lane (hr.mono (by decide)) qC (j0 (pv 1) j2)))
   (j9 (jj (jc (jg K) rfl nb.b_len PySem.boot_len (j0 (jq (jd K) (qr K (pv 0)) (pv 1) (fun _ _=>rfl)) j2))))),?_⟩
  left
  refine ⟨p,g.dx,_,rfl,I.ob,xG _ _ _ _ _ (by walk_at "k") (by walk_at "k") (by walk_at "k") (by walk_at "k") (by walk_at "k"),?_⟩
  left
  refine ⟨p,g,l,rfl,I,fun l0 l1=>?_,fun hb=>kx hb⟩
  obtain ⟨a,ha,hla⟩:=J0 I l0 l1
  left
  refine ⟨p,C,g.dx,_,_,rfl,I.ob,T.cl,T.nS,zc _ _ _ _ _,?_⟩
  left
  refine ⟨_,_,_,_,rfl,rfl,SqL.of I.sl,ha,?_⟩
  left
  refine ⟨_,_,rfl,.inl (SqL.of hla),?_⟩
  rw [List.length_map]
  exact k l0 l1
def ku (C CN CP:Addr):Sp:=fun vs H Q E=>∃ (p:Addr) (g:IceG) (l n:Int),vs=[.ref p,.int l,.int n]/\IceAt C H p g/\(0<=l->l<(g.slopes.length:Int)->0<=n->n<((g.slopes.getD l.toNat []).length:Int)->Q (.int ((g.slopes.getD l.toNat []).getD n.toNat 0)) H) /\
 (l<0\/(g.slopes.length:Int)<=l->E (.ref CN) none H)/\(0<=l->l<(g.slopes.length:Int)->(n<0\/((g.slopes.getD l.toNat []).length:Int)<=n)->E (.ref CP) none H)
theorem uY:FnScope ["self","lane","place"] ["self","lane","place"] (j6 zi):=by walk_at "s"
theorem wK {f C CN CP:Addr}{fd:FuncData}(nb:Nb2 mg) (T:IceC K C) (cl_Ice:Cls K C) (c_Ice__check_place:CalMX P w K mg base 2 C "check_place" ["self","lane","place"] (vG C CN CP)) (F:Fun K "height" "Ice.height" zi f fd):FnOk P w K mg base (CX1 P w) 3 f fd ["self","lane","place"] (ku C CN CP):=by
 refine Fun.okX F uY (fun vs H Q E h=>?_) (fun cdv A outer s H vs Q E hr h=>?_)
 ·obtain ⟨p,g,l,n,rfl,_⟩:=h
  rfl
 ·obtain ⟨p,g,l,n,rfl,I,k,kx,ky⟩:=h
  refine ⟨_,(j7 (jV (zC (pv 0) cl_Ice c_Ice__check_place (hr.mono (by decide)) qC (j0 (pv 1) (j0 (pv 2) j2))))
   (j9 (jj (jq (jd K) (jq (jd K) (qr K (pv 0)) (pv 1) (fun _ _=>rfl)) (pv 2) (fun _ _=>rfl))))),?_⟩
  left
  refine ⟨p,g.dx,_,rfl,I.ob,xG _ _ _ _ _ (by walk_at "k") (by walk_at "k") (by walk_at "k") (by walk_at "k") (by walk_at "k"),?_⟩
  left
  refine ⟨p,g,l,n,rfl,I,fun l0 l1 n0 n1=>?_,fun hb=>kx hb,fun l0 l1 hb=>ky l0 l1 hb⟩
  obtain ⟨a,ha,hla⟩:=J0 I l0 l1
  left
  refine ⟨p,C,g.dx,_,_,rfl,I.ob,T.cl,T.nS,zc _ _ _ _ _,?_⟩
  left
  refine ⟨_,_,_,_,rfl,rfl,SqL.of I.sl,ha,?_⟩
  left
  refine ⟨_,_,_,_,rfl,rfl,SqL.of hla,(by rw [show n=((n.toNat:Nat):Int) by omega];exact xW (VX (by omega))),?_⟩
  exact k l0 l1 n0 n1
end
section
variable {P:Program}{w:World}{K:PySem.W.Frag}{mg:Str->Option Value}{base:Heap}
def vv (CR:Addr):Sp:=fun vs H Q E=>∃ (p:Addr) (xs:List V) (ts:List T3),vs=[.ref p]/\H p=some (.lst xs)/\qz H xs ts/\ts.length<=1000/\(∀ H',gr ts=true->jh H H'->Q .non H')/\∀ H',gr ts=false->jh H H'->E (.ref CR) none H'
theorem wI:FnScope ["rows"] ["rows"] (j6 zn):=by walk_at "s"
theorem wM {f CR:Addr}{fd:FuncData}(nb:Nb2 mg) (e_BadRound:mg "BadRound" = some (.ref CR)) (x_BadRound:PySem.W.excIn K CR [.type "ValueError",.type "Exception",.type "BaseException",.type "object"] "ValueError.__new__" = true) (c_is_round:Cal P w K mg base 2 "is_round" ["rows"] (Xp K)) (F:Fun K "check_round" "check_round" zn f fd):FnOk P w K mg base (CX1 P w) 3 f fd ["rows"] (vv CR):=by
 refine Fun.okX F wI (fun vs H Q E h=>?_) (fun cdv A outer s H vs Q E hr h=>?_)
 ·obtain ⟨p,xs,ts,rfl,_⟩:=h
  rfl
 ·obtain ⟨p,xs,ts,rfl,hp,hr3,h1000,k,kx⟩:=h
  refine ⟨_,(j9 (qj (qT (zf (je c_is_round (hr.mono (by decide)) rfl (j0 (pv 0) j2)))) (j9 (xb PySem.F.excBase_ValueError x_BadRound e_BadRound rfl xF rfl (j0 jH j2))) jB)),?_⟩
  left
  refine ⟨p,xs,ts,rfl,hp,hr3,h1000,fun H1 s1=>?_⟩
  cases e:gr ts with
  | true =>
   left
   exact k H1 e s1
  | false =>
   left
   exact ⟨by show 1<=sizeLine;decide,kx H1 e s1⟩
def Kp (p Pt:Addr) (H H':Hp):Prop:=∀ c o,H c=some o->c≠p->c≠Pt->H' c=some o
theorem Kp.trans {p Pt:Addr}{H H1 H2:Hp}(a:Kp p Pt H H1) (b:Kp p Pt H1 H2):Kp p Pt H H2:=fun c o h n m=>b c o (a c o h n m) n m
theorem Kp.of_same {p Pt:Addr}{H H':Hp}(s:jh H H'):Kp p Pt H H':=fun c o h _ _=>s c o h
theorem Kp.of_ext {p Pt:Addr}{H H':Hp}(s:Ext Pt H H'):Kp p Pt H H':=fun c o h _ m=>s c o h m
theorem Kp.put {p Pt:Addr}{H:Hp}{o:HO}:Kp p Pt H (upd H p o):=fun c _ h n _=>by rw [j5 n];exact h
theorem Kp.at {p Pt a:Addr}{H H':Hp}{o u:HO}{ps:Array Value}(k:Kp p Pt H H') (h:H a=some o) (hp:H p=some u) (hPt:H Pt=some (.tbl ps)) (n:o≠u) (m:o≠.tbl ps):H' a=some o:=k _ _ h (jk h hp n) (jk h hPt m)
theorem Kp.free {p Pt a:Addr}{H H':Hp}{u u':HO}(k:Kp p Pt H H') (h:H' a=none) (hp:H' p=some u) (hPt:H' Pt=some u'):H a=none:=by
 cases e:H a with
 | none=>rfl
 | some o =>
  have:=k a o e (fun z=>by rw [z,hp] at h;cases h) (fun z=>by rw [z,hPt] at h;cases h)
  rw [h] at this
  cases this
theorem vh {H:Hp}{Pt p C dx:Addr}{fs:List (Str×V)}{o:HO}(T:qm H Pt) (hp:H p=some (.ins C dx fs)):qm (upd H p o) Pt:=by
 rcases T with h | ⟨c,h,h'⟩
 ·exact .inl (by rw [j5 (jk h hp (by walk_at "z"))];exact h)
 ·exact .inr ⟨c,by rw [j5 (jk h hp (by walk_at "z"))];exact h,by rw [j5 (jk h' hp (by walk_at "z"))];exact h'⟩
theorem jo.kp {p Pt C dx:Addr}{H H':Hp}{fs:List (Str×V)}{ps:Array Value}(k:Kp p Pt H H') (hp:H p=some (.ins C dx fs)) (hPt:H Pt=some (.tbl ps)):jo H H':=fun _ _ h=>k.at h hp hPt (by walk_at "z") (by walk_at "z")
theorem pm {α β:Type}{F:α->β->Prop}:∀ {l₁:List α}{l₂:List β},Paired F l₁ l₂->∀ v∈l₁,∃ w,F v w
 | _,_,.nil,v,h=>by cases h
 | _,_,.cons q r,v,h=>by
  rcases List.mem_cons.mp h with rfl | z
  ·exact ⟨_,q⟩
  ·exact pm r v z
theorem pmE {H H0:Hp}{a0:Addr}{zs:List V}{rows:List (List Int)}(r:Paired (fun v (w:List Int)=>∃ a,v=V.ref a/\H a=some (.lst (w.map V.int))/\H0 a=none/\a≠a0) zs rows):∀ a,V.ref a∈zs->H0 a=none/\a≠a0:=fun a h=>by
 obtain ⟨w,b,e,_,z⟩:=pm r _ h
 cases e
 exact z
structure IceNew (C Pt:Addr) (H H':Hp) (p:Addr) (g:IceG):Prop where
 at_:IceAt C H' p g
 keep:∀ c o,H c=some o->c≠p->c≠Pt->H' c=some o
 va:H g.va=none
 cy:H g.cy=none
 sl:H g.sl=none
 ye:H g.ye=none
 le:H g.le=none
 zs:∀ a,V.ref a∈g.zs->H a=none
 kvs:g.kvs=[]
 lds:∀ x∈g.lds,H x.1=none/\x.2=[]
 ll:g.lds.length=g.slopes.length
 nd:(g.lds.map (·.1)).Nodup
 ny:∀ x∈g.lds,x.1≠g.ye
 sl2:∃ ws,jM g.rs ws/\g.slopes=ws.map (jf g.rs)
def Zu (C CV CR Pt:Addr):Sp:=fun vs H Q E=>∃ (p dx r q:Addr) (xs ys:List V) (rs:List Rch) (ts:List T3),vs=[.ref p,.ref r,.ref q]/\H p=some (.ins C dx [])/\H r=some (.lst xs)/\jK H xs rs/\H q=some (.lst ys)/\qz H ys ts/\(∀ r∈rs,r.2.length<=100)/\rs.length<=60/\ts.length<=1000/\qm H Pt /\
 (∀ H' g,xY rs=true->gr ts=true->IceNew C Pt H H' p g->g.rs=rs->g.rows=ts->g.xs=xs->g.ys=ys->qm H' Pt->Q .non H') /\
 (∀ H',xY rs=false->Ext Pt H H'->qm H' Pt->E (.ref CV) none H')/\(∀ H',xY rs=true->gr ts=false->Ext Pt H H'->qm H' Pt->E (.ref CR) none H')
theorem ud:FnScope ["self","reaches","rows"] ["self","reaches","rows"] (j6 qu):=by walk_at "s"
theorem ug {f C CV CR CN Pt:Addr}{fd:FuncData}(nb:Nb2 mg) (T:IceC K C) (e_BadValley:mg "BadValley" = some (.ref CV)) (x_BadValley:PySem.W.excIn K CV [.type "ValueError",.type "Exception",.type "BaseException",.type "object"] "ValueError.__new__" = true)
  (c_is_valley:Cal P w K mg base 6 "is_valley" ["reaches"] (JH K Pt)) (c_check_round:CalX P w K mg base 3 "check_round" ["rows"] (vv CR)) (c_lanes:Cal P w K mg base 5 "lanes" ["reaches"] (vL K Pt)) (c_heights:Cal P w K mg base 7 "heights" ["reaches","lane"] (fun vs H Q _=>kU Pt CN vs H Q E0))
  (F:Fun K "__init__" "Ice.__init__" qu f fd):FnOk P w K mg base (CX1 P w) 8 f fd ["self","reaches","rows"] (Zu C CV CR Pt):=by
 refine Fun.okX F ud (fun vs H Q E h=>?_) (fun cdv A outer s H vs Q E hr h=>?_)
 ·obtain ⟨p,dx,r,q,xs,ys,rs,ts,rfl,_⟩:=h
  rfl
 ·obtain ⟨p,dx,r,q,xs,ys,rs,ts,rfl,hp,hr',hrw,hq,hr3,h100,h60,h1000,hT,k,kv,kr⟩:=h
  obtain ⟨ps,hPt⟩:=hT.ne
  refine ⟨_,(j7 (qj (qT (zf (je c_is_valley (hr.mono (by decide)) rfl (j0 (pv 1) j2)))) (j9 (xb PySem.F.excBase_ValueError x_BadValley e_BadValley rfl xF rfl (j0 jH j2))) jB)
   (j7 (jV (zT c_check_round (hr.mono (by decide)) qC rfl (j0 (pv 2) j2)))
   (j7 (vz K (pv 0) (jY (qh K) rfl nb.b_list PyProof.Rows.boot_list (j0 (pv 1) j2)))
   (j7 (vz K (pv 0) (jY (qh K) rfl nb.b_list PyProof.Rows.boot_list (j0 (pv 2) j2)))
   (j7 (vz K (pv 0) (jC (osc:=(j6 qu)) (ON:=["self","reaches","rows"]) (N:=["lane","reaches"]) (own:=1) (caps:=[1]) ⟨rfl,by walk_at "k",by walk_at "k",by walk_at "k",rfl,by walk_at "k"⟩ rfl rfl rfl (jO rfl nb.b_range (j0 (jc (jg K) rfl nb.b_len PySem.boot_len (j0 (je c_lanes (hr.mono (by decide)) rfl (j0 (pv 1) j2)) j2)) j2)) (fun _ _ _ _ _=>(jb (i:=0) (show List.Nodup (["lane","reaches"]:List Str) by decide +kernel) rfl (Or.inl rfl))) (fun _ _ _ _ _=>jr) (fun _ _ _ _ _=>(je c_heights (hr.mono (by decide)) rfl (j0 (pv 1) (j0 (pv 0) j2))))))
   (j7 (vz K (pv 0) ve)
   (j9 (vz K (pv 0) (jC (osc:=(j6 qu)) (ON:=["self","reaches","rows"]) (N:=["slope"]) (own:=1) (caps:=[]) ⟨rfl,by walk_at "k",by walk_at "k",by walk_at "k",rfl,by walk_at "k"⟩ rfl rfl rfl (jL K (qr K (pv 0))) (fun _ _ _ _ _=>(jb (i:=0) (show List.Nodup (["slope"]:List Str) by decide +kernel) rfl (Or.inl rfl))) (fun _ _ _ _ _=>jr) (fun _ _ _ _ _=>ve)))))))))),?_⟩
  left
  refine ⟨r,xs,rs,rfl,hr',hrw,h100,h60,hT,fun H1 X1 T1=>?_⟩
  cases eg:xY rs with
  | false =>
   left
   exact ⟨by show 1<=sizeLine;decide,kv H1 eg X1 T1⟩
  | true =>
   have X1':∀ {a:Addr} {o:HO},H a=some o->(∀ ps,o≠.tbl ps)->H1 a=some o:=fun {a o} h n=>X1 _ _ h (jk h hPt (n _))
   have hp1:=X1' hp (by walk_at "w")
   have hr1:=X1' hr' (by walk_at "w")
   have hq1:=X1' hq (by walk_at "w")
   have hrw1:jK H1 xs rs:=hrw.keep (jo.tbl X1 hPt)
   have hr31:qz H1 ys ts:=hr3.imp fun a t e=>X1' e (by walk_at "w")
   left
   refine ⟨q,ys,ts,rfl,hq1,hr31,h1000,fun H2 egr s2=>?_,fun H2 egr s2=>kr H2 eg egr (X1.trans (Ext.of_same s2)) (T1.same s2)⟩
   have L:qU rs:=jP (by unfold xY at eg;rw [Bool.and_eq_true,Bool.and_eq_true] at eg;exact eg.2.1)
   have k2:Kp p Pt H H2:=(Kp.of_ext X1).trans (Kp.of_same s2)
   have hp2:=s2 _ _ hp1
   have T2:=T1.same s2
   left
   refine ⟨_,_,rfl,.inl (SqL.of (s2 _ _ hr1)),fun va H3 va2 va3 s3=>?_⟩
   have hp3:=s3 _ _ hp2
   have T3':=T2.same s3
   have k3:=k2.trans (Kp.of_same s3)
   obtain ⟨_,hPt2⟩:=T2.ne
   have va0:=k2.free va2 hp2 hPt2
   left
   refine ⟨p,C,dx,_,rfl,hp3,T.cl,T.nV,by decide,?_⟩
   have Ta:qm (upd H3 p (HO.ins C dx (jm "valley" (V.ref va) []))) Pt:=vh T3' hp3
   have ka:=k3.trans (Kp.put (p:=p) (Pt:=Pt) (o:=HO.ins C dx (jm "valley" (V.ref va) [])))
   have pa:upd H3 p (HO.ins C dx (jm "valley" (V.ref va) [])) p=some (HO.ins C dx (jm "valley" (V.ref va) [])):=j4
   have vaa:upd H3 p (HO.ins C dx (jm "valley" (V.ref va) [])) va=some (HO.lst xs):=by rw [j5 (j1 hp2 va2).symm];exact va3
   clear k2 k3 hp1 hr1 hq1 hrw1 hr31 X1' X1 T1 s2 hp2 T2 s3 hp3 T3' va3 va2 hPt2
   generalize upd H3 p (HO.ins C dx (jm "valley" (V.ref va) []))=Ha at *
   obtain ⟨_,hPta⟩:=Ta.ne
   have vaP:va≠Pt:=jk vaa hPta (by walk_at "z")
   have vap:va≠p:=jk vaa pa (by walk_at "z")
   left
   refine ⟨_,_,rfl,.inl (SqL.of (ka.at hq hp hPt (by walk_at "z") (by walk_at "z"))),fun cy H4 cya cy4 s4=>?_⟩
   have hp4:=s4 _ _ pa
   have T4:=Ta.same s4
   have cy0:=ka.free cya pa hPta
   left
   refine ⟨p,C,dx,_,rfl,hp4,T.cl,T.nC,Nat.lt_of_le_of_lt (jJ _ _ _) (by decide),?_⟩
   have kb:=(ka.trans (Kp.of_same s4)).trans (Kp.put (p:=p) (Pt:=Pt) (o:=HO.ins C dx (jm "cycle" (V.ref cy) (jm "valley" (V.ref va) []))))
   have Tb:qm (upd H4 p (HO.ins C dx (jm "cycle" (V.ref cy) (jm "valley" (V.ref va) [])))) Pt:=vh T4 hp4
   have pb:upd H4 p (HO.ins C dx (jm "cycle" (V.ref cy) (jm "valley" (V.ref va) []))) p=some (HO.ins C dx (jm "cycle" (V.ref cy) (jm "valley" (V.ref va) []))):=j4
   have vab:upd H4 p (HO.ins C dx (jm "cycle" (V.ref cy) (jm "valley" (V.ref va) []))) va=some (HO.lst xs):=by rw [j5 vap];exact s4 _ _ vaa
   have cyb:upd H4 p (HO.ins C dx (jm "cycle" (V.ref cy) (jm "valley" (V.ref va) []))) cy=some (HO.lst ys):=by rw [j5 (j1 pa cya).symm];exact cy4
   clear ka Ta pa vaa s4 hp4 T4 cya cy4 hPta
   generalize upd H4 p (HO.ins C dx (jm "cycle" (V.ref cy) (jm "valley" (V.ref va) [])))=Hb at *
   obtain ⟨_,hPtb⟩:=Tb.ne
   have cyP:cy≠Pt:=jk cyb hPtb (by walk_at "z")
   have cyp:cy≠p:=jk cyb pb (by walk_at "z")
   have pP:p≠Pt:=jk pb hPtb (by walk_at "z")
   left
   refine ⟨r,xs,rs,rfl,kb.at hr' hp hPt (by walk_at "z") (by walk_at "z"),hrw.keep (jo.kp kb hp hPt),L,h60,Tb,fun o H5 out ws ho ho5 hw hR X5 T5=>?_⟩
   left
   refine ⟨_,_,rfl,.inl (SqL.of ho5),?_⟩
   have hlen:out.length=ws.length:=hw.length
   have hws:ws.length<=60:=by
    rw [hR.length]
    unfold jn
    exact Nat.le_trans (List.length_filter_le _ _) (by rw [List.length_range];exact h60)
   refine ⟨(out.length:Int),rfl,by omega,by omega,fun acc hacc=>?_⟩
   obtain ⟨_,hPt5⟩:=T5.ne
   have kb5:Kp p Pt H H5:=kb.trans (Kp.of_ext X5)
   have hp5:=X5 _ _ pb pP
   have va5:=X5 _ _ vab vaP
   have cy5:=X5 _ _ cyb cyP
   have hr5:H5 r=some (.lst xs):=kb5.at hr' hp hPt (by walk_at "z") (by walk_at "z")
   have hrw5:jK H5 xs rs:=hrw.keep (jo.kp kb5 hp hPt)
   have accP:Pt≠acc:=j1 hPt5 hacc
   refine qf (lo:=0) (n:=((out.length:Int)).toNat) (acc:=acc) (fun i σ H6=>∃ (x:Option V) (zs:List V),σ=[x,some (.ref r)]/\H6 acc=some (.lst zs)/\zs.length=i/\Paired (fun v (w:List Int)=>∃ a,v=V.ref a/\H6 a=some (.lst (w.map V.int))/\H5 a=none/\a≠acc) zs ((ws.take i).map (jf rs))/\Kp acc Pt H5 H6/\qm H6 Pt) ?_ ?_ ?_
   ·exact ⟨none,[],rfl,j4,rfl,.nil,Kp.put,T5.extN hacc Ext.put⟩
   ·rintro i σ H6 hi ⟨x,zs,rfl,h6,hz,r6,k6,T6⟩
    obtain ⟨_,hPt6⟩:=T6.ne
    have iw:i<ws.length:=by omega
    left
    refine ⟨r,xs,rs,_,rfl,k6 _ _ hr5 (j1 hr5 hacc) (jk hr5 hPt5 (by walk_at "z")),hrw5.keep (fun a o h=>k6 _ _ h (j1 h hacc) (jk h hPt5 (by walk_at "z"))),L,h60,h100,T6,fun t H7 ws' i' ei hi' hR' ht ht7 X7 T7=>?_,fun H' hb _ _=>?_⟩
    ·obtain rfl:=hR.unique hR'
     obtain rfl:i'=i:=by omega
     have h7:=X7 _ _ h6 accP.symm
     have ta:t≠acc:=(j1 h6 ht).symm
     have tP:t≠Pt:=(j1 hPt6 ht).symm
     refine ⟨zs,h7,ja (by omega),some (.int (0+(i':Int))),zs++[.ref t],rfl,j4,by rw [List.length_append,hz];rfl,?_,?_,?_⟩
     ·rw [qi (jf rs) ws i' (ws.getD i' []) (by rw [List.getD_eq_getElem?_getD,List.getElem?_eq_getElem iw];rfl)]
      refine Paired.snoc (Paired.mapP r6 fun v wy ⟨a,e,ha,h0,na⟩=>⟨a,e,?_,h0,na⟩) ⟨t,rfl,by rw [j5 ta];exact ht7,k6.free ht h6 hPt6,ta⟩
      rw [j5 na]
      exact X7 _ _ ha (jk ha hPt6 (by walk_at "z"))
     ·exact (k6.trans (Kp.of_ext X7)).trans Kp.put
     ·exact T7.ext h7 Ext.put
    ·have:=hR.length
     exact absurd hb (by omega)
   ·rintro σ H6 ⟨x,zs,rfl,h6,hz,r6,k6,T6⟩
    rw [Int.toNat_natCast,hlen,List.take_length] at r6
    have f6:=pmE r6
    have hp6:=k6 _ _ hp5 (j1 hp5 hacc) pP
    have kc:Kp p Pt H (upd H6 p (HO.ins C dx (jm "slopes" (V.ref acc) (jm "cycle" (V.ref cy) (jm "valley" (V.ref va) []))))):=fun c o h n m=>by
     rw [j5 n]
     have:=kb5 c o h n m
     exact k6 _ _ this (j1 this hacc) m
    have acp:acc≠p:=(j1 hp5 hacc).symm
    have acc0:=kb5.free hacc hp5 hPt5
    have zs0:∀ a,V.ref a∈zs->H a=none:=fun a z=>kb5.free (f6 a z).1 hp5 hPt5
    left
    refine ⟨p,C,dx,_,rfl,hp6,T.cl,T.nS,Nat.lt_of_le_of_lt (Nat.le_trans (jJ _ _ _) (Nat.succ_le_succ (jJ _ _ _))) (by decide),?_⟩
    have Tc:qm (upd H6 p (HO.ins C dx (jm "slopes" (V.ref acc) (jm "cycle" (V.ref cy) (jm "valley" (V.ref va) []))))) Pt:=vh T6 hp6
    have pc:upd H6 p (HO.ins C dx (jm "slopes" (V.ref acc) (jm "cycle" (V.ref cy) (jm "valley" (V.ref va) [])))) p=some (HO.ins C dx (jm "slopes" (V.ref acc) (jm "cycle" (V.ref cy) (jm "valley" (V.ref va) [])))):=j4
    have vac:upd H6 p (HO.ins C dx (jm "slopes" (V.ref acc) (jm "cycle" (V.ref cy) (jm "valley" (V.ref va) [])))) va=some (HO.lst xs):=by rw [j5 vap];exact k6 _ _ va5 (j1 va5 hacc) vaP
    have cyc:upd H6 p (HO.ins C dx (jm "slopes" (V.ref acc) (jm "cycle" (V.ref cy) (jm "valley" (V.ref va) [])))) cy=some (HO.lst ys):=by rw [j5 cyp];exact k6 _ _ cy5 (j1 cy5 hacc) cyP
    have slc:upd H6 p (HO.ins C dx (jm "slopes" (V.ref acc) (jm "cycle" (V.ref cy) (jm "valley" (V.ref va) [])))) acc=some (HO.lst zs):=by rw [j5 acp];exact h6
    have slsc:zV (upd H6 p (HO.ins C dx (jm "slopes" (V.ref acc) (jm "cycle" (V.ref cy) (jm "valley" (V.ref va) []))))) zs (ws.map (jf rs)):=Paired.mapP r6 fun v wy ⟨a,e,ha,h0,na⟩=>⟨a,e,by rw [j5 (j1 hp5 h0).symm];exact ha⟩
    clear r6 f6 k6 T6 h6 hp6 kb5 hp5 va5 cy5 hr5 hrw5 X5 T5 kb Tb pb vab cyb hPtb accP hacc ho ho5 hw hPt5
    generalize upd H6 p (HO.ins C dx (jm "slopes" (V.ref acc) (jm "cycle" (V.ref cy) (jm "valley" (V.ref va) []))))=Hc at *
    left
    intro ye hye
    obtain ⟨_,hPtc⟩:=Tc.ne
    have ye0:=kc.free hye pc hPtc
    have yep:ye≠p:=(j1 pc hye).symm
    have s9:jh Hc (upd Hc ye (.dK [])):=jh.new hye
    left
    refine ⟨p,C,dx,_,rfl,s9 _ _ pc,T.cl,T.nY,Nat.lt_of_le_of_lt (Nat.le_trans (jJ _ _ _) (Nat.succ_le_succ (Nat.le_trans (jJ _ _ _) (Nat.succ_le_succ (jJ _ _ _))))) (by decide),?_⟩
    have d_of:∀ c o,Hc c=some o->c≠p->(upd (upd Hc ye (HO.dK [])) p (HO.ins C dx (jm "years" (V.ref ye) (jm "slopes" (V.ref acc) (jm "cycle" (V.ref cy) (jm "valley" (V.ref va) [])))))) c=some o:=fun c o h n=>by rw [j5 n];exact s9 _ _ h
    have kd:Kp p Pt H (upd (upd Hc ye (HO.dK [])) p (HO.ins C dx (jm "years" (V.ref ye) (jm "slopes" (V.ref acc) (jm "cycle" (V.ref cy) (jm "valley" (V.ref va) [])))))):=(kc.trans (Kp.of_same s9)).trans Kp.put
    have Td:qm (upd (upd Hc ye (HO.dK [])) p (HO.ins C dx (jm "years" (V.ref ye) (jm "slopes" (V.ref acc) (jm "cycle" (V.ref cy) (jm "valley" (V.ref va) [])))))) Pt:=vh (Tc.same s9) (s9 _ _ pc)
    have pd:(upd (upd Hc ye (HO.dK [])) p (HO.ins C dx (jm "years" (V.ref ye) (jm "slopes" (V.ref acc) (jm "cycle" (V.ref cy) (jm "valley" (V.ref va) [])))))) p=some (HO.ins C dx (jm "years" (V.ref ye) (jm "slopes" (V.ref acc) (jm "cycle" (V.ref cy) (jm "valley" (V.ref va) []))))):=j4
    have vad:=d_of _ _ vac vap
    have cyd:=d_of _ _ cyc cyp
    have sld:=d_of _ _ slc acp
    have yed:(upd (upd Hc ye (HO.dK [])) p (HO.ins C dx (jm "years" (V.ref ye) (jm "slopes" (V.ref acc) (jm "cycle" (V.ref cy) (jm "valley" (V.ref va) [])))))) ye=some (.dK []):=by rw [j5 yep];exact j4
    have slsd:zV (upd (upd Hc ye (HO.dK [])) p (HO.ins C dx (jm "years" (V.ref ye) (jm "slopes" (V.ref acc) (jm "cycle" (V.ref cy) (jm "valley" (V.ref va) [])))))) zs (ws.map (jf rs)):=Paired.mapP slsc fun v wy ⟨a,e,ha⟩=>⟨a,e,d_of _ _ ha (jk ha pc (by walk_at "z"))⟩
    clear d_of kc Tc pc vac cyc slc slsc hye hPtc s9
    generalize (upd (upd Hc ye (HO.dK [])) p (HO.ins C dx (jm "years" (V.ref ye) (jm "slopes" (V.ref acc) (jm "cycle" (V.ref cy) (jm "valley" (V.ref va) []))))))=Hd at *
    obtain ⟨_,hPtd⟩:=Td.ne
    left
    refine ⟨p,C,dx,_,_,rfl,pd,T.cl,T.nS,(by rw [ju,if_neg (by walk_at "k"),ju,if_pos rfl]),?_⟩
    left
    refine ⟨⟨_,SqL.of sld⟩,fun le hle=>?_⟩
    have lep:le≠p:=(j1 pd hle).symm
    have le0:=kd.free hle pd hPtd
    have zl:zs.length<=60:=by omega
    refine jI (K:=K) (a:=acc) (xs:=zs) (acc:=le) (fun i σ He=>∃ (x:Option V) (lds:List (Addr×List (Key×V))),σ=[x]/\He le=some (.lst (lds.map fun x=>V.ref x.1))/\lds.length=i/\(∀ x∈lds,He x.1=some (.dK x.2)/\x.2=[]/\Hd x.1=none/\x.1≠le)/\(lds.map (·.1)).Nodup/\Ext le Hd He) ?_ ?_ ?_ ?_
    ·exact ⟨none,[],rfl,j4,rfl,(fun x z=>by cases z),List.nodup_nil,Ext.put⟩
    ·rintro i σ He hi ⟨x,lds,rfl,he,hl,hd,nn,e⟩
     exact SqL.of (e _ _ sld (j1 sld hle))
    ·rintro i v σ He hv ⟨x,lds,rfl,he,hl,hd,nn,e⟩
     have hi:=(List.getElem?_eq_some_iff.mp hv).1
     left
     intro d hd0
     have dl:d≠le:=(j1 he hd0).symm
     refine ⟨_,(by rw [j5 (Ne.symm dl)];exact he),by rw [List.length_map];exact ja (by omega),some v,lds++[(d,[])],rfl,(by rw [j4,List.map_append];rfl),(by rw [List.length_append,hl];rfl),fun y hy=>?_,?_,fun c o hc n=>?_⟩
     ·rcases List.mem_append.mp hy with z | z
      ·obtain ⟨h1,h2,h3,h4⟩:=hd y z
       exact ⟨by rw [j5 h4,j5 (j1 h1 hd0)];exact h1,h2,h3,h4⟩
      ·obtain rfl:y=(d,[]):=by simpa using z
       exact ⟨by rw [j5 dl];exact j4,rfl,e.free hd0 dl,dl⟩
     ·rw [List.map_append]
      refine uG nn fun z=>?_
      obtain ⟨y,hy,ey⟩:=List.mem_map.mp z
      have:=(hd y hy).1
      rw [ey,hd0] at this
      cases this
     ·rw [j5 n,j5 (j1 (e c o hc n) hd0)]
      exact e c o hc n
    ·rintro σ He ⟨x,lds,rfl,he,hl,hd,nn,e⟩
     have hpe:=e _ _ pd (j1 pd hle)
     left
     refine ⟨p,C,dx,_,rfl,hpe,T.cl,T.nL,Nat.lt_of_le_of_lt (Nat.le_trans (jJ _ _ _) (Nat.succ_le_succ (Nat.le_trans (jJ _ _ _) (Nat.succ_le_succ (Nat.le_trans (jJ _ _ _) (Nat.succ_le_succ (jJ _ _ _))))))) (by decide),?_⟩
     have f_of:∀ c o,Hd c=some o->c≠p->upd He p (HO.ins C dx (jm "leaps" (V.ref le) (jm "years" (V.ref ye) (jm "slopes" (V.ref acc) (jm "cycle" (V.ref cy) (jm "valley" (V.ref va) [])))))) c=some o:=fun c o h n=>by rw [j5 n];exact e _ _ h (j1 h hle)
     have kf:Kp p Pt H (upd He p (HO.ins C dx (jm "leaps" (V.ref le) (jm "years" (V.ref ye) (jm "slopes" (V.ref acc) (jm "cycle" (V.ref cy) (jm "valley" (V.ref va) []))))))):=fun c o h n m=>f_of c o (kd c o h n m) n
     have hnp:∀ x∈lds,x.1≠p:=fun x hx=>(j1 pd (hd x hx).2.2.1).symm
     refine k _ { dx:=dx,va:=va,cy:=cy,sl:=acc,ye:=ye,le:=le,xs:=xs,ys:=ys,zs:=zs,lds:=lds,kvs:=[],rs:=rs,rows:=ts,slopes:=ws.map (jf rs) } eg egr ⟨⟨j4,f_of _ _ vad vap,hrw.keep (jo.kp kf hp hPt),f_of _ _ cyd cyp,hr3.imp fun a t e=>kf.at e hp hPt (by walk_at "z") (by walk_at "z"),f_of _ _ sld acp,Paired.mapP slsd fun v wy ⟨a,e,ha⟩=>⟨a,e,f_of _ _ ha (jk ha pd (by walk_at "z"))⟩,f_of _ _ yed yep,(by rw [j5 lep];exact he),fun x hx=>by rw [j5 (hnp x hx)];exact (hd x hx).1⟩,kf,va0,cy0,acc0,ye0,le0,zs0,rfl,fun x hx=>⟨kd.free (hd x hx).2.2.1 pd hPtd,(hd x hx).2.1⟩,hl.trans (Paired.length slsd),nn,fun x hx=>(j1 yed (hd x hx).2.2.1).symm,ws,hR,rfl⟩ rfl rfl rfl rfl (vh (Td.extN hle e) hpe)
def yi (CY:Addr):Sp:=fun vs H Q E=>∃ y:Int,vs=[.int y]/\(0<=y->y<=99->Q .non H)/\(y<0\/99<y->E (.ref CY) none H)
theorem ke:FnScope ["year"] ["year"] (j6 zK):=by walk_at "s"
theorem wZ {f CY:Addr}{fd:FuncData}{u0:Tok}(g_LAST_TOLD:mg "LAST_TOLD" = some (.int 99 u0)) (e_BadYear:mg "BadYear" = some (.ref CY)) (x_BadYear:PySem.W.excIn K CY [.type "ValueError",.type "Exception",.type "BaseException",.type "object"] "ValueError.__new__" = true) (F:Fun K "check_told" "check_told" zK f fd):FnOk P w K mg base (CX1 P w) 1 f fd ["year"] (yi CY):=by
 refine Fun.okX F ke (fun vs H Q E h=>?_) (fun cdv A outer s H vs Q E hr h=>?_)
 ·obtain ⟨y,rfl,_⟩:=h
  rfl
 ·obtain ⟨y,rfl,k,kx⟩:=h
  refine ⟨_,(j9 (qj (qT (xr qp qp j8 (pv 0) (qR (v:=V.int 99) rfl g_LAST_TOLD ⟨_,rfl⟩))) (j9 (xb PySem.F.excBase_ValueError x_BadYear e_BadYear rfl xF rfl (j0 jH j2))) jB)),?_⟩
  left
  refine xm (fun h0=>?_) (fun h0=>?_)
  ·left
   refine zW (fun h1=>?_) (fun h1=>?_)
   ·left
    exact ⟨by show 1<=sizeLine;decide,kx (.inr (by omega))⟩
   ·left
    exact k h0 h1
  ·left
   refine yw ?_
   left
   exact ⟨by show 1<=sizeLine;decide,kx (.inl (by omega))⟩
theorem IceAt.years {C p:Addr}{H H':Hp}{g:IceG}{kvs:List (Key×V)}(I:IceAt C H p g) (hn:∀ x∈g.lds,x.1≠g.ye) (e:Ext g.ye H H') (h:H' g.ye=some (.dK kvs)):IceAt C H' p { g with kvs:=kvs }:=by
 have f:∀ {c:Addr} {o:HO},H c=some o->o≠.dK g.kvs->H' c=some o:=fun h n=>e _ _ h (jk h I.ye n)
 exact ⟨f I.ob (by walk_at "z"),f I.va (by walk_at "z"),I.rs.keep fun _ _ q=>f q (by walk_at "z"),f I.cy (by walk_at "z"),I.rows.imp fun _ _ q=>f q (by walk_at "z"),f I.sl (by walk_at "z"),Paired.mapP I.slopes fun v w ⟨a,ea,q⟩=>⟨a,ea,f q (by walk_at "z")⟩,h,f I.le (by walk_at "z"),fun x hx=>e _ _ (I.lds x hx) (hn x hx)⟩
def ZF (C CY CW:Addr):Sp:=fun vs H Q E=>∃ (p t:Addr) (g:IceG) (y:Int) (r:T3),vs=[.ref p,.int y,.ref t]/\IceAt C H p g/\(∀ x∈g.lds,x.1≠g.ye)/\H t=some (yb r)/\g.kvs.length<=1000 /\
 (∀ H',0<=y->y<=99->good r=true->Ext g.ye H H'->IceAt C H' p { g with kvs:=qv g.kvs (.inl y) (.ref t) }->Q .non H')/\(y<0\/99<y->E (.ref CY) none H)/\(0<=y->y<=99->good r=false->E (.ref CW) none H)
theorem gP:FnScope ["self","year","row"] ["self","year","row"] (j6 yd):=by walk_at "s"
theorem gW {f C CY CW:Addr}{fd:FuncData}(nb:Nb2 mg) (T:IceC K C) (e_BadWeather:mg "BadWeather" = some (.ref CW)) (x_BadWeather:PySem.W.excIn K CW [.type "ValueError",.type "Exception",.type "BaseException",.type "object"] "ValueError.__new__" = true) (c_check_told:CalX P w K mg base 1 "check_told" ["year"] (yi CY)) (c_is_weather:Cal P w K mg base 1 "is_weather" ["row"] Qn) (F:Fun K "tell" "Ice.tell" yd f fd):FnOk P w K mg base (CX1 P w) 2 f fd ["self","year","row"] (ZF C CY CW):=by
 refine Fun.okX F gP (fun vs H Q E h=>?_) (fun cdv A outer s H vs Q E hr h=>?_)
 ·obtain ⟨p,t,g,y,r,rfl,_⟩:=h
  rfl
 ·obtain ⟨p,t,g,y,r,rfl,I,hn,ht,hk,k,ky,kw⟩:=h
  refine ⟨_,(j7 (jV (zT c_check_told (hr.mono (by decide)) qC rfl (j0 (pv 1) j2)))
   (j7 (qj (qT (zf (je c_is_weather (hr.mono (by decide)) rfl (j0 (pv 2) j2)))) (j9 (xb PySem.F.excBase_ValueError x_BadWeather e_BadWeather rfl xF rfl (j0 jH j2))) jB)
   (j9 (ym (ql hr) (qr K (pv 0)) (pv 1) (pv 2) rfl)))),?_⟩
  left
  refine ⟨fun h0 h1=>?_,fun hb=>ky hb⟩
  left
  refine ⟨t,r,rfl,ht,?_⟩
  cases eg:good r with
  | false =>
   left
   exact ⟨by show 1<=sizeLine;decide,kw h0 h1 eg⟩
  | true =>
   left
   refine ⟨p,C,g.dx,_,_,rfl,I.ob,T.cl,T.nY,zM _ _ _ _ _,?_⟩
   left
   refine ⟨g.ye,_,rfl,wV.k (k:=.inl y) I.ye (ja hk),?_⟩
   exact k _ h0 h1 eg Ext.put (I.years hn Ext.put j4)
def yg (l:List (Addr×List (Key×V))) (n:Nat) (kvs:List (Key×V)):List (Addr×List (Key×V)):=l.set n ((l.getD n (0,[])).1,kvs)
theorem Zf (l:List (Addr×List (Key×V))) (n:Nat) (kvs:List (Key×V)):(yg l n kvs).map (fun x=>V.ref x.1)=l.map fun x=>V.ref x.1:=by
 unfold yg
 rw [List.map_set]
 by_cases h:n<l.length
 ·rw [List.getD_eq_getElem?_getD,List.getElem?_eq_getElem h]
  refine List.ext_getElem? fun i=>?_
  rw [List.getElem?_set]
  by_cases e:n=i
  ·subst e
   rw [if_pos rfl,List.length_map,if_pos h,List.getElem?_map,List.getElem?_eq_getElem h]
   rfl
  ·rw [if_neg e]
 ·rw [List.set_eq_of_length_le (by rw [List.length_map];omega)]
theorem IceAt.leap {C p:Addr}{H H':Hp}{g:IceG}{n:Nat}{a:Addr}{kvs kvs':List (Key×V)}(I:IceAt C H p g) (ha:g.lds[n]? = some (a,kvs)) (hn:∀ x∈g.lds,x.1≠g.ye) (nd:(g.lds.map (·.1)).Nodup) (e:Ext a H H') (h:H' a=some (.dK kvs')):IceAt C H' p { g with lds:=yg g.lds n kvs' }:=by
 have hm:=List.mem_of_getElem? ha
 have h0:=I.lds _ hm
 have f:∀ {c:Addr} {o:HO},H c=some o->(∀ z,o≠.dK z)->H' c=some o:=fun h n=>e _ _ h (jk h h0 (n _))
 have hl:n<g.lds.length:=(List.getElem?_eq_some_iff.mp ha).1
 refine ⟨f I.ob (by walk_at "w"),f I.va (by walk_at "w"),I.rs.keep fun _ _ q=>f q (by walk_at "w"),f I.cy (by walk_at "w"),I.rows.imp fun _ _ q=>f q (by walk_at "w"),f I.sl (by walk_at "w"),Paired.mapP I.slopes fun v w ⟨a,ea,q⟩=>⟨a,ea,f q (by walk_at "w")⟩,e _ _ I.ye (fun z=>hn _ hm z.symm),(by show H' g.le=_;rw [Zf];exact f I.le (by walk_at "w")),fun x hx=>?_⟩
 have hx':x∈yg g.lds n kvs':=hx
 obtain ⟨i,hi,ex⟩:=List.mem_iff_getElem.mp hx'
 have hi2:i<g.lds.length:=by unfold yg at hi;rw [List.length_set] at hi;exact hi
 have ex2:(yg g.lds n kvs')[i]? = some x:=by rw [List.getElem?_eq_getElem hi,ex]
 unfold yg at ex2
 rw [List.getElem?_set] at ex2
 by_cases en:n=i
 ·rw [if_pos en,if_pos (by omega)] at ex2
  rw [<- Option.some.inj ex2,List.getD_eq_getElem?_getD,ha]
  exact h
 ·rw [if_neg en] at ex2
  refine e _ _ (I.lds x (List.mem_of_getElem? ex2)) fun z=>en ?_
  have h1:(g.lds.map (·.1))[n]? = some a:=by rw [List.getElem?_map,ha];rfl
  have h2:(g.lds.map (·.1))[i]? = some a:=by rw [List.getElem?_map,ex2,<- z];rfl
  have l1:=(List.getElem?_eq_some_iff.mp h1).1
  have l2:=(List.getElem?_eq_some_iff.mp h2).1
  exact (List.getElem?_inj l1 nd).mp (h1.trans h2.symm)
def Xd (C CN CY CS:Addr):Sp:=fun vs H Q E=>∃ (p:Addr) (g:IceG) (l y m:Int),vs=[.ref p,.int l,.int y,.int m]/\IceAt C H p g/\g.lds.length=g.slopes.length/\(∀ x∈g.lds,x.1≠g.ye)/\(g.lds.map (·.1)).Nodup/\(∀ x∈g.lds,x.2.length<=1000) /\
 (∀ H' a kvs,0<=l->l<(g.slopes.length:Int)->0<=y->y<=99->1<=m->m<=9->g.lds[l.toNat]? = some (a,kvs)->Ext a H H'->IceAt C H' p { g with lds:=yg g.lds l.toNat (qv kvs (.inl y) (.int m)) }->Q .non H') /\
 (l<0\/(g.slopes.length:Int)<=l->E (.ref CN) none H)/\(0<=l->l<(g.slopes.length:Int)->y<0\/99<y->E (.ref CY) none H)/\(0<=l->l<(g.slopes.length:Int)->0<=y->y<=99->m<1\/9<m->E (.ref CS) none H)
theorem wR:FnScope ["self","lane","year","many"] ["self","lane","year","many"] (j6 zJ):=by walk_at "s"
theorem wW {f C CN CY CS:Addr}{fd:FuncData}{u0:Tok}(nb:Nb2 mg) (T:IceC K C) (cl_Ice:Cls K C) (g_GREATEST_SURGE:mg "GREATEST_SURGE" = some (.int 9 u0)) (e_BadSurge:mg "BadSurge" = some (.ref CS)) (x_BadSurge:PySem.W.excIn K CS [.type "ValueError",.type "Exception",.type "BaseException",.type "object"] "ValueError.__new__" = true) (c_Ice__check_lane:CalMX P w K mg base 1 C "check_lane" ["self","lane"] (qW C CN)) (c_check_told:CalX P w K mg base 1 "check_told" ["year"] (yi CY)) (F:Fun K "surge" "Ice.surge" zJ f fd):FnOk P w K mg base (CX1 P w) 2 f fd ["self","lane","year","many"] (Xd C CN CY CS):=by
 refine Fun.okX F wR (fun vs H Q E h=>?_) (fun cdv A outer s H vs Q E hr h=>?_)
 ·obtain ⟨p,g,l,y,m,rfl,_⟩:=h
  rfl
 ·obtain ⟨p,g,l,y,m,rfl,I,hll,hn,nd,hk,k,kn,ky,ks⟩:=h
  refine ⟨_,(j7 (jV (zC (pv 0) cl_Ice c_Ice__check_lane (hr.mono (by decide)) qC (j0 (pv 1) j2)))
   (j7 (jV (zT c_check_told (hr.mono (by decide)) qC rfl (j0 (pv 2) j2)))
   (j7 (qj (qT (xr qp qp j8 (pv 3) (qR (v:=V.int 9) rfl g_GREATEST_SURGE ⟨_,rfl⟩))) (j9 (xb PySem.F.excBase_ValueError x_BadSurge e_BadSurge rfl xF rfl (j0 jH j2))) jB)
   (j9 (ym (ql hr) (jq (jd K) (qr K (pv 0)) (pv 1) (fun _ _=>rfl)) (pv 2) (pv 3) rfl))))),?_⟩
  left
  refine ⟨p,g.dx,_,rfl,I.ob,xG _ _ _ _ _ (by walk_at "k") (by walk_at "k") (by walk_at "k") (by walk_at "k") (by walk_at "k"),?_⟩
  left
  refine ⟨p,g,l,rfl,I,fun l0 l1=>?_,fun hb=>kn hb⟩
  left
  refine ⟨fun h0 h1=>?_,fun hb=>ky l0 l1 hb⟩
  have hi:l.toNat<g.lds.length:=by omega
  left
  refine xm (fun m0=>?_) (fun m0=>?_)
  ·left
   refine zW (fun m1=>?_) (fun m1=>?_)
   ·left
    exact ⟨by show 1<=sizeLine;decide,ks l0 l1 h0 h1 (.inr (by omega))⟩
   ·left
    refine ⟨p,C,g.dx,_,_,rfl,I.ob,T.cl,T.nL,yP _ _ _ _ _,?_⟩
    left
    refine ⟨_,_,_,_,rfl,rfl,SqL.of I.le,xk l0 (v:=V.ref (g.lds[l.toNat]'hi).1) (by rw [List.getElem?_map,List.getElem?_eq_getElem hi];rfl),?_⟩
    left
    have h0':=I.lds _ (List.getElem_mem hi)
    refine ⟨_,_,rfl,wV.k (k:=.inl y) h0' (ja (hk _ (List.getElem_mem hi))),?_⟩
    exact k _ _ _ l0 l1 h0 h1 m0 m1 (List.getElem?_eq_getElem hi) Ext.put (I.leap (List.getElem?_eq_getElem hi) hn nd Ext.put j4)
  ·left
   refine yw ?_
   left
   exact ⟨by show 1<=sizeLine;decide,ks l0 l1 h0 h1 (.inl (by omega))⟩
def kvI (q:Int×Int):Key×V:=(.inl q.1,.int q.2)
def qw:List (Int×Int)->Int->Int
 | [],_=>0
 | q::r,y=>if q.1=y then q.2 else qw r y
theorem uj:∀ (ns:List (Int×Int)) (y:Int),y∈ns.map (·.1)->qo (ns.map kvI) (.inl y)=some (.int (qw ns y))
 | [],y,h=>by cases h
 | q::r,y,h=>by
  rw [List.map_cons]
  unfold qo qw
  by_cases e:q.1=y
  ·subst e
   simp [kvI,List.find?]
  ·have h':y∈r.map (·.1):=by
    rcases List.mem_cons.mp h with z | z
    ·exact absurd z.symm e
    ·exact z
   have ih:=uj r y h'
   unfold qo at ih
   simp [kvI,List.find?,e] at ih ⊢
   exact ih
theorem Q8:∀ (ns:List (Int×Int)),(ns.map (·.1)).Nodup->(ns.map (·.1)).map (fun y=>(y,qw ns y))=ns
 | [],_=>rfl
 | q::r,nd=>by
  rw [List.map_cons] at nd ⊢
  obtain ⟨h1,h2⟩:=List.nodup_cons.mp nd
  rw [List.map_cons]
  have e:qw (q::r) q.1=q.2:=by unfold qw;rw [if_pos rfl]
  rw [e]
  refine congrArg (q :: ·) ?_
  conv=>rhs;rw [<- Q8 r h2]
  refine List.map_congr_left fun y hy=>?_
  have hne:¬ q.1=y:=fun z=>h1 (z ▸ hy)
  show (y,qw (q::r) y)=_
  conv=>lhs;unfold qw
  rw [if_neg hne]
def vQ (C CN:Addr):Sp:=fun vs H Q E=>∃ (p:Addr) (g:IceG) (l:Int),vs=[.ref p,.int l]/\IceAt C H p g/\g.lds.length=g.slopes.length/\(l<0\/(g.slopes.length:Int)<=l->E (.ref CN) none H) /\
 (0<=l->l<(g.slopes.length:Int)->∃ (a:Addr) (ns:List (Int×Int)),g.lds[l.toNat]? = some (a,ns.map kvI)/\(ns.map (·.1)).Nodup/\ns.length<64 /\
  ∀ o H' out (ms:List (Int×Int)),H o=none->H' o=some (.lst out)->Paired (fun v (m:Int×Int)=>∃ b,v=V.ref b/\H' b=some (.tup [.int m.1,.int m.2])) out ms->jh H H'->ms.Perm ns->(ms.map (·.1)).Pairwise (· <= ·)->Q (.ref o) H')
theorem uT:FnScope ["self","lane"] ["self","lane"] (j6 xp):=by walk_at "s"
theorem w5 {f C CN:Addr}{fd:FuncData}(nb:Nb2 mg) (T:IceC K C) (cl_Ice:Cls K C) (c_Ice__check_lane:CalMX P w K mg base 1 C "check_lane" ["self","lane"] (qW C CN)) (F:Fun K "surges" "Ice.surges" xp f fd):FnOk P w K mg base (CX1 P w) 2 f fd ["self","lane"] (vQ C CN):=by
 refine Fun.okX F uT (fun vs H Q E h=>?_) (fun cdv A outer s H vs Q E hr h=>?_)
 ·obtain ⟨p,g,l,rfl,_⟩:=h
  rfl
 ·obtain ⟨p,g,l,rfl,I,hll,kx,k⟩:=h
  refine ⟨_,(j7 (jV (zC (pv 0) cl_Ice c_Ice__check_lane (hr.mono (by decide)) qC (j0 (pv 1) j2)))
   (j9 (jj (jC (osc:=(j6 xp)) (ON:=["self","lane"]) (N:=["year","lane","self"]) (own:=1) (caps:=[1,0]) ⟨rfl,by walk_at "k",by walk_at "k",by walk_at "k",rfl,by walk_at "k"⟩ rfl rfl rfl (jL K (jc (vw K rfl) rfl nb.b_sorted boot_sorted (j0 (jq (jd K) (qr K (pv 0)) (pv 1) (fun _ _=>rfl)) j2))) (fun _ _ _ _ _=>(jb (i:=0) (show List.Nodup (["year","lane","self"]:List Str) by decide +kernel) rfl (Or.inl rfl))) (fun _ _ _ _ _=>jr) (fun _ _ _ _ _=>(xH (j0 (pv 0) (j0 (jR (ql hr) (jq (jd K) (qr K (pv 2)) (pv 1) (fun _ _=>rfl)) (pv 0) (fun _ _=>rfl)) j2)))))))),?_⟩
  left
  refine ⟨p,g.dx,_,rfl,I.ob,xG _ _ _ _ _ (by walk_at "k") (by walk_at "k") (by walk_at "k") (by walk_at "k") (by walk_at "k"),?_⟩
  left
  refine ⟨p,g,l,rfl,I,fun l0 l1=>?_,fun hb=>kx hb⟩
  obtain ⟨a,ns,ha,nd,h64,k⟩:=k l0 l1
  have hi:=(List.getElem?_eq_some_iff.mp ha).1
  have hm:=I.lds _ (List.mem_of_getElem? ha)
  have hat:atI (g.lds.map fun x=>V.ref x.1) l=some (.ref a):=xk l0 (by rw [List.getElem?_map,ha];rfl)
  left
  refine ⟨p,C,g.dx,_,_,rfl,I.ob,T.cl,T.nL,yP _ _ _ _ _,?_⟩
  left
  refine ⟨_,_,_,_,rfl,rfl,SqL.of I.le,hat,?_⟩
  refine ⟨a,ns.map kvI,ns.map (·.1),rfl,hm,by rw [List.map_map,List.map_map];rfl,by rw [List.length_map];exact h64,fun o H1 ks ho ho1 s1 hp hs=>?_⟩
  have hkl:ks.length<64:=by rw [hp.length_eq,List.length_map];exact h64
  refine ⟨o,rfl,⟨_,SqL.of ho1⟩,fun acc hacc=>?_⟩
  refine jI (K:=K) (a:=o) (xs:=ks.map V.int) (acc:=acc) (fun i σ H2=>∃ (x:Option V) (out:List V),σ=[x,some (.int l),some (.ref p)]/\H2 acc=some (.lst out)/\out.length=i/\Paired (fun v (m:Int×Int)=>∃ b,v=V.ref b/\H2 b=some (.tup [.int m.1,.int m.2])) out ((ks.take i).map fun y=>(y,qw ns y))/\Ext acc H1 H2) ?_ ?_ ?_ ?_
  ·exact ⟨none,[],rfl,j4,rfl,.nil,Ext.put⟩
  ·rintro i σ H2 hi ⟨x,out,rfl,h2,hz,r2,e2⟩
   exact SqL.of (e2 _ _ ho1 (j1 ho1 hacc))
  ·rintro i v σ H2 hv ⟨x,out,rfl,h2,hz,r2,e2⟩
   obtain ⟨y,rfl,hy⟩:=xN hv
   have hiy:=(List.getElem?_eq_some_iff.mp hy).1
   have hyn:y∈ns.map (·.1):=hp.mem_iff.mp (List.mem_of_getElem? hy)
   have t2:jh H H2:=fun c o hc=>e2 _ _ (s1 _ _ hc) (j1 (s1 _ _ hc) hacc)
   have I2:=I.same t2
   left
   refine ⟨p,C,g.dx,_,_,rfl,I2.ob,T.cl,T.nL,yP _ _ _ _ _,?_⟩
   left
   refine ⟨_,_,_,_,rfl,rfl,SqL.of I2.le,hat,?_⟩
   left
   refine ⟨a,.int (qw ns y),rfl,by rw [<- uj ns y hyn];exact xh.k (k:=.inl y) (t2 _ _ hm),?_⟩
   left
   refine ⟨by show 2<=sizeLine;decide,fun b H3 hb hb3 s3=>?_⟩
   have h3:=s3 _ _ h2
   have bacc:b≠acc:=(j1 h2 hb).symm
   refine ⟨out,h3,ja (by omega),some (.int y),out++[.ref b],rfl,j4,by rw [List.length_append,hz];rfl,?_,fun c o hc n=>by rw [j5 n];exact s3 _ _ (e2 c o hc n)⟩
   rw [qi (fun y=>(y,qw ns y)) ks i y hy]
   exact Paired.snoc (Paired.mapP r2 fun v m ⟨c,e,q⟩=>⟨c,e,by rw [j5 (jk (s3 _ _ q) h3 (by walk_at "z"))];exact s3 _ _ q⟩) ⟨b,rfl,by rw [j5 bacc];exact hb3⟩
  ·rintro σ H2 ⟨x,out,rfl,h2,hz,r2,e2⟩
   rw [List.length_map,List.take_length] at r2
   have t2:jh H H2:=fun c o hc=>e2 _ _ (s1 _ _ hc) (j1 (s1 _ _ hc) hacc)
   refine k acc H2 out _ (s1.free hacc) h2 r2 t2 ?_ ?_
   ·have:=hp.map fun y=>(y,qw ns y)
    rw [Q8 ns nd] at this
    exact this
   ·rw [List.map_map]
    have:((fun x:Int×Int=>x.1) ∘ fun y=>(y,qw ns y))=id:=rfl
    rw [this,List.map_id]
    exact hs
end
section
variable {P:Program}{w:World}{K:PySem.W.Frag}{mg:Str->Option Value}{base:Heap}
def Y0:Sp:=fun vs H Q _=>∃ (L b:Addr),vs=[.ref b]/\jS L H b/\∀ (y:Int) (H':Hp),0<=y->y<=99->jS L H' b->Ext b H H'->Q (.int y) H'
theorem Jt:FnScope ["_law_box_here"] ["_law_box_here"] (j6 yZ):=by walk_at "s"
theorem YO {v a b c:Int}(h0:0<=v) (h1:v<5) (ha:0<=a/\a<=99) (hb:0<=b/\b<=99) (hc:0<=c/\c<=99):∃ n,atI [V.int a,V.int b,V.int c,V.int 99,V.int 0] v=some (V.int n)/\0<=n/\n<=99:=by
 have h:v=0\/v=1\/v=2\/v=3\/v=4:=by omega
 rcases h with rfl | rfl | rfl | rfl | rfl
 ·exact ⟨a,rfl,ha.1,ha.2⟩
 ·exact ⟨b,rfl,hb.1,hb.2⟩
 ·exact ⟨c,rfl,hc.1,hc.2⟩
 ·exact ⟨99,rfl,by decide,by decide⟩
 ·exact ⟨0,rfl,by decide,by decide⟩
theorem YC {f:Addr}{fd:FuncData}(c_law_take:Cal P w K mg base 2 "_law_take" ["_law_box_here","_law_size"] xE) (F:Fun K "_law_year" "_law_year" yZ f fd):FnOk P w K mg base CX0 3 f fd ["_law_box_here"] Y0:=by
 refine F.ok Jt (fun vs H Q E h=>?_) (fun cdv A outer s H vs Q E hr h=>?_)
 ·obtain ⟨L,b,rfl,_⟩:=h
  rfl
 ·obtain ⟨L,b,rfl,B,k⟩:=h
  refine ⟨_,(j9 (jj (jq (jd K) (jT (j0 (je c_law_take (hr.mono (by decide)) rfl (j0 (pv 0) (j0 j8 j2))) (j0 (je c_law_take (hr.mono (by decide)) rfl (j0 (pv 0) (j0 j8 j2))) (j0 (je c_law_take (hr.mono (by decide)) rfl (j0 (pv 0) (j0 j8 j2))) (j0 j8 (j0 j8 j2)))))) (je c_law_take (hr.mono (by decide)) rfl (j0 (pv 0) (j0 j8 j2))) (fun _ _=>rfl)))),?_⟩
  left
  refine ⟨L,b,_,rfl,B,⟨by decide,by decide⟩,fun v1 H1 p1 q1 B1 X1=>?_⟩
  left
  refine ⟨L,b,_,rfl,B1,⟨by decide,by decide⟩,fun v2 H2 p2 q2 B2 X2=>?_⟩
  left
  refine ⟨L,b,_,rfl,B2,⟨by decide,by decide⟩,fun v3 H3 p3 q3 B3 X3=>?_⟩
  left
  refine ⟨by show 5<=sizeLine;decide,fun l H4 hl hl4 s4=>?_⟩
  left
  refine ⟨L,b,_,rfl,B3.same s4,⟨by decide,by decide⟩,fun v5 H5 p5 q5 B5 X5=>?_⟩
  obtain ⟨n,en,n0,n1⟩:=YO p5 q5 (a:=v1) (b:=v2) (c:=v3) ⟨p1,by omega⟩ ⟨p2,by omega⟩ ⟨p3,by omega⟩
  refine ⟨_,_,_,_,rfl,rfl,SqL.of (X5 _ _ hl4 (B3.ne hl)),en,?_⟩
  exact k n H5 n0 n1 B5 ((((X1.trans X2).trans X3).trans (Ext.of_same s4)).trans X5)
def scK (p q sg gl ll:Addr):List (Key×V):=[(.inr "reaches",.ref p),(.inr "rows",.ref q),(.inr "single",.ref sg),(.inr "grounds",.ref gl),(.inr "leaps",.ref ll)]
theorem x3 {k:Key}{v:V}{r:List (Key×V)}:qo ((k,v)::r) k=some v:=by
 unfold qo
 rw [List.find?_cons_of_pos (p:=fun kv:Key×V=>decide (kv.1=k)) (a:=(k,v)) (decide_eq_true rfl)]
 rfl
theorem jt {k k':Key}{v:V}{r:List (Key×V)}(h:k'≠k):qo ((k',v)::r) k=qo r k:=by
 unfold qo
 rw [List.find?_cons_of_neg (p:=fun kv:Key×V=>decide (kv.1=k)) (a:=(k',v)) (fun z=>h (of_decide_eq_true z))]
theorem QE (p q sg gl ll:Addr):qo (scK p q sg gl ll) (.inr "reaches")=some (.ref p):=x3
theorem QM (p q sg gl ll:Addr):qo (scK p q sg gl ll) (.inr "rows")=some (.ref q):=(jt (show (Sum.inr (Str.ofString "reaches"):Key)≠Sum.inr (Str.ofString "rows") by decide +kernel)).trans (x3)
theorem yq (p q sg gl ll:Addr):qo (scK p q sg gl ll) (.inr "single")=some (.ref sg):=(jt (show (Sum.inr (Str.ofString "reaches"):Key)≠Sum.inr (Str.ofString "single") by decide +kernel)).trans ((jt (show (Sum.inr (Str.ofString "rows"):Key)≠Sum.inr (Str.ofString "single") by decide +kernel)).trans (x3))
theorem zO (p q sg gl ll:Addr):qo (scK p q sg gl ll) (.inr "grounds")=some (.ref gl):=(jt (show (Sum.inr (Str.ofString "reaches"):Key)≠Sum.inr (Str.ofString "grounds") by decide +kernel)).trans ((jt (show (Sum.inr (Str.ofString "rows"):Key)≠Sum.inr (Str.ofString "grounds") by decide +kernel)).trans ((jt (show (Sum.inr (Str.ofString "single"):Key)≠Sum.inr (Str.ofString "grounds") by decide +kernel)).trans (x3)))
theorem wE (p q sg gl ll:Addr):qo (scK p q sg gl ll) (.inr "leaps")=some (.ref ll):=(jt (show (Sum.inr (Str.ofString "reaches"):Key)≠Sum.inr (Str.ofString "leaps") by decide +kernel)).trans ((jt (show (Sum.inr (Str.ofString "rows"):Key)≠Sum.inr (Str.ofString "leaps") by decide +kernel)).trans ((jt (show (Sum.inr (Str.ofString "single"):Key)≠Sum.inr (Str.ofString "leaps") by decide +kernel)).trans ((jt (show (Sum.inr (Str.ofString "grounds"):Key)≠Sum.inr (Str.ofString "leaps") by decide +kernel)).trans (x3))))
theorem kt:∀ {ns:List (Int×Int)},(ns.map (·.1)).Nodup->∀ {z:Int×Int},z∈ns->qw ns z.1=z.2
 | [],_,z,h=>by cases h
 | q::r,nd,z,h=>by
  rw [List.map_cons] at nd
  obtain ⟨h1,h2⟩:=List.nodup_cons.mp nd
  unfold qw
  rcases List.mem_cons.mp h with e | e
  ·rw [e,if_pos rfl]
  ·have ne:¬ q.1=z.1:=fun w=>h1 (by rw [w];exact List.mem_map_of_mem e)
   rw [if_neg ne]
   exact kt h2 e
theorem VG {ns:List (Int×Int)}{i:Nat}{q:Key×V}(h:(ns.map kvI)[i]? = some q):∃ z,ns[i]? = some z/\q=kvI z:=by
 rw [List.getElem?_map] at h
 cases e:ns[i]? with
 | none=>rw [e] at h;cases h
 | some z=>rw [e] at h;cases h;exact ⟨z,rfl,rfl⟩
end
section
variable {P:Program}{w:World}{K:PySem.W.Frag}{mg:Str->Option Value}{base:Heap}
def vA (CY:Addr):Sp:=fun vs H Q E=>∃ y:Int,vs=[.int y]/\(0<=y->y<=10 ^ 40->Q .non H)/\(y<0\/10 ^ 40<y->E (.ref CY) none H)
theorem w9:FnScope ["year"] ["year"] (j6 zg):=by walk_at "s"
theorem uR {f CY:Addr}{fd:FuncData}{u0:Tok}(g_LAST_ASKED:mg "LAST_ASKED" = some (.int 10000000000000000000000000000000000000000 u0)) (e_BadYear:mg "BadYear" = some (.ref CY)) (x_BadYear:PySem.W.excIn K CY [.type "ValueError",.type "Exception",.type "BaseException",.type "object"] "ValueError.__new__" = true) (F:Fun K "check_asked" "check_asked" zg f fd):FnOk P w K mg base (CX1 P w) 1 f fd ["year"] (vA CY):=by
 refine Fun.okX F w9 (fun vs H Q E h=>?_) (fun cdv A outer s H vs Q E hr h=>?_)
 ·obtain ⟨y,rfl,_⟩:=h
  rfl
 ·obtain ⟨y,rfl,k,kx⟩:=h
  refine ⟨_,(j9 (qj (qT (xr qp qp j8 (pv 0) (qR (v:=V.int 10000000000000000000000000000000000000000) rfl g_LAST_ASKED ⟨_,rfl⟩))) (j9 (xb PySem.F.excBase_ValueError x_BadYear e_BadYear rfl xF rfl (j0 jH j2))) jB)),?_⟩
  left
  refine xm (fun h0=>?_) (fun h0=>?_)
  ·left
   refine zW (fun h1=>?_) (fun h1=>?_)
   ·left
    exact ⟨by show 1<=sizeLine;decide,kx (.inr (by omega))⟩
   ·left
    exact k h0 h1
  ·left
   refine yw ?_
   left
   exact ⟨by show 1<=sizeLine;decide,kx (.inl (by omega))⟩
def Ve (g:IceG) (l:Int) (ns:List (Int×Int)):Prop:=0<=l/\l<(g.slopes.length:Int)/\(∃ a,g.lds[l.toNat]? = some (a,ns.map kvI))/\(ns.map (·.1)).Nodup/\ns.length<64/\∀ q∈ns,0<=q.2/\q.2<=9
end
section
variable {P:Program}{w:World}{K:PySem.W.Frag}{mg:Str->Option Value}{base:Heap}
def kvA (z:Int×Addr):Key×V:=(.inl z.1,.ref z.2)
def xl {α:Type}(l:List (Int×α)) (y:Int) (a:α):List (Int×α):=if (l.any fun z=>decide (z.1=y))=true then l.map (fun z=>if z.1=y then (z.1,a) else z) else l++[(y,a)]
theorem wA {α:Type}(f:α->V) (l:List (Int×α)) (y:Int) (a:α):qv (l.map fun z=>((.inl z.1,f z.2):Key×V)) (.inl y) (f a)=(xl l y a).map fun z=>((.inl z.1,f z.2):Key×V):=by
 have e:∀ z:Int,decide ((Sum.inl z:Key)=Sum.inl y)=decide (z=y):=fun z=>decide_eq_decide.mpr ⟨fun h=>Sum.inl.inj h,fun h=>by rw [h]⟩
 have e1:((l.map fun z=>((.inl z.1,f z.2):Key×V)).any fun kv=>decide (kv.1=(Sum.inl y:Key)))=l.any fun z=>decide (z.1=y):=by
  rw [List.any_map]
  congr 1
  funext z
  exact e z.1
 unfold qv xl
 rw [e1]
 by_cases h:(l.any fun z=>decide (z.1=y))=true
 ·rw [if_pos h,if_pos h,List.map_map,List.map_map]
  refine List.map_congr_left fun z _=>?_
  show (if (Sum.inl z.1:Key)=Sum.inl y then _ else _)=_
  by_cases hz:z.1=y
  ·rw [if_pos (by rw [hz])]
   show _=(fun z:Int×α=>((.inl z.1,f z.2):Key×V)) (if z.1=y then (z.1,a) else z)
   rw [if_pos hz]
  ·rw [if_neg (fun w=>hz (Sum.inl.inj w))]
   show _=(fun z:Int×α=>((.inl z.1,f z.2):Key×V)) (if z.1=y then (z.1,a) else z)
   rw [if_neg hz]
 ·rw [if_neg h,if_neg h,List.map_append]
  rfl
theorem uN {α:Type}{l:List (Int×α)}{y:Int}{a:α}{z:Int×α}(h:z∈xl l y a):z∈l\/z=(y,a):=by
 unfold xl at h
 by_cases c:(l.any fun z=>decide (z.1=y))=true
 ·rw [if_pos c] at h
  obtain ⟨u,hu,e⟩:=List.mem_map.mp h
  by_cases q:u.1=y
  ·rw [if_pos q,q] at e
   exact .inr e.symm
  ·rw [if_neg q] at e
   exact .inl (e ▸ hu)
 ·rw [if_neg c] at h
  rcases List.mem_append.mp h with q | q
  ·exact .inl q
  ·exact .inr (by simpa using q)
theorem vK {α:Type}(l:List (Int×α)) (y:Int) (a:α):(xl l y a).length<=l.length+1:=by
 unfold xl
 split
 ·rw [List.length_map];omega
 ·rw [List.length_append];exact Nat.le_refl _
theorem wL {α:Type}{l:List (Int×α)}{y:Int}{a:α}(h:(l.map (·.1)).Nodup):((xl l y a).map (·.1)).Nodup:=by
 unfold xl
 by_cases c:(l.any fun z=>decide (z.1=y))=true
 ·rw [if_pos c,List.map_map]
  have:(l.map ((fun x=>x.1) ∘ fun z=>if z.1=y then (z.1,a) else z))=l.map (·.1):=List.map_congr_left fun z _=>by
   show (if z.1=y then (z.1,a) else z).1=z.1
   split <;> rfl
  rw [this]
  exact h
 ·rw [if_neg c,List.map_append]
  refine uG h fun z=>c ?_
  obtain ⟨u,hu,e⟩:=List.mem_map.mp z
  exact List.any_eq_true.mpr ⟨u,hu,decide_eq_true e⟩
structure ScN where
 p:Addr
 q:Addr
 sg:Addr
 gl:Addr
 ll:Addr
 xs:List V
 ys:List V
 zs:List V
 rs:List Rch
 ts:List T3
 ws:List (List Int)
 sk:List (Int×Addr)
 lds:List (Addr×List (Int×Int))
structure ScAt (H:Hp) (sd:Addr) (c:ScN):Prop where
 sd:H sd=some (.dK (scK c.p c.q c.sg c.gl c.ll))
 p:H c.p=some (.lst c.xs)
 rv:jK H c.xs c.rs
 q:H c.q=some (.lst c.ys)
 r3:qz H c.ys c.ts
 gl:H c.gl=some (.lst c.zs)
 gi:zV H c.zs (c.ws.map (jf c.rs))
 ll:H c.ll=some (.lst (c.lds.map fun x=>V.ref x.1))
 sg:Rd H c.sg (.dK (c.sk.map kvA))
 sk:∀ z∈c.sk,∃ t,H z.2=some (yb t)/\good t=true
 ld:∀ x∈c.lds,Rd H x.1 (.dK (x.2.map kvI))
structure ScOk (b:Addr) (c:ScN):Prop where
 gr:Grown c.rs
 l1:1<=c.rs.length
 l8:c.rs.length<=8
 t1:1<=c.ts.length
 t2:c.ts.length<=12
 tg:c.ts.all good=true
 ro:jM c.rs c.ws
 ldl:c.lds.length=c.ws.length
 nd:(c.lds.map (·.1)).Nodup
 ns:∀ x∈c.lds,x.1≠c.sg
 pb:c.p≠b
 qb:c.q≠b
 gb:c.gl≠b
 lb:c.ll≠b
 zb:V.ref b∉c.zs
 k1:(c.sk.map (·.1)).Nodup
 k2:∀ z∈c.sk,0<=z.1/\z.1<=99
 k3:c.sk.length<=10
 m1:∀ x∈c.lds,(x.2.map (·.1)).Nodup
 m2:∀ x∈c.lds,∀ z∈x.2,0<=z.1/\z.1<=99/\1<=z.2/\z.2<=9
 m3:∀ x∈c.lds,x.2.length<=10
def Fr3 (N M:Addr->Prop) (H H':Hp):Prop:=∀ c o,H c=some o->¬ N c->H' c=some o\/(M c/\∃ ob kvs,o = .dK kvs/\H' c=some (.frz ob (.dK kvs)))
theorem Fr3.at {N M:Addr->Prop}{H H':Hp}(f:Fr3 N M H H') {c:Addr}{o:HO}(h:H c=some o) (n:¬ N c) (d:∀ kvs,o≠.dK kvs):H' c=some o:=by
 rcases f c o h n with h1 | ⟨_,ob,kvs,e,_⟩
 ·exact h1
 ·exact absurd e (d kvs)
theorem Fr3.rd {N M:Addr->Prop}{H H':Hp}(f:Fr3 N M H H') {c:Addr}{kvs:List (Key×V)}(n:¬ N c) (h:Rd H c (.dK kvs)):Rd H' c (.dK kvs):=by
 rcases h with h | ⟨o,h⟩
 ·rcases f c _ h n with h1 | ⟨_,ob,kvs',e,h1⟩
  ·exact .inl h1
  ·cases e
   exact .inr ⟨ob,h1⟩
 ·exact .inr ⟨o,f.at h n (by walk_at "w")⟩
theorem pmM {α β:Type}{F G:α->β->Prop}:∀ {l₁:List α}{l₂:List β},Paired F l₁ l₂->(∀ v∈l₁,∀ w,F v w->G v w)->Paired G l₁ l₂
 | _,_,.nil,_=>.nil
 | _,_,.cons q r,h=>.cons (h _ (List.mem_cons_self ..) _ q) (pmM r fun v hv=>h v (List.mem_cons_of_mem _ hv))
theorem ScAt.keep {N M:Addr->Prop}{H H':Hp}{sd:Addr}{c:ScN}(S:ScAt H sd c) (f:Fr3 N M H H') (nT:∀ a xs,H a=some (.tup xs)->¬ N a) (nsd:¬ N sd) (msd:¬ M sd) (np:¬ N c.p) (nq:¬ N c.q) (ng:¬ N c.gl) (nl:¬ N c.ll) (nz:∀ a,V.ref a∈c.zs->¬ N a) (ns:¬ N c.sg) (nd:∀ x∈c.lds,¬ N x.1):ScAt H' sd c:=by
 have t:∀ a xs,H a=some (.tup xs)->H' a=some (.tup xs):=fun a xs h=>f.at h (nT a xs h) (by walk_at "w")
 refine ⟨?_,f.at S.p np (by walk_at "w"),S.rv.keep t,f.at S.q nq (by walk_at "w"),S.r3.imp fun _ _ h=>t _ _ h,f.at S.gl ng (by walk_at "w"),pmM S.gi fun v hv w ⟨a,ea,q⟩=>⟨a,ea,f.at q (nz a (ea ▸ hv)) (by walk_at "w")⟩,f.at S.ll nl (by walk_at "w"),f.rd ns S.sg,fun z hz=>?_,fun x hx=>f.rd (nd x hx) (S.ld x hx)⟩
 ·rcases f _ _ S.sd nsd with z | ⟨z,_⟩
  ·exact z
  ·exact absurd z msd
 ·obtain ⟨u,hu,g⟩:=S.sk z hz
  exact ⟨u,t _ _ hu,g⟩
theorem ScAt.same {H H':Hp}{sd:Addr}{c:ScN}(S:ScAt H sd c) (s:jh H H'):ScAt H' sd c :=
 S.keep (N:=fun _=>False) (M:=fun _=>False) (fun c o h _=>.inl (s c o h)) (fun _ _ _ z=>z) id id id id id id (fun _ _=>id) id (fun _ _=>id)
theorem ScAt.ext {L b:Addr}{H H':Hp}{sd:Addr}{c:ScN}(S:ScAt H sd c) (O:ScOk b c) (B:jS L H b) (e:Ext b H H'):ScAt H' sd c:=by
 obtain ⟨_,_,_,_,_,hb,_⟩:=B
 have nr:∀ {a:Addr} {kvs:List (Key×V)},Rd H a (.dK kvs)->¬ a=b:=fun h z=>by
  rcases h with h | ⟨o,h⟩
  ·exact absurd z (jk h hb (by walk_at "z"))
  ·exact absurd z (jk h hb (by walk_at "z"))
 exact S.keep (N:=fun a=>a=b) (M:=fun _=>False) (fun c o h n=>.inl (e c o h n)) (fun a xs h z=>absurd z (jk h hb (by walk_at "z"))) (jk S.sd hb (by walk_at "z")) id O.pb O.qb O.gb O.lb (fun a h z=>O.zb (z ▸ h)) (nr S.sg) fun x hx=>nr (S.ld x hx)
def ScN.D (c:ScN) (a:Addr):Prop:=a=c.sg\/∃ x∈c.lds,x.1=a
theorem Ud {p q sg gl ll:Addr}{α:Type}{f:α->V}{l:List (Int×α)}:scK p q sg gl ll≠l.map fun z=>((.inl z.1,f z.2):Key×V):=fun z=>by
 cases l with
 | nil=>cases z
 | cons u r =>
  have:=congrArg (fun l=>l.head?.map (·.1)) z
  cases this
theorem Xq {H:Hp}{sd a p q sg gl ll:Addr}{α:Type}{f:α->V}{l:List (Int×α)}(h:H sd=some (.dK (scK p q sg gl ll))) (r:Rd H a (.dK (l.map fun z=>((.inl z.1,f z.2):Key×V)))):a≠sd:=fun z=>by
 subst z
 rcases r with r | ⟨o,r⟩
 ·rw [r] at h
  have e:l.map (fun z=>((.inl z.1,f z.2):Key×V))=scK p q sg gl ll:=by injection h with h;injection h
  exact Ud e.symm
 ·rw [r] at h
  cases h
theorem ScAt.nD {H:Hp}{sd:Addr}{c:ScN}(S:ScAt H sd c):¬ c.D sd:=fun z=>by
 rcases z with z | ⟨x,hx,e⟩
 ·exact Xq (f:=V.ref) S.sd S.sg z.symm
 ·exact Xq (f:=V.int) S.sd (S.ld x hx) e
structure ScB (L b:Addr) (H H2:Hp) (sd:Addr) (c:ScN):Prop where
 S:ScAt H2 sd c
 O:ScOk b c
 r1:H2 c.sg=some (.dK (c.sk.map kvA))
 r2:∀ x∈c.lds,H2 x.1=some (.dK (x.2.map kvI))
 B:jS L H2 b
 X:Ext b H H2
 f1:H c.sg=none
 f2:∀ x∈c.lds,H x.1=none
theorem ScB.take {L b:Addr}{H H2 H3:Hp}{sd:Addr}{c:ScN}(S:ScB L b H H2 sd c) (B:jS L H3 b) (X:Ext b H2 H3):ScB L b H H3 sd c:=by
 have hb:∃ xs,H2 b=some (.lst xs):=by
  obtain ⟨_,_,_,_,_,hb,_⟩:=S.B
  exact ⟨_,hb⟩
 obtain ⟨_,hb⟩:=hb
 exact ⟨S.S.ext S.O S.B X,S.O,X _ _ S.r1 (jk S.r1 hb (by walk_at "z")),fun x hx=>X _ _ (S.r2 x hx) (jk (S.r2 x hx) hb (by walk_at "z")),B,S.X.trans X,S.f1,S.f2⟩
theorem ScB.same {L b:Addr}{H H2 H3:Hp}{sd:Addr}{c:ScN}(S:ScB L b H H2 sd c) (s:jh H2 H3):ScB L b H H3 sd c:=S.take (S.B.same s) (Ext.of_same s)
theorem zu {L b:Addr}{Ha Hb:Hp}(B:jS L Ha b) (e:Ext b Ha Hb):jo Ha Hb:=by
 obtain ⟨ns,a,r,c,d,h1,_⟩:=B
 exact jo.lst e h1
theorem ScB.single {L b:Addr}{H H2:Hp}{sd t:Addr}{c:ScN}{y:Int}{r:T3}(S:ScB L b H H2 sd c) (y0:0<=y) (y1:y<=99) (ht:H2 t=some (yb r)) (hg:good r=true) (hl:c.sk.length+1<=10) :
  ScB L b H (upd H2 c.sg (.dK (qv (c.sk.map kvA) (.inl y) (.ref t)))) sd { c with sk:=xl c.sk y t }:=by
 have e:qv (c.sk.map kvA) (.inl y) (.ref t)=(xl c.sk y t).map kvA:=wA V.ref c.sk y t
 rw [e]
 have nT:∀ {a:Addr} {o:HO},H2 a=some o->(∀ kvs,o≠.dK kvs)->(upd H2 c.sg (.dK ((xl c.sk y t).map kvA))) a=some o:=fun h n=>by rw [j5 (jk h S.r1 (n _))];exact h
 have sdn:sd≠c.sg:=(Xq (f:=V.ref) S.S.sd S.S.sg).symm
 have hb:∃ xs,H2 b=some (.lst xs):=by
  obtain ⟨_,_,_,_,_,hb,_⟩:=S.B
  exact ⟨_,hb⟩
 obtain ⟨_,hb⟩:=hb
 have hL:∃ xs,H2 L=some (.lst xs):=by
  obtain ⟨_,_,_,_,_,_,_,hL,_⟩:=S.B
  exact ⟨_,hL⟩
 obtain ⟨_,hL⟩:=hL
 refine ⟨⟨by rw [j5 sdn];exact S.S.sd,nT S.S.p (by walk_at "w"),S.S.rv.keep fun _ _ h=>nT h (by walk_at "w"),nT S.S.q (by walk_at "w"),S.S.r3.imp fun _ _ h=>nT h (by walk_at "w"),nT S.S.gl (by walk_at "w"),pmM S.S.gi fun v hv w ⟨a,ea,q⟩=>⟨a,ea,nT q (by walk_at "w")⟩,nT S.S.ll (by walk_at "w"),.inl j4,fun z hz=>?_,fun x hx=>.inl (by rw [j5 (S.O.ns x hx)];exact S.r2 x hx)⟩,?_,j4,fun x hx=>by rw [j5 (S.O.ns x hx)];exact S.r2 x hx,S.B.put (jk S.r1 hb (by walk_at "z")) (jk S.r1 hL (by walk_at "z")),fun d o hd n=>?_,S.f1,S.f2⟩
 ·rcases uN hz with z | z
  ·obtain ⟨u,hu,g⟩:=S.S.sk _ z
   exact ⟨u,nT hu (by walk_at "w"),g⟩
  ·subst z
   exact ⟨r,nT ht (by walk_at "w"),hg⟩
 ·have O:=S.O
  exact ⟨O.gr,O.l1,O.l8,O.t1,O.t2,O.tg,O.ro,O.ldl,O.nd,O.ns,O.pb,O.qb,O.gb,O.lb,O.zb,wL O.k1,fun z hz=>by
   rcases uN hz with q | q
   ·exact O.k2 z q
   ·subst q;exact ⟨y0,y1⟩,Nat.le_trans (vK _ _ _) hl,O.m1,O.m2,O.m3⟩
 ·rw [j5 (j1 hd S.f1)]
  exact S.X d o hd n
theorem vx {α β:Type}{l:List (α×β)}{n:Nat}{a:α}{u v:β}(nd:(l.map (·.1)).Nodup) (hn:l[n]? = some (a,u)) {x:α×β}(hx:x∈l.set n (a,v)):x=(a,v)\/(x∈l/\x.1≠a):=by
 obtain ⟨i,hi,e⟩:=List.mem_iff_getElem.mp hx
 have hi':i<l.length:=by rw [List.length_set] at hi;exact hi
 obtain ⟨hn1,hn2⟩:=List.getElem?_eq_some_iff.mp hn
 by_cases q:n=i
 ·subst q
  rw [List.getElem_set_self] at e
  exact .inl e.symm
 ·rw [List.getElem_set_ne q] at e
  refine .inr ⟨e ▸ List.getElem_mem hi',fun z=>q ?_⟩
  have h1:(l.map (·.1))[n]'(by rw [List.length_map];exact hn1)=(l.map (·.1))[i]'(by rw [List.length_map];exact hi'):=by
   rw [List.getElem_map,List.getElem_map,hn2,e,z]
  rcases Nat.lt_trichotomy n i with g | g | g
  ·exact absurd h1 (List.pairwise_iff_getElem.mp nd n i _ _ g)
  ·exact g
  ·exact absurd h1.symm (List.pairwise_iff_getElem.mp nd i n _ _ g)
theorem QU {α β:Type}{l:List (α×β)}{n:Nat}{a:α}{u v:β}(hn:l[n]? = some (a,u)):(l.set n (a,v)).map (·.1)=l.map (·.1):=by
 obtain ⟨hn1,hn2⟩:=List.getElem?_eq_some_iff.mp hn
 rw [List.map_set]
 refine List.ext_getElem? fun i=>?_
 rw [List.getElem?_set]
 by_cases q:n=i
 ·subst q
  rw [if_pos rfl,if_pos (by rw [List.length_map];exact hn1),List.getElem?_map,hn]
  rfl
 ·rw [if_neg q]
theorem ScB.leap {L b:Addr}{H H2:Hp}{sd a:Addr}{c:ScN}{n:Nat}{y m:Int}{ns:List (Int×Int)}(S:ScB L b H H2 sd c) (hn:c.lds[n]? = some (a,ns)) (y0:0<=y) (y1:y<=99) (m0:1<=m) (m1:m<=9) (hl:ns.length+1<=10) :
  ScB L b H (upd H2 a (.dK (qv (ns.map kvI) (.inl y) (.int m)))) sd { c with lds:=c.lds.set n (a,xl ns y m) }:=by
 have e:qv (ns.map kvI) (.inl y) (.int m)=(xl ns y m).map kvI:=wA V.int ns y m
 rw [e]
 have hm:=List.mem_of_getElem? hn
 have ra:=S.r2 _ hm
 have nT:∀ {d:Addr} {o:HO},H2 d=some o->(∀ kvs,o≠.dK kvs)->(upd H2 a (.dK ((xl ns y m).map kvI))) d=some o:=fun h n=>by rw [j5 (jk h ra (n _))];exact h
 have sdn:sd≠a:=(Xq (f:=V.int) S.S.sd (S.S.ld _ hm)).symm
 have hb:∃ xs,H2 b=some (.lst xs):=by
  obtain ⟨_,_,_,_,_,hb,_⟩:=S.B
  exact ⟨_,hb⟩
 obtain ⟨_,hb⟩:=hb
 have hL:∃ xs,H2 L=some (.lst xs):=by
  obtain ⟨_,_,_,_,_,_,_,hL,_⟩:=S.B
  exact ⟨_,hL⟩
 obtain ⟨_,hL⟩:=hL
 have fs:=QU (v:=xl ns y m) hn
 have fs2:(c.lds.set n (a,xl ns y m)).map (fun x=>V.ref x.1)=c.lds.map fun x=>V.ref x.1:=by
  have:=congrArg (List.map V.ref) fs
  rw [List.map_map,List.map_map] at this
  exact this
 have sg:c.sg≠a:=(S.O.ns _ hm).symm
 have r2:∀ x∈c.lds.set n (a,xl ns y m),(upd H2 a (.dK ((xl ns y m).map kvI))) x.1=some (.dK (x.2.map kvI)):=fun x hx=>by
  rcases vx S.O.nd hn hx with z | ⟨z,w⟩
  ·subst z
   exact j4
  ·rw [j5 w]
   exact S.r2 x z
 have mem:∀ x∈c.lds.set n (a,xl ns y m),∃ x'∈c.lds,x'.1=x.1:=fun x hx=>by
  have:x.1∈(c.lds.set n (a,xl ns y m)).map (·.1):=List.mem_map_of_mem hx
  rw [fs] at this
  exact List.mem_map.mp this
 have O:=S.O
 refine ⟨⟨by rw [j5 sdn];exact S.S.sd,nT S.S.p (by walk_at "w"),S.S.rv.keep fun _ _ h=>nT h (by walk_at "w"),nT S.S.q (by walk_at "w"),S.S.r3.imp fun _ _ h=>nT h (by walk_at "w"),nT S.S.gl (by walk_at "w"),pmM S.S.gi fun v hv w ⟨a,ea,q⟩=>⟨a,ea,nT q (by walk_at "w")⟩,?_,.inl (by show upd _ _ _ c.sg=_;rw [j5 sg];exact S.r1),fun z hz=>?_,fun x hx=>.inl (r2 x hx)⟩,⟨O.gr,O.l1,O.l8,O.t1,O.t2,O.tg,O.ro,?_,?_,?_,O.pb,O.qb,O.gb,O.lb,O.zb,O.k1,O.k2,O.k3,?_,?_,?_⟩,(by show upd _ _ _ c.sg=_;rw [j5 sg];exact S.r1),r2,S.B.put (jk ra hb (by walk_at "z")) (jk ra hL (by walk_at "z")),fun d o hd n=>?_,S.f1,?_⟩
 ·show _=some (HO.lst ((c.lds.set n (a,xl ns y m)).map fun x=>V.ref x.1))
  rw [fs2]
  exact nT S.S.ll (by walk_at "w")
 ·obtain ⟨u,hu,g⟩:=S.S.sk _ hz
  exact ⟨u,nT hu (by walk_at "w"),g⟩
 ·show (c.lds.set n (a,xl ns y m)).length=_
  rw [List.length_set]
  exact O.ldl
 ·show ((c.lds.set n (a,xl ns y m)).map (·.1)).Nodup
  rw [fs]
  exact O.nd
 ·intro x hx
  obtain ⟨x',h1,h2⟩:=mem x hx
  rw [<- h2]
  exact O.ns x' h1
 ·intro x hx
  rcases vx S.O.nd hn hx with z | ⟨z,w⟩
  ·subst z;exact wL (O.m1 _ hm)
  ·exact O.m1 x z
 ·intro x hx
  rcases vx S.O.nd hn hx with z | ⟨z,w⟩
  ·subst z
   intro u hu
   rcases uN hu with q | q
   ·exact O.m2 _ hm u q
   ·subst q;exact ⟨y0,y1,m0,m1⟩
  ·exact O.m2 x z
 ·intro x hx
  rcases vx S.O.nd hn hx with z | ⟨z,w⟩
  ·subst z;exact Nat.le_trans (vK _ _ _) hl
  ·exact O.m3 x z
 ·rw [j5 (j1 hd (S.f2 _ hm))]
  exact S.X d o hd n
 ·intro x hx
  obtain ⟨x',h1,h2⟩:=mem x hx
  rw [<- h2]
  exact S.f2 x' h1
theorem put4 {p q sg gl:Addr}:qv (qM [] [(.inr "reaches",.ref p),(.inr "rows",.ref q),(.inr "single",.ref sg)]) (.inr "grounds") (.ref gl)=[((.inr "reaches",.ref p):Key×V),(.inr "rows",.ref q),(.inr "single",.ref sg),(.inr "grounds",.ref gl)]:=by
 have e1:(qv [] (.inr "reaches") (.ref p):List (Key×V))=[(.inr "reaches",.ref p)]:=yh _ yf
 have e2:qv [((.inr "reaches",.ref p):Key×V)] (.inr "rows") (.ref q)=[(.inr "reaches",.ref p),(.inr "rows",.ref q)]:=yh _ ((jt (show (Sum.inr (Str.ofString "reaches"):Key)≠Sum.inr (Str.ofString "rows") by decide +kernel)).trans yf)
 have e3:qv [((.inr "reaches",.ref p):Key×V),(.inr "rows",.ref q)] (.inr "single") (.ref sg)=[(.inr "reaches",.ref p),(.inr "rows",.ref q),(.inr "single",.ref sg)]:=yh _ ((jt (show (Sum.inr (Str.ofString "reaches"):Key)≠Sum.inr (Str.ofString "single") by decide +kernel)).trans ((jt (show (Sum.inr (Str.ofString "rows"):Key)≠Sum.inr (Str.ofString "single") by decide +kernel)).trans yf))
 have e4:qv [((.inr "reaches",.ref p):Key×V),(.inr "rows",.ref q),(.inr "single",.ref sg)] (.inr "grounds") (.ref gl)=[((.inr "reaches",.ref p):Key×V),(.inr "rows",.ref q),(.inr "single",.ref sg),(.inr "grounds",.ref gl)]:=yh _ ((jt (show (Sum.inr (Str.ofString "reaches"):Key)≠Sum.inr (Str.ofString "grounds") by decide +kernel)).trans ((jt (show (Sum.inr (Str.ofString "rows"):Key)≠Sum.inr (Str.ofString "grounds") by decide +kernel)).trans ((jt (show (Sum.inr (Str.ofString "single"):Key)≠Sum.inr (Str.ofString "grounds") by decide +kernel)).trans yf)))
 have e:qM [] [((.inr "reaches",.ref p):Key×V),(.inr "rows",.ref q),(.inr "single",.ref sg)]=[(.inr "reaches",.ref p),(.inr "rows",.ref q),(.inr "single",.ref sg)]:=by
  show qv (qv (qv ([]:List (Key×V)) (.inr "reaches") (.ref p)) (.inr "rows") (.ref q)) (.inr "single") (.ref sg)=_
  rw [e1,e2,e3]
 rw [e,e4]
theorem put5 {p q sg gl ll:Addr}:qv [((.inr "reaches",.ref p):Key×V),(.inr "rows",.ref q),(.inr "single",.ref sg),(.inr "grounds",.ref gl)] (.inr "leaps") (.ref ll)=scK p q sg gl ll :=
 yh _ ((jt (show (Sum.inr (Str.ofString "reaches"):Key)≠Sum.inr (Str.ofString "leaps") by decide +kernel)).trans ((jt (show (Sum.inr (Str.ofString "rows"):Key)≠Sum.inr (Str.ofString "leaps") by decide +kernel)).trans ((jt (show (Sum.inr (Str.ofString "single"):Key)≠Sum.inr (Str.ofString "leaps") by decide +kernel)).trans ((jt (show (Sum.inr (Str.ofString "grounds"):Key)≠Sum.inr (Str.ofString "leaps") by decide +kernel)).trans yf))))
theorem JI (p q sg gl:Addr):qo [((.inr "reaches",.ref p):Key×V),(.inr "rows",.ref q),(.inr "single",.ref sg),(.inr "grounds",.ref gl)] (.inr "grounds")=some (.ref gl):=(jt (show (Sum.inr (Str.ofString "reaches"):Key)≠Sum.inr (Str.ofString "grounds") by decide +kernel)).trans ((jt (show (Sum.inr (Str.ofString "rows"):Key)≠Sum.inr (Str.ofString "grounds") by decide +kernel)).trans ((jt (show (Sum.inr (Str.ofString "single"):Key)≠Sum.inr (Str.ofString "grounds") by decide +kernel)).trans x3))
theorem Xg {rs:List Rch}(G:Grown rs):∀ r∈rs,r.2.length<=12:=fun r hr=>by
 obtain ⟨i,hi,e⟩:=List.mem_iff_getElem.mp hr
 have:=gH G.ok (List.getElem?_eq_getElem hi)
 rw [e] at this
 unfold okR at this
 rw [Bool.and_eq_true,Bool.and_eq_true] at this
 have:=of_decide_eq_true this.1.2
 omega
theorem V2 {v:Int}(a:0<=v) (b:v<3):∃ n,atI [V.int 1,V.int 4,V.int 9] v=some (V.int n)/\0<n/\n<=9:=by
 have h:v=0\/v=1\/v=2:=by omega
 rcases h with rfl | rfl | rfl
 ·exact ⟨1,rfl,by omega,by omega⟩
 ·exact ⟨4,rfl,by omega,by omega⟩
 ·exact ⟨9,rfl,by omega,by omega⟩
theorem V0 {v:Int}(a:0<=v) (b:v<3):∃ n,atI [V.int 1,V.int 3,V.int 7] v=some (V.int n)/\0<n/\n<=7:=by
 have h:v=0\/v=1\/v=2:=by omega
 rcases h with rfl | rfl | rfl
 ·exact ⟨1,rfl,by omega,by omega⟩
 ·exact ⟨3,rfl,by omega,by omega⟩
 ·exact ⟨7,rfl,by omega,by omega⟩
theorem Wi {v:Int}(a:0<=v) (b:v<2):∃ n,atI [V.int 2,V.int 9] v=some (V.int n)/\0<n/\n<=9:=by
 have h:v=0\/v=1:=by omega
 rcases h with rfl | rfl
 ·exact ⟨2,rfl,by omega,by omega⟩
 ·exact ⟨9,rfl,by omega,by omega⟩
theorem kN {rs:List Rch}(L:qU rs) (h:1<=rs.length):1<=(jn rs).length:=by
 have:(rs.length-1)∈jn rs:=by
  refine List.mem_filter.mpr ⟨List.mem_range.mpr (by omega),?_⟩
  unfold jE
  rw [decide_eq_false]
  ·rfl
  ·intro z
   have:=Qs L z
   omega
 exact List.length_pos_of_mem this
def Xs:Sp:=fun vs H Q _=>∃ (L b:Addr),vs=[.ref b]/\jS L H b/\∀ sd H' c,jS L H' b->Ext b H H'->ScAt H' sd c->ScOk b c->Q (.ref sd) H'
theorem qE:FnScope ["_law_box_here","_law_reaches_here","_law_scene_here","_law_turn","_law_lane"] ["_law_box_here"] (j6 xx):=by walk_at "s"
theorem ZQ {f:Addr}{fd:FuncData}(nb:Nb2 mg) (c_law_take:Cal P w K mg base 2 "_law_take" ["_law_box_here","_law_size"] xE) (c_law_reaches:Cal P w K mg base 4 "_law_reaches" ["_law_box_here"] uS) (c_law_round:Cal P w K mg base 4 "_law_round" ["_law_box_here"] uz) (c_law_ground:Cal P w K mg base 1 "_law_ground" ["_law_reaches_here","_law_road"] (JD K)) (c_law_roads:Cal P w K mg base 1 "_law_roads" ["_law_reaches_here"] (Jr K)) (c_law_year:Cal P w K mg base 3 "_law_year" ["_law_box_here"] Y0) (c_law_weather:Cal P w K mg base 3 "_law_weather" ["_law_box_here"] vT)
  (F:Fun K "_law_scene" "_law_scene" xx f fd):FnOk P w K mg base CX0 5 f fd ["_law_box_here"] Xs:=by
 refine F.ok qE (fun vs H Q E h=>?_) (fun cdv A outer s H vs Q E hr h=>?_)
 ·obtain ⟨L,b,rfl,_⟩:=h
  rfl
 ·obtain ⟨L,b,rfl,B,k⟩:=h
  refine ⟨_,(j7 (jp (i:=1) qE.nd rfl (Or.inr rfl) (je c_law_reaches (hr.mono (by decide)) rfl (j0 (pv 0) j2)))
   (j7 (jp (i:=2) qE.nd rfl (Or.inl rfl) (Vg (wv jH (pv 1) (wv jH (je c_law_round (hr.mono (by decide)) rfl (j0 (pv 0) j2)) (wv jH ve Yy))) rfl rfl (fun z=>by cases z) (by decide)))
   (j7 (ym (ql hr) (pv 2) jH (jC (osc:=(j6 xx)) (ON:=["_law_box_here","_law_reaches_here","_law_scene_here","_law_turn","_law_lane"]) (N:=["_law_road","_law_reaches_here"]) (own:=1) (caps:=[1]) ⟨rfl,by walk_at "k",by walk_at "k",by walk_at "k",rfl,by walk_at "k"⟩ rfl rfl rfl (jL K (je c_law_roads (hr.mono (by decide)) rfl (j0 (pv 1) j2))) (fun _ _ _ _ _=>(jb (i:=0) (show List.Nodup (["_law_road","_law_reaches_here"]:List Str) by decide +kernel) rfl (Or.inl rfl))) (fun _ _ _ _ _=>jr) (fun _ _ _ _ _=>(je c_law_ground (hr.mono (by decide)) rfl (j0 (pv 1) (j0 (pv 0) j2))))) rfl)
   (vI (ym (ql hr) (pv 2) jH (jC (osc:=(j6 xx)) (ON:=["_law_box_here","_law_reaches_here","_law_scene_here","_law_turn","_law_lane"]) (N:=["_law_ground_here"]) (own:=1) (caps:=[]) ⟨rfl,by walk_at "k",by walk_at "k",by walk_at "k",rfl,by walk_at "k"⟩ rfl rfl rfl (jL K (jR (ql hr) (pv 2) jH (fun _ _=>rfl))) (fun _ _ _ _ _=>(jb (i:=0) (show List.Nodup (["_law_ground_here"]:List Str) by decide +kernel) rfl (Or.inl rfl))) (fun _ _ _ _ _=>jr) (fun _ _ _ _ _=>ve)) rfl)
   (vI (xB PassesOwn.never rfl (jO rfl nb.b_range (j0 (je c_law_take (hr.mono (by decide)) rfl (j0 (pv 0) (j0 (jq (jd K) (jT (j0 j8 (j0 j8 (j0 j8 j2)))) (je c_law_take (hr.mono (by decide)) rfl (j0 (pv 0) (j0 j8 j2))) (fun _ _=>rfl)) j2))) j2)) (jb (i:=3) qE.nd rfl (Or.inl rfl)) (j9 (ym (ql hr) (jR (ql hr) (pv 2) jH (fun _ _=>rfl)) (je c_law_year (hr.mono (by decide)) rfl (j0 (pv 0) j2)) (je c_law_weather (hr.mono (by decide)) rfl (j0 (pv 0) j2)) rfl)))
   (j7 (xB PassesOwn.never rfl (jO rfl nb.b_range (j0 (je c_law_take (hr.mono (by decide)) rfl (j0 (pv 0) (j0 (jq (jd K) (jT (j0 j8 (j0 j8 (j0 j8 j2)))) (je c_law_take (hr.mono (by decide)) rfl (j0 (pv 0) (j0 j8 j2))) (fun _ _=>rfl)) j2))) j2)) (jb (i:=3) qE.nd rfl (Or.inl rfl)) (j7 (jp (i:=4) qE.nd rfl (Or.inl rfl) (je c_law_take (hr.mono (by decide)) rfl (j0 (pv 0) (j0 (jc (jg K) rfl nb.b_len PySem.boot_len (j0 (jR (ql hr) (pv 2) jH (fun _ _=>rfl)) j2)) j2))))
   (j9 (ym (ql hr) (jq (jd K) (jR (ql hr) (pv 2) jH (fun _ _=>rfl)) (pv 4) (fun _ _=>rfl)) (je c_law_year (hr.mono (by decide)) rfl (j0 (pv 0) j2)) (ji jA j8 (je c_law_take (hr.mono (by decide)) rfl (j0 (pv 0) (j0 (jq (jd K) (jT (j0 j8 (j0 j8 j2))) (je c_law_take (hr.mono (by decide)) rfl (j0 (pv 0) (j0 j8 j2))) (fun _ _=>rfl)) j2)))) rfl))))
   (j9 (jj (pv 2))))))))),?_⟩
  left
  refine ⟨L,b,rfl,B,fun p H1 xs rs B1 X1 hp hp1 r1 g1 l1 l8=>?_⟩
  have pb:p≠b:=B.ne hp
  left
  intro sd hsd
  have sdb:sd≠b:=B1.ne hsd
  have sd0:H sd=none:=X1.free hsd sdb
  left
  have Ba:jS L (upd H1 sd (.dK [])) b:=B1.put sdb (B1.neL hsd)
  refine ⟨L,b,rfl,Ba,fun q Hb ys ts Bb Xb hq hqb r3b ht12 htg=>?_⟩
  have qb:q≠b:=Ba.ne hq
  have qsd:q≠sd:=fun z=>by rw [z,j4] at hq;cases hq
  have sdB:Hb sd=some (.dK []):=Xb _ _ j4 sdb
  have pB:Hb p=some (.lst xs):=Xb _ _ (by rw [j5 (j1 hp1 hsd)];exact hp1) pb
  have rB:jK Hb xs rs:=(r1.keep (jo.same (jh.new hsd))).keep (zu Ba Xb)
  have XB:Ext b H Hb:=(X1.trans (Ext.new hsd)).trans Xb
  left
  intro sg hsg
  have sgb:sg≠b:=Bb.ne hsg
  have sg0:H sg=none:=XB.free hsg sgb
  have sgsd:sg≠sd:=(j1 sdB hsg).symm
  left
  refine ⟨by rw [j5 sgsd.symm];exact sdB,[(.inr "reaches",.ref p),(.inr "rows",.ref q),(.inr "single",.ref sg)],rfl,by show 3<=15;decide,?_⟩
  have sC:jh Hb (upd Hb sg (.dK [])):=jh.new hsg
  have nD:∀ {a:Addr} {o:HO},Hb a=some o->a≠sd->(upd (upd Hb sg (.dK [])) sd (.dK (qM [] [(.inr "reaches",.ref p),(.inr "rows",.ref q),(.inr "single",.ref sg)]))) a=some o:=fun h n=>by rw [j5 n];exact sC _ _ h
  have dD:(upd (upd Hb sg (.dK [])) sd (.dK (qM [] [(.inr "reaches",.ref p),(.inr "rows",.ref q),(.inr "single",.ref sg)]))) sd=some (.dK (qM [] [(.inr "reaches",.ref p),(.inr "rows",.ref q),(.inr "single",.ref sg)])):=j4
  have pD:=nD pB (jk pB sdB (by walk_at "z"))
  have rD:jK (upd (upd Hb sg (.dK [])) sd (.dK (qM [] [(.inr "reaches",.ref p),(.inr "rows",.ref q),(.inr "single",.ref sg)]))) xs rs:=rB.keep fun _ _ h=>nD h (jk h sdB (by walk_at "z"))
  have qD:=nD hqb qsd
  have r3D:qz (upd (upd Hb sg (.dK [])) sd (.dK (qM [] [(.inr "reaches",.ref p),(.inr "rows",.ref q),(.inr "single",.ref sg)]))) ys ts:=r3b.imp fun _ _ h=>nD h (jk h sdB (by walk_at "z"))
  have sgD:(upd (upd Hb sg (.dK [])) sd (.dK (qM [] [(.inr "reaches",.ref p),(.inr "rows",.ref q),(.inr "single",.ref sg)]))) sg=some (.dK []):=by rw [j5 sgsd];exact j4
  have BD:jS L (upd (upd Hb sg (.dK [])) sd (.dK (qM [] [(.inr "reaches",.ref p),(.inr "rows",.ref q),(.inr "single",.ref sg)]))) b:=(Bb.same sC).put sdb (B1.neL hsd)
  have XD:Ext b H (upd (upd Hb sg (.dK [])) sd (.dK (qM [] [(.inr "reaches",.ref p),(.inr "rows",.ref q),(.inr "single",.ref sg)]))):=fun c o h n=>nD (XB c o h n) (j1 h sd0)
  clear nD sC hsg sdB pB rB XB hqb r3b Bb Xb hq Ba
  generalize (upd (upd Hb sg (.dK [])) sd (.dK (qM [] [(.inr "reaches",.ref p),(.inr "rows",.ref q),(.inr "single",.ref sg)])))=Hd at *
  have Ld:=jP g1.ok
  left
  refine ⟨p,xs,rs,rfl,pD,rD,Ld,by omega,fun l He out ws hl hle w1 hR s1=>?_⟩
  left
  refine ⟨⟨_,SqL.of hle⟩,fun gl hgl=>?_⟩
  have hlw:out.length=ws.length:=Paired.length w1
  have hws:ws.length<=6:=by rw [hR.length];exact g1.heads
  have h100:∀ r∈rs,r.2.length<=100:=fun r hr=>Nat.le_trans (Xg g1 r hr) (by decide)
  have BE:=BD.same s1
  have glb:gl≠b:=BE.ne hgl
  refine jI (K:=K) (a:=l) (xs:=out) (acc:=gl) (fun i σ H2=>∃ (x:Option V) (zs:List V),σ=[x,some (.ref p)]/\H2 gl=some (.lst zs)/\zs.length=i/\Paired (fun v (w:List Int)=>∃ a,v=V.ref a/\H2 a=some (.lst (w.map V.int))/\He a=none/\a≠gl) zs ((ws.take i).map (jf rs))/\Ext gl He H2) ?_ ?_ ?_ ?_
  ·exact ⟨none,[],rfl,j4,rfl,.nil,Ext.put⟩
  ·rintro i σ H2 hi ⟨x,zs,rfl,h2,hz,r2,e2⟩
   exact SqL.of (e2 _ _ hle (j1 hle hgl))
  ·rintro i v σ H2 hv ⟨x,zs,rfl,h2,hz,r2,e2⟩
   obtain ⟨wy,hwy,a,rfl,ha1⟩:=Paired.get w1 hv
   have hi:=(List.getElem?_eq_some_iff.mp hwy).1
   obtain ⟨x',hx',ewy⟩:=hR.mem (List.mem_of_getElem? hwy)
   have ha2:=e2 _ _ ha1 (j1 ha1 hgl)
   have hr1:=s1 _ _ pD
   have hl':=vN Ld x' (qY hx')
   have:=qY hx'
   left
   refine ⟨p,a,xs,rs,wy,rfl,e2 _ _ hr1 (j1 hr1 hgl),(rD.keep (jo.same s1)).keep (jo.new e2 hgl),h100,ha2,by rw [ewy];exact xA Ld x' (qY hx'),by rw [ewy];omega,fun t H3 ht ht3 s3=>?_⟩
   have ta:t≠gl:=(j1 h2 ht).symm
   refine ⟨zs,s3 _ _ h2,ja (by omega),some (.ref a),zs++[.ref t],rfl,j4,by rw [List.length_append,hz];rfl,?_,fun c o hc n=>by rw [j5 n];exact s3 _ _ (e2 c o hc n)⟩
   rw [qi (jf rs) ws i wy hwy]
   exact Paired.snoc (Paired.mapP r2 fun v wy ⟨a,e,ha,h0,na⟩=>⟨a,e,by rw [j5 na];exact s3 _ _ ha,h0,na⟩) ⟨t,rfl,by rw [j5 ta];exact ht3,e2.free ht ta,ta⟩
  rintro σ H2 ⟨x,zs,rfl,h2,hz,r2,e2⟩
  rw [hlw,List.take_length] at r2
  have gi2:zV H2 zs (ws.map (jf rs)):=Paired.mapP r2 fun v wy ⟨a,e,ha,h0,na⟩=>⟨a,e,ha⟩
  have zb:V.ref b∉zs:=fun z=>by
   obtain ⟨_,a,e,_,h0,_⟩:=pm r2 _ z
   cases e
   exact absurd rfl (BE.ne h0)
  have s2:jh Hd H2:=fun c o hc=>e2 _ _ (s1 _ _ hc) (j1 (s1 _ _ hc) hgl)
  have gl0:Hd gl=none:=s1.free hgl
  left
  refine ⟨sd,_,rfl,wV.k (k:=.inr "grounds") (s2 _ _ dD) (ja (Nat.le_trans (zm _ _) (by show 0+3<=1000;decide))),?_⟩
  rw [put4]
  have nF:∀ {a:Addr} {o:HO},H2 a=some o->(∀ kvs,o≠.dK kvs)->(upd H2 sd (.dK [((.inr "reaches",.ref p):Key×V),(.inr "rows",.ref q),(.inr "single",.ref sg),(.inr "grounds",.ref gl)])) a=some o:=fun h n=>by rw [j5 (jk h (s2 _ _ dD) (n _))];exact h
  have dF:(upd H2 sd (.dK [((.inr "reaches",.ref p):Key×V),(.inr "rows",.ref q),(.inr "single",.ref sg),(.inr "grounds",.ref gl)])) sd=some (.dK [((.inr "reaches",.ref p):Key×V),(.inr "rows",.ref q),(.inr "single",.ref sg),(.inr "grounds",.ref gl)]):=j4
  have pF:=nF (s2 _ _ pD) (by walk_at "w")
  have qF:=nF (s2 _ _ qD) (by walk_at "w")
  have rF:jK (upd H2 sd (.dK [((.inr "reaches",.ref p):Key×V),(.inr "rows",.ref q),(.inr "single",.ref sg),(.inr "grounds",.ref gl)])) xs rs:=rD.keep fun _ _ h=>nF (s2 _ _ h) (by walk_at "w")
  have r3F:qz (upd H2 sd (.dK [((.inr "reaches",.ref p):Key×V),(.inr "rows",.ref q),(.inr "single",.ref sg),(.inr "grounds",.ref gl)])) ys ts:=r3D.imp fun _ _ h=>nF (s2 _ _ h) (by walk_at "w")
  have gF:=nF h2 (by walk_at "w")
  have giF:zV (upd H2 sd (.dK [((.inr "reaches",.ref p):Key×V),(.inr "rows",.ref q),(.inr "single",.ref sg),(.inr "grounds",.ref gl)])) zs (ws.map (jf rs)):=Paired.mapP gi2 fun v wy ⟨a,e,ha⟩=>⟨a,e,nF ha (by walk_at "w")⟩
  have sgF:(upd H2 sd (.dK [((.inr "reaches",.ref p):Key×V),(.inr "rows",.ref q),(.inr "single",.ref sg),(.inr "grounds",.ref gl)])) sg=some (.dK []):=by rw [j5 sgsd];exact s2 _ _ sgD
  have BF:jS L (upd H2 sd (.dK [((.inr "reaches",.ref p):Key×V),(.inr "rows",.ref q),(.inr "single",.ref sg),(.inr "grounds",.ref gl)])) b:=(BD.same s2).put sdb (B1.neL hsd)
  have XF:Ext b H (upd H2 sd (.dK [((.inr "reaches",.ref p):Key×V),(.inr "rows",.ref q),(.inr "single",.ref sg),(.inr "grounds",.ref gl)])):=fun c o h n=>by rw [j5 (j1 h sd0)];exact s2 _ _ (XD c o h n)
  clear nF gi2 s2 h2 r2 e2 BE hgl s1 w1 hle hl pD rD qD r3D sgD BD XD dD h100
  generalize (upd H2 sd (.dK [((.inr "reaches",.ref p):Key×V),(.inr "rows",.ref q),(.inr "single",.ref sg),(.inr "grounds",.ref gl)]))=Hf at *
  have hzw:zs.length<=6:=by omega
  refine ⟨fun σ H5=>∃ c,σ=[some (.ref b),some (.ref p),some (.ref sd),none,none]/\ScB L b H H5 sd c/\c.sk=[]/\∀ x∈c.lds,x.2=[],?_,?_⟩
  ·left
   refine ⟨sd,.ref gl,rfl,by rw [<- JI p q sg gl];exact xh.k (k:=.inr "grounds") dF,?_⟩
   left
   refine ⟨⟨_,SqL.of gF⟩,fun le hle=>?_⟩
   have leb:le≠b:=BF.ne hle
   refine jI (K:=K) (a:=gl) (xs:=zs) (acc:=le) (fun i σ He=>∃ (x:Option V) (lds:List (Addr×List (Int×Int))),σ=[x]/\He le=some (.lst (lds.map fun x=>V.ref x.1))/\lds.length=i/\(∀ x∈lds,He x.1=some (.dK [])/\x.2=[]/\Hf x.1=none/\x.1≠le)/\(lds.map (·.1)).Nodup/\Ext le Hf He) ?_ ?_ ?_ ?_
   ·exact ⟨none,[],rfl,j4,rfl,(fun x z=>by cases z),List.nodup_nil,Ext.put⟩
   ·rintro i σ He hi ⟨x,lds,rfl,he,hl,hd,nn,e⟩
    exact SqL.of (e _ _ gF (j1 gF hle))
   ·rintro i v σ He hv ⟨x,lds,rfl,he,hl,hd,nn,e⟩
    have hi:=(List.getElem?_eq_some_iff.mp hv).1
    left
    intro d hd0
    have dl:d≠le:=(j1 he hd0).symm
    refine ⟨_,(by rw [j5 (Ne.symm dl)];exact he),by rw [List.length_map];exact ja (by omega),some v,lds++[(d,[])],rfl,(by rw [j4,List.map_append];rfl),(by rw [List.length_append,hl];rfl),fun y hy=>?_,?_,fun c o hc n=>?_⟩
    ·rcases List.mem_append.mp hy with z | z
     ·obtain ⟨h1,h2,h3,h4⟩:=hd y z
      exact ⟨by rw [j5 h4,j5 (j1 h1 hd0)];exact h1,h2,h3,h4⟩
     ·obtain rfl:y=(d,[]):=by simpa using z
      exact ⟨by rw [j5 dl];exact j4,rfl,e.free hd0 dl,dl⟩
    ·rw [List.map_append]
     refine uG nn fun z=>?_
     obtain ⟨y,hy,ey⟩:=List.mem_map.mp z
     have:=(hd y hy).1
     rw [ey,hd0] at this
     cases this
    ·rw [j5 n,j5 (j1 (e c o hc n) hd0)]
     exact e c o hc n
   ·rintro σ He ⟨x,lds,rfl,he,hl,hd,nn,e⟩
    have sE:jh Hf He:=fun c o h=>e c o h (j1 h hle)
    left
    refine ⟨sd,_,rfl,wV.k (k:=.inr "leaps") (sE _ _ dF) (by show 4<sizeLine;decide),?_⟩
    rw [put5]
    have nG:∀ {a:Addr} {o:HO},He a=some o->(∀ kvs,o≠.dK kvs)->(upd He sd (.dK (scK p q sg gl le))) a=some o:=fun h n=>by rw [j5 (jk h (sE _ _ dF) (n _))];exact h
    have lG:∀ x∈lds,(upd He sd (.dK (scK p q sg gl le))) x.1=some (.dK (x.2.map kvI)):=fun x hx=>by
     obtain ⟨h1,h2,h3,h4⟩:=hd x hx
     rw [j5 (j1 dF h3).symm,h2]
     exact h1
    have sgG:(upd He sd (.dK (scK p q sg gl le))) sg=some (.dK []):=by rw [j5 sgsd];exact sE _ _ sgF
    refine ⟨⟨p,q,sg,gl,le,xs,ys,zs,rs,ts,ws,[],lds⟩,rfl,⟨⟨j4,nG (sE _ _ pF) (by walk_at "w"),rF.keep fun _ _ h=>nG (sE _ _ h) (by walk_at "w"),nG (sE _ _ qF) (by walk_at "w"),r3F.imp fun _ _ h=>nG (sE _ _ h) (by walk_at "w"),nG (sE _ _ gF) (by walk_at "w"),Paired.mapP giF fun v wy ⟨a,e,ha⟩=>⟨a,e,nG (sE _ _ ha) (by walk_at "w")⟩,nG he (by walk_at "w"),.inl sgG,(fun z hz=>by cases hz),fun x hx=>.inl (lG x hx)⟩,
     ⟨g1,l1,l8,ht12.1,ht12.2,htg,hR,hl.trans (hz.trans hlw),nn,fun x hx=>(j1 sgF (hd x hx).2.2.1).symm,pb,qb,glb,leb,zb,List.nodup_nil,(fun z hz=>by cases hz),Nat.zero_le _,(fun x hx=>by rw [(hd x hx).2.1];exact List.nodup_nil),(fun x hx=>by rw [(hd x hx).2.1];intro z hz;cases hz),(fun x hx=>by rw [(hd x hx).2.1];exact Nat.zero_le _)⟩,sgG,lG,(BF.same sE).put sdb (B1.neL hsd),fun c o h n=>?_,sg0,fun x hx=>?_⟩,rfl,fun x hx=>(hd x hx).2.1⟩
    ·rw [j5 (j1 h sd0)]
     exact sE _ _ (XF c o h n)
    ·exact XF.free (hd x hx).2.2.1 (BF.ne (hd x hx).2.2.1)
  rintro σ H5 ⟨c,rfl,S5,k5,l5⟩
  clear dF pF qF rF r3F gF giF sgF BF XF zb hlw hws hz hzw
  refine ⟨fun σ H6=>∃ (x:Option V) (c:ScN),σ=[some (.ref b),some (.ref p),some (.ref sd),x,none]/\ScB L b H H6 sd c/\∀ x∈c.lds,x.2=[],?_,?_⟩
  ·left
   refine ⟨by show 3<=sizeLine;decide,fun l6 H6 hl6 hl66 s6=>?_⟩
   have S6:=S5.same s6
   have l6b:l6≠b:=S5.B.ne hl6
   left
   refine ⟨L,b,_,rfl,S6.B,⟨by decide,by decide⟩,fun v7 H7 p7 q7 B7 X7=>?_⟩
   have S7:=S6.take B7 X7
   obtain ⟨n,hn,n0,n1⟩:=V2 p7 q7
   refine ⟨_,_,_,_,rfl,rfl,SqL.of (X7 _ _ hl66 l6b),hn,?_⟩
   left
   refine ⟨L,b,_,rfl,S7.B,⟨n0,by omega⟩,fun v8 H8 p8 q8 B8 X8=>?_⟩
   have S8:=S7.take B8 X8
   left
   refine ⟨by omega,by omega,?_⟩
   refine xI (fun i σ H2=>∃ (x:Option V) (c:ScN),σ=[some (.ref b),some (.ref p),some (.ref sd),x,none]/\ScB L b H H2 sd c/\c.sk.length<=i/\∀ x∈c.lds,x.2=[]) ?_ ?_ ?_
   ·exact ⟨none,c,rfl,S8,by rw [k5];exact Nat.le_refl _,l5⟩
   ·rintro i σ H2 hi ⟨x,c,rfl,S,hk,hl⟩
    left
    refine ⟨L,b,rfl,S.B,fun t H9 r B9 X9 ht hg=>?_⟩
    have S9:=S.take B9 X9
    left
    refine ⟨sd,.ref c.sg,rfl,by rw [<- yq c.p c.q c.sg c.gl c.ll];exact xh.k (k:=.inr "single") S9.S.sd,?_⟩
    left
    refine ⟨L,b,rfl,S9.B,fun y H10 y0 y1 B10 X10=>?_⟩
    have S10:=S9.take B10 X10
    refine ⟨c.sg,_,rfl,wV.k (k:=.inl y) S10.r1 (by rw [List.length_map];exact ja (by have:=S10.O.k3;omega)),?_⟩
    exact ⟨_,{ c with sk:=xl c.sk y t },rfl,S10.single y0 y1 (X10 _ _ ht (S9.B.ne_tup ht)) hg (by omega),Nat.le_trans (vK _ _ _) (by omega),hl⟩
   ·rintro σ H2 ⟨x,c,rfl,S,hk,hl⟩
    exact ⟨x,c,rfl,S,hl⟩
  clear S5 k5 l5
  rintro σ H6 ⟨x,c,rfl,S6,l6⟩
  left
  refine ⟨by show 3<=sizeLine;decide,fun l7 H7 hl7 hl77 s7=>?_⟩
  have S7:=S6.same s7
  have l7b:l7≠b:=S6.B.ne hl7
  left
  refine ⟨L,b,_,rfl,S7.B,⟨by decide,by decide⟩,fun v8 H8 p8 q8 B8 X8=>?_⟩
  have S8:=S7.take B8 X8
  obtain ⟨n,hn,n0,n1⟩:=V0 p8 q8
  refine ⟨_,_,_,_,rfl,rfl,SqL.of (X8 _ _ hl77 l7b),hn,?_⟩
  left
  refine ⟨L,b,_,rfl,S8.B,⟨n0,by omega⟩,fun v9 H9 p9 q9 B9 X9=>?_⟩
  have S9:=S8.take B9 X9
  left
  refine ⟨by omega,by omega,?_⟩
  refine xI (fun i σ H2=>∃ (x y:Option V) (c:ScN),σ=[some (.ref b),some (.ref p),some (.ref sd),x,y]/\ScB L b H H2 sd c/\∀ x∈c.lds,x.2.length<=i) ?_ ?_ ?_
  ·exact ⟨x,none,c,rfl,S9,fun x hx=>by rw [l6 x hx];exact Nat.le_refl _⟩
  ·rintro i σ H2 hi ⟨x,y',c,rfl,S,hl⟩
   have hw1:1<=c.ws.length:=by
    rw [S.O.ro.length]
    exact kN (jP S.O.gr.ok) S.O.l1
   have hzl:c.zs.length=c.ws.length:=(Paired.length S.S.gi).trans (List.length_map _)
   have hw6:c.ws.length<=6:=by rw [S.O.ro.length];exact S.O.gr.heads
   left
   refine ⟨sd,.ref c.gl,rfl,by rw [<- zO c.p c.q c.sg c.gl c.ll];exact xh.k (k:=.inr "grounds") S.S.sd,?_⟩
   left
   refine ⟨c.gl,_,rfl,.inl (SqL.of S.S.gl),?_⟩
   left
   refine ⟨L,b,_,rfl,S.B,⟨by omega,by omega⟩,fun ln H10 ln0 ln1 B10 X10=>?_⟩
   have S10:=S.take B10 X10
   left
   refine ⟨by show 2<=sizeLine;decide,fun l11 H11 hl11 hl11' s11=>?_⟩
   have S11:=S10.same s11
   have l11b:l11≠b:=S10.B.ne hl11
   left
   refine ⟨L,b,_,rfl,S11.B,⟨by decide,by decide⟩,fun v12 H12 p12 q12 B12 X12=>?_⟩
   have S12:=S11.take B12 X12
   obtain ⟨n,hn,n0,n1⟩:=Wi p12 q12
   refine ⟨_,_,_,_,rfl,rfl,SqL.of (X12 _ _ hl11' l11b),hn,?_⟩
   left
   refine ⟨L,b,_,rfl,S12.B,⟨n0,by omega⟩,fun v13 H13 p13 q13 B13 X13=>?_⟩
   have S13:=S12.take B13 X13
   left
   have hll:ln.toNat<c.lds.length:=by rw [S.O.ldl];omega
   obtain ⟨⟨a,ns⟩,ha⟩:∃ z,c.lds[ln.toNat]? = some z:=⟨_,List.getElem?_eq_getElem hll⟩
   refine ⟨sd,.ref c.ll,rfl,by rw [<- wE c.p c.q c.sg c.gl c.ll];exact xh.k (k:=.inr "leaps") S13.S.sd,?_⟩
   left
   refine ⟨_,_,_,_,rfl,rfl,SqL.of S13.S.ll,xk ln0 (v:=V.ref a) (by rw [List.getElem?_map,ha];rfl),?_⟩
   left
   refine ⟨L,b,rfl,S13.B,fun y H14 y0 y1 B14 X14=>?_⟩
   have S14:=S13.take B14 X14
   have hns:=hl _ (List.mem_of_getElem? ha)
   refine ⟨a,_,rfl,wV.k (k:=.inl y) (S14.r2 _ (List.mem_of_getElem? ha)) (by rw [List.length_map];exact ja (by have:ns.length<=i:=hns;omega)),?_⟩
   have hns:ns.length<=i:=hns
   refine ⟨_,_,{ c with lds:=c.lds.set ln.toNat (a,xl ns y (1+v13)) },rfl,S14.leap ha y0 y1 (by omega) (by omega) (by omega),fun x hx=>?_⟩
   rcases vx S.O.nd ha hx with z | ⟨z,_⟩
   ·subst z
    exact Nat.le_trans (vK _ _ _) (by omega)
   ·exact Nat.le_succ_of_le (hl x z)
  ·rintro σ H2 ⟨x,y',c,rfl,S,hl⟩
   left
   exact k sd H2 c S.B S.X S.S S.O
end
section
variable {P:Program}{w:World}{K:PySem.W.Frag}{mg:Str->Option Value}{base:Heap}
theorem IceNew.made {C Pt p dx:Addr}{H H':Hp}{g:IceG}{o o':HO}(hp:H p=none) (hd:H dx=none) (I:IceNew C Pt (upd (upd H dx o) p o') H' p g):IceNew C Pt H H' p g:=by
 have s:jh H (upd (upd H dx o) p o'):=fun c u h=>by rw [j5 (j1 h hp),j5 (j1 h hd)];exact h
 exact ⟨I.at_,fun c u h n m=>I.keep c u (s c u h) n m,s.free I.va,s.free I.cy,s.free I.sl,s.free I.ye,s.free I.le,fun a z=>s.free (I.zs a z),I.kvs,fun x hx=>⟨s.free (I.lds x hx).1,(I.lds x hx).2⟩,I.ll,I.nd,I.ny,I.sl2⟩
structure IceFr (H:Hp) (p:Addr) (g:IceG):Prop where
 p:H p=none
 va:H g.va=none
 cy:H g.cy=none
 sl:H g.sl=none
 ye:H g.ye=none
 le:H g.le=none
 zs:∀ a,V.ref a∈g.zs->H a=none
 lds:∀ x∈g.lds,H x.1=none
theorem IceAt.stay {C p:Addr}{H H2 H3:Hp}{g:IceG}(I:IceAt C H2 p g) (F:IceFr H p g) (f:∀ a o,H2 a=some o->H a=none->H3 a=some o) (t:jo H2 H3):IceAt C H3 p g :=
 ⟨f _ _ I.ob F.p,f _ _ I.va F.va,I.rs.keep t,f _ _ I.cy F.cy,I.rows.imp fun _ _ q=>t _ _ q,f _ _ I.sl F.sl,pmM I.slopes fun v hv w ⟨a,ea,q⟩=>⟨a,ea,f _ _ q (F.zs a (ea ▸ hv))⟩,f _ _ I.ye F.ye,f _ _ I.le F.le,fun x hx=>f _ _ (I.lds x hx) (F.lds x hx)⟩
theorem Fr3.ext {N M:Addr->Prop}{H H2 H3:Hp}{a:Addr}(f:Fr3 N M H H2) (e:Ext a H2 H3) (ha:H a=none):Fr3 N M H H3:=fun c o h n=>by
 have ca:c≠a:=j1 h ha
 rcases f c o h n with q | ⟨m,ob,kvs,eo,q⟩
 ·exact .inl (e _ _ q ca)
 ·exact .inr ⟨m,ob,kvs,eo,e _ _ q ca⟩
theorem Fr3.same {N M:Addr->Prop}{H H2 H3:Hp}(f:Fr3 N M H H2) (e:jh H2 H3):Fr3 N M H H3:=fun c o h n=>by
 rcases f c o h n with q | ⟨m,ob,kvs,eo,q⟩
 ·exact .inl (e _ _ q)
 ·exact .inr ⟨m,ob,kvs,eo,e _ _ q⟩
theorem Fr3.frz {N M:Addr->Prop}{H H2:Hp}{a:Addr}{ob:Obj}{kvs:List (Key×V)}(f:Fr3 N M H H2) (h:H2 a=some (.dK kvs)) (m:M a):Fr3 N M H (upd H2 a (.frz ob (.dK kvs))):=fun c o hc n=>by
 by_cases e:c=a
 ·subst e
  rcases f c o hc n with q | ⟨_,ob',kvs',eo,q⟩
  ·rw [h] at q
   cases q
   exact .inr ⟨m,ob,kvs,rfl,j4⟩
  ·rw [h] at q
   cases q
 ·rw [j5 e]
  exact f c o hc n
theorem Z7 {H:Hp}{a:Addr}{ob:Obj}{kvs:List (Key×V)}(h:H a=some (.dK kvs)):jo H (upd H a (.frz ob (.dK kvs))):=fun c xs q=>by rw [j5 (jk q h (by walk_at "z"))];exact q
theorem Va {H:Hp}{a Pt:Addr}{ob:Obj}{kvs:List (Key×V)}(T:qm H Pt) (h:H a=some (.dK kvs)):qm (upd H a (.frz ob (.dK kvs))) Pt:=by
 rcases T with q | ⟨c,q,q'⟩
 ·exact .inl (by rw [j5 (jk q h (by walk_at "z"))];exact q)
 ·exact .inr ⟨c,by rw [j5 (jk q h (by walk_at "z"))];exact q,by rw [j5 (jk q' h (by walk_at "z"))];exact q'⟩
theorem JB {H H':Hp}{a Pt:Addr}{kvs:List (Key×V)}(T:qm H Pt) (h:H a=some (.dK kvs)) (e:Ext a H H'):qm H' Pt:=by
 rcases T with q | ⟨c,q,q'⟩
 ·exact .inl (e _ _ q (jk q h (by walk_at "z")))
 ·exact .inr ⟨c,e _ _ q (jk q h (by walk_at "z")),e _ _ q' (jk q' h (by walk_at "z"))⟩
theorem VP {ns:List (Int×Addr)}{i:Nat}{q:Key×V}(h:(ns.map kvA)[i]? = some q):∃ z,ns[i]? = some z/\q=kvA z:=by
 rw [List.getElem?_map] at h
 cases e:ns[i]? with
 | none=>rw [e] at h;cases h
 | some z=>rw [e] at h;cases h;exact ⟨z,rfl,rfl⟩
theorem kE:∀ {ns:List (Int×Addr)},(ns.map (·.1)).Nodup->∀ {z:Int×Addr},z∈ns->qo (ns.map kvA) (.inl z.1)=some (.ref z.2)
 | [],_,z,h=>by cases h
 | q::r,nd,z,h=>by
  rw [List.map_cons] at nd
  obtain ⟨h1,h2⟩:=List.nodup_cons.mp nd
  rw [List.map_cons]
  rcases List.mem_cons.mp h with e | e
  ·subst e
   exact x3
  ·have ne:¬ q.1=z.1:=fun w=>h1 (by rw [w];exact List.mem_map_of_mem e)
   show qo ((.inl q.1,.ref q.2)::r.map kvA) (.inl z.1)=_
   rw [jt (fun w=>ne (Sum.inl.inj w))]
   exact kE h2 e
theorem ZO {α:Type}{l:List (Int×α)}{y:Int}{a:α}(h:y∉l.map (·.1)):xl l y a=l++[(y,a)]:=by
 unfold xl
 rw [if_neg]
 intro z
 obtain ⟨u,hu,e⟩:=List.any_eq_true.mp z
 exact h (of_decide_eq_true e ▸ List.mem_map_of_mem hu)
theorem Qh {α:Type}{l:List (Int×α)}(nd:(l.map (·.1)).Nodup) {i:Nat}{z:Int×α}(h:l[i]? = some z):z.1∉(l.take i).map (·.1):=fun m=>by
 obtain ⟨hi,e⟩:=List.getElem?_eq_some_iff.mp h
 obtain ⟨u,hu,eu⟩:=List.mem_map.mp m
 obtain ⟨j,hj,ej⟩:=List.mem_iff_getElem.mp hu
 rw [List.length_take] at hj
 rw [List.getElem_take] at ej
 have h1:(l.map (·.1))[j]'(by rw [List.length_map];omega)=(l.map (·.1))[i]'(by rw [List.length_map];exact hi):=by rw [List.getElem_map,List.getElem_map,ej,e,eu]
 exact absurd h1 (List.pairwise_iff_getElem.mp nd j i _ _ (by omega))
theorem Q6 {α:Type}{f:α->V}{l:List (Int×α)}(nd:(l.map (·.1)).Nodup) {i:Nat}{z:Int×α}(h:l[i]? = some z):qv ((l.take i).map fun z=>((.inl z.1,f z.2):Key×V)) (.inl z.1) (f z.2)=(l.take (i+1)).map fun z=>((.inl z.1,f z.2):Key×V):=by
 rw [wA f,ZO (Qh nd h),List.take_add_one,h]
 rfl
structure LdN (g0:List (Addr×List (Key×V))) (cl:List (Addr×List (Int×Int))) (i n:Nat) (lds:List (Addr×List (Key×V))):Prop where
 fst:lds.map (·.1)=g0.map (·.1)
 at_:∀ j x,lds[j]? = some x->∃ y,cl[j]? = some y/\x.2=(if j<i then y.2 else if j=i then y.2.take n else []).map kvI
theorem LdN.len {g0 lds:List (Addr×List (Key×V))}{cl:List (Addr×List (Int×Int))}{i n:Nat}(h:LdN g0 cl i n lds):lds.length=g0.length:=by
 have:=congrArg List.length h.fst
 rwa [List.length_map,List.length_map] at this
theorem LdN.next {g0 lds:List (Addr×List (Key×V))}{cl:List (Addr×List (Int×Int))}{i n:Nat}{y:Addr×List (Int×Int)}(h:LdN g0 cl i n lds) (hy:cl[i]? = some y) (hn:y.2.length<=n):LdN g0 cl (i+1) 0 lds:=⟨h.fst,fun j x hx=>by
 obtain ⟨u,hu,e⟩:=h.at_ j x hx
 refine ⟨u,hu,?_⟩
 rw [e]
 by_cases a:j<i
 ·rw [if_pos a,if_pos (by omega)]
 ·rw [if_neg a]
  by_cases b:j=i
  ·subst b
   rw [hy] at hu
   cases hu
   rw [if_pos rfl,if_pos (by omega),List.take_of_length_le hn]
  ·rw [if_neg b,if_neg (by omega)]
   split
   ·rfl
   ·rfl⟩
theorem LdN.put {g0 lds:List (Addr×List (Key×V))}{cl:List (Addr×List (Int×Int))}{i n:Nat}{y:Addr×List (Int×Int)}{z:Int×Int}{a:Addr}{kvs:List (Key×V)}(h:LdN g0 cl i n lds) (hy:cl[i]? = some y) (nd:(y.2.map (·.1)).Nodup) (hz:y.2[n]? = some z) (ha:lds[i]? = some (a,kvs)):LdN g0 cl i (n+1) (yg lds i (qv kvs (.inl z.1) (.int z.2))):=by
 obtain ⟨u,hu,e⟩:=h.at_ i _ ha
 rw [hy] at hu
 cases hu
 rw [if_neg (Nat.lt_irrefl i),if_pos rfl] at e
 have e2:qv kvs (.inl z.1) (.int z.2)=(y.2.take (n+1)).map kvI:=by
  rw [show kvs=(y.2.take n).map kvI from e]
  exact Q6 (f:=V.int) nd hz
 refine ⟨?_,fun j x hx=>?_⟩
 ·rw [<- h.fst]
  unfold yg
  rw [List.getD_eq_getElem?_getD,ha]
  exact QU ha
 ·unfold yg at hx
  rw [List.getElem?_set] at hx
  by_cases b:i=j
  ·subst b
   rw [if_pos rfl,if_pos (List.getElem?_eq_some_iff.mp ha).1] at hx
   cases hx
   exact ⟨y,hy,by rw [if_neg (Nat.lt_irrefl i),if_pos rfl];exact e2⟩
  ·rw [if_neg b] at hx
   obtain ⟨u,hu,e⟩:=h.at_ j x hx
   refine ⟨u,hu,?_⟩
   rw [e]
   by_cases c:j<i
   ·rw [if_pos c,if_pos c]
   ·rw [if_neg c,if_neg c,if_neg (fun q=>b q.symm),if_neg (fun q=>b q.symm)]
theorem ScAt.fr {Pt sd:Addr}{H H':Hp}{c:ScN}(S:ScAt H sd c) (T:qm H Pt) (f:Fr3 (fun a=>a=Pt) c.D H H'):ScAt H' sd c:=by
 obtain ⟨ps,hP⟩:=T.ne
 have n:∀ {a:Addr} {o:HO},H a=some o->(∀ ps,o≠.tbl ps)->¬ a=Pt:=fun h q=>jk h hP (q _)
 have nr:∀ {a:Addr} {kvs:List (Key×V)},Rd H a (.dK kvs)->¬ a=Pt:=fun h=>by
  rcases h with h | ⟨o,h⟩
  ·exact n h (by walk_at "w")
  ·exact n h (by walk_at "w")
 exact S.keep f (fun a xs h=>n h (by walk_at "w")) (n S.sd (by walk_at "w")) S.nD (n S.p (by walk_at "w")) (n S.q (by walk_at "w")) (n S.gl (by walk_at "w")) (n S.ll (by walk_at "w")) (fun a h=>by
  obtain ⟨w,a',e,q⟩:=pm S.gi _ h
  cases e
  exact n q (by walk_at "w")) (nr S.sg) fun x hx=>nr (S.ld x hx)
theorem ScAt.inD {H:Hp}{sd a:Addr}{c:ScN}(S:ScAt H sd c) (h:c.D a):∃ o,H a=some o:=by
 have r:∃ kvs,Rd H a (.dK kvs):=by
  rcases h with h | ⟨x,hx,e⟩
  ·exact ⟨_,h ▸ S.sg⟩
  ·exact ⟨_,e ▸ S.ld x hx⟩
 obtain ⟨_,r | ⟨o,r⟩⟩:=r
 ·exact ⟨_,r⟩
 ·exact ⟨_,r⟩
theorem Yn {a:Addr}{kvs:List (Key×V)}{o:Obj}{H H4:Hp}(f:Fz a kvs o H H4):jo H H4:=fun c xs q=>by
 rcases f.2 with rfl | ⟨h,rfl⟩
 ·exact q
 ·exact Z7 h c xs q
theorem UP {N M:Addr->Prop}{a:Addr}{kvs:List (Key×V)}{o:Obj}{H H2 H4:Hp}(f:Fz a kvs o H2 H4) (r:Fr3 N M H H2) (m:M a):Fr3 N M H H4:=by
 rcases f.2 with rfl | ⟨h,rfl⟩
 ·exact r
 ·exact r.frz h m
theorem Vz {a Pt:Addr}{kvs:List (Key×V)}{o:Obj}{H H4:Hp}(f:Fz a kvs o H H4) (T:qm H Pt):qm H4 Pt:=by
 rcases f.2 with rfl | ⟨h,rfl⟩
 ·exact T
 ·exact Va T h
structure MdI (C Pt p:Addr) (c:ScN) (H H2:Hp) (g:IceG):Prop where
 I:IceAt C H2 p g
 F:IceFr H p g
 R:Fr3 (fun a=>a=Pt) c.D H H2
 T:qm H2 Pt
theorem MdI.frz {C Pt p sd a:Addr}{c:ScN}{H H2 H4:Hp}{g:IceG}{kvs:List (Key×V)}{o:Obj}(M:MdI C Pt p c H H2 g) (S:ScAt H sd c) (h:c.D a) (f:Fz a kvs o H2 H4):MdI C Pt p c H H4 g:=by
 obtain ⟨_,ha⟩:=S.inD h
 exact ⟨M.I.stay M.F (fun b u hb n=>f.at hb (j1 ha n).symm) (Yn f),M.F,UP f M.R h,Vz f M.T⟩
theorem MdI.same {C Pt p:Addr}{c:ScN}{H H2 H4:Hp}{g:IceG}(M:MdI C Pt p c H H2 g) (s:jh H2 H4):MdI C Pt p c H H4 g:=⟨M.I.same s,M.F,M.R.same s,M.T.same s⟩
theorem LdN.mem {g0 lds:List (Addr×List (Key×V))}{cl:List (Addr×List (Int×Int))}{i n:Nat}(h:LdN g0 cl i n lds) {x:Addr×List (Key×V)}(hx:x∈lds):∃ y∈g0,y.1=x.1:=by
 have:x.1∈g0.map (·.1):=h.fst ▸ List.mem_map_of_mem hx
 obtain ⟨y,hy,e⟩:=List.mem_map.mp this
 exact ⟨y,hy,e⟩
def Yd (C Pt:Addr):Sp:=fun vs H Q _=>∃ (sd b:Addr) (c:ScN),vs=[.ref sd]/\ScAt H sd c/\ScOk b c/\qm H Pt /\
 ∀ p H' g,IceAt C H' p g->IceFr H p g->Fr3 (fun a=>a=Pt) c.D H H'->qm H' Pt->g.rs=c.rs->g.rows=c.ts->g.slopes=c.ws.map (jf c.rs)->g.kvs=c.sk.map kvA->g.lds.length=c.lds.length->(∀ (l:Nat) x,g.lds[l]? = some x->∃ y,c.lds[l]? = some y/\x.2=y.2.map kvI)->(∀ x∈g.lds,x.1≠g.ye)->(g.lds.map (·.1)).Nodup->Q (.ref p) H'
theorem qV:FnScope ["_law_scene_here","_law_ice","_law_year_here","_law_lane","_law_leaps"] ["_law_scene_here"] (j6 yU):=by walk_at "s"
theorem YF {f C CV CR CN CY CW CS Pt:Addr}{fd:FuncData}(nb:Nb2 mg) (cl_Ice:Cls K C) (c_Ice:MakX P w K mg base 8 C "Ice" ["self","reaches","rows"] (Zu C CV CR Pt)) (c_Ice__tell:CalMX P w K mg base 2 C "tell" ["self","year","row"] (ZF C CY CW)) (c_Ice__surge:CalMX P w K mg base 2 C "surge" ["self","lane","year","many"] (Xd C CN CY CS)) (F:Fun K "_law_made" "_law_made" yU f fd):FnOk P w K mg base CX0 10 f fd ["_law_scene_here"] (Yd C Pt):=by
 refine F.ok qV (fun vs H Q E h=>?_) (fun cdv A outer s H vs Q E hr h=>?_)
 ·obtain ⟨sd,b,c,rfl,_⟩:=h
  rfl
 ·obtain ⟨sd,b,c,rfl,S,O,T,k⟩:=h
  refine ⟨_,(j7 (jp (i:=1) qV.nd rfl (Or.inl rfl) (Vb c_Ice (hr.mono (by decide)) gf rfl (j0 (jY (qh K) rfl nb.b_list PyProof.Rows.boot_list (j0 (jR (ql hr) (pv 0) jH (fun _ _=>rfl)) j2)) (j0 (jY (qh K) rfl nb.b_list PyProof.Rows.boot_list (j0 (jR (ql hr) (pv 0) jH (fun _ _=>rfl)) j2)) j2))))
   (j7 (xB PassesOwn.never rfl (QO (jR (ql hr) (pv 0) jH (fun _ _=>rfl))) (jb (i:=2) qV.nd rfl (Or.inl rfl)) (j9 (jV (zC (pv 1) cl_Ice c_Ice__tell (hr.mono (by decide)) gf (j0 (pv 2) (j0 (jR (ql hr) (jR (ql hr) (pv 0) jH (fun _ _=>rfl)) (pv 2) (fun _ _=>rfl)) j2))))))
   (j7 (xB PassesOwn.never rfl (QN K rfl nb.b_enumerate (j0 (jR (ql hr) (pv 0) jH (fun _ _=>rfl)) j2)) (qL (n:=2) K rfl (js (jb (i:=3) qV.nd rfl (Or.inl rfl)) (js (jb (i:=4) qV.nd rfl (Or.inl rfl)) qA))) (j9 (xB PassesOwn.never rfl (QO (pv 4)) (jb (i:=2) qV.nd rfl (Or.inl rfl)) (j9 (jV (zC (pv 1) cl_Ice c_Ice__surge (hr.mono (by decide)) gf (j0 (pv 3) (j0 (pv 2) (j0 (jR (ql hr) (pv 4) (pv 2) (fun _ _=>rfl)) j2)))))))))
   (j9 (jj (pv 1)))))),?_⟩
  left
  refine ⟨sd,.ref c.p,rfl,by rw [<- QE c.p c.q c.sg c.gl c.ll];exact xh.k (k:=.inr "reaches") S.sd,?_⟩
  refine ⟨_,_,rfl,.inl (SqL.of S.p),fun l1 H1 hl1 hl11 s1=>?_⟩
  have S1:=S.same s1
  left
  refine ⟨sd,.ref c.q,rfl,by rw [<- QM c.p c.q c.sg c.gl c.ll];exact xh.k (k:=.inr "rows") S1.sd,?_⟩
  refine ⟨_,_,rfl,.inl (SqL.of S1.q),fun l2 H2 hl2 hl22 s2=>?_⟩
  have S2:=S1.same s2
  have s12:=s1.trans s2
  left
  intro p dx hp hd hdp
  have s3:jh H2 (upd (upd H2 dx (.own p)) p (.ins C dx [])):=fun c u h=>by rw [j5 (j1 h hp),j5 (j1 h hd)];exact h
  have S3:=S2.same s3
  have egr:gr c.ts=true:=by
   have:=O.t1
   have:=O.t2
   unfold gr
   rw [decide_eq_true (by omega),O.tg]
   rfl
  have eg:=O.gr.good O.l1 O.l8
  refine ⟨p,dx,l1,l2,c.xs,c.ys,c.rs,c.ts,rfl,j4,s3 _ _ (s2 _ _ hl11),S3.rv,s3 _ _ hl22,S3.r3,fun r hr=>Nat.le_trans (Xg O.gr r hr) (by decide),Nat.le_trans O.l8 (by decide),Nat.le_trans O.t2 (by decide),(T.same s12).same s3,fun H4 g _ _ I e1 e2 e3 e4 T4=>?_,(fun H' z _ _=>by rw [eg] at z;cases z),(fun H' _ z _ _=>by rw [egr] at z;cases z)⟩
  have I:=I.made hp hd
  obtain ⟨ws,hR,esl⟩:=I.sl2
  rw [e1] at hR esl
  obtain rfl:=hR.unique O.ro
  have F4:IceFr H p g:=⟨s12.free hp,s12.free I.va,s12.free I.cy,s12.free I.sl,s12.free I.ye,s12.free I.le,fun a z=>s12.free (I.zs a z),fun x hx=>s12.free (I.lds x hx).1⟩
  have M4:MdI C Pt p c H H4 g:=⟨I.at_,F4,fun a o h n=>.inl (I.keep a o (s12 _ _ h) (j1 h F4.p) n),T4⟩
  have ll4:g.lds.length=c.lds.length:=by rw [I.ll,esl,List.length_map,O.ldl]
  have nd4:=I.nd
  have ny4:=I.ny
  have kv4:=I.kvs
  have ld4:∀ x∈g.lds,x.2=[]:=fun x hx=>(I.lds x hx).2
  clear I S3 s3 S2 hl22 hl11 S1 T4
  refine ⟨rfl,?_⟩
  have nof:∀ {m:Str},¬ m = "leaps" -> ¬ m = "years" -> ¬ m = "slopes" -> ¬ m = "cycle" -> ¬ m = "valley" -> (yV g.va g.cy g.sl g.ye g.le).lookup m=none:=fun a b c d e=>xG _ _ _ _ _ a b c d e
  have S4:=S.fr T M4.R
  left
  refine ⟨sd,.ref c.sg,rfl,by rw [<- yq c.p c.q c.sg c.gl c.ll];exact xh.k (k:=.inr "single") S4.sd,?_⟩
  have hsgD:c.D c.sg:=.inl rfl
  refine kG (kvs:=c.sk.map kvA) S4.sg (fun o i σ H5=>∃ x:Option V,σ=[some (.ref sd),some (.ref p),x,none,none]/\H5 c.sg=some (.frz o (.dK (c.sk.map kvA)))/\MdI C Pt p c H H5 { g with kvs:=(c.sk.take i).map kvA }) ?_ ?_ ?_ ?_
  ·intro o H5 f5
   refine ⟨none,rfl,f5.1,?_⟩
   have:=M4.frz S hsgD f5
   have e:g={ g with kvs:=(c.sk.take 0).map kvA }:=by
    show g={ g with kvs:=[] }
    rw [<- kv4]
   rw [<- e]
   exact this
  ·rintro o i σ H5 hi ⟨x,rfl,h5,M5⟩
   exact h5
  ·rintro o i u σ H5 hq ⟨x,rfl,h5,M5⟩
   obtain ⟨z,hz,rfl⟩:=VP hq
   have hm:=List.mem_of_getElem? hz
   have hi:i<c.sk.length:=(List.getElem?_eq_some_iff.mp hz).1
   have h10:=O.k3
   have S5:=S.fr T M5.R
   obtain ⟨r,hr3,hgr⟩:=S5.sk z hm
   obtain ⟨y0,y1⟩:=O.k2 z hm
   show JU 2 (V.int z.1) _ _ _
   left
   refine ⟨p,g.dx,_,rfl,M5.I.ob,nof (by walk_at "k") (by walk_at "k") (by walk_at "k") (by walk_at "k") (by walk_at "k"),?_⟩
   left
   refine ⟨sd,.ref c.sg,rfl,by rw [<- yq c.p c.q c.sg c.gl c.ll];exact xh.k (k:=.inr "single") S5.sd,?_⟩
   left
   refine ⟨c.sg,.ref z.2,rfl,(by rw [<- kE O.k1 hm];exact .inl ⟨_,.inl z.1,.inr ⟨o,h5⟩,rfl,rfl⟩),?_⟩
   refine ⟨p,z.2,_,z.1,r,rfl,M5.I,ny4,hr3,(by rw [List.length_map,List.length_take];omega),fun H6 _ _ _ X6 I6=>?_,fun hb=>absurd hb (by omega),fun _ _ hb=>by rw [hgr] at hb;cases hb⟩
   have e:qv ((c.sk.take i).map kvA) (.inl z.1) (.ref z.2)=(c.sk.take (i+1)).map kvA:=Q6 (f:=V.ref) O.k1 hz
   obtain ⟨_,hsg0⟩:=S.inD hsgD
   refine ⟨_,rfl,X6 _ _ h5 (j1 hsg0 F4.ye),?_⟩
   rw [<- e]
   exact ⟨I6,⟨F4.p,F4.va,F4.cy,F4.sl,F4.ye,F4.le,F4.zs,F4.lds⟩,M5.R.ext X6 F4.ye,JB M5.T M5.I.ye X6⟩
  ·rintro o σ H5 ⟨x,rfl,h5,M5⟩
   rw [List.length_map,List.take_length] at M5
   have S5:=S.fr T M5.R
   left
   refine ⟨sd,.ref c.ll,rfl,by rw [<- wE c.p c.q c.sg c.gl c.ll];exact xh.k (k:=.inr "leaps") S5.sd,?_⟩
   left
   refine ⟨⟨_,SqL.of S5.ll⟩,?_⟩
   refine ZI (K:=K) (a:=c.ll) (xs:=c.lds.map fun x=>V.ref x.1) (fun i σ H6=>∃ (x y z:Option V) (lds:List (Addr×List (Key×V))),σ=[some (.ref sd),some (.ref p),x,y,z]/\MdI C Pt p c H H6 { g with kvs:=c.sk.map kvA,lds:=lds }/\LdN g.lds c.lds i 0 lds) ?_ ?_ ?_ ?_
   ·refine ⟨x,none,none,g.lds,rfl,M5,rfl,fun j x hx=>?_⟩
    have hj:=(List.getElem?_eq_some_iff.mp hx).1
    obtain ⟨y,hy⟩:∃ y,c.lds[j]? = some y:=⟨_,List.getElem?_eq_getElem (by omega)⟩
    refine ⟨y,hy,?_⟩
    rw [ld4 x (List.mem_of_getElem? hx),if_neg (Nat.not_lt_zero _)]
    split <;> rfl
   ·rintro i σ H6 hi ⟨x,y,z,lds,rfl,M6,L6⟩
    exact SqL.of (S.fr T M6.R).ll
   ·rintro i v σ H6 t hv ⟨x,y,z,lds,rfl,M6,L6⟩ ht
    rw [List.getElem?_map] at hv
    obtain ⟨⟨a,ns⟩,hy,ev⟩:=Option.map_eq_some_iff.mp hv
    subst ev
    have M7:=M6.same (jh.new (o:=.tup [.int i,.ref a]) ht)
    left
    refine ⟨t,_,rfl,SqT.of j4,rfl,?_⟩
    refine ⟨_,_,rfl,_,_,rfl,rfl,?_⟩
    left
    clear M6
    generalize upd H6 t (.tup [.int i,.ref a])=H7 at *
    have S7:=S.fr T M7.R
    have hm:=List.mem_of_getElem? hy
    have haD:c.D a:=.inr ⟨_,hm,rfl⟩
    obtain ⟨_,ha0⟩:=S.inD haD
    refine kG (kvs:=ns.map kvI) (S7.ld _ hm) (fun o n σ H8=>∃ (x:Option V) (lds:List (Addr×List (Key×V))),σ=[some (.ref sd),some (.ref p),x,some (.int i),some (.ref a)]/\H8 a=some (.frz o (.dK (ns.map kvI)))/\MdI C Pt p c H H8 { g with kvs:=c.sk.map kvA,lds:=lds }/\LdN g.lds c.lds i n lds) ?_ ?_ ?_ ?_
    ·intro o H8 f8
     exact ⟨x,lds,rfl,f8.1,M7.frz S haD f8,L6⟩
    ·rintro o n σ H8 hn ⟨x,lds,rfl,h8,M8,L8⟩
     exact h8
    ·clear L6 M7 S7
     rintro o n u σ H8 hq ⟨x,lds,rfl,h8,M8,L8⟩
     obtain ⟨z,hz,rfl⟩:=VG hq
     have hzm:=List.mem_of_getElem? hz
     obtain ⟨y0,y1,m0,m1⟩:=O.m2 _ hm z hzm
     have hl8:=L8.len
     have hi8:i<lds.length:=by
      have:=(List.getElem?_eq_some_iff.mp hy).1
      omega
     have hsl:g.slopes.length=lds.length:=by rw [esl,List.length_map,hl8,ll4,O.ldl]
     show JU 2 (V.int z.1) _ _ _
     left
     refine ⟨p,g.dx,_,rfl,M8.I.ob,nof (by walk_at "k") (by walk_at "k") (by walk_at "k") (by walk_at "k") (by walk_at "k"),?_⟩
     left
     refine ⟨a,.int z.2,rfl,(by rw [<- kt (O.m1 _ hm) hzm,<- uj ns z.1 (List.mem_map_of_mem hzm)];exact .inl ⟨_,.inl z.1,.inr ⟨o,h8⟩,rfl,rfl⟩),?_⟩
     refine ⟨p,_,(i:Int),z.1,z.2,rfl,M8.I,hsl.symm,(fun x hx=>by obtain ⟨y,hy,e⟩:=L8.mem hx;rw [<- e];exact ny4 y hy),(by show (lds.map (·.1)).Nodup;rw [L8.fst];exact nd4),(fun x hx=>?_),fun H9 a9 kvs9 _ _ _ _ _ _ ha9 X9 I9=>?_,(fun hb=>absurd hb (by show ¬ ((i:Int)<0\/(g.slopes.length:Int)<=i);omega)),(fun _ _ hb=>absurd hb (by omega)),fun _ _ _ _ hb=>absurd hb (by omega)⟩
     ·obtain ⟨j,hj,ex⟩:=List.mem_iff_getElem.mp hx
      obtain ⟨y,hy,e⟩:=L8.at_ j x (by rw [List.getElem?_eq_getElem hj,ex])
      have h10:=O.m3 y (List.mem_of_getElem? hy)
      rw [e,List.length_map]
      split
      ·omega
      ·split
       ·rw [List.length_take];omega
       ·exact Nat.zero_le _
     ·have ha9:lds[i]? = some (a9,kvs9):=ha9
      have L9:=L8.put hy (O.m1 _ hm) hz ha9
      have a90:H a9=none:=M8.F.lds _ (List.mem_of_getElem? ha9)
      refine ⟨_,_,rfl,X9 _ _ h8 (j1 ha0 a90),⟨I9,⟨F4.p,F4.va,F4.cy,F4.sl,F4.ye,F4.le,F4.zs,fun x hx=>?_⟩,M8.R.ext X9 a90,JB M8.T (M8.I.lds _ (List.mem_of_getElem? ha9)) X9⟩,L9⟩
      obtain ⟨y,hy,e⟩:=L9.mem hx
      rw [<- e]
      exact F4.lds y hy
    ·rintro o σ H8 ⟨x,lds,rfl,h8,M8,L8⟩
     exact ⟨x,_,_,lds,rfl,M8,L8.next hy (by rw [List.length_map];exact Nat.le_refl _)⟩
   ·rintro σ H6 ⟨x,y,z,lds,rfl,M6,L6⟩
    left
    refine k p H6 _ M6.I M6.F M6.R M6.T e1 e2 esl rfl (L6.len.trans ll4) (fun l x hx=>?_) (fun x hx=>?_) (by show (lds.map (·.1)).Nodup;rw [L6.fst];exact nd4)
    ·obtain ⟨y,hy,e⟩:=L6.at_ l x hx
     refine ⟨y,hy,?_⟩
     rw [e,if_pos (by rw [List.length_map];exact (List.getElem?_eq_some_iff.mp hy).1)]
    ·obtain ⟨y,hy,e⟩:=L6.mem hx
     rw [<- e]
     exact ny4 y hy
theorem ut {rs:List Rch}(h:xY rs=true):1<=rs.length/\rs.length<=8/\vW rs=true/\∀ ws,jM rs ws->∀ w∈ws,(jf rs w).length<=30:=by
 unfold xY at h
 rw [Bool.and_eq_true,Bool.and_eq_true,Bool.and_eq_true] at h
 obtain ⟨h1,h2,_,h4⟩:=h
 have h1:=of_decide_eq_true h1
 refine ⟨by omega,by omega,h2,fun ws hR w hw=>?_⟩
 obtain ⟨x,hx,e⟩:=hR.mem hw
 have:=of_decide_eq_true (List.all_eq_true.mp h4 x hx)
 have g:=wc rs w
 rw [<- e] at this
 omega
theorem wb {rs:List Rch}(G:Grown rs) {ws:List (List Int)}(R:jM rs ws) {w:List Int}(hw:w∈ws):1<=(jf rs w).length:=by
 obtain ⟨x,hx,e⟩:=R.mem hw
 have hl:=qY hx
 have o:=gH G.ok (List.getElem?_eq_getElem hl)
 unfold okR at o
 rw [Bool.and_eq_true,Bool.and_eq_true] at o
 have o:=of_decide_eq_true o.1.2
 have eh:zj rs ((x:Int)).toNat=(rs[x]'hl).2:=by
  unfold zj
  rw [Int.toNat_natCast,List.getD_eq_getElem?_getD,List.getElem?_eq_getElem hl]
  rfl
 rw [e,xZ (jP G.ok) hl]
 unfold jf
 rw [List.map_cons,List.flatten_cons,List.length_append,eh]
 omega
theorem V8 {L b Pt:Addr}{Ha Hb:Hp}(B:jS L Ha b) (e:Ext b Ha Hb) (T:qm Ha Pt):qm Hb Pt:=by
 obtain ⟨ns,a,r,c,d,h1,_⟩:=B
 exact T.ext h1 e
structure Lw (C L b sd p:Addr) (c:ScN) (g:IceG) (H0 H:Hp):Prop where
 B:jS L H b
 S:ScAt H sd c
 I:IceAt C H p g
 O:ScOk b c
 F:IceFr H0 p g
 B0:jS L H0 b
 S0:ScAt H0 sd c
theorem Lw.same {C L b sd p:Addr}{c:ScN}{g:IceG}{H0 H H':Hp}(W:Lw C L b sd p c g H0 H) (s:jh H H'):Lw C L b sd p c g H0 H':=⟨W.B.same s,W.S.same s,W.I.same s,W.O,W.F,W.B0,W.S0⟩
theorem Lw.take {C L b sd p:Addr}{c:ScN}{g:IceG}{H0 H H':Hp}(W:Lw C L b sd p c g H0 H) (B:jS L H' b) (X:Ext b H H'):Lw C L b sd p c g H0 H' :=
 ⟨B,W.S.ext W.O W.B X,W.I.stay W.F (fun a o h n=>X a o h (W.B0.ne n)) (zu W.B X),W.O,W.F,W.B0,W.S0⟩
theorem Lw.start {C L b sd p Pt:Addr}{c:ScN}{g:IceG}{H2 H3:Hp}(S2:ScAt H2 sd c) (O:ScOk b c) (B2:jS L H2 b) (T2:qm H2 Pt) (I3:IceAt C H3 p g) (F3:IceFr H2 p g) (R3:Fr3 (fun a=>a=Pt) c.D H2 H3):Lw C L b sd p c g H2 H3:=by
 refine ⟨?_,S2.fr T2 R3,I3,O,F3,B2,S2⟩
 obtain ⟨ps,hP⟩:=T2.ne
 obtain ⟨ns,a,r,c,d,h1,h2,h3,h4⟩:=B2
 exact ⟨ns,a,r,c,d,R3.at h1 (jk h1 hP (by walk_at "z")) (by walk_at "w"),h2,R3.at h3 (jk h3 hP (by walk_at "z")) (by walk_at "w"),h4⟩
structure Lk (c:ScN) (g:IceG):Prop where
 rs:g.rs=c.rs
 rows:g.rows=c.ts
 sl:g.slopes=c.ws.map (jf c.rs)
 kv:g.kvs=c.sk.map kvA
 ll:g.lds.length=c.lds.length
 ld:∀ (l:Nat) x,g.lds[l]? = some x->∃ y,c.lds[l]? = some y/\x.2=y.2.map kvI
 ny:∀ x∈g.lds,x.1≠g.ye
 nd:(g.lds.map (·.1)).Nodup
structure LaneF (c:ScN) (g:IceG) (ln:Int) (wy:List Int) (da:Addr) (dn:List (Int×Int)):Prop where
 way:c.ws[ln.toNat]? = some wy
 sl:g.slopes.getD ln.toNat []=jf c.rs wy
 g1:1<=(jf c.rs wy).length
 g30:(jf c.rs wy).length<=30
 cd:c.lds[ln.toNat]? = some (da,dn)
 D:c.D da
 nd:(dn.map (·.1)).Nodup
 b:∀ q∈dn,0<=q.1/\q.1<=99/\1<=q.2/\q.2<=9
 l10:dn.length<=10
 at_:Ve g ln dn
 l0:0<=ln
 l1:ln<(g.slopes.length:Int)
theorem Lk.lane {b:Addr}{c:ScN}{g:IceG}(k:Lk c g) (O:ScOk b c) {ln:Int}(h0:0<=ln) (h1:ln<(c.ws.length:Int)):∃ wy da dn,LaneF c g ln wy da dn:=by
 have hi:ln.toNat<c.ws.length:=by omega
 have hwy:=List.getElem?_eq_getElem hi
 have hgs:g.slopes[ln.toNat]? = some (jf c.rs (c.ws[ln.toNat]'hi)):=by rw [k.sl,List.getElem?_map,hwy];rfl
 have hl:g.slopes.length=c.ws.length:=by rw [k.sl,List.length_map]
 obtain ⟨⟨da,dn⟩,hda⟩:∃ z,c.lds[ln.toNat]? = some z:=⟨_,List.getElem?_eq_getElem (by rw [O.ldl];omega)⟩
 have hdm:=List.mem_of_getElem? hda
 obtain ⟨⟨da2,dk⟩,hda2⟩:∃ z,g.lds[ln.toNat]? = some z:=⟨_,List.getElem?_eq_getElem (by rw [k.ll,O.ldl];omega)⟩
 obtain ⟨_,q1,q2⟩:=k.ld _ _ hda2
 rw [hda] at q1
 cases q1
 obtain rfl:dk=dn.map kvI:=q2
 have hm:=List.getElem_mem hi
 have h10:dn.length<=10:=O.m3 _ hdm
 exact ⟨_,da,dn,hwy,by rw [List.getD_eq_getElem?_getD,hgs];rfl,wb O.gr O.ro hm,(ut (O.gr.good O.l1 O.l8)).2.2.2 c.ws O.ro _ hm,hda,.inr ⟨_,hdm,rfl⟩,O.m1 _ hdm,O.m2 _ hdm,h10,⟨h0,by omega,⟨da2,hda2⟩,O.m1 _ hdm,by omega,fun q hq=>by have:=O.m2 _ hdm q hq;omega⟩,h0,by omega⟩
def Yb:Sp:=fun vs H Q _=>∃ (L b sd:Addr) (c:ScN),vs=[.ref b,.ref sd]/\jS L H b/\ScAt H sd c/\ScOk b c/\1<=c.ws.length/\c.ws.length<=6/\(∀ w∈c.ws,1<=(jf c.rs w).length/\(jf c.rs w).length<=30) /\
 ∀ (ln n:Int) (w:List Int) (t:Addr) (H':Hp),0<=ln->ln<(c.ws.length:Int)->c.ws[ln.toNat]? = some w->0<=n->n<((jf c.rs w).length:Int)->jS L H' b->Ext b H H'->H t=none->H' t=some (.tup [.int ln,.int n])->Q (.ref t) H'
theorem uo:FnScope ["_law_box_here","_law_scene_here","_law_lane"] ["_law_box_here","_law_scene_here"] (j6 yG):=by walk_at "s"
theorem YS {f:Addr}{fd:FuncData}(nb:Nb2 mg) (c_law_take:Cal P w K mg base 2 "_law_take" ["_law_box_here","_law_size"] xE) (F:Fun K "_law_spot" "_law_spot" yG f fd):FnOk P w K mg base CX0 3 f fd ["_law_box_here","_law_scene_here"] Yb:=by
 refine F.ok uo (fun vs H Q E h=>?_) (fun cdv A outer s H vs Q E hr h=>?_)
 ·obtain ⟨L,b,sd,c,rfl,_⟩:=h
  rfl
 ·obtain ⟨L,b,sd,c,rfl,B,S,O,hw1,hw6,hg,k⟩:=h
  have hzl:c.zs.length=c.ws.length:=(Paired.length S.gi).trans (List.length_map _)
  refine ⟨_,(j7 (jp (i:=2) uo.nd rfl (Or.inl rfl) (je c_law_take (hr.mono (by decide)) rfl (j0 (pv 0) (j0 (jc (jg K) rfl nb.b_len PySem.boot_len (j0 (jR (ql hr) (pv 1) jH (fun _ _=>rfl)) j2)) j2))))
   (j9 (jj (xH (j0 (pv 2) (j0 (je c_law_take (hr.mono (by decide)) rfl (j0 (pv 0) (j0 (jc (jg K) rfl nb.b_len PySem.boot_len (j0 (jq (jd K) (jR (ql hr) (pv 1) jH (fun _ _=>rfl)) (pv 2) (fun _ _=>rfl)) j2)) j2))) j2)))))),?_⟩
  left
  refine ⟨sd,.ref c.gl,rfl,by rw [<- zO c.p c.q c.sg c.gl c.ll];exact xh.k (k:=.inr "grounds") S.sd,?_⟩
  left
  refine ⟨c.gl,_,rfl,.inl (SqL.of S.gl),?_⟩
  left
  refine ⟨L,b,_,rfl,B,⟨by omega,by omega⟩,fun ln H1 ln0 ln1 B1 X1=>?_⟩
  have S1:=S.ext O B X1
  have hi:ln.toNat<c.zs.length:=by omega
  obtain ⟨gw,hgw,ga,ega,hga⟩:=Paired.get S1.gi (List.getElem?_eq_getElem hi)
  rw [List.getElem?_map] at hgw
  obtain ⟨wy,hwy,rfl⟩:=Option.map_eq_some_iff.mp hgw
  have hgb:=hg wy (List.mem_of_getElem? hwy)
  left
  refine ⟨sd,.ref c.gl,rfl,by rw [<- zO c.p c.q c.sg c.gl c.ll];exact xh.k (k:=.inr "grounds") S1.sd,?_⟩
  left
  refine ⟨_,_,_,_,rfl,rfl,SqL.of S1.gl,xk ln0 (v:=V.ref ga) (by rw [List.getElem?_eq_getElem hi,ega]),?_⟩
  left
  refine ⟨ga,_,rfl,.inl (SqL.of hga),?_⟩
  rw [List.length_map]
  left
  refine ⟨L,b,_,rfl,B1,⟨by omega,by omega⟩,fun n H2 n0 n1 B2 X2=>?_⟩
  left
  refine ⟨by show 2<=sizeLine;decide,fun t H3 ht ht3 s3=>?_⟩
  have tb:t≠b:=B2.ne ht
  exact k ln n wy t H3 ln0 (by omega) hwy n0 n1 (B2.same s3) ((X1.trans X2).trans (Ext.of_same s3)) (X1.free (X2.free ht tb) tb) ht3
end
section
variable {P:Program}{w:World}{K:PySem.W.Frag}{mg:Str->Option Value}{base:Heap}
def chg (t:T3) (h:Int):Int:=if t.1<=h then t.2.1 else-t.2.2
def JP:Sp:=fun vs H Q _=>∃ (p:Addr) (t:T3) (h:Int),vs=[.ref p,.int h]/\H p=some (yb t)/\Q (.int (chg t h)) H
theorem yt:FnScope ["row","height","line","snow","sun"] ["row","height"] (j6 uO):=by walk_at "s"
theorem XE {f:Addr}{fd:FuncData}(F:Fun K "change" "change" uO f fd):FnOk P w K mg base CX0 1 f fd ["row","height"] JP:=by
 refine F.ok yt (fun vs H Q E h=>?_) (fun cdv A outer s H vs Q E hr h=>?_)
 ·obtain ⟨p,t,h,rfl,_⟩:=h
  rfl
 ·obtain ⟨p,t,h,rfl,hp,k⟩:=h
  unfold chg at k
  refine ⟨_,(j7 (zS (pv 0) (qL (n:=3) K rfl (js (jb (i:=2) yt.nd rfl (Or.inl rfl)) (js (jb (i:=3) yt.nd rfl (Or.inl rfl)) (js (jb (i:=4) yt.nd rfl (Or.inl rfl)) qA)))))
   (j7 (qj (qc Yl (pv 1) (pv 2) (qd _)) (j9 (jj (pv 3))) jB)
   (j9 (jj (yE zq (pv 4)))))),?_⟩
  left
  refine ⟨p,_,rfl,SqT.of hp,rfl,?_⟩
  refine ⟨_,_,rfl,_,_,rfl,_,_,rfl,rfl,?_⟩
  left
  refine xm (fun h1=>?_) (fun h1=>?_)
  ·left
   rw [if_pos h1] at k
   exact k
  ·left
   rw [if_neg h1] at k
   exact k
def zY (H:Hp) (sk:List (Int×Addr)) (wr:List (Int×T3)):Prop:=Paired (fun (z:Int×Addr) (q:Int×T3)=>z.1=q.1/\H z.2=some (yb q.2)) sk wr
theorem zY.keep {H H':Hp}{sk:List (Int×Addr)}{wr:List (Int×T3)}(h:zY H sk wr) (t:jo H H'):zY H' sk wr:=Paired.mapP h fun _ _ ⟨e,q⟩=>⟨e,t _ _ q⟩
theorem zY.of {H:Hp}:∀ {sk:List (Int×Addr)},(∀ z∈sk,∃ t,H z.2=some (yb t)/\good t=true)->∃ wr,zY H sk wr
 | [],_=>⟨[],.nil⟩
 | z::r,h=>by
  obtain ⟨t,ht,_⟩:=h z (List.mem_cons_self ..)
  obtain ⟨wr,hw⟩:=zY.of (sk:=r) fun u hu=>h u (List.mem_cons_of_mem _ hu)
  exact ⟨(z.1,t)::wr,.cons ⟨rfl,ht⟩ hw⟩
def xR (wr:List (Int×T3)) (ts:List T3) (y:Int):T3 :=
 match wr.find? fun q=>decide (q.1=y) with
 | some q=>q.2
 | none=>ts.getD (y % (ts.length:Int)).toNat (0,0,0)
theorem JF {H:Hp}:∀ {sk:List (Int×Addr)}{wr:List (Int×T3)},zY H sk wr->∀ y:Int,
  (∃ a q,qo (sk.map kvA) (.inl y)=some (.ref a)/\(wr.find? fun q=>decide (q.1=y))=some q/\H a=some (yb q.2))\/(qo (sk.map kvA) (.inl y)=none/\(wr.find? fun q=>decide (q.1=y))=none)
 | _,_,.nil,y=>.inr ⟨rfl,rfl⟩
 | z::sk,q::wr,.cons ⟨e,h⟩ r,y=>by
  rw [List.map_cons]
  by_cases c:z.1=y
  ·subst c
   exact .inl ⟨z.2,q,x3,by rw [List.find?_cons_of_pos (by rw [decide_eq_true e.symm])],h⟩
  ·have e1:qo (kvA z::sk.map kvA) (.inl y)=qo (sk.map kvA) (.inl y):=jt fun w=>c (Sum.inl.inj w)
   have e2:((q::wr).find? fun q=>decide (q.1=y))=wr.find? fun q=>decide (q.1=y):=List.find?_cons_of_neg (by rw [decide_eq_false (by rw [<- e];exact c)];exact Bool.false_ne_true)
   rw [e1,e2]
   exact JF r y
theorem VQ {H:Hp}{ys:List V}{ts:List T3}(r:qz H ys ts) (h1:1<=ts.length) (y:Int):∃ a,atI ys (y % (ys.length:Int))=some (.ref a)/\H a=some (yb (ts.getD (y % (ts.length:Int)).toNat (0,0,0))):=by
 have hl:ys.length=ts.length:=r.length
 have n0:(0:Int)<ts.length:=by omega
 have m0:=Int.emod_nonneg y (show (ts.length:Int)≠0 by omega)
 have m1:=Int.emod_lt_of_pos y n0
 have hi:(y % (ts.length:Int)).toNat<ys.length:=by omega
 obtain ⟨t,ht,a,ea,ha⟩:=r.get (List.getElem?_eq_getElem hi)
 refine ⟨a,?_,?_⟩
 ·rw [hl]
  exact xk m0 (by rw [List.getElem?_eq_getElem hi,ea])
 ·rw [List.getD_eq_getElem?_getD,ht]
  exact ha
def Vs (C:Addr):Sp:=fun vs H Q _=>∃ (p:Addr) (g:IceG) (y:Int) (sk:List (Int×Addr)) (wr:List (Int×T3)),vs=[.ref p,.int y]/\IceAt C H p g/\g.kvs=sk.map kvA/\zY H sk wr/\1<=g.rows.length/\g.rows.length<=1000/\∀ t,H t=some (yb (xR wr g.rows y))->Q (.ref t) H
theorem Jv:FnScope ["self","year"] ["self","year"] (j6 yX):=by walk_at "s"
theorem J8 {f C:Addr}{fd:FuncData}(nb:Nb2 mg) (T:IceC K C) (F:Fun K "sky" "Ice.sky" yX f fd):FnOk P w K mg base CX0 1 f fd ["self","year"] (Vs C):=by
 refine F.ok Jv (fun vs H Q E h=>?_) (fun cdv A outer s H vs Q E hr h=>?_)
 ·obtain ⟨p,g,y,sk,wr,rfl,_⟩:=h
  rfl
 ·obtain ⟨p,g,y,sk,wr,rfl,I,ek,hw,h1,h2,k⟩:=h
  have hye:H g.ye=some (.dK (sk.map kvA)):=by rw [<- ek];exact I.ye
  obtain ⟨ra,hra,hrow⟩:=VQ I.rows h1 y
  refine ⟨_,(j9 (jj (Jd (ql hr) (qr K (pv 0)) (pv 1) (jq (jd K) (qr K (pv 0)) (ji xM (pv 1) (jc (jg K) rfl nb.b_len PySem.boot_len (j0 (qr K (pv 0)) j2))) (fun _ _=>rfl)) ⟨rfl,rfl,rfl,rfl⟩))),?_⟩
  left
  refine ⟨p,C,g.dx,_,_,rfl,I.ob,T.cl,T.nY,zM _ _ _ _ _,?_⟩
  left
  refine ⟨.inl ⟨_,.inl hye⟩,?_⟩
  left
  refine ⟨p,C,g.dx,_,_,rfl,I.ob,T.cl,T.nC,yO _ _ _ _ _,?_⟩
  left
  refine ⟨p,C,g.dx,_,_,rfl,I.ob,T.cl,T.nC,yO _ _ _ _ _,?_⟩
  left
  refine ⟨g.cy,_,rfl,.inl (SqL.of I.cy),?_⟩
  have hl:g.ys.length=g.rows.length:=I.rows.length
  left
  refine ⟨_,_,_,_,rfl,rfl,SqL.of I.cy,hra,?_⟩
  rcases JF hw y with ⟨a,q,e1,e2,h⟩ | ⟨e1,e2⟩
  ·refine ⟨some (.ref a),by rw [<- e1];exact xh.k (k:=.inl y) hye,?_⟩
   exact k a (by unfold xR;rw [e2];exact h)
  ·refine ⟨none,by rw [<- e1];exact xh.k (k:=.inl y) hye,?_⟩
   exact k ra (by unfold xR;rw [e2];exact hrow)
def ZL:Sp:=fun vs H Q _=>∃ (sd:Addr) (c:ScN) (l:Int) (da:Addr) (dn:List (Int×Int)),vs=[.ref sd,.int l]/\ScAt H sd c/\0<=l/\c.lds[l.toNat]? = some (da,dn)/\dn.length<=100/\c.sk.length<=100 /\
 ∀ M H',-1<=M->(M = -1\/M∈c.sk.map (·.1)\/M∈dn.map (·.1))->(∀ z∈c.sk,z.1<=M)->(∀ q∈dn,q.1<=M)->jh H H'->Q (.int M) H'
theorem Ju:FnScope ["_law_scene_here","_law_lane"] ["_law_scene_here","_law_lane"] (j6 yM):=by walk_at "s"
theorem YX {f:Addr}{fd:FuncData}(nb:Nb2 mg) (F:Fun K "_law_news" "_law_news" yM f fd):FnOk P w K mg base CX0 1 f fd ["_law_scene_here","_law_lane"] ZL:=by
 refine F.ok Ju (fun vs H Q E h=>?_) (fun cdv A outer s H vs Q E hr h=>?_)
 ·obtain ⟨sd,c,l,da,dn,rfl,_⟩:=h
  rfl
 ·obtain ⟨sd,c,l,da,dn,rfl,S,l0,hda,hdn,hsk,k⟩:=h
  refine ⟨_,(j9 (jj (jc (XI K rfl) rfl nb.b_max boot_max (j0 (ji vk (ji vk (jT (j0 (ji xC j8 j8) j2)) (jY (uQ K rfl) rfl nb.b_list PyProof.Rows.boot_list (j0 (jR (ql hr) (pv 0) jH (fun _ _=>rfl)) j2))) (jY (uQ K rfl) rfl nb.b_list PyProof.Rows.boot_list (j0 (jq (jd K) (jR (ql hr) (pv 0) jH (fun _ _=>rfl)) (pv 1) (fun _ _=>rfl)) j2))) j2)))),?_⟩
  left
  refine ⟨by show 1<=sizeLine;decide,fun a1 H1 ha1 ha11 s1=>?_⟩
  left
  refine ⟨sd,.ref c.sg,rfl,by rw [<- yq c.p c.q c.sg c.gl c.ll];exact xh.k (k:=.inr "single") (S.same s1).sd,?_⟩
  left
  refine ⟨c.sg,_,c.sk.map (·.1),rfl,(S.same s1).sg,by rw [List.map_map,List.map_map];rfl,by rw [List.length_map];omega,fun a2 H2 ha2 ha22 s2=>?_⟩
  left
  refine ⟨a1,a2,_,_,rfl,rfl,s2 _ _ ha11,ha22,by rw [List.length_map,List.length_map];show 1+_<=_;exact Nat.le_of_lt (ja (by omega)),fun a3 H3 ha3 ha33 s3=>?_⟩
  have S3:=((S.same s1).same s2).same s3
  left
  refine ⟨sd,.ref c.ll,rfl,by rw [<- wE c.p c.q c.sg c.gl c.ll];exact xh.k (k:=.inr "leaps") S3.sd,?_⟩
  left
  refine ⟨_,_,_,_,rfl,rfl,SqL.of S3.ll,xk l0 (v:=V.ref da) (by rw [List.getElem?_map,hda];rfl),?_⟩
  left
  refine ⟨da,_,dn.map (·.1),rfl,S3.ld _ (List.mem_of_getElem? hda),by rw [List.map_map,List.map_map];rfl,by rw [List.length_map];omega,fun a4 H4 ha4 ha44 s4=>?_⟩
  left
  refine ⟨a3,a4,_,_,rfl,rfl,s4 _ _ ha33,ha44,by simp only [List.length_append,List.length_map];show 1+_+_<=_;exact Nat.le_of_lt (ja (by omega)),fun a5 H5 ha5 ha55 s5=>?_⟩
  have ha55:H5 a5=some (.lst ((-1::(c.sk.map (·.1)++dn.map (·.1))).map V.int)):=by rw [ha55,List.map_cons,List.map_append];rfl
  left
  refine ⟨a5,_,rfl,SqL.of ha55,by simp,fun M hM hle=>?_⟩
  have h1:=hle (-1) (List.mem_cons_self ..)
  refine k M H5 h1 ?_ (fun z hz=>hle _ (List.mem_cons_of_mem _ (List.mem_append_left _ (List.mem_map_of_mem hz)))) (fun q hq=>hle _ (List.mem_cons_of_mem _ (List.mem_append_right _ (List.mem_map_of_mem hq)))) (s1.trans (s2.trans (s3.trans (s4.trans s5))))
  rcases List.mem_cons.mp hM with h | h
  ·exact .inl h
  ·rcases List.mem_append.mp h with h | h
   ·exact .inr (.inl h)
   ·exact .inr (.inr h)
end
end K35
end
section
namespace L2
open PySem PySem.Spec PySem.W PyProof.Rows
abbrev Cx.noX (X:Cx):Cx:={ X with xe:=fun _ _=>False }
section
variable {X:Cx}{pins:List (Addr×Obj)}{σ:St}{H:Hp}{s:Shared}
theorem Inv.toNoX (I:Inv X pins σ H s):Inv X.noX pins σ H s:=⟨okP I.ok _ rfl,I.os,I.bare,I.base,I.loc,I.cell,I.free,I.freeC,I.pin,I.hok,I.len⟩
theorem Inv.ofNoX (I:Inv X.noX pins σ H s):Inv X pins σ H s:=⟨okP I.ok _ rfl,I.os,I.bare,I.base,I.loc,I.cell,I.free,I.freeC,I.pin,I.hok,I.len⟩
theorem Vv {st:Stmt}{t:TS}(h:PS X.noX st t):PS X st t:=fun pins s σ H D I q=>thn (wpAny_noRaise (h pins s σ H D I.toNoX q)) fun _ _ z=>spOf (fun I=>I.ofNoX) z
end
end L2
end
section
namespace K35
open PySem PySem.Spec PyProof.Rows L2
local macro_rules | `(tactic| walk_at "hp")=>`(tactic| first | assumption | exact j4 | (rw [j5 (by first | assumption | (apply Ne.symm;assumption))];first | assumption | exact j4))
local macro_rules | `(tactic| walk_at "num")=>`(tactic| first | decide | omega)
local macro_rules | `(tactic| walk_at "rd1")=>`(tactic| first | refine ⟨_,rfl,?_⟩ | refine ⟨_,_,rfl,rfl,?_⟩ | refine And.intro (show uZ _ _ from Or.inr ⟨by walk_at "num",by walk_at "num"⟩) ?_ | refine And.intro (show uZ _ _ from Or.inl ⟨by walk_at "num",by walk_at "num"⟩) ?_ | refine And.intro (show JQ _ _ from ⟨by walk_at "num",by walk_at "num"⟩) ?_ | refine And.intro (show ZE _ _ from ⟨by walk_at "num",by walk_at "num",by walk_at "num"⟩) ?_ | refine And.intro (show (0:Int)<_ by walk_at "num") ?_ | refine ⟨_,_,_,_,rfl,rfl,SqL.of (by walk_at "hp"),(by rfl),?_⟩ | refine ⟨_,_,_,_,rfl,rfl,SqT.of (by walk_at "hp"),(by rfl),?_⟩ | refine ⟨_,_,_,_,rfl,rfl,(by assumption),(by rfl),?_⟩ | refine ⟨_,_,_,_,rfl,rfl,(by walk_at "hp"),(by rfl),?_⟩ | refine ⟨rfl,?_⟩)
local macro_rules | `(tactic| walk_at "r")=>`(tactic| repeat walk_at "rd1")
local macro_rules | `(tactic| walk_at "s")=>`(tactic| exact ⟨rfl,rfl,rfl,by decide +kernel,rfl,by decide +kernel,by decide +kernel⟩)
local macro_rules | `(tactic| walk_at "k")=>`(tactic| decide +kernel)
local macro_rules | `(tactic| walk_at "w")=>`(tactic| (intro _ z;cases z))
local macro_rules | `(tactic| walk_at "z")=>`(tactic| (intro z;cases z))
local macro_rules | `(tactic| left)=>`(tactic| walk_at "r")
section
variable {P:Program}{w:World}{K:PySem.W.Frag}{mg:Str->Option Value}{base:Heap}
theorem kW:∀ (sk:List (Int×Addr)) (y:Int),y∈sk.map (·.1)->∃ r,qo (sk.map kvA) (.inl y)=some (.ref r)
 | [],y,h=>by cases h
 | q::r,y,h=>by
  rw [List.map_cons]
  unfold qo
  by_cases e:q.1=y
  ·subst e
   exact ⟨q.2,by simp [kvA,List.find?]⟩
  ·have h':y∈r.map (·.1):=by
    rcases List.mem_cons.mp h with z | z
    ·exact absurd z.symm e
    ·exact z
   obtain ⟨a,ih⟩:=kW r y h'
   unfold qo at ih
   refine ⟨a,?_⟩
   simp [kvA,List.find?,e] at ih ⊢
   exact ih
def Xj (C:Addr):Sp:=fun vs H Q _=>∃ (p:Addr) (g:IceG) (sk:List (Int×Addr)),vs=[.ref p]/\IceAt C H p g/\g.kvs=sk.map kvA/\sk.length<64 /\
 ∀ o H' out (ks:List Int),H o=none->H' o=some (.lst out)->Paired (fun v (y:Int)=>∃ b r,v=V.ref b/\H' b=some (.tup [.int y,.ref r])) out ks->jh H H'->ks.Perm (sk.map (·.1))->Q (.ref o) H'
theorem gx:FnScope ["self"] ["self"] (j6 xT):=by walk_at "s"
theorem gm {f C:Addr}{fd:FuncData}(nb:Nb2 mg) (T:IceC K C) (F:Fun K "told" "Ice.told" xT f fd):FnOk P w K mg base CX0 2 f fd ["self"] (Xj C):=by
 refine F.ok gx (fun vs H Q E h=>?_) (fun cdv A outer s H vs Q E hr h=>?_)
 ·obtain ⟨p,g,sk,rfl,_⟩:=h
  rfl
 ·obtain ⟨p,g,sk,rfl,I,ek,h64,k⟩:=h
  have hm:H g.ye=some (.dK (sk.map kvA)):=by rw [<- ek];exact I.ye
  refine ⟨_,(j9 (jj (jC (osc:=(j6 xT)) (ON:=["self"]) (N:=["year","self"]) (own:=1) (caps:=[0]) ⟨rfl,by walk_at "k",by walk_at "k",by walk_at "k",rfl,by walk_at "k"⟩ rfl rfl rfl (jL K (jc (vw K rfl) rfl nb.b_sorted boot_sorted (j0 (qr K (pv 0)) j2))) (fun _ _ _ _ _=>(jb (i:=0) (show List.Nodup (["year","self"]:List Str) by decide +kernel) rfl (Or.inl rfl))) (fun _ _ _ _ _=>jr) (fun _ _ _ _ _=>(xH (j0 (pv 0) (j0 (jR (ql hr) (qr K (pv 1)) (pv 0) (fun _ _=>rfl)) j2))))))),?_⟩
  left
  refine ⟨p,C,g.dx,_,_,rfl,I.ob,T.cl,T.nY,zM _ _ _ _ _,?_⟩
  left
  refine ⟨g.ye,sk.map kvA,sk.map (·.1),rfl,hm,by rw [List.map_map,List.map_map];rfl,by rw [List.length_map];exact h64,fun o H1 ks ho ho1 s1 hp hs=>?_⟩
  have hkl:ks.length<64:=by rw [hp.length_eq,List.length_map];exact h64
  refine ⟨o,rfl,⟨_,SqL.of ho1⟩,fun acc hacc=>?_⟩
  refine jI (K:=K) (a:=o) (xs:=ks.map V.int) (acc:=acc) (fun i σ H2=>∃ (x:Option V) (out:List V),σ=[x,some (.ref p)]/\H2 acc=some (.lst out)/\out.length=i/\Paired (fun v (y:Int)=>∃ b r,v=V.ref b/\H2 b=some (.tup [.int y,.ref r])) out (ks.take i)/\Ext acc H1 H2) ?_ ?_ ?_ ?_
  ·exact ⟨none,[],rfl,j4,rfl,.nil,Ext.put⟩
  ·rintro i σ H2 hi ⟨x,out,rfl,h2,hz,r2,e2⟩
   exact SqL.of (e2 _ _ ho1 (j1 ho1 hacc))
  ·rintro i v σ H2 hv ⟨x,out,rfl,h2,hz,r2,e2⟩
   obtain ⟨y,rfl,hy⟩:=xN hv
   have hiy:=(List.getElem?_eq_some_iff.mp hy).1
   have hyn:y∈sk.map (·.1):=hp.mem_iff.mp (List.mem_of_getElem? hy)
   obtain ⟨rr,hrr⟩:=kW sk y hyn
   have t2:jh H H2:=fun c o hc=>e2 _ _ (s1 _ _ hc) (j1 (s1 _ _ hc) hacc)
   have I2:=I.same t2
   left
   refine ⟨p,C,g.dx,_,_,rfl,I2.ob,T.cl,T.nY,zM _ _ _ _ _,?_⟩
   left
   refine ⟨g.ye,.ref rr,rfl,by rw [<- hrr];exact xh.k (k:=.inl y) (t2 _ _ hm),?_⟩
   left
   refine ⟨by show 2<=sizeLine;decide,fun b H3 hb hb3 s3=>?_⟩
   have h3:=s3 _ _ h2
   have bacc:b≠acc:=(j1 h2 hb).symm
   refine ⟨out,h3,ja (by omega),some (.int y),out++[.ref b],rfl,j4,by rw [List.length_append,hz];rfl,?_,fun c o hc n=>by rw [j5 n];exact s3 _ _ (e2 c o hc n)⟩
   rw [List.take_add_one,hy]
   exact Paired.snoc (Paired.mapP r2 fun v m ⟨c,r,e,q⟩=>⟨c,r,e,by rw [j5 (jk (s3 _ _ q) h3 (by walk_at "z"))];exact s3 _ _ q⟩) ⟨b,rr,rfl,by rw [j5 bacc];exact hb3⟩
  ·rintro σ H2 ⟨x,out,rfl,h2,hz,r2,e2⟩
   rw [List.length_map,List.take_length] at r2
   exact k acc H2 out ks (s1.free hacc) h2 r2 (fun c o hc=>e2 _ _ (s1 _ _ hc) (j1 (s1 _ _ hc) hacc)) hp
theorem xK:∀ {l:List Int},l.Pairwise (· <= ·)->l.Nodup->l.Pairwise (· < ·)
 | [],_,_=>.nil
 | x::r,p,n=>by
  rw [List.pairwise_cons] at p ⊢
  obtain ⟨n1,n2⟩:=List.nodup_cons.mp n
  refine ⟨fun y hy=>?_,xK p.2 n2⟩
  have:=p.1 y hy
  have:x≠y:=fun e=>n1 (e ▸ hy)
  omega
theorem ux:∀ {xs ys:List (Int×Int)},xs.Perm ys->(xs.map (·.1)).Pairwise (· < ·)->(ys.map (·.1)).Pairwise (· < ·)->xs=ys
 | [],ys,p,_,_=>p.nil_eq
 | x::r,[],p,_,_=>absurd p.length_eq (by simp)
 | x::r,y::t,p,hx,hy=>by
  rw [List.map_cons,List.pairwise_cons] at hx hy
  have e:x=y:=by
   rcases List.mem_cons.mp (p.mem_iff.mpr (List.mem_cons_self (a:=y) (l:=t))) with e | e
   ·exact e.symm
   ·rcases List.mem_cons.mp (p.mem_iff.mp (List.mem_cons_self (a:=x) (l:=r))) with e2 | e2
    ·exact e2
    ·have a:=hx.1 _ (List.mem_map_of_mem e)
     have b:=hy.1 _ (List.mem_map_of_mem e2)
     omega
  subst e
  rw [ux (List.Perm.cons_inv p) hx.2 hy.2]
theorem k8 {ns ms os:List (Int×Int)}(nd:(ns.map (·.1)).Nodup) (p:ms.Perm ns) (s:(ms.map (·.1)).Pairwise (· <= ·)) (q:os.Perm ns) (t:(os.map (·.1)).Pairwise (· <= ·)):os=ms :=
 ux (q.trans p.symm) (xK t ((q.map (·.1)).nodup_iff.mpr nd)) (xK s ((p.map (·.1)).nodup_iff.mpr nd))
theorem kB:∀ (ns:List (Int×Int)) (y:Int),(qo (ns.map kvI) (.inl y)).getD (.int 0) = .int (qw ns y)
 | [],y=>rfl
 | q::r,y=>by
  rw [List.map_cons]
  unfold qw
  by_cases e:q.1=y
  ·subst e
   rw [if_pos rfl,show qo (kvI q::r.map kvI) (.inl q.1)=some (.int q.2) from x3]
   rfl
  ·rw [if_neg e,show qo (kvI q::r.map kvI) (.inl y)=qo (r.map kvI) (.inl y) from jt fun w=>e (Sum.inl.inj w)]
   exact kB r y
def kP (C:Addr):Sp:=fun vs H Q _=>∃ (p:Addr) (g:IceG) (l:Int) (sk:List (Int×Addr)) (ns:List (Int×Int)),vs=[.ref p,.int l]/\IceAt C H p g/\g.lds.length=g.slopes.length/\g.kvs=sk.map kvA/\sk.length<64/\(∀ z∈sk,0<=z.1)/\Ve g l ns/\(∀ q∈ns,0<=q.1) /\
 ∀ M H',-1<=M->(M = -1\/M∈sk.map (·.1)\/M∈ns.map (·.1))->(∀ z∈sk,z.1<=M)->(∀ q∈ns,q.1<=M)->jh H H'->Q (.int (M+1+((g.slopes.getD l.toNat []).length:Int))) H'
theorem wn:FnScope ["ice","lane","told"] ["ice","lane"] (j6 zw):=by walk_at "s"
theorem Qq {f C CN:Addr}{fd:FuncData}(nb:Nb2 mg) (cl_Ice:Cls K C) (c_Ice__told:CalM P w K mg base 2 C "told" ["self"] (Xj C)) (c_Ice__surges:CalMX P w K mg base 2 C "surges" ["self","lane"] (vQ C CN)) (c_Ice__length:CalMX P w K mg base 2 C "length" ["self","lane"] (uf C CN))
  (F:Fun K "settled" "settled" zw f fd):FnOk P w K mg base (CX1 P w) 3 f fd ["ice","lane"] (kP C):=by
 refine Fun.okX F wn (fun vs H Q E h=>?_) (fun cdv A outer s H vs Q E hr h=>?_)
 ·obtain ⟨p,g,l,sk,ns,rfl,_⟩:=h
  rfl
 ·obtain ⟨p,g,l,sk,ns,rfl,I,hll,ek,hk64,hk0,⟨l0,l1,⟨a,ha⟩,nd,h64,h9⟩,hn0,k⟩:=h
  have nof:∀ {m:Str},¬ m = "leaps" -> ¬ m = "years" -> ¬ m = "slopes" -> ¬ m = "cycle" -> ¬ m = "valley" -> (yV g.va g.cy g.sl g.ye g.le).lookup m=none:=fun a b c d e=>xG _ _ _ _ _ a b c d e
  refine ⟨_,(j7 (jp (i:=2) wn.nd rfl (Or.inl rfl) (ji vk (jC (osc:=(j6 zw)) (ON:=["ice","lane","told"]) (N:=["year","row"]) (own:=2) (caps:=[]) ⟨rfl,by walk_at "k",by walk_at "k",by walk_at "k",rfl,by walk_at "k"⟩ rfl rfl rfl (jL K (Vt (pv 0) cl_Ice c_Ice__told (hr.mono (by decide)))) (fun _ _ _ _ _=>(qL (n:=2) K rfl (js (jb (i:=0) (show List.Nodup (["year","row"]:List Str) by decide +kernel) rfl (Or.inl rfl)) (js (jb (i:=1) (show List.Nodup (["year","row"]:List Str) by decide +kernel) rfl (Or.inl rfl)) qA)))) (fun _ _ _ _ _=>jr) (fun _ _ _ _ _=>(pv 0))) (jC (osc:=(j6 zw)) (ON:=["ice","lane","told"]) (N:=["year","many"]) (own:=2) (caps:=[]) ⟨rfl,by walk_at "k",by walk_at "k",by walk_at "k",rfl,by walk_at "k"⟩ rfl rfl rfl (jL K (zC (pv 0) cl_Ice c_Ice__surges (hr.mono (by decide)) qC (j0 (pv 1) j2))) (fun _ _ _ _ _=>(qL (n:=2) K rfl (js (jb (i:=0) (show List.Nodup (["year","many"]:List Str) by decide +kernel) rfl (Or.inl rfl)) (js (jb (i:=1) (show List.Nodup (["year","many"]:List Str) by decide +kernel) rfl (Or.inl rfl)) qA)))) (fun _ _ _ _ _=>jr) (fun _ _ _ _ _=>(pv 0)))))
   (j9 (jj (ji jA (ji jA (YE K rfl rfl nb.b_max (j0 (pv 2) j2) (yE zq j8)) j8) (zC (pv 0) cl_Ice c_Ice__length (hr.mono (by decide)) qC (j0 (pv 1) j2)))))),?_⟩
  left
  refine ⟨p,g.dx,_,rfl,I.ob,nof (by walk_at "k") (by walk_at "k") (by walk_at "k") (by walk_at "k") (by walk_at "k"),?_⟩
  left
  refine ⟨p,g,sk,rfl,I,ek,hk64,fun o1 H1 out1 ks ho1 ho11 r1 s1 hks=>?_⟩
  have hol1:out1.length=ks.length:=Paired.length r1
  have hkl:ks.length<64:=by rw [hks.length_eq,List.length_map];exact hk64
  left
  refine ⟨⟨_,SqL.of ho11⟩,fun acc hacc=>?_⟩
  refine jI (K:=K) (a:=o1) (xs:=out1) (acc:=acc) (fun i σ H2=>∃ x0 x1:Option V,σ=[x0,x1]/\H2 acc=some (.lst ((ks.take i).map V.int))/\Ext acc H1 H2) ?_ ?_ ?_ ?_
  ·exact ⟨none,none,rfl,j4,Ext.put⟩
  ·rintro i σ H2 hi ⟨x0,x1,rfl,h2,e2⟩
   exact SqL.of (e2 _ _ ho11 (j1 ho11 hacc))
  ·rintro i v σ H2 hv ⟨x0,x1,rfl,h2,e2⟩
   obtain ⟨y,hy,bq,rr,rfl,hbq⟩:=Paired.get r1 hv
   have hi:i<ks.length:=(List.getElem?_eq_some_iff.mp hy).1
   have hbq2:=e2 _ _ hbq (j1 hbq hacc)
   left
   refine ⟨bq,_,rfl,SqT.of hbq2,rfl,?_⟩
   refine ⟨_,_,rfl,_,_,rfl,rfl,?_⟩
   left
   refine ⟨_,h2,by rw [List.length_map,List.length_take];exact ja (by omega),_,_,rfl,?_,e2.trans Ext.put⟩
   rw [j4,List.take_add_one,hy,List.map_append]
   rfl
  rintro σ H2 ⟨x0,x1,rfl,h2,e2⟩
  have s2:jh H1 H2:=fun c o hc=>e2 c o hc (j1 hc hacc)
  rw [hol1,List.take_length] at h2
  have t2:=s1.trans s2
  left
  refine ⟨p,g.dx,_,rfl,t2 _ _ I.ob,nof (by walk_at "k") (by walk_at "k") (by walk_at "k") (by walk_at "k") (by walk_at "k"),?_⟩
  left
  refine ⟨p,g,l,rfl,I.same t2,hll,(fun hb=>absurd hb (by omega)),fun _ _=>⟨a,ns,ha,nd,h64,fun o3 H3 out3 ms ho3 ho33 r3 s3 hp hs=>?_⟩⟩
  have hol3:out3.length=ms.length:=Paired.length r3
  have hml:ms.length<64:=by rw [hp.length_eq];exact h64
  left
  refine ⟨⟨_,SqL.of ho33⟩,fun ac2 hac2=>?_⟩
  refine jI (K:=K) (a:=o3) (xs:=out3) (acc:=ac2) (fun i σ H4=>∃ x0 x1:Option V,σ=[x0,x1]/\H4 ac2=some (.lst (((ms.take i).map (·.1)).map V.int))/\Ext ac2 H3 H4) ?_ ?_ ?_ ?_
  ·exact ⟨none,none,rfl,j4,Ext.put⟩
  ·rintro i σ H4 hi ⟨x0,x1,rfl,h4,e4⟩
   exact SqL.of (e4 _ _ ho33 (j1 ho33 hac2))
  ·rintro i v σ H4 hv ⟨x0,x1,rfl,h4,e4⟩
   obtain ⟨q,hq,bq,rfl,hbq⟩:=Paired.get r3 hv
   have hi:i<ms.length:=(List.getElem?_eq_some_iff.mp hq).1
   have hbq2:=e4 _ _ hbq (j1 hbq hac2)
   left
   refine ⟨bq,_,rfl,SqT.of hbq2,rfl,?_⟩
   refine ⟨_,_,rfl,_,_,rfl,rfl,?_⟩
   left
   refine ⟨_,h4,by rw [List.length_map,List.length_map,List.length_take];exact ja (by omega),_,_,rfl,?_,e4.trans Ext.put⟩
   rw [j4,List.take_add_one,hq,List.map_append,List.map_append]
   rfl
  rintro σ H4 ⟨x0,x1,rfl,h4,e4⟩
  have s4:jh H3 H4:=fun c o hc=>e4 c o hc (j1 hc hac2)
  rw [hol3,List.take_length] at h4
  refine ⟨acc,ac2,_,_,rfl,rfl,s4 _ _ (s3 _ _ h2),h4,by rw [List.length_map,List.length_map,List.length_map];exact Nat.le_of_lt (ja (by omega)),fun a5 H5 ha5 ha55 s5=>?_⟩
  have ha55:H5 a5=some (.lst ((ks++ms.map (·.1)).map V.int)):=by rw [ha55,List.map_append]
  have t5:jh H H5:=t2.trans (s3.trans (s4.trans s5))
  have mk1:∀ y,y∈ks↔y∈sk.map (·.1):=fun y=>hks.mem_iff
  have mk2:∀ y,y∈ms.map (·.1)↔y∈ns.map (·.1):=fun y=>(hp.map (·.1)).mem_iff
  left
  refine ⟨a5,ks++ms.map (·.1),_,rfl,rfl,SqL.of ha55,fun hnil=>?_,fun M hM hle=>?_⟩
  ·left
   refine ⟨p,g.dx,_,rfl,t5 _ _ I.ob,nof (by walk_at "k") (by walk_at "k") (by walk_at "k") (by walk_at "k") (by walk_at "k"),?_⟩
   left
   refine ⟨p,g,l,rfl,I.same t5,fun _ _=>?_,fun hb=>absurd hb (by omega)⟩
   left
   obtain ⟨h1,h2⟩:=List.append_eq_nil_iff.mp hnil
   refine k (-1) H5 (Int.le_refl _) (.inl rfl) (fun z hz=>?_) (fun q hq=>?_) t5
   ·have:=(mk1 z.1).mpr (List.mem_map_of_mem hz)
    rw [h1] at this
    cases this
   ·have:=(mk2 q.1).mpr (List.mem_map_of_mem hq)
    rw [h2] at this
    cases this
  ·left
   refine ⟨p,g.dx,_,rfl,t5 _ _ I.ob,nof (by walk_at "k") (by walk_at "k") (by walk_at "k") (by walk_at "k") (by walk_at "k"),?_⟩
   left
   refine ⟨p,g,l,rfl,I.same t5,fun _ _=>?_,fun hb=>absurd hb (by omega)⟩
   left
   have hM':M∈sk.map (·.1)\/M∈ns.map (·.1):=(List.mem_append.mp hM).imp (mk1 M).mp (mk2 M).mp
   have hM0:0<=M:=by
    rcases hM' with h | h
    ·obtain ⟨z,hz,rfl⟩:=List.mem_map.mp h
     exact hk0 z hz
    ·obtain ⟨z,hz,rfl⟩:=List.mem_map.mp h
     exact hn0 z hz
   exact k M H5 (by omega) (.inr hM') (fun z hz=>hle _ (List.mem_append_left _ ((mk1 z.1).mpr (List.mem_map_of_mem hz)))) (fun q hq=>hle _ (List.mem_append_right _ ((mk2 q.1).mpr (List.mem_map_of_mem hq)))) t5
end
section
variable {P:Program}{w:World}{K:PySem.W.Frag}{mg:Str->Option Value}{base:Heap}
theorem wY (ns:List (Int×Int)):∃ ms:List (Int×Int),ms.Perm ns/\(ms.map (·.1)).Pairwise (· <= ·):=by
 refine ⟨ns.mergeSort (fun a b=>decide (a.1<=b.1)),List.mergeSort_perm _ _,?_⟩
 rw [List.pairwise_map]
 exact (List.pairwise_mergeSort (fun a b c h1 h2=>by simp at *;omega) (fun a b=>by simp;omega) ns).imp fun h=>by simpa using h
theorem zY.good {H:Hp}:∀ {sk:List (Int×Addr)}{wr:List (Int×T3)},zY H sk wr->(∀ z∈sk,∃ t,H z.2=some (yb t)/\good t=true)->∀ q∈wr,good q.2=true
 | _,_,.nil,_,q,hq=>by cases hq
 | z::r,x::t,.cons ⟨_,h⟩ tl,g,q,hq=>by
  rcases List.mem_cons.mp hq with e | e
  ·subst e
   obtain ⟨u,hu,gu⟩:=g z (List.mem_cons_self ..)
   rw [h] at hu
   have:yb q.2=yb u:=Option.some.inj hu
   have e1:q.2.1=u.1:=by injection this with this;injection this with a b;exact V.int.inj a
   have e2:q.2.2.1=u.2.1:=by injection this with this;injection this with a b;injection b with b c;exact V.int.inj b
   have e3:q.2.2.2=u.2.2:=by injection this with this;injection this with a b;injection b with b c;injection c with c d;exact V.int.inj c
   rw [show q.2=u from Prod.ext e1 (Prod.ext e2 e3)]
   exact gu
  ·exact zY.good tl (fun z hz=>g z (List.mem_cons_of_mem _ hz)) q e
theorem Y6 {wr:List (Int×T3)}{ts:List T3}(h1:∀ q∈wr,good q.2=true) (h2:ts.all good=true) (h3:1<=ts.length) (y:Int):good (xR wr ts y)=true:=by
 unfold xR
 cases e:wr.find? fun q=>decide (q.1=y) with
 | some q=>exact h1 q (List.mem_of_find?_eq_some e)
 | none =>
  have m0:=Int.emod_nonneg y (show (ts.length:Int)≠0 by omega)
  have m1:=Int.emod_lt_of_pos y (show (0:Int)<ts.length by omega)
  have hi:(y % (ts.length:Int)).toNat<ts.length:=by omega
  show good (ts.getD (y % (ts.length:Int)).toNat (0,0,0))=true
  rw [List.getD_eq_getElem?_getD,List.getElem?_eq_getElem hi]
  exact List.all_eq_true.mp h2 _ (List.getElem_mem hi)
theorem ZJ {t:T3}(g:good t=true) (h:Int):chg t h<=9:=by
 unfold good at g
 have:=of_decide_eq_true g
 unfold chg
 split <;> omega
abbrev QC:=Int×Int×Int×List Int
def y9 (t:T3) (d gd:List Int):List Int:=List.zipWith (fun x h=>if chg t h > -x then chg t h else -x) d gd
def jU (s:Nat) (d:List Int):List Int:=List.replicate s 0++d.take (d.length-s)
def vU (gd:List Int) (t:T3) (s:Nat) (d:List Int):QC :=
 (((y9 t (jU s d) gd).filter fun x=>decide (0<x)).sum,((y9 t (jU s d) gd).filter fun x=>decide (0<x)).sum-(y9 t (jU s d) gd).sum,(d.drop (d.length-s)).sum,List.zipWith (· + ·) (jU s d) (y9 t (jU s d) gd))
def xj (ns:List (Int×Int)) (len:Nat) (y:Int):Nat:=(min (1+qw ns y) (len:Int)).toNat
def wD (ns:List (Int×Int)) (gd:List Int) (wr:List (Int×T3)) (ts:List T3) (fst:Int):Nat->List Int
 | 0=>List.replicate gd.length 0
 | i+1=>(vU gd (xR wr ts (fst+(i:Int))) (xj ns gd.length (fst+(i:Int))) (wD ns gd wr ts fst i)).2.2.2
def zL (ns:List (Int×Int)) (gd:List Int) (wr:List (Int×T3)) (ts:List T3) (fst:Int) (i:Nat):QC:=vU gd (xR wr ts (fst+(i:Int))) (xj ns gd.length (fst+(i:Int))) (wD ns gd wr ts fst i)
def qx (ns:List (Int×Int)) (gd:List Int) (wr:List (Int×T3)) (ts:List T3) (fst:Int) (n:Nat):List QC:=(List.range n).map (zL ns gd wr ts fst)
theorem zP {s:Nat}{d:List Int}(h:s<=d.length):(jU s d).length=d.length:=by
 unfold jU
 rw [List.length_append,List.length_replicate,List.length_take]
 omega
theorem wj {t:T3}{d gd:List Int}(h:d.length=gd.length):(y9 t d gd).length=gd.length:=by
 unfold y9
 rw [List.length_zipWith]
 omega
theorem wJ (ns:List (Int×Int)) (len:Nat) (y:Int):xj ns len y<=len:=by
 unfold xj
 omega
theorem vc (ns:List (Int×Int)) (gd:List Int) (wr:List (Int×T3)) (ts:List T3) (fst:Int):∀ i,(wD ns gd wr ts fst i).length=gd.length
 | 0=>List.length_replicate
 | i+1=>by
  have ih:=vc ns gd wr ts fst i
  have h1:=wJ ns gd.length (fst+(i:Int))
  show (List.zipWith (· + ·) (jU _ _) (y9 _ (jU _ _) gd)).length=_
  rw [List.length_zipWith,wj (by rw [zP (by omega),ih]),zP (by omega),ih,Nat.min_self]
theorem vR {s:Nat}{d:List Int}{x:Int}(h:x∈jU s d):x=0\/x∈d:=by
 rcases List.mem_append.mp h with z | z
 ·exact .inl (List.mem_replicate.mp z).2
 ·exact .inr (List.mem_of_mem_take z)
theorem hX {t:T3}(gt:good t=true) {B:Int}:∀ {d gd:List Int},(∀ x∈d,0<=x/\x<=B)->∀ z∈y9 t d gd,- B<=z/\z<=9\/(0<=z/\z<=9)
 | [],_,_,z,hz=>by cases hz
 | _::_,[],_,z,hz=>by cases hz
 | x::d,h::gd,hb,z,hz=>by
  have h0:=hb x (List.mem_cons_self ..)
  have c9:=ZJ gt h
  rcases List.mem_cons.mp (show z∈(if chg t h > -x then chg t h else -x)::y9 t d gd from hz) with e | e
  ·rw [e]
   refine .inl ?_
   split <;> omega
  ·exact hX gt (fun y hy=>hb y (List.mem_cons_of_mem _ hy)) z e
theorem QP {t:T3}(gt:good t=true) {B:Int}:∀ {d gd:List Int},(∀ x∈d,0<=x/\x<=B)->∀ z∈List.zipWith (· + ·) d (y9 t d gd),0<=z/\z<=B+9
 | [],_,_,z,hz=>by cases hz
 | _::_,[],_,z,hz=>by cases hz
 | x::d,h::gd,hb,z,hz=>by
  have h0:=hb x (List.mem_cons_self ..)
  have c9:=ZJ gt h
  rcases List.mem_cons.mp (show z∈(x+(if chg t h > -x then chg t h else -x))::List.zipWith (· + ·) d (y9 t d gd) from hz) with e | e
  ·rw [e]
   split <;> omega
  ·exact QP gt (fun y hy=>hb y (List.mem_cons_of_mem _ hy)) z e
theorem gk {ns:List (Int×Int)}{gd:List Int}{wr:List (Int×T3)}{ts:List T3}{fst:Int}(sg:∀ z,good (xR wr ts z)=true):∀ i,∀ x∈wD ns gd wr ts fst i,0<=x/\x<=9*(i:Int)
 | 0,x,hx=>by rw [(List.mem_replicate.mp hx).2];omega
 | i+1,x,hx=>by
  have ih:=gk (ns:=ns) (gd:=gd) (fst:=fst) sg i
  have:=QP (sg (fst+(i:Int))) (B:=9*(i:Int)) (gd:=gd) (d:=jU (xj ns gd.length (fst+(i:Int))) (wD ns gd wr ts fst i)) (fun y hy=>by
   rcases vR hy with e | e
   ·omega
   ·exact ih y e) x hx
  omega
theorem gq (ns:List (Int×Int)) (gd:List Int) (wr:List (Int×T3)) (ts:List T3) (fst:Int) (n:Nat):qx ns gd wr ts fst (n+1)=qx ns gd wr ts fst n++[zL ns gd wr ts fst n]:=by
 unfold qx
 rw [List.range_succ,List.map_append]
 rfl
theorem Zz {xs:List V}{s:Nat}(h:1<=s) (h2:s<=xs.length):vO xs (some (- (s:Int))) none=xs.drop (xs.length-s):=by
 unfold vO
 rw [HT.sIx_none,show HT.sIx xs.length 0 (some (- (s:Int)))=xs.length-s by show (if-(s:Int)<0 then (- (s:Int)+(xs.length:Int)).toNat else _)=_;rw [if_pos (by omega)];omega]
 exact List.take_of_length_le (by rw [List.length_drop];exact Nat.le_refl _)
theorem ZV {xs:List V}{s:Nat}(h:1<=s) (h2:s<=xs.length):vO xs none (some (- (s:Int)))=xs.take (xs.length-s):=by
 unfold vO
 rw [HT.sIx_none,show HT.sIx xs.length xs.length (some (- (s:Int)))=xs.length-s by show (if-(s:Int)<0 then (- (s:Int)+(xs.length:Int)).toNat else _)=_;rw [if_pos (by omega)];omega,List.drop_zero,Nat.sub_zero]
def vp (H:Hp) (out:List V) (qs:List QC):Prop:=Paired (fun v (q:QC)=>∃ b dl,v=V.ref b/\H b=some (.tup [.int q.1,.int q.2.1,.int q.2.2.1,.ref dl])/\H dl=some (.lst (q.2.2.2.map V.int))) out qs
end
section
variable {P:Program}{w:World}{K:PySem.W.Frag}{mg:Str->Option Value}{base:Heap}
theorem QV:∀ {ns:List (Int×Int)},(∀ q∈ns,0<=q.2/\q.2<=9)->∀ y,0<=qw ns y/\qw ns y<=9
 | [],_,y=>by unfold qw;omega
 | q::r,h,y=>by
  have h0:=h q (List.mem_cons_self ..)
  have ih:=QV (fun z hz=>h z (List.mem_cons_of_mem _ hz)) y
  unfold qw
  split <;> omega
theorem ZD {α β γ:Type}(f:α->β->γ) {xs:List α}{ys:List β}{i:Nat}{x:α}{y:β}(h1:xs[i]? = some x) (h2:ys[i]? = some y):(List.zipWith f xs ys).take (i+1)=(List.zipWith f xs ys).take i++[f x y]:=by
 rw [List.take_add_one,List.getElem?_zipWith,h1,h2]
 rfl
def J6 (C:Addr):Sp:=fun vs H Q _=>∃ (p:Addr) (g:IceG) (l fst last:Int) (sk:List (Int×Addr)) (wr:List (Int×T3)) (ns ms:List (Int×Int)) (gd:List Int),vs=[.ref p,.int l,.int fst,.int last]/\IceAt C H p g/\g.lds.length=g.slopes.length/\g.kvs=sk.map kvA/\zY H sk wr/\1<=g.rows.length/\g.rows.length<=1000/\(∀ z,good (xR wr g.rows z)=true)/\Ve g l ns/\ms.Perm ns/\(ms.map (·.1)).Pairwise (· <= ·)/\g.slopes.getD l.toNat []=gd/\1<=gd.length/\gd.length<=100/\(last+1-fst).toNat<=900 /\
 ∀ o out H',H o=none->H' o=some (.lst out)->vp H' out (qx ms gd wr g.rows fst (last+1-fst).toNat)->jh H H'->Q (.ref o) H'
theorem jX:FnScope ["ice","lane","first","last","slope","leaps","depths","rows","year","steps","gone","weather","moved","fallen"] ["ice","lane","first","last"] (j6 xc):=by walk_at "s"
theorem XZ {f C CN CP:Addr}{fd:FuncData}(nb:Nb2 mg) (b_dict:mg "dict" = none) (cl_Ice:Cls K C) (c_Ice__surges:CalMX P w K mg base 2 C "surges" ["self","lane"] (vQ C CN)) (c_Ice__length:CalMX P w K mg base 2 C "length" ["self","lane"] (uf C CN)) (c_change:Cal P w K mg base 1 "change" ["row","height"] JP) (c_Ice__sky:CalM P w K mg base 1 C "sky" ["self","year"] (Vs C)) (c_Ice__height:CalMX P w K mg base 3 C "height" ["self","lane","place"] (ku C CN CP))
  (F:Fun K "course" "course" xc f fd):FnOk P w K mg base (CX1 P w) 4 f fd ["ice","lane","first","last"] (J6 C):=by
 refine Fun.okX F jX (fun vs H Q E h=>?_) (fun cdv A outer s H vs Q E hr h=>?_)
 ·obtain ⟨p,g,l,fst,last,sk,wr,ns,ms,gd,rfl,_⟩:=h
  rfl
 ·obtain ⟨p,g,l,fst,last,sk,wr,ns,ms,gd,rfl,I,hll,ek,hw,hr1,hr2,sg,⟨l0,l1,⟨a,ha⟩,nd,h64,h9⟩,hp,hs,hgd,g1,g100,hn,k⟩:=h
  have nof:∀ {m:Str},¬ m = "leaps" -> ¬ m = "years" -> ¬ m = "slopes" -> ¬ m = "cycle" -> ¬ m = "valley" -> (yV g.va g.cy g.sl g.ye g.le).lookup m=none:=fun a b c d e=>xG _ _ _ _ _ a b c d e
  have ndm:(ms.map (·.1)).Nodup:=(hp.map (·.1)).nodup_iff.mpr nd
  have hlm:ms.length<64:=by rw [hp.length_eq];exact h64
  refine ⟨_,(j7 (zH (j:=4) (osc:=(j6 xc)) (ON:=["ice","lane","first","last","slope","leaps","depths","rows","year","steps","gone","weather","moved","fallen"]) (N:=["place","lane","ice"]) (own:=1) (caps:=[1,0]) ⟨rfl,by walk_at "k",by walk_at "k",by walk_at "k",rfl,by walk_at "k"⟩ jX.nd rfl (Or.inl rfl) rfl rfl rfl (jO rfl nb.b_range (j0 (zC (pv 0) cl_Ice c_Ice__length (hr.mono (by decide)) qC (j0 (pv 1) j2)) j2)) (fun _ _ _ _ _=>(jb (i:=0) (show List.Nodup (["place","lane","ice"]:List Str) by decide +kernel) rfl (Or.inl rfl))) (fun _ _ _ _ _=>jr) (fun _ _ _ _ _=>(zC (pv 2) cl_Ice c_Ice__height (hr.mono (by decide)) gf (j0 (pv 1) (j0 (pv 0) j2)))))
   (j7 (jp (i:=5) jX.nd rfl (Or.inl rfl) (jY (Qi K rfl) rfl b_dict PyProof.Rows.boot_dict (j0 (zC (pv 0) cl_Ice c_Ice__surges (hr.mono (by decide)) qC (j0 (pv 1) j2)) j2)))
   (j7 (zH (j:=6) (osc:=(j6 xc)) (ON:=["ice","lane","first","last","slope","leaps","depths","rows","year","steps","gone","weather","moved","fallen"]) (N:=["height"]) (own:=1) (caps:=[]) ⟨rfl,by walk_at "k",by walk_at "k",by walk_at "k",rfl,by walk_at "k"⟩ jX.nd rfl (Or.inl rfl) rfl rfl rfl (jL K (pv 4)) (fun _ _ _ _ _=>(jb (i:=0) (show List.Nodup (["height"]:List Str) by decide +kernel) rfl (Or.inl rfl))) (fun _ _ _ _ _=>jr) (fun _ _ _ _ _=>j8))
   (j7 (jp (i:=7) jX.nd rfl (Or.inl rfl) (jT j2))
   (j7 (Vv (xB PassesOwn.never rfl (XS rfl nb.b_range (j0 (pv 2) (j0 (ji jA (pv 3) j8) j2))) (jb (i:=8) jX.nd rfl (Or.inl rfl)) (j7 (jp (i:=9) jX.nd rfl (Or.inl rfl) (jc (uc rfl) rfl nb.b_min boot_min (j0 (ji jA j8 (Jd (ql hr) (pv 5) (pv 8) j8 ⟨rfl,rfl,rfl,rfl⟩)) (j0 (jc (jg K) rfl nb.b_len PySem.boot_len (j0 (pv 4) j2)) j2))))
   (j7 (jp (i:=10) jX.nd rfl (Or.inl rfl) (jc (zy K rfl) rfl nb.b_sum boot_sum (j0 (vq (yn K) (pv 6) (uF (yE zq (pv 9))) uJ) j2)))
   (j7 (jp (i:=6) jX.nd rfl (Or.inl rfl) (ji vk (jC (osc:=(j6 xc)) (ON:=["ice","lane","first","last","slope","leaps","depths","rows","year","steps","gone","weather","moved","fallen"]) (N:=["step"]) (own:=1) (caps:=[]) ⟨rfl,by walk_at "k",by walk_at "k",by walk_at "k",rfl,by walk_at "k"⟩ rfl rfl rfl (jO rfl nb.b_range (j0 (pv 9) j2)) (fun _ _ _ _ _=>(jb (i:=0) (show List.Nodup (["step"]:List Str) by decide +kernel) rfl (Or.inl rfl))) (fun _ _ _ _ _=>jr) (fun _ _ _ _ _=>j8)) (vq (yn K) (pv 6) uJ (uF (yE zq (pv 9))))))
   (j7 (jp (i:=11) jX.nd rfl (Or.inr rfl) (pe_m (pv 0) cl_Ice c_Ice__sky (hr.mono (by decide)) (j0 (pv 8) j2)))
   (j7 (zH (j:=12) (osc:=(j6 xc)) (ON:=["ice","lane","first","last","slope","leaps","depths","rows","year","steps","gone","weather","moved","fallen"]) (N:=["lying","height","weather"]) (own:=2) (caps:=[11]) ⟨rfl,by walk_at "k",by walk_at "k",by walk_at "k",rfl,by walk_at "k"⟩ jX.nd rfl (Or.inl rfl) rfl rfl rfl (gK K rfl nb.b_zip (j0 (pv 6) (j0 (pv 4) j2))) (fun _ _ _ _ _=>(qL (n:=2) K rfl (js (jb (i:=0) (show List.Nodup (["lying","height","weather"]:List Str) by decide +kernel) rfl (Or.inl rfl)) (js (jb (i:=1) (show List.Nodup (["lying","height","weather"]:List Str) by decide +kernel) rfl (Or.inl rfl)) qA)))) (fun _ _ _ _ _=>jr) (fun _ _ _ _ _=>(jc (ui rfl) rfl nb.b_max boot_max (j0 (yE zq (pv 0)) (j0 (je c_change (hr.mono (by decide)) rfl (j0 (pv 2) (j0 (pv 1) j2))) j2)))))
   (j7 (zH (j:=6) (osc:=(j6 xc)) (ON:=["ice","lane","first","last","slope","leaps","depths","rows","year","steps","gone","weather","moved","fallen"]) (N:=["lying","hands"]) (own:=2) (caps:=[]) ⟨rfl,by walk_at "k",by walk_at "k",by walk_at "k",rfl,by walk_at "k"⟩ jX.nd rfl (Or.inl rfl) rfl rfl rfl (gK K rfl nb.b_zip (j0 (pv 6) (j0 (pv 12) j2))) (fun _ _ _ _ _=>(qL (n:=2) K rfl (js (jb (i:=0) (show List.Nodup (["lying","hands"]:List Str) by decide +kernel) rfl (Or.inl rfl)) (js (jb (i:=1) (show List.Nodup (["lying","hands"]:List Str) by decide +kernel) rfl (Or.inl rfl)) qA)))) (fun _ _ _ _ _=>jr) (fun _ _ _ _ _=>(ji jA (pv 0) (pv 1))))
   (j7 (jp (i:=13) jX.nd rfl (Or.inl rfl) (jc (zy K rfl) rfl nb.b_sum boot_sum (j0 (jC (osc:=(j6 xc)) (ON:=["ice","lane","first","last","slope","leaps","depths","rows","year","steps","gone","weather","moved","fallen"]) (N:=["hands"]) (own:=1) (caps:=[]) ⟨rfl,by walk_at "k",by walk_at "k",by walk_at "k",rfl,by walk_at "k"⟩ rfl rfl rfl (jL K (pv 12)) (fun _ _ _ _ _=>(jb (i:=0) (show List.Nodup (["hands"]:List Str) by decide +kernel) rfl (Or.inl rfl))) (fun _ _ _ _ _=>(wP (qc Vu (pv 0) j8 (qd _)))) (fun _ _ _ _ _=>(pv 0))) j2)))
   (j9 (jV (yJ K PySem.F.plainAttrs_list PySem.F.slot_list_append PySem.F.type_list_append qK (pv 7) (j0 (xH (j0 (pv 13) (j0 (ji xC (pv 13) (jc (zy K rfl) rfl nb.b_sum boot_sum (j0 (pv 12) j2))) (j0 (pv 10) (j0 (pv 6) j2))))) j2)))))))))))))
   (j9 (jj (pv 7)))))))),?_⟩
  left
  refine ⟨p,g.dx,_,rfl,I.ob,nof (by walk_at "k") (by walk_at "k") (by walk_at "k") (by walk_at "k") (by walk_at "k"),?_⟩
  left
  refine ⟨p,g,l,rfl,I,fun _ _=>?_,fun hb=>absurd hb (by omega)⟩
  rw [hgd]
  left
  refine ⟨by omega,by omega,fun sl hsl=>?_⟩
  refine qf (lo:=0) (n:=((gd.length:Nat):Int).toNat) (acc:=sl) (fun i σ H1=>∃ x:Option V,σ=[x,some (.int l),some (.ref p)]/\H1 sl=some (.lst ((gd.take i).map V.int))/\Ext sl H H1) ?_ ?_ ?_
  ·exact ⟨none,rfl,j4,Ext.put⟩
  ·rintro i σ H1 hi ⟨x,rfl,h1,e1⟩
   have hi':i<gd.length:=by rw [Int.toNat_natCast] at hi;exact hi
   have s1:jh H H1:=fun c o hc=>e1 c o hc (j1 hc hsl)
   left
   refine ⟨p,g.dx,_,rfl,s1 _ _ I.ob,nof (by walk_at "k") (by walk_at "k") (by walk_at "k") (by walk_at "k") (by walk_at "k"),?_⟩
   left
   refine ⟨p,g,l,0+(i:Int),rfl,I.same s1,fun _ _ _ _=>?_,(fun hb=>absurd hb (by omega)),fun _ _ hb=>absurd hb (by rw [hgd];omega)⟩
   rw [hgd]
   refine ⟨_,h1,by rw [List.length_map,List.length_take];exact ja (by omega),_,rfl,?_,e1.trans Ext.put⟩
   rw [j4,List.take_add_one,List.getElem?_eq_getElem hi',List.map_append,show (0+(i:Int)).toNat=i by omega,List.getD_eq_getElem?_getD,List.getElem?_eq_getElem hi']
   rfl
  rintro σ H1 ⟨x,rfl,h1,e1⟩
  have s1:jh H H1:=fun c o hc=>e1 c o hc (j1 hc hsl)
  rw [Int.toNat_natCast,List.take_length] at h1
  left
  refine ⟨p,g.dx,_,rfl,s1 _ _ I.ob,nof (by walk_at "k") (by walk_at "k") (by walk_at "k") (by walk_at "k") (by walk_at "k"),?_⟩
  left
  refine ⟨p,g,l,rfl,I.same s1,hll,(fun hb=>absurd hb (by omega)),fun _ _=>⟨a,ns,ha,nd,h64,fun so H2 out ms2 hso hso2 hq2 s2 hp2 hs2=>?_⟩⟩
  obtain rfl:=k8 nd hp hs hp2 hs2
  left
  refine ⟨so,out,ms2,rfl,SqL.of hso2,hq2,ndm,by omega,fun d H3 hd hd3 s3=>?_⟩
  have hd3:H3 d=some (.dK (ms2.map kvI)):=hd3
  have h3:=s3 _ _ (s2 _ _ h1)
  left
  refine ⟨⟨_,SqL.of h3⟩,fun d0 hd0=>?_⟩
  refine jI (K:=K) (a:=sl) (xs:=gd.map V.int) (acc:=d0) (fun i σ H4=>∃ x:Option V,σ=[x]/\H4 d0=some (.lst ((List.replicate i (0:Int)).map V.int))/\Ext d0 H3 H4) ?_ ?_ ?_ ?_
  ·exact ⟨none,rfl,j4,Ext.put⟩
  ·rintro i σ H4 hi ⟨x,rfl,h4,e4⟩
   exact SqL.of (e4 _ _ h3 (j1 h3 hd0))
  ·rintro i v σ H4 hv ⟨x,rfl,h4,e4⟩
   have hi:i<gd.length:=by have:=(List.getElem?_eq_some_iff.mp hv).1;rw [List.length_map] at this;exact this
   left
   refine ⟨_,h4,by rw [List.length_map,List.length_replicate];exact ja (by omega),_,rfl,?_,e4.trans Ext.put⟩
   rw [j4,List.replicate_succ',List.map_append]
   rfl
  rintro σ H4 ⟨x,rfl,h4,e4⟩
  have s4:jh H3 H4:=fun c o hc=>e4 c o hc (j1 hc hd0)
  rw [List.length_map] at h4
  have t4:jh H H4:=s1.trans (s2.trans (s3.trans s4))
  have hsl4:=s4 _ _ h3
  have hdk4:=s4 _ _ hd3
  left
  refine ⟨Nat.zero_le _,fun rw_ H5 hrw hrw5 s5=>?_⟩
  have rw0:H rw_=none:=t4.free hrw
  left
  refine ⟨_,_,rfl,?_⟩
  refine xI (fun i σ H6=>∃ (x8 x9 x10 x11 x12 x13:Option V) (dl:Addr) (out6:List V),σ=[some (.ref p),some (.int l),some (.int fst),some (.int last),some (.ref sl),some (.ref d),some (.ref dl),some (.ref rw_),x8,x9,x10,x11,x12,x13]/\dl≠rw_/\H6 dl=some (.lst ((wD ms2 gd wr g.rows fst i).map V.int))/\H6 rw_=some (.lst out6)/\out6.length=i/\Paired (fun v (q:QC)=>∃ b dl,v=V.ref b/\H6 b=some (.tup [.int q.1,.int q.2.1,.int q.2.2.1,.ref dl])/\H6 dl=some (.lst (q.2.2.2.map V.int))/\dl≠rw_) out6 (qx ms2 gd wr g.rows fst i)/\Ext rw_ H4 H6) ?_ ?_ ?_
  ·exact ⟨_,_,_,_,_,_,d0,[],rfl,j1 h4 hrw,s5 _ _ h4,hrw5,rfl,.nil,fun c o hc _=>s5 _ _ hc⟩
  ·rintro i σ H6 hi ⟨x8,x9,x10,x11,x12,x13,dl,out6,rfl,dlr,hdl,h6,hl6,r6,e6⟩
   have hdlen:=vc ms2 gd wr g.rows fst i
   have hdb:=gk (ns:=ms2) (gd:=gd) (fst:=fst) sg i
   have s6:jh H4 H6:=fun c o hc=>e6 c o hc (j1 hc hrw)
   have I6:=I.same (t4.trans s6)
   have hw6:zY H6 sk wr:=hw.keep (jo.same (t4.trans s6))
   have hsl6:=s6 _ _ hsl4
   have hdk6:=s6 _ _ hdk4
   have h9m:∀ q∈ms2,0<=q.2/\q.2<=9:=fun q hq=>h9 q (hp.mem_iff.mp hq)
   have vb:=QV h9m (fst+(i:Int))
   have hcr:zL ms2 gd wr g.rows fst i=vU gd (xR wr g.rows (fst+(i:Int))) (xj ms2 gd.length (fst+(i:Int))) (wD ms2 gd wr g.rows fst i):=rfl
   have hdn:wD ms2 gd wr g.rows fst (i+1)=(vU gd (xR wr g.rows (fst+(i:Int))) (xj ms2 gd.length (fst+(i:Int))) (wD ms2 gd wr g.rows fst i)).2.2.2:=rfl
   have es:(if ((gd.length:Nat):Int)<1+qw ms2 (fst+(i:Int)) then ((gd.length:Nat):Int) else 1+qw ms2 (fst+(i:Int)))=((xj ms2 gd.length (fst+(i:Int)):Nat):Int):=by
    unfold xj
    split <;> omega
   have hs1:1<=xj ms2 gd.length (fst+(i:Int)):=by unfold xj;omega
   have hs2:=wJ ms2 gd.length (fst+(i:Int))
   have sgi:=sg (fst+(i:Int))
   generalize xj ms2 gd.length (fst+(i:Int))=sN at *
   generalize wD ms2 gd wr g.rows fst i=dep at *
   have hi900:i<900:=by omega
   left
   refine ⟨.inl ⟨_,.inl hdk6⟩,?_⟩
   left
   refine ⟨_,xh.k (k:=.inl (fst+(i:Int))) hdk6,?_⟩
   rw [kB]
   left
   refine ⟨_,_,rfl,.inl (SqL.of hsl6),?_⟩
   rw [List.length_map]
   left
   refine ⟨_,_,rfl,?_⟩
   rw [es]
   left
   refine ⟨_,_,rfl,SqL.of hdl,fun a7 H7 ha7 ha77 s7=>?_⟩
   rw [Zz hs1 (by rw [List.length_map,hdlen];exact hs2),List.length_map,<- List.map_drop] at ha77
   left
   refine ⟨a7,_,rfl,SqL.of ha77,by rw [List.length_drop];omega,fun n hn'=>by have:=hdb n (List.mem_of_mem_drop hn');omega,?_⟩
   left
   refine ⟨by omega,by omega,fun z0 hz0=>?_⟩
   refine qf (lo:=0) (n:=((sN:Nat):Int).toNat) (acc:=z0) (fun j σ H8=>∃ x:Option V,σ=[x]/\H8 z0=some (.lst ((List.replicate j (0:Int)).map V.int))/\Ext z0 H7 H8) ?_ ?_ ?_
   ·exact ⟨none,rfl,j4,Ext.put⟩
   ·rintro j σ H8 hj ⟨x,rfl,h8,e8⟩
    rw [Int.toNat_natCast] at hj
    left
    refine ⟨_,h8,by rw [List.length_map,List.length_replicate];exact ja (by omega),_,rfl,?_,e8.trans Ext.put⟩
    rw [j4,List.replicate_succ',List.map_append]
    rfl
   rintro σ H8 ⟨x,rfl,h8,e8⟩
   have s8:jh H7 H8:=fun c o hc=>e8 c o hc (j1 hc hz0)
   rw [Int.toNat_natCast] at h8
   have hdl8:=s8 _ _ (s7 _ _ hdl)
   left
   refine ⟨_,_,rfl,SqL.of hdl8,fun a9 H9 ha9 ha99 s9=>?_⟩
   rw [ZV hs1 (by rw [List.length_map,hdlen];exact hs2),List.length_map,<- List.map_take] at ha99
   refine ⟨z0,a9,_,_,rfl,rfl,s9 _ _ h8,ha99,by rw [List.length_map,List.length_map,List.length_replicate,List.length_take];exact Nat.le_of_lt (ja (by omega)),fun d1 H10 hd1 hd10 s10=>?_⟩
   have hd10:H10 d1=some (.lst ((jU sN dep).map V.int)):=by rw [hd10,<- List.map_append];rfl
   have s610:jh H6 H10:=s7.trans (s8.trans (s9.trans s10))
   have I10:=I6.same s610
   left
   refine ⟨p,g.dx,_,rfl,I10.ob,nof (by walk_at "k") (by walk_at "k") (by walk_at "k") (by walk_at "k") (by walk_at "k"),?_⟩
   left
   refine ⟨p,g,fst+(i:Int),sk,wr,rfl,I10,ek,hw6.keep (jo.same s610),hr1,hr2,fun tr htr=>?_⟩
   have hsl10:=s610 _ _ hsl6
   have hshl:=zP (d:=dep) (s:=sN) (by omega)
   have hshb:∀ x∈jU sN dep,0<=x/\x<=9*(i:Int):=fun x hx=>by
    rcases vR hx with e | e
    ·omega
    ·exact hdb x e
   have hmvl:=wj (t:=xR wr g.rows (fst+(i:Int))) (d:=jU sN dep) (gd:=gd) (by omega)
   have hmvb:=hX sgi (B:=9*(i:Int)) (gd:=gd) hshb
   have lmax:∀ x h:Int,(if chg (xR wr g.rows (fst+(i:Int))) h > -x then chg (xR wr g.rows (fst+(i:Int))) h else -x)=(fun x h=>if chg (xR wr g.rows (fst+(i:Int))) h > -x then chg (xR wr g.rows (fst+(i:Int))) h else -x) x h:=fun _ _=>rfl
   left
   refine ⟨false,false,_,_,rfl,⟨_,SqL.of hd10⟩,⟨_,SqL.of hsl10⟩,fun mo hmo=>?_⟩
   refine yp (K:=K) (t0:=false) (u0:=false) (a:=d1) (b:=sl) (xs:=(jU sN dep).map V.int) (ys:=gd.map V.int) (acc:=mo) (by rw [List.length_map,List.length_map];omega) (fun j σ H11=>∃ x0 x1:Option V,σ=[x0,x1,some (.ref tr)]/\H11 mo=some (.lst (((y9 (xR wr g.rows (fst+(i:Int))) (jU sN dep) gd).take j).map V.int))/\Ext mo H10 H11) ?_ ?_ ?_ ?_
   ·exact ⟨none,none,rfl,j4,Ext.put⟩
   ·rintro j σ H11 hj ⟨x0,x1,rfl,h11,e11⟩
    exact ⟨SqL.of (e11 _ _ hd10 (j1 hd10 hmo)),SqL.of (e11 _ _ hsl10 (j1 hsl10 hmo))⟩
   ·rintro j x y σ H11 tp hx hy ⟨x0,x1,rfl,h11,e11⟩ htp
    obtain ⟨xv,rfl,hxv⟩:=xN hx
    obtain ⟨yv,rfl,hyv⟩:=xN hy
    have hj:j<gd.length:=(List.getElem?_eq_some_iff.mp hyv).1
    have e12:Ext mo H10 (upd H11 tp (.tup [.int xv,.int yv])):=fun c o hc n=>(jh.new htp) _ _ (e11 c o hc n)
    have h12:=(jh.new (o:=.tup [.int xv,.int yv]) htp) _ _ h11
    have htp':upd H11 tp (.tup [.int xv,.int yv]) tp=some (.tup [.int xv,.int yv]):=j4
    generalize upd H11 tp (.tup [.int xv,.int yv])=H12 at *
    have htr12:=e12 _ _ htr (j1 htr hmo)
    left
    refine ⟨tp,_,rfl,SqT.of htp',rfl,?_⟩
    refine ⟨_,_,rfl,_,_,rfl,rfl,?_⟩
    left
    refine ⟨tr,_,_,rfl,htr12,?_⟩
    left
    refine ⟨_,_,rfl,?_⟩
    refine ⟨_,h12,by rw [List.length_map,List.length_take];exact ja (by omega),_,_,rfl,?_,e12.trans Ext.put⟩
    rw [j4]
    unfold y9
    rw [ZD _ hxv hyv,List.map_append]
    rfl
   rintro σ H11 ⟨x0,x1,rfl,h11,e11⟩
   have s11:jh H10 H11:=fun c o hc=>e11 c o hc (j1 hc hmo)
   rw [List.length_map,List.take_of_length_le (by omega)] at h11
   generalize hmvg:y9 (xR wr g.rows (fst+(i:Int))) (jU sN dep) gd=mvs at *
   have hd11:=s11 _ _ hd10
   left
   refine ⟨false,false,_,_,rfl,⟨_,SqL.of hd11⟩,⟨_,SqL.of h11⟩,fun d2 hd2=>?_⟩
   refine yp (K:=K) (t0:=false) (u0:=false) (a:=d1) (b:=mo) (xs:=(jU sN dep).map V.int) (ys:=mvs.map V.int) (acc:=d2) (by rw [List.length_map,List.length_map];omega) (fun j σ H12=>∃ x0 x1:Option V,σ=[x0,x1]/\H12 d2=some (.lst (((List.zipWith (· + ·) (jU sN dep) mvs).take j).map V.int))/\Ext d2 H11 H12) ?_ ?_ ?_ ?_
   ·exact ⟨none,none,rfl,j4,Ext.put⟩
   ·rintro j σ H12 hj ⟨x0,x1,rfl,h12,e12⟩
    exact ⟨SqL.of (e12 _ _ hd11 (j1 hd11 hd2)),SqL.of (e12 _ _ h11 (j1 h11 hd2))⟩
   ·rintro j x y σ H12 tp hx hy ⟨x0,x1,rfl,h12,e12⟩ htp
    obtain ⟨xv,rfl,hxv⟩:=xN hx
    obtain ⟨yv,rfl,hyv⟩:=xN hy
    have hj:j<mvs.length:=(List.getElem?_eq_some_iff.mp hyv).1
    have e13:Ext d2 H11 (upd H12 tp (.tup [.int xv,.int yv])):=fun c o hc n=>(jh.new htp) _ _ (e12 c o hc n)
    have h13:=(jh.new (o:=.tup [.int xv,.int yv]) htp) _ _ h12
    have htp':upd H12 tp (.tup [.int xv,.int yv]) tp=some (.tup [.int xv,.int yv]):=j4
    generalize upd H12 tp (.tup [.int xv,.int yv])=H13 at *
    left
    refine ⟨tp,_,rfl,SqT.of htp',rfl,?_⟩
    refine ⟨_,_,rfl,_,_,rfl,rfl,?_⟩
    left
    refine ⟨_,h13,by rw [List.length_map,List.length_take];exact ja (by rw [List.length_zipWith];omega),_,_,rfl,?_,e13.trans Ext.put⟩
    rw [j4,ZD _ hxv hyv,List.map_append]
    rfl
   rintro σ H12 ⟨x0,x1,rfl,h12,e12⟩
   have s12:jh H11 H12:=fun c o hc=>e12 c o hc (j1 hc hd2)
   rw [List.length_map,List.take_of_length_le (by rw [List.length_zipWith];omega)] at h12
   have hmo12:=s12 _ _ h11
   left
   refine ⟨⟨_,SqL.of hmo12⟩,fun fa hfa=>?_⟩
   refine jI (K:=K) (a:=mo) (xs:=mvs.map V.int) (acc:=fa) (fun j σ H13=>∃ x:Option V,σ=[x]/\H13 fa=some (.lst (((mvs.take j).filter fun x=>decide (0<x)).map V.int))/\Ext fa H12 H13) ?_ ?_ ?_ ?_
   ·exact ⟨none,rfl,j4,Ext.put⟩
   ·rintro j σ H13 hj ⟨x,rfl,h13,e13⟩
    exact SqL.of (e13 _ _ hmo12 (j1 hmo12 hfa))
   ·rintro j v σ H13 hv ⟨x,rfl,h13,e13⟩
    obtain ⟨mv,rfl,hmv⟩:=xN hv
    have hj:j<mvs.length:=(List.getElem?_eq_some_iff.mp hmv).1
    have etk:mvs.take (j+1)=mvs.take j++[mv]:=by rw [List.take_add_one,hmv];rfl
    left
    refine xm (fun hle=>?_) (fun hle=>?_)
    ·left
     refine ⟨_,h13,by rw [List.length_map];exact Nat.lt_of_le_of_lt (List.length_filter_le _ _) (ja (by rw [List.length_take];omega)),_,rfl,?_,e13.trans Ext.put⟩
     rw [j4,etk,List.filter_append,List.filter_cons_of_pos (by rw [decide_eq_true hle]),List.map_append]
     rfl
    ·refine ⟨_,rfl,?_,e13⟩
     rw [etk,List.filter_append,List.filter_cons_of_neg (by rw [decide_eq_false hle];exact Bool.false_ne_true),List.filter_nil,List.append_nil]
     exact h13
   rintro σ H13 ⟨x,rfl,h13,e13⟩
   have s13:jh H12 H13:=fun c o hc=>e13 c o hc (j1 hc hfa)
   rw [List.length_map,List.take_of_length_le (Nat.le_refl _)] at h13
   have mvb2:∀ n∈mvs,-(2 ^ 20)<=n/\n<=2 ^ 20:=fun n hn'=>by have:=hmvb n hn';omega
   left
   refine ⟨fa,_,rfl,SqL.of h13,Nat.le_trans (List.length_filter_le _ _) (by omega),fun n hn'=>mvb2 n (List.mem_filter.mp hn').1,?_⟩
   have s613:jh H6 H13:=s610.trans (s11.trans (s12.trans s13))
   have h613:=s613 _ _ h6
   left
   refine ⟨.inl ⟨rfl,_,SqL.of h613⟩,?_⟩
   left
   refine ⟨mo,mvs,rfl,SqL.of (s13 _ _ hmo12),by omega,mvb2,?_⟩
   left
   refine ⟨by show 4<=sizeLine;decide,fun tq H14 htq htq4 s14=>?_⟩
   refine ⟨_,_,_,rfl,rfl,s14 _ _ h613,ja (by omega),?_⟩
   have s614:=s613.trans s14
   have hd14:=s14 _ _ (s13 _ _ h12)
   have d2r:d2≠rw_:=(j1 (s11 _ _ (s610 _ _ h6)) hd2).symm
   have tqr:tq≠rw_:=(j1 h613 htq).symm
   have hrow:zL ms2 gd wr g.rows fst i=((mvs.filter fun x=>decide (0<x)).sum,(mvs.filter fun x=>decide (0<x)).sum-mvs.sum,(dep.drop (dep.length-sN)).sum,List.zipWith (· + ·) (jU sN dep) mvs):=by
    rw [hcr,<- hmvg]
    rfl
   refine ⟨_,_,_,_,_,_,d2,out6++[.ref tq],rfl,d2r,?_,j4,by rw [List.length_append,hl6];rfl,?_,fun c o hc n=>by rw [j5 n];exact s614 _ _ (e6 c o hc n)⟩
   ·rw [j5 d2r,hd14,hdn,<- hmvg]
    rfl
   ·rw [gq,hrow]
    refine Paired.snoc (Paired.mapP r6 fun v q ⟨b',dl',e,q1,q2,q3⟩=>⟨b',dl',e,?_,?_,q3⟩) ⟨tq,d2,rfl,by rw [j5 tqr];exact htq4,by rw [j5 d2r];exact hd14,d2r⟩
    ·rw [j5 (jk q1 h6 (by walk_at "z"))]
     exact s614 _ _ q1
    ·rw [j5 q3]
     exact s614 _ _ q2
  ·rintro σ H6 ⟨x8,x9,x10,x11,x12,x13,dl,out6,rfl,dlr,hdl,h6,hl6,r6,e6⟩
   left
   exact k rw_ out6 H6 rw0 h6 (Paired.mapP r6 fun v q ⟨b',dl',e,q1,q2,_⟩=>⟨b',dl',e,q1,q2⟩) (t4.trans fun c o hc=>e6 c o hc (j1 hc hrw))
end
end K35
end
section
namespace L2
open PySem PySem.Spec PySem.W PyProof.Rows
section
variable {X:Cx}
def gLst (K:PySem.W.Frag) (n:Nat) (t:TGs):TG:=fun v σ H Q=>∃ a xs,v = .ref a/\SqL K H a xs/\xs.length=n/\t xs σ H Q
theorem Vi {es:List Expr}{k:Nat}{t:TGs}{n:Nat}{pos:Pos}(K:PySem.W.Frag) (hc:X.calm=true) (h:PGs X es t)
  (hn:(assignEach es X.env).length=n:=by rfl) (hst:(assignEach es X.env).findIdx? (·.1)=none:=by rfl) (hK:X.K=K:=by rfl):PG X (.Tuple es k pos) (gLst K n t):=by
 subst hK
 intro pins s σ H v u Q I r hw
 obtain ⟨a,xs,e1,hq,hl,hw⟩:=hw
 subst e1
 cases r
 obtain ⟨its,rv,pl,hz⟩:=I.list hq
 rw [assign_Tuple]
 refine wpAny_bind (wpAny_standAt ?_)
 unfold unpack
 have e:n=its.toArray.size:=by simp [<- hl,rv.length]
 rw [hn,hst,e]
 refine wpAny_bind (wpAny_holding (kun_itemsOf (I.ok.hd hc) pl.isList fun h' hx=>?_))
 have I1:Inv X pins σ H { s with heap:=h' }:=I.kept (t':=s.toks) fun b o e=>hx b o (Nat.ne_of_lt (Heap.lt_size e)) e
 exact h pins _ σ H xs _ Q I1 (by simpa using rv) hw
end
end L2
end
section
namespace K35
open PySem PySem.Spec PyProof.Rows L2
local macro_rules | `(tactic| walk_at "hp")=>`(tactic| first | assumption | exact j4 | (rw [j5 (by first | assumption | (apply Ne.symm;assumption))];first | assumption | exact j4))
local macro_rules | `(tactic| walk_at "num")=>`(tactic| first | decide | omega)
local macro_rules | `(tactic| walk_at "rd1")=>`(tactic| first | refine ⟨_,rfl,?_⟩ | refine ⟨_,_,rfl,rfl,?_⟩ | refine And.intro (show uZ _ _ from Or.inr ⟨by walk_at "num",by walk_at "num"⟩) ?_ | refine And.intro (show uZ _ _ from Or.inl ⟨by walk_at "num",by walk_at "num"⟩) ?_ | refine And.intro (show JQ _ _ from ⟨by walk_at "num",by walk_at "num"⟩) ?_ | refine And.intro (show ZE _ _ from ⟨by walk_at "num",by walk_at "num",by walk_at "num"⟩) ?_ | refine And.intro (show (0:Int)<_ by walk_at "num") ?_ | refine ⟨_,_,_,_,rfl,rfl,SqL.of (by walk_at "hp"),(by rfl),?_⟩ | refine ⟨_,_,_,_,rfl,rfl,SqT.of (by walk_at "hp"),(by rfl),?_⟩ | refine ⟨_,_,_,_,rfl,rfl,(by assumption),(by rfl),?_⟩ | refine ⟨_,_,_,_,rfl,rfl,(by walk_at "hp"),(by rfl),?_⟩ | refine ⟨rfl,?_⟩)
local macro_rules | `(tactic| walk_at "r")=>`(tactic| repeat walk_at "rd1")
local macro_rules | `(tactic| walk_at "s")=>`(tactic| exact ⟨rfl,rfl,rfl,by decide +kernel,rfl,by decide +kernel,by decide +kernel⟩)
local macro_rules | `(tactic| walk_at "k")=>`(tactic| decide +kernel)
local macro_rules | `(tactic| walk_at "w")=>`(tactic| (intro _ z;cases z))
local macro_rules | `(tactic| walk_at "z")=>`(tactic| (intro z;cases z))
local macro_rules | `(tactic| left)=>`(tactic| walk_at "r")
section
variable {P:Program}{w:World}{K:PySem.W.Frag}{mg:Str->Option Value}{base:Heap}
def xD:Nat->QC->Int
 | 0,q=>q.1
 | 1,q=>q.2.1
 | _,q=>q.2.2.1
theorem ZT {k:Nat}(h:k<3) (q:QC) (dl:Addr):atI [.int q.1,.int q.2.1,.int q.2.2.1,.ref dl] (k:Int)=some (V.int (xD k q)):=by
 match k,h with
 | 0,_=>rfl
 | 1,_=>rfl
 | 2,_=>rfl
def Xn:Sp:=fun vs H Q _=>∃ (a:Addr) (k:Nat) (out:List V) (qs:List QC),vs=[.ref a,.int (k:Int)]/\k<3/\H a=some (.lst out)/\vp H out qs/\qs.length<=1000/\(∀ q∈qs,-(2 ^ 20)<=xD k q/\xD k q<=2 ^ 20)/\∀ H',jh H H'->Q (.int (qs.map (xD k)).sum) H'
theorem Ye:FnScope ["rows","part"] ["rows","part"] (j6 uL):=by walk_at "s"
theorem Y5 {f:Addr}{fd:FuncData}(nb:Nb2 mg) (F:Fun K "total" "total" uL f fd):FnOk P w K mg base CX0 1 f fd ["rows","part"] Xn:=by
 refine F.ok Ye (fun vs H Q E h=>?_) (fun cdv A outer s H vs Q E hr h=>?_)
 ·obtain ⟨a,k,out,qs,rfl,_⟩:=h
  rfl
 ·obtain ⟨a,k,out,qs,rfl,hk,ha,hq,hl,hb,kk⟩:=h
  have hol:out.length=qs.length:=Paired.length hq
  refine ⟨_,(j9 (jj (jc (zy K rfl) rfl nb.b_sum boot_sum (j0 (jC (osc:=(j6 uL)) (ON:=["rows","part"]) (N:=["row","part"]) (own:=1) (caps:=[1]) ⟨rfl,by walk_at "k",by walk_at "k",by walk_at "k",rfl,by walk_at "k"⟩ rfl rfl rfl (jL K (pv 0)) (fun _ _ _ _ _=>(jb (i:=0) (show List.Nodup (["row","part"]:List Str) by decide +kernel) rfl (Or.inl rfl))) (fun _ _ _ _ _=>jr) (fun _ _ _ _ _=>(jq (qt K) (pv 0) (pv 1) (fun _ _=>rfl)))) j2)))),?_⟩
  left
  refine ⟨⟨_,SqL.of ha⟩,fun acc hacc=>?_⟩
  refine jI (K:=K) (a:=a) (xs:=out) (acc:=acc) (fun i σ H1=>∃ x0:Option V,σ=[x0,some (.int (k:Int))]/\H1 acc=some (.lst (((qs.take i).map (xD k)).map V.int))/\Ext acc H H1) ?_ ?_ ?_ ?_
  ·exact ⟨none,rfl,j4,Ext.put⟩
  ·rintro i σ H1 hi ⟨x0,rfl,h1,e1⟩
   exact SqL.of (e1 _ _ ha (j1 ha hacc))
  ·rintro i v σ H1 hv ⟨x0,rfl,h1,e1⟩
   obtain ⟨q,hy,bq,dl,rfl,hbq,hdl⟩:=Paired.get hq hv
   have hi:i<qs.length:=(List.getElem?_eq_some_iff.mp hy).1
   have hbq1:=e1 _ _ hbq (j1 hbq hacc)
   left
   refine ⟨bq,_,(k:Int),_,rfl,rfl,SqT.of hbq1,ZT hk q dl,?_⟩
   refine ⟨_,h1,by rw [List.length_map,List.length_map,List.length_take];exact ja (by omega),_,rfl,?_,e1.trans Ext.put⟩
   rw [j4,List.take_add_one,hy,List.map_append,List.map_append]
   rfl
  rintro σ H1 ⟨x0,rfl,h1,e1⟩
  have s1:jh H H1:=fun c o hc=>e1 c o hc (j1 hc hacc)
  rw [hol,List.take_length] at h1
  left
  refine ⟨acc,_,rfl,SqL.of h1,by rw [List.length_map];exact hl,fun n hn=>?_,?_⟩
  ·obtain ⟨q,hq',rfl⟩:=List.mem_map.mp hn
   exact hb q hq'
  exact kk _ s1
theorem kz:∀ {xs:List Int}{a b:Int}{n:Nat},a<=0->0<=b->(∀ x∈xs,a<=x/\x<=b)->xs.length<=n->a*(n:Int)<=xs.sum/\xs.sum<=b*(n:Int)
 | [],a,b,n,ha,hb,_,_=>⟨Int.mul_nonpos_of_nonpos_of_nonneg ha (Int.natCast_nonneg n),Int.mul_nonneg hb (Int.natCast_nonneg n)⟩
 | x::xs,a,b,0,_,_,_,hn=>absurd hn (Nat.not_succ_le_zero _)
 | x::xs,a,b,n+1,ha,hb,h,hn=>by
  have h0:=h x (List.mem_cons_self ..)
  have ih:=kz (n:=n) ha hb (fun z hz=>h z (List.mem_cons_of_mem _ hz)) (by rw [List.length_cons] at hn;omega)
  rw [List.sum_cons,show ((n+1:Nat):Int)=(n:Int)+1 from rfl,Int.mul_add,Int.mul_add,Int.mul_one,Int.mul_one]
  omega
theorem kS {ns:List (Int×Int)}{gd:List Int}{wr:List (Int×T3)}{ts:List T3}{fst:Int}(sg:∀ z,good (xR wr ts z)=true) (hg:gd.length<=100) {i:Nat}(hi:i<900) {k:Nat} : -(2 ^ 20)<=xD k (zL ns gd wr ts fst i)/\xD k (zL ns gd wr ts fst i)<=2 ^ 20:=by
 have hd:=gk (ns:=ns) (gd:=gd) (fst:=fst) sg i
 have hdl:=vc ns gd wr ts fst i
 have hs:=wJ ns gd.length (fst+(i:Int))
 unfold zL
 generalize wD ns gd wr ts fst i=d at *
 generalize xj ns gd.length (fst+(i:Int))=s at *
 have gt:=sg (fst+(i:Int))
 generalize xR wr ts (fst+(i:Int))=t at *
 have hsb:∀ x∈jU s d,0<=x/\x<=9*(i:Int):=fun x hx=>by
  rcases vR hx with e | e
  ·omega
  ·exact hd x e
 have hml:(y9 t (jU s d) gd).length=gd.length:=wj (by rw [zP (by omega),hdl])
 have hm:∀ z∈y9 t (jU s d) gd,-8100<=z/\z<=9:=fun z hz=>by
  have:=hX gt (gd:=gd) hsb z hz
  omega
 have b1:=kz (n:=100) (a:=-8100) (b:=9) (by omega) (by omega) hm (by omega)
 have b2:=kz (n:=100) (a:=0) (b:=9) (xs:=(y9 t (jU s d) gd).filter fun x=>decide (0<x)) (by omega) (by omega) (fun z hz=>by
  obtain ⟨h1,h2⟩:=List.mem_filter.mp hz
  have:=hm z h1
  have:=of_decide_eq_true h2
  omega) (Nat.le_trans (List.length_filter_le _ _) (by omega))
 have b3:=kz (n:=100) (a:=0) (b:=8100) (xs:=d.drop (d.length-s)) (by omega) (by omega) (fun z hz=>by
  have:=hd z (List.mem_of_mem_drop hz)
  omega) (by rw [List.length_drop];omega)
 match k with
 | 0=>show _<=(vU gd t s d).1/\(vU gd t s d).1<=_;unfold vU;dsimp only;omega
 | 1=>show _<=(vU gd t s d).2.1/\(vU gd t s d).2.1<=_;unfold vU;dsimp only;omega
 | k+2=>show _<=(vU gd t s d).2.2.1/\(vU gd t s d).2.2.1<=_;unfold vU;dsimp only;omega
end
section
variable {P:Program}{w:World}{K:PySem.W.Frag}{mg:Str->Option Value}{base:Heap}
theorem Yw (xs:List V) (k:Nat):vO xs none (some (k:Int))=xs.take k:=by
 unfold vO
 rw [HT.sIx_none,HT.sIx_nat,List.drop_zero,Nat.sub_zero]
 by_cases h:k<=xs.length
 ·rw [Nat.min_eq_left h]
 ·rw [Nat.min_eq_right (by omega),List.take_of_length_le (Nat.le_refl _)]
  exact (List.take_of_length_le (by omega)).symm
theorem Zl (xs:List V) (k:Nat):vO xs (some (k:Int)) none=xs.drop k:=by
 unfold vO
 rw [HT.sIx_none,HT.sIx_nat]
 by_cases h:k<=xs.length
 ·rw [Nat.min_eq_left h]
  exact List.take_of_length_le (by rw [List.length_drop];omega)
 ·rw [Nat.min_eq_right (by omega),List.drop_eq_nil_of_le (Nat.le_refl _),List.take_nil]
  exact (List.drop_eq_nil_of_le (by omega)).symm
theorem Paired.takeP {α β:Type}{R:α->β->Prop}:∀ {xs:List α}{ys:List β}(n:Nat),Paired R xs ys->Paired R (xs.take n) (ys.take n)
 | _,_,0,_=>by rw [List.take_zero,List.take_zero];exact .nil
 | _,_,n+1,.nil=>by rw [List.take_nil,List.take_nil];exact .nil
 | _,_,n+1,.cons h r=>.cons h (Paired.takeP n r)
theorem Paired.dropP {α β:Type}{R:α->β->Prop}:∀ {xs:List α}{ys:List β}(n:Nat),Paired R xs ys->Paired R (xs.drop n) (ys.drop n)
 | _,_,0,h=>h
 | _,_,n+1,.nil=>by rw [List.drop_nil,List.drop_nil];exact .nil
 | _,_,n+1,.cons h r=>Paired.dropP n r
theorem vp.same {H H':Hp}{out:List V}{qs:List QC}(h:vp H out qs) (s:jh H H'):vp H' out qs:=Paired.mapP h fun _ _ ⟨b,dl,e,q,d⟩=>⟨b,dl,e,s _ _ q,s _ _ d⟩
def soR (st many y:Int):Int:=(if y-st > 0 then y-st else 0) / many
def soU (st many y:Int):Int:=y-soR st many y*many
def soP (rows:List QC) (st many y:Int) (k:Nat):Int:=((rows.take (soU st many y+1).toNat).map (xD k)).sum+soR st many y*((rows.drop st.toNat).map (xD k)).sum
def soL (rows:List QC) (st many y:Int):Int:=((rows.getD (soU st many y).toNat (0,0,0,[])).2.2.2).sum
theorem UT {st many y:Int}(h0:0<=st) (hm:0<many) (hy:0<=y):0<=soR st many y/\soR st many y<=y/\0<=soU st many y/\soU st many y<st+many:=by
 unfold soU soR
 by_cases z:y-st > 0
 ·rw [if_pos z]
  have h1:=Int.emod_nonneg (y-st) (show many≠0 by omega)
  have h2:=Int.emod_lt_of_pos (y-st) hm
  have h3:=Int.mul_ediv_add_emod (y-st) many
  rw [Int.mul_comm] at h3
  have h4:(y-st) / many<=y-st:=Int.ediv_le_self _ (by omega)
  have h5:0<=(y-st) / many:=Int.ediv_nonneg (by omega) (by omega)
  omega
 ·rw [if_neg z,Int.zero_ediv,Int.zero_mul]
  omega
theorem um {sk:List (Int×Addr)}{ns:List (Int×Int)}{M N:Int}(h1 : -1<=M) (h2:M = -1\/M∈sk.map (·.1)\/M∈ns.map (·.1)) (h3:∀ z∈sk,z.1<=N) (h4:∀ q∈ns,q.1<=N) (h5 : -1<=N):M<=N:=by
 rcases h2 with h | h | h
 ·omega
 ·obtain ⟨z,hz,rfl⟩:=List.mem_map.mp h
  exact h3 z hz
 ·obtain ⟨z,hz,rfl⟩:=List.mem_map.mp h
  exact h4 z hz
def uK (C:Addr):Sp:=fun vs H Q _=>∃ (p:Addr) (g:IceG) (l y M:Int) (sk:List (Int×Addr)) (wr:List (Int×T3)) (ns ms:List (Int×Int)) (gd:List Int),vs=[.ref p,.int l,.int y]/\IceAt C H p g/\g.ys.length=g.rows.length/\g.lds.length=g.slopes.length/\g.kvs=sk.map kvA/\sk.length<64/\(∀ z∈sk,0<=z.1)/\zY H sk wr/\1<=g.rows.length/\g.rows.length<=600/\(∀ z,good (xR wr g.rows z)=true)/\Ve g l ns/\(∀ q∈ns,0<=q.1)/\ms.Perm ns/\(ms.map (·.1)).Pairwise (· <= ·)/\g.slopes.getD l.toNat []=gd/\1<=gd.length/\gd.length<=100 /\
 -1<=M/\(M = -1\/M∈sk.map (·.1)\/M∈ns.map (·.1))/\(∀ z∈sk,z.1<=M)/\(∀ q∈ns,q.1<=M)/\M<=99/\0<=y/\y<=10 ^ 40 /\
 ∀ t H' st rows,st=M+1+(gd.length:Int)->rows=qx ms gd wr g.rows 0 (st+(g.rows.length:Int)).toNat->H t=none->H' t=some (.tup [.int (soP rows st (g.rows.length:Int) y 0),.int (soP rows st (g.rows.length:Int) y 1),.int (soP rows st (g.rows.length:Int) y 2),.int (soL rows st (g.rows.length:Int) y)])->jh H H'->Q (.ref t) H'
theorem qI:FnScope ["ice","lane","year","start","many","rounds","rows","up_to","fallen","melted","gone"] ["ice","lane","year"] (j6 vi):=by walk_at "s"
theorem XY {f C CN CY:Addr}{fd:FuncData}(nb:Nb2 mg) (cl_Ice:Cls K C) (c_Ice__check_lane:CalMX P w K mg base 1 C "check_lane" ["self","lane"] (qW C CN)) (c_check_asked:CalX P w K mg base 1 "check_asked" ["year"] (vA CY)) (c_settled:CalX P w K mg base 3 "settled" ["ice","lane"] (kP C)) (c_Ice__rows:CalM P w K mg base 1 C "rows" ["self"] (QT C)) (c_course:CalX P w K mg base 4 "course" ["ice","lane","first","last"] (J6 C)) (c_total:Cal P w K mg base 1 "total" ["rows","part"] Xn)
  (F:Fun K "so_far" "so_far" vi f fd):FnOk P w K mg base (CX1 P w) 5 f fd ["ice","lane","year"] (uK C):=by
 refine Fun.okX F qI (fun vs H Q E h=>?_) (fun cdv A outer s H vs Q E hr h=>?_)
 ·obtain ⟨p,g,l,y,M,sk,wr,ns,ms,gd,rfl,_⟩:=h
  rfl
 ·obtain ⟨p,g,l,y,M,sk,wr,ns,ms,gd,rfl,I,hyl,hll,ek,hk64,hk0,hw,hr1,hr2,sg,LD,hn0,hp,hs,hgd,g1,g100,hM1,hMi,hMs,hMn,hM99,y0,y1,k⟩:=h
  obtain ⟨l0,l1,_⟩:=id LD
  have nof:∀ {m:Str},¬ m = "leaps" -> ¬ m = "years" -> ¬ m = "slopes" -> ¬ m = "cycle" -> ¬ m = "valley" -> (yV g.va g.cy g.sl g.ye g.le).lookup m=none:=fun a b c d e=>xG _ _ _ _ _ a b c d e
  obtain ⟨st,est⟩:∃ st,st=M+1+(gd.length:Int):=⟨_,rfl⟩
  obtain ⟨rows,erows⟩:∃ rows,rows=qx ms gd wr g.rows 0 (st+(g.rows.length:Int)).toNat:=⟨_,rfl⟩
  have ub:=UT (st:=st) (many:=(g.rows.length:Int)) (y:=y) (by omega) (by omega) y0
  have k':=fun t H'=>k t H' st rows est erows
  clear k
  have hrl:rows.length=(st+(g.rows.length:Int)).toNat:=by rw [erows];unfold qx;rw [List.length_map,List.length_range]
  have hrb:∀ q∈rows,∀ k,-(2 ^ 20)<=xD k q/\xD k q<=2 ^ 20:=fun q hq k=>by
   rw [erows] at hq
   obtain ⟨i,hi,rfl⟩:=List.mem_map.mp hq
   exact kS sg g100 (by have:=List.mem_range.mp hi;omega)
  have hdb:∀ q∈rows,q.2.2.2.length=gd.length/\∀ x∈q.2.2.2,0<=x/\x<=9*900:=fun q hq=>by
   rw [erows] at hq
   obtain ⟨i,hi,rfl⟩:=List.mem_map.mp hq
   refine ⟨vc ms gd wr g.rows 0 (i+1),fun x hx=>?_⟩
   have:=gk (ns:=ms) (gd:=gd) (fst:=0) sg (i+1) x hx
   have:=List.mem_range.mp hi
   omega
  refine ⟨_,(j7 (jV (zC (pv 0) cl_Ice c_Ice__check_lane (hr.mono (by decide)) qC (j0 (pv 1) j2)))
   (j7 (jV (zT c_check_asked (hr.mono (by decide)) qC rfl (j0 (pv 2) j2)))
   (j7 (jp (i:=3) qI.nd rfl (Or.inr rfl) (zT c_settled (hr.mono (by decide)) qC rfl (j0 (pv 0) (j0 (pv 1) j2))))
   (j7 (jp (i:=4) qI.nd rfl (Or.inl rfl) (jc (jg K) rfl nb.b_len PySem.boot_len (j0 (Vt (pv 0) cl_Ice c_Ice__rows (hr.mono (by decide))) j2)))
   (j7 (jp (i:=5) qI.nd rfl (Or.inr rfl) (ji zt (jc (ui rfl) rfl nb.b_max boot_max (j0 j8 (j0 (ji xC (pv 2) (pv 3)) j2))) (pv 4)))
   (j7 (jp (i:=6) qI.nd rfl (Or.inr rfl) (zT c_course (hr.mono (by decide)) qC rfl (j0 (pv 0) (j0 (pv 1) (j0 j8 (j0 (ji xC (ji jA (pv 3) (pv 4)) j8) j2))))))
   (j7 (jp (i:=7) qI.nd rfl (Or.inr rfl) (vq (yn K) (pv 6) uJ (uF (ji jA (ji xC (pv 2) (ji zo (pv 5) (pv 4))) j8))))
   (j7 (zS (jC (osc:=(j6 vi)) (ON:=["ice","lane","year","start","many","rounds","rows","up_to","fallen","melted","gone"]) (N:=["part","up_to","rounds","rows","start"]) (own:=1) (caps:=[7,5,6,3]) ⟨rfl,by walk_at "k",by walk_at "k",by walk_at "k",rfl,by walk_at "k"⟩ rfl rfl rfl (jO rfl nb.b_range (j0 j8 j2)) (fun _ _ _ _ _=>(jb (i:=0) (show List.Nodup (["part","up_to","rounds","rows","start"]:List Str) by decide +kernel) rfl (Or.inl rfl))) (fun _ _ _ _ _=>jr) (fun _ _ _ _ _=>(ji jA (je c_total (hr.mono (by decide)) rfl (j0 (pv 1) (j0 (pv 0) j2))) (ji zo (pv 2) (je c_total (hr.mono (by decide)) rfl (j0 (vq (yn K) (pv 3) (uF (pv 4)) uJ) (j0 (pv 0) j2))))))) (Vi (n:=3) K rfl (js (jb (i:=8) qI.nd rfl (Or.inl rfl)) (js (jb (i:=9) qI.nd rfl (Or.inl rfl)) (js (jb (i:=10) qI.nd rfl (Or.inl rfl)) qA)))))
   (j9 (jj (xH (j0 (pv 8) (j0 (pv 9) (j0 (pv 10) (j0 (jc (zy K rfl) rfl nb.b_sum boot_sum (j0 (jq (qt K) (jq (jd K) (pv 7) (yE zq j8) (fun _ _=>rfl)) j8 (fun _ _=>rfl)) j2)) j2))))))))))))))),?_⟩
  left
  refine ⟨p,g.dx,_,rfl,I.ob,nof (by walk_at "k") (by walk_at "k") (by walk_at "k") (by walk_at "k") (by walk_at "k"),?_⟩
  left
  refine ⟨p,g,l,rfl,I,fun _ _=>?_,fun hb=>absurd hb (by omega)⟩
  left
  refine ⟨fun _ _=>?_,fun hb=>absurd hb (by omega)⟩
  left
  refine ⟨p,g,l,sk,ns,rfl,I,hll,ek,hk64,hk0,LD,hn0,fun N H1 hN1 hNi hNs hNn s1=>?_⟩
  obtain rfl:N=M:=Int.le_antisymm (um hN1 hNi hMs hMn hM1) (um hM1 hMi hNs hNn hN1)
  rw [hgd,<- est]
  have I1:=I.same s1
  left
  refine ⟨p,g.dx,_,rfl,I1.ob,nof (by walk_at "k") (by walk_at "k") (by walk_at "k") (by walk_at "k") (by walk_at "k"),?_⟩
  left
  refine ⟨p,g,rfl,I1,fun lr H2 hlr hlr2 s2=>?_⟩
  have I2:=I1.same s2
  left
  refine ⟨lr,_,rfl,.inl (SqL.of hlr2),?_⟩
  rw [hyl]
  left
  refine ⟨_,_,rfl,?_⟩
  left
  simp only [JS,List.append_nil]
  rw [show (if y-st > 0 then y-st else 0) / (g.rows.length:Int)=soR st (g.rows.length:Int) y from rfl]
  have eU:y-soR st (g.rows.length:Int) y*(g.rows.length:Int)=soU st (g.rows.length:Int) y:=rfl
  unfold soP soL at k'
  generalize soU st (g.rows.length:Int) y=U at *
  generalize soR st (g.rows.length:Int) y=R at *
  refine ⟨p,g,l,0,st+(g.rows.length:Int)-1,sk,wr,ns,ms,gd,rfl,I2,hll,ek,hw.keep (jo.same (s1.trans s2)),hr1,by omega,sg,LD,hp,hs,hgd,g1,g100,by omega,fun o out H3 ho ho3 r3 s3=>?_⟩
  rw [show (st+(g.rows.length:Int)-1+1-0).toNat=(st+(g.rows.length:Int)).toNat by omega,<- erows] at r3
  have hol:out.length=rows.length:=Paired.length r3
  left
  refine ⟨_,_,rfl,SqL.of ho3,fun a4 H4 ha4 ha44 s4=>?_⟩
  rw [eU,show U+1=(((U+1).toNat:Nat):Int) by omega,Yw] at ha44
  have r4:=vp.same r3 s4
  have ho4:=s4 _ _ ho3
  left
  refine ⟨by decide,by decide,fun acc hacc=>?_⟩
  have htl:(rows.take (U+1).toNat).length<=1000:=by rw [List.length_take];omega
  have hdl:(rows.drop st.toNat).length<=900:=by rw [List.length_drop];omega
  refine qf (lo:=0) (n:=(3:Int).toNat) (acc:=acc) (fun j σ H5=>∃ x:Option V,σ=[x,some (.ref a4),some (.int R),some (.ref o),some (.int st)]/\H5 acc=some (.lst ((List.range j).map fun k=>V.int (((rows.take (U+1).toNat).map (xD k)).sum+R*((rows.drop st.toNat).map (xD k)).sum)))/\Ext acc H4 H5) ?_ ?_ ?_
  ·exact ⟨none,rfl,j4,Ext.put⟩
  ·rintro j σ H5 hj ⟨x,rfl,h5,e5⟩
   have hj3:j<3:=hj
   have s5:jh H4 H5:=fun c o hc=>e5 c o hc (j1 hc hacc)
   left
   refine ⟨a4,j,_,_,by rw [Int.zero_add];rfl,hj3,s5 _ _ ha44,Paired.takeP _ (vp.same r4 s5),htl,fun q hq=>hrb q (List.mem_of_mem_take hq) j,fun H6 s6=>?_⟩
   have s46:=s5.trans s6
   left
   refine ⟨_,_,rfl,SqL.of (s46 _ _ ho4),fun a7 H7 ha7 ha77 s7=>?_⟩
   rw [show st=((st.toNat:Nat):Int) by omega,Zl] at ha77
   have s47:=s46.trans s7
   left
   refine ⟨a7,j,_,_,by rw [Int.zero_add];rfl,hj3,ha77,Paired.dropP _ (vp.same r4 s47),by omega,fun q hq=>hrb q (List.mem_of_mem_drop hq) j,fun H8 s8=>?_⟩
   have sb:=kz (n:=900) (a:=-(2 ^ 20)) (b:=2 ^ 20) (xs:=(rows.drop st.toNat).map (xD j)) (by decide) (by decide) (fun x hx=>by
    obtain ⟨q,hq,rfl⟩:=List.mem_map.mp hx
    exact hrb q (List.mem_of_mem_drop hq) j) (by rw [List.length_map];exact hdl)
   have s58:=s6.trans (s7.trans s8)
   left
   refine ⟨_,s58 _ _ h5,by rw [List.length_map,List.length_range];exact ja (by omega),_,rfl,?_,fun c o hc n=>by rw [j5 n];exact s58 _ _ (e5 c o hc n)⟩
   rw [j4,List.range_succ,List.map_append]
   rfl
  rintro σ H5 ⟨x,rfl,h5,e5⟩
  have s5:jh H4 H5:=fun c o hc=>e5 c o hc (j1 hc hacc)
  refine ⟨acc,_,rfl,SqL.of h5,rfl,?_⟩
  refine ⟨_,_,rfl,_,_,rfl,_,_,rfl,rfl,?_⟩
  left
  have hi:U.toNat<out.length:=by omega
  obtain ⟨q,hq,b,dl,eb,hb,hd⟩:=Paired.get (vp.same r4 s5) (List.getElem?_eq_getElem hi)
  have hqm:q∈rows:=List.mem_of_getElem? hq
  obtain ⟨hq1,hq2⟩:=hdb q hqm
  rw [show rows.getD U.toNat (0,0,0,[])=q by rw [List.getD_eq_getElem?_getD,hq];rfl] at k'
  refine ⟨_,_,_,_,rfl,rfl,SqL.of (s5 _ _ ha44),(by rw [show (U+1).toNat=U.toNat+1 by omega,List.take_add_one,List.getElem?_eq_getElem hi,eb];exact Q3 _ _),?_⟩
  left
  refine ⟨dl,_,rfl,SqL.of hd,by omega,fun n hn=>by have:=hq2 n hn;omega,?_⟩
  left
  refine ⟨by show 4<=sizeLine;decide,fun t H6 ht ht6 s6=>?_⟩
  have sA:=s1.trans (s2.trans (s3.trans (s4.trans s5)))
  exact k' t H6 (sA.free ht) ht6 (sA.trans s6)
end
section
variable {P:Program}{w:World}{K:PySem.W.Frag}{mg:Str->Option Value}{base:Heap}
theorem Jz {st many y k:Int}(hm:0<many) (h:st<=y) (hk:0<=k):soR st many (y+k*many)=soR st many y+k:=by
 have h1:∀ z,st<=z->soR st many z=(z-st) / many:=fun z hz=>by
  unfold soR
  by_cases q:z-st > 0
  ·rw [if_pos q]
  ·rw [if_neg q,show z-st=0 by omega]
 have h2:0<=k*many:=Int.mul_nonneg hk (by omega)
 rw [h1 _ (by omega),h1 _ h,show y+k*many-st=y-st+k*many by omega,Int.add_mul_ediv_right _ _ (by omega)]
theorem Jo {st many y k:Int}(hm:0<many) (h:st<=y) (hk:0<=k):soU st many (y+k*many)=soU st many y:=by
 unfold soU
 rw [Jz hm h hk,Int.add_mul]
 omega
def soS (rows:List QC) (st:Int) (j:Nat):Int:=((rows.drop st.toNat).map (xD j)).sum
theorem Ja {rows:List QC}{st many y k:Int}{j:Nat}(hm:0<many) (h:st<=y) (hk:0<=k):soP rows st many (y+k*many) j=soP rows st many y j+k*soS rows st j:=by
 unfold soP soS
 rw [Jo hm h hk,Jz hm h hk,Int.add_mul]
 omega
theorem JC {rows:List QC}{st many y k:Int}(hm:0<many) (h:st<=y) (hk:0<=k):soL rows st many (y+k*many)=soL rows st many y:=by
 unfold soL
 rw [Jo hm h hk]
theorem UY {ns:List (Int×Int)}{gd:List Int}{wr:List (Int×T3)}{ts:List T3}{st:Int}{n:Nat}(sg:∀ z,good (xR wr ts z)=true) (hg:gd.length<=100) (hn:n<=900) (j:Nat) : -(2 ^ 31)<=soS (qx ns gd wr ts 0 n) st j/\soS (qx ns gd wr ts 0 n) st j<=2 ^ 31:=by
 have:=kz (n:=900) (a:=-(2 ^ 20)) (b:=2 ^ 20) (xs:=((qx ns gd wr ts 0 n).drop st.toNat).map (xD j)) (by decide) (by decide) (fun x hx=>by
  obtain ⟨q,hq,rfl⟩:=List.mem_map.mp hx
  obtain ⟨i,hi,rfl⟩:=List.mem_map.mp (List.mem_of_mem_drop hq)
  exact kS sg hg (by have:=List.mem_range.mp hi;omega)) (by rw [List.length_map,List.length_drop];unfold qx;rw [List.length_map,List.length_range];omega)
 unfold soS
 omega
theorem at4 (A:Nat->Int) (x:V) {j:Nat}(h:j<3):atI [V.int (A 0),V.int (A 1),V.int (A 2),x] (0+(j:Int))=some (V.int (A j)):=by
 match j,h with
 | 0,_=>rfl
 | 1,_=>rfl
 | 2,_=>rfl
theorem qZ:FnScope ["_law_script","_law_box_here","_law_scene_here","_law_ice","_law_size","_law_turn","_law_lane","_law_place","_law_year_here","_law_often","_law_first","_law_second","_law_due","_law_told"] ["_law_script"] (j6 yC):=by walk_at "s"
theorem VS {f C Pt:Addr}{fd:FuncData}(nb:Nb2 mg)
  (c_law_box:Cal P w K mg base 1 "_law_box" ["_law_script"] (Y4 K)) (c_law_take:Cal P w K mg base 2 "_law_take" ["_law_box_here","_law_size"] xE) (c_law_scene:Cal P w K mg base 5 "_law_scene" ["_law_box_here"] Xs) (c_law_made:Cal P w K mg base 10 "_law_made" ["_law_scene_here"] (Yd C Pt))
  (c_law_spot:Cal P w K mg base 3 "_law_spot" ["_law_box_here","_law_scene_here"] Yb) (c_law_news:Cal P w K mg base 1 "_law_news" ["_law_scene_here","_law_lane"] ZL)
  (c_law_alike:Cal P w K mg base 3 "_law_alike" ["_law_found","_law_due"] (Vh 2)) (c_so_far:CalX P w K mg base 5 "so_far" ["ice","lane","year"] (uK C))
  (F:Fun K "law" "law" yC f fd):FnOk P w K mg base CX0 11 f fd ["_law_script"] (Qw K Pt):=by
 refine F.ok qZ (fun vs H Q E h=>?_) (fun cdv A outer s H vs Q E hr h=>?_)
 ·obtain ⟨a,ns,rfl,_⟩:=h
  rfl
 ·obtain ⟨a,ns,rfl,hS,h63,hPt,k⟩:=h
  have T0:qm H Pt:=.inl hPt
  refine ⟨_,(j7 (jp (i:=1) qZ.nd rfl (Or.inl rfl) (je c_law_box (hr.mono (by decide)) rfl (j0 (pv 0) j2)))
   (j7 (jp (i:=2) qZ.nd rfl (Or.inl rfl) (je c_law_scene (hr.mono (by decide)) rfl (j0 (pv 1) j2)))
   (j7 (jp (i:=3) qZ.nd rfl (Or.inl rfl) (je c_law_made (hr.mono (by decide)) rfl (j0 (pv 2) j2)))
   (j7 (jp (i:=4) qZ.nd rfl (Or.inl rfl) (jc (jg K) rfl nb.b_len PySem.boot_len (j0 (jR (ql hr) (pv 2) jH (fun _ _=>rfl)) j2)))
   (vI (xB PassesOwn.never rfl (jO rfl nb.b_range (j0 j8 j2)) (jb (i:=5) qZ.nd rfl (Or.inl rfl)) (j7 (zS (je c_law_spot (hr.mono (by decide)) rfl (j0 (pv 1) (j0 (pv 2) j2))) (qL (n:=2) K rfl (js (jb (i:=6) qZ.nd rfl (Or.inl rfl)) (js (jb (i:=7) qZ.nd rfl (Or.inl rfl)) qA))))
   (j7 (jp (i:=8) qZ.nd rfl (Or.inl rfl) (ji jA (ji jA (ji jA (je c_law_news (hr.mono (by decide)) rfl (j0 (pv 2) (j0 (pv 6) j2))) (jc (jg K) rfl nb.b_len PySem.boot_len (j0 (jq (jd K) (jR (ql hr) (pv 2) jH (fun _ _=>rfl)) (pv 6) (fun _ _=>rfl)) j2))) j8) (je c_law_take (hr.mono (by decide)) rfl (j0 (pv 1) (j0 j8 j2)))))
   (vI (jp (i:=9) qZ.nd rfl (Or.inr rfl) (je c_law_take (hr.mono (by decide)) rfl (j0 (pv 1) (j0 (ji jA (ji zt (ji xC (ji Yv j8 j8) (pv 8)) (pv 4)) j8) j2))))
   (j7 (jp (i:=10) qZ.nd rfl (Or.inr rfl) (je c_so_far.cal (hr.mono (by decide)) rfl (j0 (pv 3) (j0 (pv 6) (j0 (pv 8) j2)))))
   (j7 (jp (i:=11) qZ.nd rfl (Or.inr rfl) (je c_so_far.cal (hr.mono (by decide)) rfl (j0 (pv 3) (j0 (pv 6) (j0 (ji jA (pv 8) (pv 4)) j2)))))
   (j7 (zH (j:=12) (osc:=(j6 yC)) (ON:=["_law_script","_law_box_here","_law_scene_here","_law_ice","_law_size","_law_turn","_law_lane","_law_place","_law_year_here","_law_often","_law_first","_law_second","_law_due","_law_told"]) (N:=["_law_at","_law_first","_law_often","_law_second"]) (own:=1) (caps:=[10,9,11]) ⟨rfl,by walk_at "k",by walk_at "k",by walk_at "k",rfl,by walk_at "k"⟩ qZ.nd rfl (Or.inl rfl) rfl rfl rfl (jO rfl nb.b_range (j0 j8 j2)) (fun _ _ _ _ _=>(jb (i:=0) (show List.Nodup (["_law_at","_law_first","_law_often","_law_second"]:List Str) by decide +kernel) rfl (Or.inl rfl))) (fun _ _ _ _ _=>jr) (fun _ _ _ _ _=>(ji jA (jq (qt K) (pv 1) (pv 0) (fun _ _=>rfl)) (ji zo (pv 2) (ji xC (jq (qt K) (pv 3) (pv 0) (fun _ _=>rfl)) (jq (qt K) (pv 1) (pv 0) (fun _ _=>rfl)))))))
   (j7 (jp (i:=13) qZ.nd rfl (Or.inl rfl) (je c_so_far.cal (hr.mono (by decide)) rfl (j0 (pv 3) (j0 (pv 6) (j0 (ji jA (pv 8) (ji zo (pv 9) (pv 4))) j2)))))
   (j9 (qj (PW.pt (ZG (qT (zf (je c_law_alike (hr.mono (by decide)) rfl (j0 (jq (qt K) (pv 11) j8 (fun _ _=>rfl)) (j0 (jq (qt K) (pv 10) j8 (fun _ _=>rfl)) j2))))) (QG (qT (zf (je c_law_alike (hr.mono (by decide)) rfl (j0 (pv 13) (j0 (ji ZM (jY (xf K) rfl nb.b_tuple PyProof.Rows.boot_tuple (j0 (pv 12) j2)) (xH (j0 (jq (qt K) (pv 10) j8 (fun _ _=>rfl)) j2))) j2)))))))) (j9 (jj kX)) jB))))))))))
   (j9 (jj kX))))))),?_⟩
  left
  refine ⟨a,ns,rfl,hS,fun L b H1 hb B1 s1=>?_⟩
  have T1:=T0.same s1
  left
  refine ⟨L,b,rfl,B1,fun sd H2 c B2 X2 S2 O=>?_⟩
  have T2:=V8 B1 X2 T1
  left
  refine ⟨sd,b,c,rfl,S2,O,T2,fun p H3 g I3 F3 R3 T3 er et es ek el ld ny nd=>?_⟩
  have W3:Lw C L b sd p c g H2 H3:=Lw.start S2 O B2 T2 I3 F3 R3
  have kk:Lk c g:=⟨er,et,es,ek,el,ld,ny,nd⟩
  clear I3 R3 T3 er et es ek el ld ny nd
  have hw1:1<=c.ws.length:=by
   rw [O.ro.length]
   exact kN (jP O.gr.ok) O.l1
  have hw6:c.ws.length<=6:=by rw [O.ro.length];exact O.gr.heads
  have hg30:∀ w∈c.ws,1<=(jf c.rs w).length/\(jf c.rs w).length<=30:=fun w hw=>⟨wb O.gr O.ro hw,(ut (O.gr.good O.l1 O.l8)).2.2.2 c.ws O.ro w hw⟩
  have hll:g.lds.length=g.slopes.length:=by rw [kk.ll,O.ldl,kk.sl,List.length_map]
  have t1:=O.t1
  have t2:=O.t2
  obtain ⟨wr,hwr⟩:=zY.of W3.S.sk
  have wgood:=hwr.good W3.S.sk
  have sgood:=fun y=>Y6 wgood O.tg t1 y
  have hsz:c.ys.length=c.ts.length:=Paired.length W3.S.r3
  have hzl:c.zs.length=c.ws.length:=(Paired.length W3.S.gi).trans (List.length_map _)
  have hsl:g.slopes.length=c.ws.length:=by rw [kk.sl,List.length_map]
  have hgd:∀ {H':Hp},ScAt H' sd c->xh H' sd (.str "grounds") (some (.ref c.gl)):=fun S'=>by rw [<- zO c.p c.q c.sg c.gl c.ll];exact xh.k (k:=.inr "grounds") S'.sd
  have k3:=O.k3
  have soC:∀ (H3:Hp) (l y M st:Int) (rows:List QC) (wy:List Int) (da:Addr) (dn ms:List (Int×Int)) (Q':VK),Lw C L b sd p c g H2 H3->zY H3 c.sk wr->LaneF c g l wy da dn->ms.Perm dn->(ms.map (·.1)).Pairwise (· <= ·) -> -1<=M->(M = -1\/M∈c.sk.map (·.1)\/M∈dn.map (·.1))->(∀ z∈c.sk,z.1<=M)->(∀ q∈dn,q.1<=M)->M<=99->0<=y->y<=10 ^ 40->st=M+1+((jf c.rs wy).length:Int)->rows=qx ms (jf c.rs wy) wr c.ts 0 (st+(c.ts.length:Int)).toNat->(∀ t H4,H3 t=none->H4 t=some (.tup [.int (soP rows st (c.ts.length:Int) y 0),.int (soP rows st (c.ts.length:Int) y 1),.int (soP rows st (c.ts.length:Int) y 2),.int (soL rows st (c.ts.length:Int) y)])->jh H3 H4->Q' (.ref t) H4)->uK C [.ref p,.int l,.int y] H3 Q' E0:=fun H3 l y M st rows wy da dn ms Q' W' hw' LF hp hs hM1 hMi hMs hMd hM99 y0 y1 est ero kq=>by
   have g30:=LF.g30
   refine ⟨p,g,l,y,M,c.sk,wr,dn,ms,jf c.rs wy,rfl,W'.I,Paired.length W'.I.rows,hll,kk.kv,by omega,(fun z hz=>(O.k2 z hz).1),hw',by rw [kk.rows];exact t1,by rw [kk.rows];omega,by rw [kk.rows];exact sgood,LF.at_,(fun q hq=>(LF.b q hq).1),hp,hs,LF.sl,LF.g1,by omega,hM1,hMi,hMs,hMd,hM99,y0,y1,fun t H' st' rows' e1 e2=>?_⟩
   rw [kk.rows] at *
   subst e1 est e2 ero
   exact kq t H'
  left
  refine ⟨sd,.ref c.q,rfl,by rw [<- QM c.p c.q c.sg c.gl c.ll];exact xh.k (k:=.inr "rows") W3.S.sd,?_⟩
  left
  refine ⟨c.q,_,rfl,.inl (SqL.of W3.S.q),?_⟩
  rw [hsz]
  left
  refine ⟨fun σ H9=>True,?_,?_⟩
  ·left
   refine ⟨by decide,by decide,?_⟩
   refine xI (fun i σ H4=>∃ v5 v6 v7 v8 v9 v10 v11 v12 v13:Option V,σ=[some (.ref a),some (.ref b),some (.ref sd),some (.ref p),some (.int (c.ts.length:Int)),v5,v6,v7,v8,v9,v10,v11,v12,v13]/\Lw C L b sd p c g H2 H4/\zY H4 c.sk wr) ?_ ?_ ?_
   ·exact ⟨_,_,_,_,_,_,_,_,_,rfl,W3,hwr⟩
   ·clear W3 hwr
    rintro i σ H4 hi ⟨v5,v6,v7,v8,v9,v10,v11,v12,v13,rfl,W4,hw4⟩
    left
    refine ⟨L,b,sd,c,rfl,W4.B,W4.S,O,hw1,hw6,hg30,fun ln n wy t H5 ln0 ln1 hwy n0 n1 B5 X5 ht ht5=>?_⟩
    have W5:=W4.take B5 X5
    have hw5:=hw4.keep (zu W4.B X5)
    clear W4 hw4
    obtain ⟨wy',da,dn,LF⟩:=kk.lane O ln0 ln1
    obtain rfl:wy'=wy:=Option.some.inj (LF.way.symm.trans hwy)
    obtain ⟨ms,hp,hs⟩:=wY dn
    have l10:=LF.l10
    have g30:=LF.g30
    have g1:=LF.g1
    left
    refine ⟨t,_,rfl,SqT.of ht5,rfl,?_⟩
    refine ⟨_,_,rfl,_,_,rfl,rfl,?_⟩
    left
    refine ⟨sd,c,ln,da,dn,rfl,W5.S,ln0,LF.cd,by omega,by omega,fun M H6 hM1 hMi hMs hMd s6=>?_⟩
    have hM99:M<=99:=by
     rcases hMi with h | h | h
     ·omega
     ·obtain ⟨z,hz,rfl⟩:=List.mem_map.mp h
      exact (O.k2 z hz).2
     ·obtain ⟨z,hz,rfl⟩:=List.mem_map.mp h
      have:=LF.b z hz
      omega
    have W6:=W5.same s6
    have hw6':=hw5.keep (jo.same s6)
    clear W5 hw5
    have hi':ln.toNat<c.zs.length:=by omega
    obtain ⟨gw,hgw,ga,ega,hga⟩:=Paired.get W6.S.gi (List.getElem?_eq_getElem hi')
    rw [List.getElem?_map,LF.way] at hgw
    have hgw:=Option.some.inj hgw
    subst hgw
    left
    refine ⟨sd,.ref c.gl,rfl,hgd W6.S,?_⟩
    left
    refine ⟨_,_,_,_,rfl,rfl,SqL.of W6.S.gl,xk ln0 (v:=V.ref ga) (by rw [List.getElem?_eq_getElem hi',ega]),?_⟩
    left
    refine ⟨ga,_,rfl,.inl (SqL.of hga),?_⟩
    rw [List.length_map]
    left
    refine ⟨L,b,_,rfl,W6.B,⟨by decide,by decide⟩,fun v1 H7 v10' v11' B7 X7=>?_⟩
    have W7:=W6.take B7 X7
    have hw7:=hw6'.keep (zu W6.B X7)
    clear W6 hw6' hga
    left
    refine ⟨fun σ H8=>∃ y kq:Int,σ=[some (.ref a),some (.ref b),some (.ref sd),some (.ref p),some (.int (c.ts.length:Int)),some (.int (0+(i:Int))),some (.int ln),some (.int n),some (.int y),some (.int kq),v10,v11,v12,v13]/\y=M+((jf c.rs wy').length:Int)+1+v1/\0<=kq/\y+kq*(c.ts.length:Int)<=10 ^ 40/\Lw C L b sd p c g H2 H8/\zY H8 c.sk wr,?_,?_⟩
    ·obtain ⟨Y,eY⟩:∃ Y,M+((jf c.rs wy').length:Int)+1+v1=Y:=⟨_,rfl⟩
     obtain ⟨dv,edv⟩:∃ dv,(10 ^ Int.toNat 40-Y) / (c.ts.length:Int)=dv:=⟨_,rfl⟩
     have hd0:0<=dv:=by rw [<- edv];exact Int.ediv_nonneg (show (0:Int)<=10 ^ 40-Y by omega) (by omega)
     have hd1:dv*(c.ts.length:Int)<=10 ^ 40-Y:=by rw [<- edv];exact Int.ediv_mul_le (10 ^ 40-Y) (show (c.ts.length:Int)≠0 by omega)
     have hd2:dv<=10 ^ 40-Y:=by rw [<- edv];exact Int.ediv_le_self _ (show (0:Int)<=10 ^ 40-Y by omega)
     left
     simp only [JS,List.append_nil]
     rw [eY,edv]
     refine ⟨L,b,_,rfl,W7.B,⟨by omega,Int.lt_of_le_of_lt (show dv+1<=10 ^ 40+1 by omega) (by decide)⟩,fun v2 H8 v20 v21 B8 X8=>?_⟩
     left
     have hv2:v2*(c.ts.length:Int)<=dv*(c.ts.length:Int):=Int.mul_le_mul_of_nonneg_right (by omega) (by omega)
     exact ⟨v20,by omega,W7.take B8 X8,hw7.keep (zu W7.B X8)⟩
    rintro σ H8 ⟨y,kq,rfl,ey,kq0,hyD,W8,hw8⟩
    clear W7 hw7
    obtain ⟨st,est⟩:∃ st,st=M+1+((jf c.rs wy').length:Int):=⟨_,rfl⟩
    obtain ⟨rows,ero⟩:∃ rows,rows=qx ms (jf c.rs wy') wr c.ts 0 (st+(c.ts.length:Int)).toNat:=⟨_,rfl⟩
    have hb:∀ j,-(2 ^ 31)<=soS rows st j/\soS rows st j<=2 ^ 31:=fun j=>by rw [ero];exact UY sgood (by omega) (by omega) j
    have soD:∀ (H3:Hp) (y:Int) (Q':VK),jh H8 H3->0<=y->y<=10 ^ 40->(∀ t H4,H3 t=none->H4 t=some (.tup [.int (soP rows st (c.ts.length:Int) y 0),.int (soP rows st (c.ts.length:Int) y 1),.int (soP rows st (c.ts.length:Int) y 2),.int (soL rows st (c.ts.length:Int) y)])->jh H3 H4->Q' (.ref t) H4)->uK C [.ref p,.int ln,.int y] H3 Q' E0:=fun H3 y Q' s3 y0 y1 kq=>soC H3 ln y M st rows wy' da dn ms Q' (W8.same s3) (hw8.keep (jo.same s3)) LF hp hs hM1 hMi hMs hMd hM99 y0 y1 est ero kq
    clear soC ero
    have hm0:(0:Int)<(c.ts.length:Int):=by omega
    have hsy:st<=y:=by omega
    have p1:=fun j=>Ja (rows:=rows) (j:=j) hm0 hsy (show (0:Int)<=1 by omega)
    simp only [Int.one_mul] at p1
    have q1:=JC (rows:=rows) hm0 hsy (show (0:Int)<=1 by omega)
    rw [Int.one_mul] at q1
    have pk:=fun j=>Ja (rows:=rows) (j:=j) hm0 hsy kq0
    have qk:=JC (rows:=rows) hm0 hsy kq0
    left
    simp only [JS,List.append_nil]
    refine soD H8 y _ (jh.refl _) (by omega) (by omega) fun f1 H9 hf1 hf19 s9=>?_
    left
    simp only [JS,List.append_nil]
    refine soD H9 (y+(c.ts.length:Int)) _ s9 (by omega) (by omega) fun f2 H10 hf2 hf20 s10=>?_
    have hf10:=s10 _ _ hf19
    left
    rw [p1,p1,p1,q1] at hf20
    generalize eA:soP rows st (c.ts.length:Int) y=A at *
    generalize eS:soS rows st=S at *
    generalize eL:soL rows st (c.ts.length:Int) y=Lq at *
    refine ⟨by decide,by decide,fun acc hacc=>?_⟩
    refine qf (lo:=0) (n:=(3:Int).toNat) (acc:=acc) (fun j σ H5=>∃ x:Option V,σ=[x,some (.ref f1),some (.int kq),some (.ref f2)]/\H5 acc=some (.lst ((List.range j).map fun k=>V.int (A k+kq*(A k+S k-A k))))/\Ext acc H10 H5) ?_ ?_ ?_
    ·exact ⟨none,rfl,j4,Ext.put⟩
    ·rintro j σ H5 hj ⟨x,rfl,h5,e5⟩
     have hj3:j<3:=hj
     have s5:jh H10 H5:=fun c o hc=>e5 c o hc (j1 hc hacc)
     have hbj:=hb j
     left
     refine ⟨_,_,_,_,rfl,rfl,SqT.of (s5 _ _ hf10),at4 A _ hj3,?_⟩
     left
     refine ⟨_,_,_,_,rfl,rfl,SqT.of (s5 _ _ hf20),at4 (fun k=>A k+S k) _ hj3,?_⟩
     left
     refine ⟨_,_,_,_,rfl,rfl,SqT.of (s5 _ _ hf10),at4 A _ hj3,?_⟩
     left
     refine ⟨_,h5,by rw [List.length_map,List.length_range];exact ja (by omega),_,rfl,?_,e5.trans Ext.put⟩
     rw [j4,List.range_succ,List.map_append]
     rfl
    rintro σ H11 ⟨x,rfl,h11,e11⟩
    have s11:jh H10 H11:=fun c o hc=>e11 c o hc (j1 hc hacc)
    have h11:H11 acc=some (.lst [.int (A 0+kq*(A 0+S 0-A 0)),.int (A 1+kq*(A 1+S 1-A 1)),.int (A 2+kq*(A 2+S 2-A 2))]):=h11
    rw [show A 0+S 0-A 0=S 0 by omega,show A 1+S 1-A 1=S 1 by omega,show A 2+S 2-A 2=S 2 by omega] at h11
    left
    simp only [JS,List.append_nil]
    refine soD H11 (y+kq*(c.ts.length:Int)) _ (s9.trans (s10.trans s11)) (by have:=Int.mul_nonneg kq0 (Int.le_of_lt hm0);omega) hyD fun f3 H12 hf3 hf32 s12=>?_
    rw [pk,pk,pk,qk] at hf32
    have h112:=s12 _ _ h11
    have s1012:=s11.trans s12
    have hf12:=s1012 _ _ hf10
    have hf22:=s1012 _ _ hf20
    left
    refine ⟨_,_,.int Lq,rfl,.int _,.int _,rfl,fun H13 s13=>?_⟩
    have h113:=s13 _ _ h112
    have hf13:=s13 _ _ hf12
    left
    refine ⟨acc,_,rfl,SqL.of h113,fun t1 H14 ht1 ht14 s14=>?_⟩
    have hf14:=s14 _ _ hf13
    left
    refine ⟨by show 1<=sizeLine;decide,fun t2 H15 ht2 ht25 s15=>?_⟩
    refine ⟨t1,t2,_,_,rfl,rfl,s15 _ _ ht14,ht25,by show 4<=sizeLine;decide,fun t3 H16 s16 ht36=>?_⟩
    left
    have s1216:=s13.trans (s14.trans (s15.trans s16))
    refine ⟨_,_,.tuple [.int (A 0+kq*S 0),.int (A 1+kq*S 1),.int (A 2+kq*S 2),.int Lq],rfl,.tup (s1216 _ _ hf32) (.cons (.int _) (.cons (.int _) (.cons (.int _) (.cons (.int _) .nil)))),.tup ht36 (.cons (.int _) (.cons (.int _) (.cons (.int _) (.cons (.int _) .nil)))),rfl,fun H17 s17=>?_⟩
    have sA:=s9.trans (s10.trans (s11.trans (s12.trans (s1216.trans s17))))
    left
    exact ⟨_,_,_,_,_,_,_,_,_,rfl,W8.same sA,hw8.keep (jo.same sA)⟩
   ·rintro σ H9 ⟨v5,v6,v7,v8,v9,v10,v11,v12,v13,rfl,W9,hw9⟩
    trivial
  ·rintro σ H9 _
   left
   exact k H9
end
end K35
end
namespace K35
open PySem PySem.Spec PyProof.Rows L2
local macro_rules | `(tactic| walk_at "hp")=>`(tactic| first | assumption | exact j4 | (rw [j5 (by first | assumption | (apply Ne.symm;assumption))];first | assumption | exact j4))
local macro_rules | `(tactic| walk_at "num")=>`(tactic| first | decide | omega)
local macro_rules | `(tactic| walk_at "rd1")=>`(tactic| first | refine ⟨_,rfl,?_⟩ | refine ⟨_,_,rfl,rfl,?_⟩ | refine And.intro (show uZ _ _ from Or.inr ⟨by walk_at "num",by walk_at "num"⟩) ?_ | refine And.intro (show uZ _ _ from Or.inl ⟨by walk_at "num",by walk_at "num"⟩) ?_ | refine And.intro (show JQ _ _ from ⟨by walk_at "num",by walk_at "num"⟩) ?_ | refine And.intro (show ZE _ _ from ⟨by walk_at "num",by walk_at "num",by walk_at "num"⟩) ?_ | refine And.intro (show (0:Int)<_ by walk_at "num") ?_ | refine ⟨_,_,_,_,rfl,rfl,SqL.of (by walk_at "hp"),(by rfl),?_⟩ | refine ⟨_,_,_,_,rfl,rfl,SqT.of (by walk_at "hp"),(by rfl),?_⟩ | refine ⟨_,_,_,_,rfl,rfl,(by assumption),(by rfl),?_⟩ | refine ⟨_,_,_,_,rfl,rfl,(by walk_at "hp"),(by rfl),?_⟩ | refine ⟨rfl,?_⟩)
local macro_rules | `(tactic| walk_at "r")=>`(tactic| repeat walk_at "rd1")
local macro_rules | `(tactic| walk_at "s")=>`(tactic| exact ⟨rfl,rfl,rfl,by decide +kernel,rfl,by decide +kernel,by decide +kernel⟩)
local macro_rules | `(tactic| walk_at "k")=>`(tactic| decide +kernel)
local macro_rules | `(tactic| walk_at "w")=>`(tactic| (intro _ z;cases z))
local macro_rules | `(tactic| walk_at "z")=>`(tactic| (intro z;cases z))
local macro_rules | `(tactic| left)=>`(tactic| walk_at "r")
local macro_rules | `(tactic| walk_at "1")=>`(tactic| exact fun _ _ _ _ _ _ _ hl=>bnd1 hl fun _=>rfl)
local macro_rules | `(tactic| walk_at "2")=>`(tactic| exact fun _ _ _ _ _ _ _ hl=>bnd2 hl fun _ _=>rfl)
local macro_rules | `(tactic| walk_at "3")=>`(tactic| exact fun _ _ _ _ _ _ _ hl=>bnd3 hl fun _ _ _=>rfl)
local macro_rules | `(tactic| walk_at "4")=>`(tactic| exact fun _ _ _ _ _ _ _ hl=>bnd4 hl fun _ _ _ _=>rfl)
local macro_rules | `(tactic| walk_at "5")=>`(tactic| exact fun _ _ _ _ _ _ _ hl=>bnd5 hl fun _ _ _ _ _=>rfl)
local macro_rules | `(tactic| walk_at "6")=>`(tactic| exact fun _ _ _ _ _ _ _ hl=>bnd6 hl fun _ _ _ _ _ _=>rfl)
theorem Vw {l:PySem.W.OpenLaw}{w:World}{K:PySem.W.Frag}{h:Heap}{mg:Str->Option Value}{fa:Addr}(X:K.In h) (G:h.Ns mainGlobals mg) (hfa:mg "law" = some (.ref fa))
  {CI:Addr}
  {C0:Addr}
  {C1:Addr}
  {C2:Addr}
  {C3:Addr}
  {C4:Addr}
  {C5:Addr}
  {C6:Addr}
  {u0:Tok}
  {u1:Tok}
  {u2:Tok}
  {u3:Tok}
  {u4:Tok}
  {u5:Tok}
  {u6:Tok}
  {u7:Tok}
  {u8:Tok}
  {u9:Tok}
  {u10:Tok}
  (aCI:PySem.W.nsIn K mainGlobals "Ice" = some (some (.ref CI))) (pgI:PySem.W.plainGet K CI Str.empty=true) (hdI:PySem.W.hasDictIn K CI=true) (poI:PySem.W.plainOver K CI=true) (saI:PySem.W.findIn K (.ref CI) "__setattr__" = some (some (.builtin "object.__setattr__"))) (mkI:PySem.W.makesIn K CI=true) (kcI:PySem.W.keepIn K (.ref CI)=true)
  (na0:PySem.W.findIn K (.ref CI) "valley" = some none)
  (na1:PySem.W.findIn K (.ref CI) "cycle" = some none)
  (na2:PySem.W.findIn K (.ref CI) "slopes" = some none)
  (na3:PySem.W.findIn K (.ref CI) "years" = some none)
  (na4:PySem.W.findIn K (.ref CI) "leaps" = some none)
  (a1:gN K "leads_on" yL)
  (a2:gN K "is_reach" zR)
  (a3:gN K "way_down" yK)
  (a4:PySem.W.nsIn K mainGlobals "lanes" = some (some (.ref f4))) (l4:K.lookup f4=some ⟨oc4,od4,.func (PySem.W.fnOf "lanes" "lanes" (jN qJ) (jF qJ) (j6 qJ) .none kV4 dc4 pm4 an4 (.ref cL) ct4),sl4⟩) (c4:PySem.W.codeIn K (.ref cL) "lanes" = true) (k4:PySem.W.keepIn K (.ref f4)=true) (hdL:PySem.W.codeHdIn K cL 142=true)
  (a5:gN K "way_of" uW)
  (a6:gN K "count_places" xa)
  (a7:gN K "fits" gC)
  (a8:gN K "is_valley" za)
  (a9:gN K "heights" yr)
  (a10:gN K "is_weather" zN)
  (a11:gN K "change" uO)
  (a12:gN K "is_round" zQ)
  (a13:gN K "check_round" zn)
  (a14:gN K "check_told" zK)
  (a15:gM K CI "__init__" "Ice.__init__" qu)
  (a16:gM K CI "check_lane" "Ice.check_lane" xg)
  (a17:gM K CI "check_place" "Ice.check_place" qS)
  (a18:gM K CI "length" "Ice.length" ze)
  (a19:gM K CI "height" "Ice.height" zi)
  (a20:gM K CI "sky" "Ice.sky" yX)
  (a21:gM K CI "tell" "Ice.tell" yd)
  (a22:gM K CI "surge" "Ice.surge" zJ)
  (a23:gM K CI "surges" "Ice.surges" xp)
  (a24:gN K "check_asked" zg)
  (a25:gM K CI "rows" "Ice.rows" y4)
  (a26:gM K CI "told" "Ice.told" xT)
  (a27:gN K "settled" zw)
  (a28:gN K "course" xc)
  (a29:gN K "total" uL)
  (a30:gN K "so_far" vi)
  (a31:gN K "_law_box" vZ)
  (a32:gN K "_law_mixed" yc)
  (a33:gN K "_law_take" yH)
  (a34:gN K "_law_whole" ya)
  (a35:gN K "_law_alike" xy)
  (a38:gN K "_law_weather" zp)
  (a39:gN K "_law_round" xV)
  (a40:gN K "_law_ground_drawn" jZ)
  (a41:gN K "_law_reaches" qO)
  (a42:gN K "_law_roads" xw)
  (a43:gN K "_law_ground" zG)
  (a44:gN K "_law_year" yZ)
  (a45:gN K "_law_scene" xx)
  (a46:gN K "_law_made" yU)
  (a47:gN K "_law_spot" yG)
  (a48:gN K "_law_news" yM)
  (a49:PySem.W.nsIn K mainGlobals "law" = some (some (.ref f49))) (l49:K.lookup f49=some ⟨oc49,od49,.func (PySem.W.fnOf "law" "law" (jN yC) (jF yC) (j6 yC) .none kV49 dc49 pm49 an49 cd49 ct49),sl49⟩) (c49:PySem.W.codeIn K cd49 "law" = true) (k49:PySem.W.keepIn K (.ref f49)=true)
  (ec0:gE K "BadValley" C0)
  (ec1:gE K "BadRound" C1)
  (ec2:gE K "NoLane" C2)
  (ec3:gE K "BadYear" C3)
  (ec4:gE K "BadWeather" C4)
  (ec5:gE K "BadSurge" C5)
  (ec6:gE K "NoPlace" C6)
  (z0:PySem.W.nsIn K mainGlobals "len" = some none)
  (z1:PySem.W.nsIn K mainGlobals "range" = some none)
  (z2:PySem.W.nsIn K mainGlobals "isinstance" = some none)
  (z3:PySem.W.nsIn K mainGlobals "int" = some none)
  (z4:PySem.W.nsIn K mainGlobals "bool" = some none)
  (z5:PySem.W.nsIn K mainGlobals "str" = some none)
  (z6:PySem.W.nsIn K mainGlobals "list" = some none)
  (z7:PySem.W.nsIn K mainGlobals "tuple" = some none)
  (z8:PySem.W.nsIn K mainGlobals "min" = some none)
  (z9:PySem.W.nsIn K mainGlobals "max" = some none)
  (z10:PySem.W.nsIn K mainGlobals "all" = some none)
  (z11:PySem.W.nsIn K mainGlobals "zip" = some none)
  (z12:PySem.W.nsIn K mainGlobals "enumerate" = some none)
  (z13:PySem.W.nsIn K mainGlobals "sorted" = some none)
  (z14:PySem.W.nsIn K mainGlobals "sum" = some none)
  (z15:PySem.W.nsIn K mainGlobals "dict" = some none)
  (q0:PySem.W.nsIn K mainGlobals "MOST_REACHES" = some (some (.int 8 u0)))
  (q1:PySem.W.nsIn K mainGlobals "MOST_HEIGHTS" = some (some (.int 12 u1)))
  (q2:PySem.W.nsIn K mainGlobals "GREATEST_HEIGHT" = some (some (.int 99 u2)))
  (q3:PySem.W.nsIn K mainGlobals "MOST_LANES" = some (some (.int 6 u3)))
  (q4:PySem.W.nsIn K mainGlobals "LONGEST_LANE" = some (some (.int 30 u4)))
  (q5:PySem.W.nsIn K mainGlobals "HIGHEST_LINE" = some (some (.int 100 u5)))
  (q6:PySem.W.nsIn K mainGlobals "MOST_HANDS" = some (some (.int 9 u6)))
  (q7:PySem.W.nsIn K mainGlobals "MOST_ROWS" = some (some (.int 12 u7)))
  (q8:PySem.W.nsIn K mainGlobals "LAST_TOLD" = some (some (.int 99 u8)))
  (q9:PySem.W.nsIn K mainGlobals "LAST_ASKED" = some (some (.int 10000000000000000000000000000000000000000 u9)))
  (q10:PySem.W.nsIn K mainGlobals "GREATEST_SURGE" = some (some (.int 9 u10)))
  : ∃ fd:FuncData,(∀ (s:Shared) (v:Value),BindsTo s fd ⟨[v],[]⟩ [("_law_script",v)])/\∀ base:Heap,K.In base->base.Ns mainGlobals mg->Bm mg base->FnOk l.prog w K mg base CX0 11 fa fd ["_law_script"] (Qw K 142):=by
 have e:=hfa.symm.trans (PySem.W.mg_of X G a49)
 cases e
 have nb:Nb2 mg:={ b_len:=PySem.W.mg_none_of X G z0,b_range:=PySem.W.mg_none_of X G z1,b_isinstance:=PySem.W.mg_none_of X G z2,b_int:=PySem.W.mg_none_of X G z3,b_bool:=PySem.W.mg_none_of X G z4,b_str:=PySem.W.mg_none_of X G z5,b_list:=PySem.W.mg_none_of X G z6,b_tuple:=PySem.W.mg_none_of X G z7,b_min:=PySem.W.mg_none_of X G z8,b_max:=PySem.W.mg_none_of X G z9,b_all:=PySem.W.mg_none_of X G z10,b_zip:=PySem.W.mg_none_of X G z11,b_enumerate:=PySem.W.mg_none_of X G z12,b_sorted:=PySem.W.mg_none_of X G z13,b_sum:=PySem.W.mg_none_of X G z14 }
 have b_dict:=PySem.W.mg_none_of X G z15
 have g_MOST_REACHES:=PySem.W.mg_of X G q0
 have g_MOST_HEIGHTS:=PySem.W.mg_of X G q1
 have g_GREATEST_HEIGHT:=PySem.W.mg_of X G q2
 have g_MOST_LANES:=PySem.W.mg_of X G q3
 have g_LONGEST_LANE:=PySem.W.mg_of X G q4
 have g_HIGHEST_LINE:=PySem.W.mg_of X G q5
 have g_MOST_HANDS:=PySem.W.mg_of X G q6
 have g_MOST_ROWS:=PySem.W.mg_of X G q7
 have g_LAST_TOLD:=PySem.W.mg_of X G q8
 have g_LAST_ASKED:=PySem.W.mg_of X G q9
 have g_GREATEST_SURGE:=PySem.W.mg_of X G q10
 have e_BadValley:=PySem.W.mg_of X G ec0.e
 have x_BadValley:=ec0.x
 have e_BadRound:=PySem.W.mg_of X G ec1.e
 have x_BadRound:=ec1.x
 have e_NoLane:=PySem.W.mg_of X G ec2.e
 have x_NoLane:=ec2.x
 have e_BadYear:=PySem.W.mg_of X G ec3.e
 have x_BadYear:=ec3.x
 have e_BadWeather:=PySem.W.mg_of X G ec4.e
 have x_BadWeather:=ec4.x
 have e_BadSurge:=PySem.W.mg_of X G ec5.e
 have x_BadSurge:=ec5.x
 have e_NoPlace:=PySem.W.mg_of X G ec6.e
 have x_NoPlace:=ec6.x
 have cl_Ice:Cls K CI:=⟨pgI,hdI,poI,saI⟩
 have T_Ice:IceC K CI:=⟨cl_Ice,na0,na1,na2,na3,na4⟩
 refine ⟨PySem.W.fnOf "law" "law" (jN yC) (jF yC) (j6 yC) .none kV49 dc49 pm49 an49 cd49 ct49,fun s v=>.of_eq rfl,fun base hKb _ hBm=>?_⟩
 have CH:=PySem.W.codeHd_of_K hKb hdL
 have z:Zt l.prog w K mg base:=⟨X,G⟩
 have c_leads_on:=a1.cal z (by walk_at "2") (Q5)
 have c_is_reach:=a2.cal z (by walk_at "2") (Jm nb g_MOST_HEIGHTS g_GREATEST_HEIGHT c_leads_on)
 have c_way_down:=a3.cal z (by walk_at "2") (Q7 nb)
 have c_lanes:Cal l.prog w K mg base 5 "lanes" ["reaches"] (vL K 142):=Cal.mkC (st:=qJ) X G a4 l4 c4 k4 (by walk_at "1") (Yh nb c_way_down CH hBm l4 c4)
 have c_way_of:=a5.calX z (by walk_at "2") (Xv nb e_NoLane x_NoLane c_lanes)
 have c_count_places:=a6.cal z (by walk_at "2") (uD nb)
 have c_fits:=a7.cal z (by walk_at "2") (YQ nb g_MOST_LANES g_LONGEST_LANE c_count_places)
 have c_is_valley:=a8.cal z (by walk_at "1") (gZ nb g_MOST_REACHES c_is_reach c_lanes c_fits)
 have c_heights:=a9.calX z (by walk_at "2") (Qe nb c_way_of)
 have c_is_weather:=a10.cal z (by walk_at "1") (wS g_HIGHEST_LINE g_MOST_HANDS)
 have c_change:=a11.cal z (by walk_at "2") (XE)
 have c_is_round:=a12.cal z (by walk_at "1") (Jl nb.toNb g_MOST_ROWS c_is_weather)
 have c_check_round:=a13.calX z (by walk_at "1") (wM nb e_BadRound x_BadRound c_is_round)
 have c_check_told:=a14.calX z (by walk_at "1") (wZ g_LAST_TOLD e_BadYear x_BadYear)
 have c_Ice:=a15.mak z mkI kcI aCI (by walk_at "3") (ug nb T_Ice e_BadValley x_BadValley c_is_valley c_check_round c_lanes c_heights.cal)
 have c_Ice__check_lane:=a16.calX z (by walk_at "2") (yI nb T_Ice e_NoLane x_NoLane)
 have c_Ice__check_place:=a17.calX z (by walk_at "3") (yx nb T_Ice e_NoPlace x_NoPlace cl_Ice c_Ice__check_lane)
 have c_Ice__length:=a18.calX z (by walk_at "2") (wo nb T_Ice cl_Ice c_Ice__check_lane)
 have c_Ice__height:=a19.calX z (by walk_at "3") (wK nb T_Ice cl_Ice c_Ice__check_place)
 have c_Ice__sky:=a20.cal z (by walk_at "2") (J8 nb T_Ice)
 have c_Ice__tell:=a21.calX z (by walk_at "3") (gW nb T_Ice e_BadWeather x_BadWeather c_check_told c_is_weather)
 have c_Ice__surge:=a22.calX z (by walk_at "4") (wW nb T_Ice cl_Ice g_GREATEST_SURGE e_BadSurge x_BadSurge c_Ice__check_lane c_check_told)
 have c_Ice__surges:=a23.calX z (by walk_at "2") (w5 nb T_Ice cl_Ice c_Ice__check_lane)
 have c_check_asked:=a24.calX z (by walk_at "1") (uR g_LAST_ASKED e_BadYear x_BadYear)
 have c_Ice__rows:=a25.cal z (by walk_at "1") (hW nb T_Ice)
 have c_Ice__told:=a26.cal z (by walk_at "1") (gm nb T_Ice)
 have c_settled:=a27.calX z (by walk_at "2") (Qq nb cl_Ice c_Ice__told c_Ice__surges c_Ice__length)
 have c_course:=a28.calX z (by walk_at "4") (XZ nb b_dict cl_Ice c_Ice__surges c_Ice__length c_change c_Ice__sky c_Ice__height)
 have c_total:=a29.cal z (by walk_at "2") (Y5 nb)
 have c_so_far:=a30.calX z (by walk_at "3") (XY nb cl_Ice c_Ice__check_lane c_check_asked c_settled c_Ice__rows c_course c_total)
 have c_law_box:=a31.cal z (by walk_at "1") (Ua nb.toNb)
 have c_law_mixed:=a32.cal z (by walk_at "2") (ZC)
 have c_law_take:=a33.cal z (by walk_at "2") (YV nb.toNb c_law_mixed)
 have c_law_whole:=a34.cal z (by walk_at "1") (Yo nb)
 have c_law_alike:=a35.cal z (by walk_at "2") (Z8)
 have c_law_alike:=a35.cal z (by walk_at "2") (kQ 0 nb c_law_whole c_law_alike)
 have c_law_alike:=a35.cal z (by walk_at "2") (kQ 1 nb c_law_whole c_law_alike)
 have c_law_weather:=a38.cal z (by walk_at "1") (Qp c_law_take)
 have c_law_round:=a39.cal z (by walk_at "1") (ZP nb.toNb c_law_take c_law_weather)
 have c_law_ground_drawn:=a40.cal z (by walk_at "3") (uA nb c_law_take)
 have c_law_reaches:=a41.cal z (by walk_at "1") (Qd nb c_law_take c_law_ground_drawn)
 have c_law_roads:=a42.cal z (by walk_at "1") (ZR nb)
 have c_law_ground:=a43.cal z (by walk_at "2") (XU)
 have c_law_year:=a44.cal z (by walk_at "1") (YC c_law_take)
 have c_law_scene:=a45.cal z (by walk_at "1") (ZQ nb c_law_take c_law_reaches c_law_round c_law_ground c_law_roads c_law_year c_law_weather)
 have c_law_made:=a46.cal z (by walk_at "1") (YF nb cl_Ice c_Ice c_Ice__tell c_Ice__surge)
 have c_law_spot:=a47.cal z (by walk_at "2") (YS nb c_law_take)
 have c_law_news:=a48.cal z (by walk_at "2") (YX nb)
 exact VS nb c_law_box c_law_take c_law_scene c_law_made c_law_spot c_law_news c_law_alike c_so_far (yR (st:=yC) l49 c49 k49)
end K35
open PySem PySem.W PyProof.Rows
set_option maxRecDepth 100000 in
set_option maxHeartbeats 0 in
theorem PySem.Challenge.cw_firnfall_k35_whole_each_round_adds_alike_holds : PySem.Challenge.rw_firnfall_k35_whole_each_round_adds_alike.Holds := by
 w_on
 refine holds_law HO.ws fun said=>?_
 refine holds_open (q:=HO.view) (loose:=HO.loose) (N:=9000) (Xt:=HO.xt) (XP:=XL HO.view [])
  (Yf:=Hook.obs (kmHook HO.frag.heap_1 HO.asL HO.asE [142])) (Ya:=Hook.val (kmHook HO.frag.heap_1 HO.asL HO.asE [142])) (YP:=Hook.says (kmHook HO.frag.heap_1 HO.asL HO.asE [142]))
  HO.left (Hook.of (kmHook HO.frag.heap_1 HO.asL HO.asE [142])) (Hook.keeps (kmHook HO.frag.heap_1 HO.asL HO.asE [142]))
  (fun s e=>xl_of s (Bool.and_eq_true_iff.mp e).1) XL.keeps rfl rfl rfl
  (fun s e=>recFacts_of (Bool.and_eq_true_iff.mp e).2) rfl
  (by first | assumption | decide +kernel) (by decide +kernel) ⟨rfl,rfl,rfl,rfl,rfl,by decide +kernel⟩ ?hw ?hc
 (case hw=>w_witness2)
 k_fill
 refine L2.YB (l:=PySem.Challenge.rw_firnfall_k35_whole_each_round_adds_alike) 11 144 142 ⟨rfl,by decide,by decide⟩ rfl rfl (fun w h Y=>⟨PySem.W.km_in_of Y,PySem.W.km_tabs_of Y 142 (by simp)⟩) (fun _=>by kernel_rfl) (fun _=>by kernel_rfl) ?F
 case F =>
  intro w mg fa h KX G hmg
  refine' K35.Vw KX G hmg ..
  all_goals try first | refine' L2.gN.mk ?_ ?_ ?_ ?_ | refine' L2.gM.mk ?_ ?_ ?_ ?_ ?_ | refine' L2.gE.mk ?_ ?_ ?_
  all_goals try show _=_
  all_goals try k_is
  all_goals kernel_rfl
