import PyProof.Rows.All
import Wide.All
import OpenK.AllK
import Wide.FinOn
import Lean
import PyProof.EqAt
import PyProof.EqKinds
import PyProof.TupleCall
import PyProof.AttrMissHeap
import KE.KDictOf
import PyProof.Rows.MinMaxN
import KE.KMinBuiltin
import PyProof.Rows.CallKwBuiltin
import KE.KUnpack
import PySem.Challenge.RW_firnfall_k34_whole_what_fell_is_what_mel
set_option Elab.async false
set_option linter.all false
set_option maxRecDepth 100000
set_option maxHeartbeats 0
open PySem PySem.Spec PyProof.Rows
local macro_rules | `(∅)=>`(by omega)
local macro_rules | `(⋯)=>`(by decide)
section
namespace HO
open PySem PySem.W PyProof.Rows PySem.Calls PySem.Spec
def view:Program:={ PySem.Challenge.pw_firnfall_k34_whole_what_fell_is_what_mel with main:={ PySem.Challenge.pw_firnfall_k34_whole_what_fell_is_what_mel.main with body:=(PySem.Challenge.pw_firnfall_k34_whole_what_fell_is_what_mel.main.body).drop 77 } }
def loose:List Str:=[Str.ofString "_wall",Str.ofString "FirnError",Str.ofString "BadValley",Str.ofString "BadRound",Str.ofString "BadWeather",Str.ofString "BadYear",Str.ofString "BadSurge",Str.ofString "NoLane",Str.ofString "NoPlace",Str.ofString "MOST_REACHES",Str.ofString "MOST_HEIGHTS",Str.ofString "GREATEST_HEIGHT",Str.ofString "MOST_LANES",Str.ofString "LONGEST_LANE",Str.ofString "is_valley",Str.ofString "is_reach",Str.ofString "leads_on",Str.ofString "fits",Str.ofString "lanes",Str.ofString "way_down",Str.ofString "way_of",Str.ofString "count_places",Str.ofString "heights",Str.ofString "HIGHEST_LINE",Str.ofString "MOST_HANDS",Str.ofString "MOST_ROWS",Str.ofString "is_weather",Str.ofString "is_round",Str.ofString "change",Str.ofString "LAST_TOLD",Str.ofString "LAST_ASKED",Str.ofString "GREATEST_SURGE",Str.ofString "check_told",Str.ofString "check_asked",Str.ofString "check_round",Str.ofString "Ice",Str.ofString "settled",Str.ofString "course",Str.ofString "year_row",Str.ofString "sums",Str.ofString "so_far",Str.ofString "total",Str.ofString "laid",Str.ofString "taken",Str.ofString "ride_by",Str.ofString "earliest",Str.ofString "ridden",Str.ofString "span",Str.ofString "life",Str.ofString "parted",Str.ofString "pile",Str.ofString "_law_box",Str.ofString "_law_mixed",Str.ofString "_law_take",Str.ofString "_law_whole",Str.ofString "_law_alike",Str.ofString "_law_far",Str.ofString "_law_weather",Str.ofString "_law_round",Str.ofString "_law_ground_drawn",Str.ofString "_law_reaches",Str.ofString "_law_roads",Str.ofString "_law_ground",Str.ofString "_law_year",Str.ofString "_law_scene",Str.ofString "_law_made",Str.ofString "_law_spot"]
section
local macro_rules | `(tactic| o_head $H)=>`(tactic| (have hook:=$H;assumption))
theorem frag (hyp:(OpenLaw.row PySem.Challenge.rw_firnfall_k34_whole_what_fell_is_what_mel).Holds):(OpenLaw.row PySem.Challenge.rw_firnfall_k34_whole_what_fell_is_what_mel).Holds:=by
 k_head
end
def asL:List Addr:=[2,3,15,17,18,20,21,22,29,30,31,32,35,42,43,44,47,54,55,56,59,66,67,68,71,78,79,80,83,90,91,92,95,102,103,104,107,114,115,116,119,122,123,124,127,128,129,131,132,134,135,136,139,140,141,144,145,146,148,149,151,152,153,155,156,158,159,160,163,164,165,168,169,170,172,173,175,176,177,180,181,182,184,185,187,188,189,191,192,194,195,196,198,199,201,202,203,205,206,208,209,217,220,221,222,224,225,227,228,229,231,232,234,235,236,238,239,241,242,243,245,246,248,249,250,252,253,255,256,257,259,260,262,263,264,266,267,269,270,271,273,274,276,277,278,280,281,283,284,285,287,288,290,291,292,294,295,297,298,299,301,302,304,305,306,309,310,311,314,315,316,318,319,321,322,323,325,326,328,329,330,332,333,335,336,337,338,339,340,341,344,347,348,349,352,353,354,356,357,359,360,361,363,364,366,367,368,371,372,373,376,377,378,380,381,383,384,385,387,388,390,391,392,395,396,397,399,400,402,403,404,406,407,409,410,411,413,414,416,417,418,420,421,423,424,425,427,428,430,431,432,434,435,437,438,439,441,442,444,445,446,448,449,451,452,453,455,456,458,459,460,462,463,465,466,467,470,471,472,474,475,477,478,479,481,482,484,485,486,489,490,491,494,495,496,499,500,501,504,505,506,508,509,511,512,513,515,516,518,519,520,523,524,525,527,528,530,531,532,534,535,537,538,539,542,543]
theorem asE (P:Params):asL=(frag.heap_1 P).map (·.1):=by kernel_rfl
noncomputable def top (w:World) (os:OsState):Option Shared:=PySem.W.Fast.tw14082659384304107361 PySem.W.Fast.tw14364793385576792824 PySem.Challenge.pw_firnfall_k34_whole_what_fell_is_what_mel w (boot_heap w.params).objs.size ((boot_heap w.params).nsMap mainGlobals "__annotations__") 9000 ⟨boot_heap w.params,Array.mk [],boot_drawn,boot_toks,os⟩ (topStub PySem.Challenge.pw_firnfall_k34_whole_what_fell_is_what_mel)
def xt (s:Shared):Bool:=xlAt view [] s && recOk (RowW.records (OpenRow.toRowW (OpenLaw.row PySem.Challenge.rw_firnfall_k34_whole_what_fell_is_what_mel))) s
theorem ran2 (w:World) (os:OsState):(top w os).map (λs=>(asL.map s.heap.get?,[142].map s.heap.get?))=some ((frag.heap_1 w.params).map λp=>some p.2,[142].map λ_=>some (tabObj #[])):=by kernel_rfl
theorem ws:OpenLaw.wellSaid PySem.Challenge.rw_firnfall_k34_whole_what_fell_is_what_mel=true:=by kernel_rfl
theorem ran1 (w:World) (os:OsState):(top w os).map (λs=>openSeen view loose (importedModules PySem.Challenge.pw_firnfall_k34_whole_what_fell_is_what_mel.main.body) xt true s)=some (openGood view loose):=by kernel_rfl
theorem ran0 (w:World) (os:OsState):(top w os).map (λs=>staticsOk (importedModules PySem.Challenge.pw_firnfall_k34_whole_what_fell_is_what_mel.main.body) (boot_heap w.params) s.heap && namesBound PySem.Challenge.pw_firnfall_k34_whole_what_fell_is_what_mel s.heap && gensDone s && laidKept (boot_heap w.params) s.heap)=some true:=by kernel_rfl
theorem GJ (w:World) (os:OsState):topRun treeTable PySem.Challenge.pw_firnfall_k34_whole_what_fell_is_what_mel w (boot_heap w.params).objs.size ((boot_heap w.params).nsMap mainGlobals "__annotations__") 9000 ⟨boot_heap w.params,Array.mk [],boot_drawn,boot_toks,os⟩ (topStub PySem.Challenge.pw_firnfall_k34_whole_what_fell_is_what_mel)=top w os:=by
 rw [PySem.W.Fast.te14082659384304107361,PySem.W.Fast.te14364793385576792824]
 rfl
theorem WW (w:World):((boot_heap w.params).isNs mainGlobals && (Array.mk []:Array GenState).size == 0)=true:=by kernel_rfl
theorem JS {tb:String->Option Builtin}{p:Program}{w:World}{N:Nat}{s:Shared}{h:Heap}{gs d k os}(hb:(h.isNs mainGlobals && gs.size == 0)=true) (hr:topRun tb p w h.objs.size (h.nsMap mainGlobals "__annotations__") N ⟨h,gs,d,k,os⟩ (topStub p)=some s) (hl:(staticsOk (importedModules p.main.body) h s.heap && namesBound p s.heap && gensDone s && laidKept h s.heap)=true):topFrom tb p w N ⟨h,gs,d,k,os⟩=some s:=by
 unfold topFrom
 rw [hb]
 show ((topRun tb p w h.objs.size (h.nsMap mainGlobals "__annotations__") N ⟨h,gs,d,k,os⟩ (topStub p)).bind _)=_
 rw [hr]
 show (match staticsOk (importedModules p.main.body) h s.heap && namesBound p s.heap && gensDone s && laidKept h s.heap with | true=>some s | false=>none)=_
 rw [hl]
theorem Yn {tb:String->Option Builtin}{p:Program}{w:World}{N:Nat}{s₀ s:Shared}(a:fencedOpening tb p w N=some s₀) (t:topFrom tb p w N s₀=some s):openEnds tb p w N=some s:=by
 unfold openEnds
 rw [a]
 exact t
theorem left:LeftO (OpenLaw.row PySem.Challenge.rw_firnfall_k34_whole_what_fell_is_what_mel).prog view loose xt (Hook.obs (kmHook frag.heap_1 asL asE [142])) (Hook.val (kmHook frag.heap_1 asL asE [142])) 9000:=λw=>by
 obtain ⟨⟨h,gs,d,k,os⟩,a,b⟩:=Option.map_eq_some_iff.mp (boot_open (p:=PySem.Challenge.pw_firnfall_k34_whole_what_fell_is_what_mel) (N:=9000) (by kernel_rfl) ⋯ (λs=>by kernel_rfl) w)
 obtain ⟨rfl,rfl,rfl,rfl⟩:h=boot_heap w.params/\gs=Array.mk []/\d=boot_drawn/\k=boot_toks:=by simpa using b
 have h0:=ran0 w os
 have h1:=ran1 w os
 have h2:=ran2 w os
 cases e:top w os with
 | none=>rw [e] at h1;cases h1
 | some s =>
  rw [e] at h0 h1 h2
  have l1:(staticsOk (importedModules PySem.Challenge.pw_firnfall_k34_whole_what_fell_is_what_mel.main.body) (boot_heap w.params) s.heap && namesBound PySem.Challenge.pw_firnfall_k34_whole_what_fell_is_what_mel s.heap && gensDone s && laidKept (boot_heap w.params) s.heap)=true:=Option.some.inj h0
  have l2:openSeen view loose (importedModules PySem.Challenge.pw_firnfall_k34_whole_what_fell_is_what_mel.main.body) xt true s=openGood view loose:=Option.some.inj h1
  obtain ⟨m1,m2⟩:=Prod.mk.inj (Option.some.inj h2)
  have m5:asL.map s.heap.get? = (frag.heap_1 w.params).map λp=>some p.2:=m1
  have t:=Yn a (JS (WW w) ((GJ w os).trans e) l1)
  show (openEnds treeTable PySem.Challenge.pw_firnfall_k34_whole_what_fell_is_what_mel w 9000).map _=_
  rw [t]
  show some (openSeen view loose (importedModules PySem.Challenge.pw_firnfall_k34_whole_what_fell_is_what_mel.main.body) xt true s,(asL.map s.heap.get?,[142].map s.heap.get?))=some (openGood view loose,_)
  rw [l2,m5,m2]
  rfl
end HO
end
namespace L2
abbrev Key:=Sum Int Str
def Jf:Key->Value->Bool
 | .inl k,v=>Value.isInt k v
 | .inr x,v=>Value.isStrOf x v
def keyH (w:World):Key->Int
 | .inl k=>hashInt k
 | .inr x=>hashStr w x
theorem qz:∀{k:Key}{v:Value},Jf k v=true->(∃i t,k=Sum.inl i/\v=Value.int i t)\/(∃x t,k=Sum.inr x/\v=Value.str x t)
 | .inl i,v,h=>by
  obtain ⟨t,e⟩:=Value.isInt_shape (k:=i) (v:=v) h
  exact .inl ⟨i,t,rfl,e⟩
 | .inr x,v,h=>by
  obtain ⟨t,e⟩:=Value.isStrOf_shape (x:=x) (v:=v) h
  exact .inr ⟨x,t,rfl,e⟩
theorem Yo (i:Int) (t:Tok):Jf (.inl i) (.int i t)=true:=by simp [Jf,Value.isInt]
theorem YZ (x:Str) (t:Tok):Jf (.inr x) (.str x t)=true:=by simp [Jf,Value.isStrOf]
theorem Gv (a b:Int):decide ((Sum.inl a:Key)=Sum.inl b)=(a == b):=by
 by_cases e:a=b
 ·subst e;simp
 ·have h:¬(Sum.inl a:Key)=Sum.inl b:=λq=>e (Sum.inl.inj q)
  rw [decide_eq_false h]
  exact (beq_eq_false_iff_ne.mpr e).symm
theorem GA (a b:Str):decide ((Sum.inr a:Key)=Sum.inr b)=decide (a=b):=by
 by_cases e:a=b
 ·subst e;simp
 ·have h:¬(Sum.inr a:Key)=Sum.inr b:=λq=>e (Sum.inr.inj q)
  rw [decide_eq_false h,decide_eq_false e]
theorem WX (a:Int) (b:Str):decide ((Sum.inl a:Key)=Sum.inr b)=false:=decide_eq_false (λq=>nomatch q)
theorem GL (a:Str) (b:Int):decide ((Sum.inr a:Key)=Sum.inl b)=false:=decide_eq_false (λq=>nomatch q)
def jF (prog:Program) (w:World):PySem.KeyKind prog w Key where
 is:=Jf
 hash:=keyH w
 inj:=λv a b ha hb=>by
  rcases qz ha with ⟨i,t,rfl,rfl⟩ | ⟨x,t,rfl,rfl⟩
  ·rcases qz hb with ⟨j,u,rfl,e⟩ | ⟨y,u,rfl,e⟩
   ·injection e with e1 _;rw [e1]
   ·exact nomatch e
  ·rcases qz hb with ⟨j,u,rfl,e⟩ | ⟨y,u,rfl,e⟩
   ·exact nomatch e
   ·injection e with e1 _;rw [e1]
 byValue:=λk v h=>by
  rcases qz h with ⟨i,t,rfl,rfl⟩ | ⟨x,t,rfl,rfl⟩ <;> rfl
 pyHash:=λhv h=>by
  rcases qz hv with ⟨i,t,rfl,rfl⟩ | ⟨x,t,rfl,rfl⟩
  ·exact wpAny_pyHash_int h
  ·exact wpAny_pyHash_str h
 eqBool:=λhu hv h=>by
  rcases qz hu with ⟨i,t,rfl,rfl⟩ | ⟨x,t,rfl,rfl⟩
  ·rcases qz hv with ⟨j,u,rfl,rfl⟩ | ⟨y,u,rfl,rfl⟩
   ·rw [Gv] at h;exact wpAny_eqBool_int h
   ·rw [WX] at h;exact SeqAt.EqAt.int_str i t y u _ _ _ _ h
  ·rcases qz hv with ⟨j,u,rfl,rfl⟩ | ⟨y,u,rfl,rfl⟩
   ·rw [GL] at h;exact SeqAt.EqAt.str_int x t j u _ _ _ _ h
   ·rw [GA] at h;exact wpAny_eqBool_str h
 «strs»:=λk x t v h=>by
  rcases qz h with ⟨i,u,rfl,e⟩ | ⟨y,u,rfl,e⟩
  ·exact nomatch e
  ·injection e with e1 _
   subst e1
   cases v <;> rfl
theorem XJ (prog:Program) (w:World) (i:Int) (t:Tok):(jF prog w).is (.inl i) (.int i t)=true:=Yo i t
theorem QA (prog:Program) (w:World) (x:Str) (t:Tok):(jF prog w).is (.inr x) (.str x t)=true:=YZ x t
end L2
namespace L2
inductive V where
 | non | bl (b:Bool) | int (i:Int) | str (x:Str) | byt (b:Array UInt8) | flt (b:UInt64) | ref (a:Addr) | ty (n:String)
 deriving DecidableEq
def jE:V->Value->Prop
 | .non,u=>u=Value.none
 | .bl b,u=>u=Value.bool b
 | .int i,u=>∃t,u=Value.int i t
 | .str x,u=>∃t,u=Value.str x t
 | .byt b,u=>∃t,u=Value.bytes b t
 | .flt b,u=>∃t,u=Value.float b t
 | .ref a,u=>u=Value.ref a
 | .ty n,u=>u=Value.type n
abbrev jD:List V->List Value->Prop:=Paired jE
theorem jD.length {xs:List V}{us:List Value}(r:jD xs us):xs.length=us.length:=Paired.length r
theorem jD.get:∀{xs:List V}{us:List Value}{i:Nat}{x:V},jD xs us->xs[i]? = some x->∃u,us[i]? = some u/\jE x u
 | _,_,_,_,.nil,e=>by simp at e
 | _,_,0,_,.cons r _,e=>by simp at e;subst e;exact ⟨_,rfl,r⟩
 | _,_,i+1,x,.cons _ t,e=>by
  obtain ⟨u,h1,h2⟩:=jD.get (i:=i) (x:=x) t (by simpa using e)
  exact ⟨u,by simpa using h1,h2⟩
theorem jD.set {x:V}{u:Value}(r:jE x u):∀{xs:List V}{us:List Value}(i:Nat),jD xs us->jD (xs.set i x) (us.set i u)
 | _,_,_,.nil=>.nil
 | _,_,0,.cons _ t=>.cons r t
 | _,_,i+1,.cons q t=>.cons q (jD.set r i t)
theorem jD.append:∀{xs ys:List V}{us ws:List Value},jD xs us->jD ys ws->jD (xs++ys) (us++ws)
 | _,_,_,_,.nil,s=>s
 | _,_,_,_,.cons r t,s=>.cons r (jD.append t s)
theorem jD.take:∀{xs:List V}{us:List Value}(n:Nat),jD xs us->jD (xs.take n) (us.take n)
 | _,_,0,_=>.nil
 | _,_,_+1,.nil=>.nil
 | _,_,n+1,.cons r t=>.cons r (jD.take n t)
theorem jD.drop:∀{xs:List V}{us:List Value}(n:Nat),jD xs us->jD (xs.drop n) (us.drop n)
 | _,_,0,r=>r
 | _,_,_+1,.nil=>.nil
 | _,_,n+1,.cons _ t=>jD.drop n t
def yF:Option V->Option Value->Prop
 | some v,some u=>jE v u
 | none,none=>True
 | _,_=>False
def KV {κ:Type}:List (κ×V)->List (κ×Value)->Prop:=Paired λ(p:κ×V) (q:κ×Value)=>p.1=q.1/\jE p.2 q.2
def kV:Key->V
 | .inl i=>.int i
 | .inr x=>.str x
inductive HO where
  | lst (xs:List V)
  | tup (xs:List V)
  | dK (kvs:List (Key×V)) | dT (kvs:List (List Key×V))
  | set (S:Int->Bool) (n:Nat)
  | ins (C dx:Addr) (fs:List (Str×V))
  | own (x:Addr)
  | xd (fs:List (Str×V))
  | met (f x:Addr)
  | rng (lo hi:Int)
  | frz (o:Obj) (u:HO)
  | tbl (ps:Array Value)
  | ext (φ:Heap->Prop)
abbrev Hp:=Addr->Option HO
def upd (H:Hp) (a:Addr) (o:HO):Hp:=λb=>if b=a then some o else H b
theorem j5 {H:Hp}{a:Addr}{o:HO}:upd H a o a=some o:=by unfold upd;rw [if_pos rfl]
theorem j8 {H:Hp}{a b:Addr}{o:HO}(h:b≠a):upd H a o b=H b:=by unfold upd;rw [if_neg h]
theorem jo {H:Hp}{a b:Addr}{o u:HO}(h:H a=some o) (h':H b=some u) (d:o≠u):a≠b:=by
 intro e;subst e;rw [h] at h';exact d (Option.some.inj h')
theorem j1 {H:Hp}{a b:Addr}{o:HO}(h:H a=some o) (h':H b=none):a≠b:=by
 intro e;subst e;rw [h] at h';cases h'
section
variable (P:Program) (w:World)
def qp (H:Hp) (h:Heap) (a:Addr):HO->Prop
 | .lst xs=>xs.length<=sizeLine/\∃(its:List Value) (n:Nat),jD xs its/\h.get? a=some { cls:=.type "list",data:=.seq its.toArray n }
 | .tup xs=>xs.length<=sizeLine/\∃its:List Value,jD xs its/\IsTup h a its.toArray
 | .dK kvs=>kvs.length<=sizeLine/\(a == sysModules)=false/\∃vs,KV kvs vs/\h.DictOf (jF P w) a vs
 | .dT kvs=>kvs.length<=sizeLine/\(a == sysModules)=false/\∃xs:List (List Key×Addr×Value),
   Paired (λ(p:List Key×V) (q:List Key×Addr×Value)=>p.1=q.1/\H q.2.1=some (.tup (p.1.map kV))/\jE p.2 q.2.2) kvs xs /\
   ∃o es ep,h.get? a=some o/\o.ExactDict/\o.data = .dict es ep/\es.toList=xs.map (entryOfKey (tupleKind (jF P w)))/\(xs.map (·.1)).Nodup
 | .set S n=>h.SetOf (intKind P w) a S n
 | .ins C dx fs=>H dx=some (.own a)/\fs.length<=1000/\dx≠a/\h.get? a=some (PySem.W.instObj C dx) /\
   ∃mA,h.Ns1 dx mA/\(∀f,yF (fs.lookup f) (mA f))/\PySem.Within mA (fs.map (·.1))
 | .own _=>∃o,h.get? a=some o
 | .xd fs=>∃mA,h.Ns1 a mA/\∀f,yF (fs.lookup f) (mA f)
 | .rng lo hi=>∃t u v,h.get? a=some { cls:=.type "range",data:=.fields #[.int lo t,.int hi u,.int 1 v] }
 | .frz o u=>h.get? a=some o/\qp H h a u
 | .tbl ps=>h.get? a=some { cls:=.none,data:=.fields ps }
 | .met f x=>h.get? a=some (PySem.W.methodObj (.ref f) (.ref x))
 | .ext φ=>φ h/\(∃o,h.get? a=some o)/\∀h1 h2:Heap,φ h1->(∀o,h1.get? a=some o->h2.get? a=some o)->φ h2
def HOk (H:Hp) (h:Heap):Prop:=∀a o,H a=some o->qp P w H h a o
end
section
variable {P:Program}{w:World}{H H':Hp}{h h':Heap}{a:Addr}{o:HO}
theorem qp.lt (x:qp P w H h a o):a<h.objs.size:=by
 cases o with
 | lst xs=>obtain ⟨_,_,_,_,e⟩:=x;exact Heap.lt_size e
 | tup xs=>obtain ⟨_,_,_,p⟩:=x;exact p.lt
 | dK kvs=>obtain ⟨_,_,_,_,o,_,_,e,_⟩:=x;exact Heap.lt_size e
 | dT kvs=>obtain ⟨_,_,_,_,o,_,_,e,_⟩:=x;exact Heap.lt_size e
 | set S n=>obtain ⟨o,_,_,_,e,_⟩:=x;exact Heap.lt_size e
 | ins C dx fs=>obtain ⟨_,_,_,e,_⟩:=x;exact Heap.lt_size e
 | own y=>obtain ⟨_,e⟩:=x;exact Heap.lt_size e
 | xd fs=>obtain ⟨_,⟨_,_,_,e,_⟩,_⟩:=x;exact Heap.lt_size e
 | rng lo hi=>obtain ⟨_,_,_,e⟩:=x;exact Heap.lt_size e
 | frz ob u=>obtain ⟨e,_⟩:=x;exact Heap.lt_size e
 | tbl ps=>exact Heap.lt_size (show h.get? a=some _ from x)
 | met f y=>exact Heap.lt_size (show h.get? a=some _ from x)
 | ext φ=>obtain ⟨_,⟨_,e⟩,_⟩:=x;exact Heap.lt_size e
theorem Paired.mapP {α β:Type}{F G:α->β->Prop}:∀{l₁:List α}{l₂:List β},Paired F l₁ l₂->(∀a b,F a b->G a b)->Paired G l₁ l₂
 | _,_,.nil,_=>.nil
 | _,_,.cons r t,f=>.cons (f _ _ r) (Paired.mapP t f)
theorem qp.stay (x:qp P w H h a o) (k:∀b u,(b=a\/H b=some (.own a))->h.get? b=some u->h'.get? b=some u)
  (ho:∀b,H b=some (.own a)->H' b=some (.own a)) (ht:∀b xs,H b=some (.tup xs)->H' b=some (.tup xs)):qp P w H' h' a o:=by
 induction o with
 | lst xs=>obtain ⟨z,its,n,r,e⟩:=x;exact ⟨z,its,n,r,k _ _ (.inl rfl) e⟩
 | tup xs=>obtain ⟨z,its,r,ob,e,c⟩:=x;exact ⟨z,its,r,ob,k _ _ (.inl rfl) e,c⟩
 | dK kvs=>obtain ⟨z,y,vs,r,ob,es,ep,e,c⟩:=x;exact ⟨z,y,vs,r,ob,es,ep,k _ _ (.inl rfl) e,c⟩
 | dT kvs =>
  obtain ⟨z,y,xs,r,ob,es,ep,e,c⟩:=x
  exact ⟨z,y,xs,Paired.mapP r λp q z=>⟨z.1,ht _ _ z.2.1,z.2.2⟩,ob,es,ep,k _ _ (.inl rfl) e,c⟩
 | set S n=>obtain ⟨ob,es,ep,t,e,c⟩:=x;exact ⟨ob,es,ep,t,k _ _ (.inl rfl) e,c⟩
 | ins C dx fs =>
  obtain ⟨d,z,ne,e,mA,⟨od,es,ep,e2,c⟩,r⟩:=x
  exact ⟨ho _ d,z,ne,k _ _ (.inl rfl) e,mA,⟨od,es,ep,k _ _ (.inr d) e2,c⟩,r⟩
 | own y=>obtain ⟨ob,e⟩:=x;exact ⟨ob,k _ _ (.inl rfl) e⟩
 | xd fs=>obtain ⟨mA,⟨od,es,ep,e,c⟩,r⟩:=x;exact ⟨mA,⟨od,es,ep,k _ _ (.inl rfl) e,c⟩,r⟩
 | rng lo hi=>obtain ⟨t,u,v,e⟩:=x;exact ⟨t,u,v,k _ _ (.inl rfl) e⟩
 | frz ob u ih=>obtain ⟨e,q⟩:=x;exact ⟨k _ _ (.inl rfl) e,ih q⟩
 | tbl ps =>
  have e:h.get? a=some { cls:=.none,data:=.fields ps }:=x
  show h'.get? a=some { cls:=.none,data:=.fields ps }
  exact k a _ (.inl rfl) e
 | met f y =>
  have e:h.get? a=some (PySem.W.methodObj (.ref f) (.ref y)):=x
  show h'.get? a=some (PySem.W.methodObj (.ref f) (.ref y))
  exact k a _ (.inl rfl) e
 | ext φ=>obtain ⟨p,⟨o,e⟩,st⟩:=x;exact ⟨st _ _ p λo q=>k _ _ (.inl rfl) q,⟨o,k _ _ (.inl rfl) e⟩,st⟩
theorem HOk.lt (x:HOk P w H h) (e:H a=some o):a<h.objs.size:=(x a o e).lt
theorem HOk.fresh (x:HOk P w H h) (e:h.objs.size<=a):H a=none:=by
 cases q:H a with
 | none=>rfl
 | some u=>exact absurd (Nat.lt_of_lt_of_le (x.lt q) e) (Nat.lt_irrefl _)
theorem HOk.kept (x:HOk P w H h) (k:∀b u,h.get? b=some u->h'.get? b=some u):HOk P w H h':=λa o e =>
 (x a o e).stay (λb u _ q=>k b u q) (λ_ q=>q) λ_ _ q=>q
theorem HOk.laid (x:HOk P w H h) (k:∀b u,h.get? b=some u->h'.get? b=some u) (hp:h.objs.size<=a) (new:qp P w (upd H a o) h' a o):HOk P w (upd H a o) h':=λb u e=>by
 have hn:=x.fresh hp
 by_cases hb:b=a
 ·subst hb;rw [j5] at e;cases e;exact new
 ·rw [j8 hb] at e
  exact (x b u e).stay (λc v _ q=>k c v q) (λc q=>by rw [j8 (j1 q hn)];exact q) λc xs q=>by rw [j8 (j1 q hn)];exact q
end
def Rd (H:Hp) (a:Addr) (u:HO):Prop:=H a=some u\/∃o,H a=some (.frz o u)
theorem Rd.ok {P:Program}{w:World}{H:Hp}{h:Heap}{a:Addr}{u:HO}(r:Rd H a u) (x:HOk P w H h):qp P w H h a u:=by
 rcases r with r | ⟨o,r⟩
 ·exact x a u r
 ·obtain ⟨_,q⟩:=x a _ r
  exact q
def Mut:Option HO->Prop
 | some (.lst _)=>True
 | some (.dK _)=>True
 | some (.dT _)=>True
 | some (.set _ _)=>True
 | some (.ins _ _ _)=>True
 | some (.ext _)=>True
 | _=>False
section
variable {P:Program}{w:World}{H:Hp}{h h':Heap}{x e:Addr}{o':HO}
theorem HOk.write (ok:HOk P w H h) (mu:Mut (H x)) (he:e=x\/H e=some (.own x)) (k:∀b u,b≠e->h.get? b=some u->h'.get? b=some u) (heo:∃u,h'.get? e=some u)
  (new:qp P w (upd H x o') h' x o'):HOk P w (upd H x o') h':=λb u q=>by
 have nown:∀c y,H c=some (.own y)->c≠x:=λc y r z=>by subst z;rw [r] at mu;exact mu
 have ntup:∀c xs,H c=some (.tup xs)->c≠x:=λc xs r z=>by subst z;rw [r] at mu;exact mu
 by_cases hb:b=x
 ·subst hb;rw [j5] at q;cases q;exact new
 ·rw [j8 hb] at q
  by_cases hbe:b=e
  ·have q':H b=some (.own x):=by
    rcases he with z | z
    ·exact absurd (hbe.trans z) hb
    ·rw [hbe];exact z
   rw [q] at q';cases q'
   obtain ⟨v,hv⟩:=heo
   exact ⟨v,by rw [hbe];exact hv⟩
  ·refine (ok b u q).stay (λc v hc r=>k c v ?_ r) (λc r=>by rw [j8 (nown c b r)];exact r) λc xs r=>by rw [j8 (ntup c xs r)];exact r
   rcases hc with rfl | hc
   ·exact hbe
   ·rintro rfl
    rcases he with z | z
    ·exact nown c b hc z
    ·rw [hc] at z;cases z;exact hb rfl
end
structure Un (fs ex:List Addr) (H H':Hp) (h h':Heap):Prop where
 keep:∀b o,h.get? b=some o->H b=none->b∉fs->b∉ex->h'.get? b=some o
 slot:∀b o,h.get? b=some o->H b=none->b∈fs->b∉ex->∃sl,h'.get? b=some { o with slots:=sl }
 free:∀b o,h.get? b=some o->H b=none->b∉ex->H' b=none
 there:∀b o,h.get? b=some o->b∉ex->∃o',h'.get? b=some o'
 tups:∀b xs,H b=some (.tup xs)->H' b=some (.tup xs)
 frzs:∀b o u,H b=some (.frz o u)->H' b=some (.frz o u)
 tbls:∀b ps,H b=some (.tbl ps)->∃more,H' b=some (.tbl (ps++more))
section
variable {fs fs' ex ex':List Addr}{H H1 H2:Hp}{h h1 h2 h':Heap}{a x e:Addr}{o:HO}
theorem Un.any (u:Un fs ex H H1 h h1) {b:Addr}{ob:Obj}(q:h.get? b=some ob) (n:H b=none) (hx:b∉ex):∃sl,h1.get? b=some { ob with slots:=sl }:=by
 by_cases hb:b∈fs
 ·exact u.slot b ob q n hb hx
 ·exact ⟨ob.slots,u.keep b ob q n hb hx⟩
theorem Un.kept (k:∀b u,h.get? b=some u->h'.get? b=some u):Un fs ex H H h h' :=
 ⟨λb ob q _ _ _=>k b ob q,λb ob q _ _ _=>⟨ob.slots,k b ob q⟩,λ_ _ _ n _=>n,λb ob q _=>⟨ob,k b ob q⟩,λ_ _ q=>q,λ_ _ _ q=>q,λ_ ps q=>⟨#[],by rw [q];simp⟩⟩
theorem Un.refl:Un fs ex H H h h:=Un.kept λ_ _ q=>q
theorem Un.laid (k:∀b u,h.get? b=some u->h'.get? b=some u) (hp:h.objs.size<=a) (hn:H a=none):Un fs ex H (upd H a o) h h' where
 keep:=λb u q _ _ _=>k b u q
 slot:=λb u q _ _ _=>⟨u.slots,k b u q⟩
 free:=λb u q n _=>by rw [j8 (Nat.ne_of_lt (Nat.lt_of_lt_of_le (Heap.lt_size q) hp))];exact n
 there:=λb u q _=>⟨u,k b u q⟩
 tups:=λb xs q=>by rw [j8 (j1 q hn)];exact q
 frzs:=λb u xs q=>by rw [j8 (j1 q hn)];exact q
 tbls:=λb ps q=>⟨#[],by rw [j8 (j1 q hn),q];simp⟩
theorem Un.write (mu:Mut (H x)) (he:e=x\/H e=some (.own x)) (k:∀b u,b≠e->h.get? b=some u->h'.get? b=some u) (heo:∃u,h'.get? e=some u):Un fs ex H (upd H x o) h h':=by
 have hx:∀b,H b=none->b≠x:=λb n z=>by subst z;rw [n] at mu;exact mu
 have hb:∀b,H b=none->b≠e:=λb n z=>by
  subst z
  rcases he with r | r
  ·exact hx b n r
  ·rw [n] at r;cases r
 have hm:∀b u,H b=some u->¬Mut (some u)->b≠x:=λb u q nm z=>by subst z;rw [q] at mu;exact nm mu
 refine ⟨λb u q n _ _=>k b u (hb b n) q,λb u q n _ _=>⟨u.slots,k b u (hb b n) q⟩,λb u q n _=>by rw [j8 (hx b n)];exact n,λb u q _=>?_,
  λb xs q=>by rw [j8 (hm b _ q λz=>z)];exact q,λb u xs q=>by rw [j8 (hm b _ q λz=>z)];exact q,λb ps q=>⟨#[],by rw [j8 (hm b _ q λz=>z),q];simp⟩⟩
 by_cases hbe:b=e
 ·subst hbe;exact heo
 ·exact ⟨u,k b u hbe q⟩
end
def trk (h:Heap) (H:Hp):List Addr:=(List.range h.objs.size).filter λa=>(H a).isSome
def J9 (h:Heap) (H:Hp):Heap:=PySem.W.hideAll h (trk h H)
theorem V2 (h:Heap) (H:Hp):(J9 h H).objs.size=h.objs.size:=PySem.W.hideAll_size _ _
theorem VR {h:Heap}{H:Hp}{b:Addr}{o:Obj}(e:h.get? b=some o) (n:H b=none):(J9 h H).get? b=some o :=
 PySem.W.hideAll_get _ e λhm=>by
  have q:(H b).isSome=true:=(List.mem_filter.mp hm).2
  rw [n] at q;simp at q
theorem W1 {h:Heap}{H:Hp}{b:Addr}{o:Obj}(e:(J9 h H).get? b=some o):h.get? b=some o/\H b=none:=by
 have e':h.get? b=some o:=PySem.W.of_hideAll (trk h H) e
 refine ⟨e',?_⟩
 cases q:H b with
 | none=>rfl
 | some x =>
  have hm:b∈trk h H:=List.mem_filter.mpr ⟨List.mem_range.mpr (Heap.lt_size e'),by simp [q]⟩
  have z:(J9 h H).get? b=none:=PySem.W.hideAll_none (trk h H) hm
  rw [z] at e;cases e
def UF (g h:Heap) (L:Addr):List (Addr×Obj):=(List.range h.objs.size).filterMap λa=>if a=L\/(g.get? a).isSome=true then none else (h.get? a).map λo=>(a,o)
def vT (g h:Heap) (L d:Addr):List (Addr×Obj):=(UF g h L).filter λp=>decide (p.1≠d)
end L2
namespace L2
structure Mod (K:PySem.W.Frag) (mg:Str->Option Value) (base:Heap):Prop where
 kin:K.In base
 glob:base.Ns mainGlobals mg
 blt:∃mb,base.Ns builtinsNs mb/\∀x:Str,x ≠ "__name__" -> mb x=bootBuiltins x
 nolimit:base.NoLimit
structure Cx where
 prog:Program
 w:World
 K:PySem.W.Frag
 mg:Str->Option Value
 base:Heap
 A:Around
 N:List Str
 s₀:Shared
 H₀:Hp
 env:Env
 outer:List Env
 stack:List Env
 ex:List Addr
 fn:Str->Bool
 calm:Bool
 pn:List (Addr×Obj)
 xe:Value->Shared->Prop
def frs (l:List Env):List Addr:=l.filterMap (·.frame)
abbrev Cx.fs (X:Cx):List Addr:=frs X.outer
def Vis (sc:Scope) (x:Str):Prop:=sc.names.lookup x=some .local\/sc.names.lookup x=some .cell\/sc.names.lookup x=some .free
def Loc (sc:Scope) (x:Str):Prop:=sc.names.lookup x=some .local\/sc.names.lookup x=some .cell
def Look (env:Env) (h:Heap) (m:Str->Option Value) (x:Str) (u:Value):Prop :=
 (env.kindOf x=some .local/\m x=some u)\/((env.kindOf x=some .cell\/env.kindOf x=some .free)/\∃c,env.cells.lookup x=some c/\h.IsCell c (some u))
structure Cx.Ok (X:Cx):Prop where
 mod:Mod X.K X.mg X.base
 kind:X.env.scope.kind = .function
 glob:X.env.globals=mainGlobals
 blt:X.env.builtins=builtinsNs
 above:X.s₀.heap.objs.size<=X.env.locals
 inj:∀x y c,X.env.cells.lookup x=some c->X.env.cells.lookup y=some c->x=y
 has:∀x,(X.env.kindOf x=some .cell\/X.env.kindOf x=some .free)->∃c,X.env.cells.lookup x=some c
 cab:∀x c,X.fn x=true->X.env.cells.lookup x=some c->X.s₀.heap.objs.size<=c
 hd:X.calm=true->X.A.handled=none
 frames:X.A.frames=some X.stack
 stk:X.stack=X.outer\/(X.stack=X.env::X.outer/\X.env.frame=some X.env.locals)
 exf:∀b∈X.ex,b≠X.env.locals/\∀x c,X.env.cells.lookup x=some c->c≠b
 bs:∀b o,X.base.get? b=some o->X.s₀.heap.get? b=some o/\X.H₀ b=none
 bsz:X.base.objs.size<=X.s₀.heap.objs.size
 noex:∀b o,X.base.get? b=some o->b∉X.ex
 exfs:∀b∈X.ex,b∉X.fs
 funs:X.s₀.heap.FunFrames X.base X.outer
 frf:∀b∈X.fs,X.H₀ b=none
structure Inv (X:Cx) (pins:List (Addr×Obj)) (σ:List (Option V)) (H:Hp) (s:Shared):Prop where
 ok:X.Ok
 os:s.os=X.s₀.os
 bare:AllBare s.gens
 base:Un X.fs X.ex X.H₀ H X.s₀.heap s.heap
 loc:∃m,s.heap.Ns X.env.locals m/\∀(i:Nat) (x:Str) (v:V),X.N[i]? = some x->σ[i]? = some (some v)->Vis X.env.scope x->∃u,jE v u/\Look X.env s.heap m x u
 cell:∀x c,X.env.cells.lookup x=some c->∃v,s.heap.IsCell c v
 free:H X.env.locals=none
 freeC:∀x c,X.env.cells.lookup x=some c->H c=none
 pin:∀p∈X.pn++pins,s.heap.get? p.1=some p.2/\H p.1=none/\p.1≠X.env.locals/\p.1∉X.fs/\∀v,p.2.data≠.cell v
 hok:HOk X.prog X.w H s.heap
 len:σ.length=X.N.length
section
variable {X:Cx}{pins:List (Addr×Obj)}{σ:List (Option V)}{H H':Hp}{s:Shared}{h':Heap}
theorem Cx.Ok.nofr (ok:X.Ok) {b:Addr}{o:Obj}(e:X.base.get? b=some o):b∉X.fs:=λhb=>by
 have:=(ok.funs.mem hb).1
 rw [e] at this;cases this
theorem Inv.bs (I:Inv X pins σ H s):∀b o,X.base.get? b=some o->s.heap.get? b=some o/\H b=none:=λb o e =>
 ⟨I.base.keep b o (I.ok.bs b o e).1 (I.ok.bs b o e).2 (I.ok.nofr e) (I.ok.noex b o e),I.base.free b o (I.ok.bs b o e).1 (I.ok.bs b o e).2 (I.ok.noex b o e)⟩
theorem Inv.bk (I:Inv X pins σ H s):∀b o,X.base.get? b=some o->s.heap.get? b=some o:=λb o e=>(I.bs b o e).1
theorem Inv.mod (I:Inv X pins σ H s):Mod X.K X.mg X.base:=I.ok.mod
theorem Inv.kIn (I:Inv X pins σ H s):X.K.In s.heap:=I.ok.mod.kin.keeps I.bk
theorem Inv.lt (I:Inv X pins σ H s):X.env.locals<s.heap.objs.size:=let ⟨_,hn,_⟩:=I.loc;hn.lt
theorem Inv.sz (I:Inv X pins σ H s):X.s₀.heap.objs.size<=s.heap.objs.size:=Nat.le_trans I.ok.above (Nat.le_of_lt I.lt)
theorem Inv.nofs (I:Inv X pins σ H s) {a:Addr}(h:s.heap.objs.size<=a):a∉X.fs:=λhb=>by
 obtain ⟨_,o,ho,_⟩:=I.ok.funs.mem hb
 exact absurd (Nat.lt_of_lt_of_le (Heap.lt_size ho) (Nat.le_trans I.sz h)) (Nat.lt_irrefl _)
theorem Inv.cne (I:Inv X pins σ H s):∀x c,X.env.cells.lookup x=some c->c≠X.env.locals:=λx c e z=>by
 obtain ⟨v,o,ho,hd⟩:=I.cell x c e
 obtain ⟨m,⟨o',es,ep,ho',hd',_⟩,_⟩:=I.loc
 rw [z,ho'] at ho;cases ho;rw [hd'] at hd;cases hd
theorem Inv.funs (I:Inv X pins σ H s):s.heap.FunFrames X.base X.outer:=by
 have all:∀(l:List Env),(∀b∈frs l,b∈X.fs)->X.s₀.heap.FunFrames X.base l->s.heap.FunFrames X.base l:=by
  intro l
  induction l with
  | nil=>intro _ _;trivial
  | cons env r ih =>
   intro hs hl
   obtain ⟨hk,⟨L,o,hf,hn,ho,hd⟩,hr⟩:=hl
   have hL:L∈X.fs:=hs L (by unfold frs;rw [List.filterMap_cons,hf];exact List.mem_cons_self)
   obtain ⟨sl,e⟩:=I.base.slot L o ho (I.ok.frf L hL) hL λz=>I.ok.exfs L z hL
   exact ⟨hk,⟨L,_,hf,hn,e,hd⟩,ih (λb hb=>hs b (by unfold frs;rw [List.filterMap_cons,hf];exact List.mem_cons_of_mem _ hb)) hr⟩
 exact all X.outer (λ_ hb=>hb) I.ok.funs
theorem Inv.stack (I:Inv X pins σ H s):s.heap.FunFrames X.base X.stack:=by
 rcases I.ok.stk with e | ⟨e,hf⟩
 ·rw [e];exact I.funs
 ·rw [e]
  obtain ⟨m,hn,_⟩:=I.loc
  refine .cons (by rw [I.ok.kind];decide) hf hn ?_ I.funs
  exact Heap.get?_none_of_le (Nat.le_trans I.ok.bsz I.ok.above)
theorem Inv.stkSub (I:Inv X pins σ H s):∀b∈frs X.stack,b∈X.env.locals::X.fs:=λb hb=>by
 rcases I.ok.stk with e | ⟨e,hf⟩
 ·rw [e] at hb;exact List.mem_cons_of_mem _ hb
 ·rw [e] at hb
  unfold frs at hb
  rw [List.filterMap_cons,hf] at hb
  exact hb
theorem Inv.stkFree (I:Inv X pins σ H s):∀b∈frs X.stack,H b=none:=λb hb=>by
 rcases List.mem_cons.mp (I.stkSub b hb) with e | hb
 ·rw [e];exact I.free
 ·obtain ⟨_,o,ho,_⟩:=I.ok.funs.mem hb
  exact I.base.free b o ho (I.ok.frf b hb) λz=>I.ok.exfs b z hb
theorem Inv.step {g':Array GenState}{t':Nat}{d':Drawn}{ch:List Addr}(I:Inv X pins σ H s)
  (hch:∀b∈ch,(b∈X.ex\/X.s₀.heap.objs.size<=b)/\b≠X.env.locals/\(∀x c,X.env.cells.lookup x=some c->c≠b)/\∀p∈X.pn++pins,p.1≠b)
  (keep:∀b o,b≠X.env.locals->b∉X.fs->b∉ch->s.heap.get? b=some o->H b=none->h'.get? b=some o)
  (slot:∀b o,b≠X.env.locals->b∈X.fs->b∉ch->s.heap.get? b=some o->H b=none->∃sl,h'.get? b=some { o with slots:=sl }) (free:∀b o,b∉ch->s.heap.get? b=some o->H b=none->H' b=none)
  (there:∀b o,b∉ch->s.heap.get? b=some o->∃o',h'.get? b=some o')
  (tups:∀b xs,H b=some (.tup xs)->H' b=some (.tup xs)) (frzs:∀b o u,H b=some (.frz o u)->H' b=some (.frz o u)) (tbls:∀b ps,H b=some (.tbl ps)->∃more,H' b=some (.tbl (ps++more)))
  (ns:∀m,s.heap.Ns X.env.locals m->h'.Ns X.env.locals m) (hok:HOk X.prog X.w H' h') (hg:AllBare g') :
  Inv X pins σ H' { s with heap:=h',gens:=g',drawn:=d',toks:=t' }:=by
 have neL:∀b o,X.s₀.heap.get? b=some o->b≠X.env.locals:=λb o e=>Nat.ne_of_lt (Nat.lt_of_lt_of_le (Heap.lt_size e) I.ok.above)
 have neC:∀b o,X.s₀.heap.get? b=some o->b∉X.ex->b∉ch:=λb o e hx hb=>by
  rcases (hch b hb).1 with z | z
  ·exact hx z
  ·exact absurd (Nat.lt_of_lt_of_le (Heap.lt_size e) z) (Nat.lt_irrefl _)
 have cellK:∀x c,X.env.cells.lookup x=some c->∀v,s.heap.IsCell c v->h'.IsCell c v:=λx c e v ⟨o,ho,hd⟩=>by
  have nch:c∉ch:=λz=>(hch c z).2.2.1 x c e rfl
  by_cases hc:c∈X.fs
  ·obtain ⟨sl,q⟩:=slot c o (I.cne x c e) hc nch ho (I.freeC x c e)
   exact ⟨_,q,hd⟩
  ·exact ⟨o,keep c o (I.cne x c e) hc nch ho (I.freeC x c e),hd⟩
 refine ⟨I.ok,I.os,hg,⟨λb o e n hb hx=>?_,λb o e n hb hx=>?_,λb o e n hx=>?_,λb o e hx=>?_,λb xs e=>tups b xs (I.base.tups b xs e),λb o xs e=>frzs b o xs (I.base.frzs b o xs e),λb ps e=>?_⟩,?_,λx c e=>?_,?_,λx c e=>?_,λp hp=>?_,hok,I.len⟩
 ·exact keep b o (neL b o e) hb (neC b o e hx) (I.base.keep b o e n hb hx) (I.base.free b o e n hx)
 ·obtain ⟨sl,e1⟩:=I.base.slot b o e n hb hx
  obtain ⟨sl',e2⟩:=slot b _ (neL b o e) hb (neC b o e hx) e1 (I.base.free b o e n hx)
  exact ⟨sl',e2⟩
 ·obtain ⟨o',e1⟩:=I.base.there b o e hx
  exact free b o' (neC b o e hx) e1 (I.base.free b o e n hx)
 ·obtain ⟨o',e1⟩:=I.base.there b o e hx
  exact there b o' (neC b o e hx) e1
 ·obtain ⟨m1,e1⟩:=I.base.tbls b ps e
  obtain ⟨m2,e2⟩:=tbls b _ e1
  exact ⟨m1++m2,by rw [e2,Array.append_assoc]⟩
 ·obtain ⟨m,hn,hl⟩:=I.loc
  refine ⟨m,ns m hn,λi x v e1 e2 e3=>?_⟩
  obtain ⟨u,r,l⟩:=hl i x v e1 e2 e3
  refine ⟨u,r,?_⟩
  rcases l with l | ⟨k,c,e,z⟩
  ·exact .inl l
  ·exact .inr ⟨k,c,e,cellK x c e _ z⟩
 ·obtain ⟨v,z⟩:=I.cell x c e
  exact ⟨v,cellK x c e v z⟩
 ·obtain ⟨m,⟨o,_,_,ho,_⟩,_⟩:=I.loc
  exact free _ o (λz=>(hch _ z).2.1 rfl) ho I.free
 ·obtain ⟨v,o,ho,hd⟩:=I.cell x c e
  exact free c o (λz=>(hch c z).2.2.1 x c e rfl) ho (I.freeC x c e)
 ·obtain ⟨e,n,ne,nf,d⟩:=I.pin p hp
  have nch:p.1∉ch:=λz=>(hch p.1 z).2.2.2 p hp rfl
  exact ⟨keep p.1 p.2 ne nf nch e n,free p.1 p.2 nch e n,ne,nf,d⟩
theorem Inv.un {t':Nat}(I:Inv X pins σ H s) (u:Un X.fs [] H H' s.heap h') (hok:HOk X.prog X.w H' h'):Inv X pins σ H' { s with heap:=h',toks:=t' }:=by
 obtain ⟨m,⟨o,es,ep,ho,r⟩,_⟩:=id I.loc
 obtain ⟨sl,hL⟩:=u.any ho I.free (by simp)
 exact I.step (g':=s.gens) (d':=s.drawn) (ch:=[]) (λ_ z=>nomatch z) (λb o _ hb _ e n=>u.keep b o e n hb (by simp)) (λb o _ hb _ e n=>u.slot b o e n hb (by simp)) (λb o _ e n=>u.free b o e n (by simp)) (λb o _ e=>u.there b o e (by simp)) u.tups u.frzs u.tbls (λm' hm=>by
  obtain ⟨o',es',ep',ho',r'⟩:=hm
  rw [ho] at ho';cases ho'
  exact ⟨_,es',ep',hL,r'⟩) hok I.bare
theorem Inv.call {g':Array GenState}{t':Nat}{d':Drawn}{ch:List Addr}(I:Inv X pins σ H s) (u:Un (frs X.stack) ch H H' s.heap h') (hok:HOk X.prog X.w H' h') (hg:AllBare g')
  (hch:∀b∈ch,(b∈X.ex\/X.s₀.heap.objs.size<=b)/\b≠X.env.locals/\(∀x c,X.env.cells.lookup x=some c->c≠b)/\∀p∈X.pn++pins,p.1≠b) :
  Inv X pins σ H' { s with heap:=h',gens:=g',drawn:=d',toks:=t' }:=by
 obtain ⟨m,⟨o,es,ep,ho,r⟩,_⟩:=id I.loc
 obtain ⟨sl,hL⟩:=u.any ho I.free λz=>(hch _ z).2.1 rfl
 exact I.step (ch:=ch) hch (λb o hL hb hc e n=>u.keep b o e n (λz=>(List.mem_cons.mp (I.stkSub b z)).elim hL hb) hc) (λb o _ _ hc e n=>u.any e n hc) (λb o hc e n=>u.free b o e n hc) (λb o hc e=>u.there b o e hc) u.tups u.frzs u.tbls (λm' hm=>by
  obtain ⟨o',es',ep',ho',r'⟩:=hm
  rw [ho] at ho';cases ho'
  exact ⟨_,es',ep',hL,r'⟩) hok hg
theorem Inv.turned {t':Nat}{it:Addr}(I:Inv X pins σ H s) (k:∀b o,b≠it->s.heap.get? b=some o->h'.get? b=some o) (hn:H it=none) (hL:it≠X.env.locals)
  (h1:it∈X.ex\/X.s₀.heap.objs.size<=it) (h2:∀x c,X.env.cells.lookup x=some c->c≠it) (h3:∀p∈X.pn++pins,p.1≠it):Inv X pins σ H { s with heap:=h',toks:=t' }:=by
 have nit:∀b u,H b=some u->b≠it:=λb u e z=>by rw [z,hn] at e;cases e
 refine I.step (g':=s.gens) (d':=s.drawn) (ch:=[it]) (λb hb=>?_) (λb o _ _ hc e _=>k b o (λz=>hc (by simp [z])) e) (λb o _ _ hc e _=>⟨o.slots,k b o (λz=>hc (by simp [z])) e⟩) (λ_ _ _ _ n=>n)
  (λb o hc e=>⟨o,k b o (λz=>hc (by simp [z])) e⟩) (λ_ _ e=>e) (λ_ _ _ e=>e) (λb ps e=>⟨#[],by rw [e];simp⟩) (λm hm=>?_) (λb u e=>?_) I.bare
 ·have e:b=it:=by simpa using hb
  subst e
  exact ⟨h1,hL,h2,h3⟩
 ·obtain ⟨o,es,ep,ho,r⟩:=hm
  exact ⟨o,es,ep,k _ o (Ne.symm hL) ho,r⟩
 ·refine (I.hok b u e).stay (λc v hc q=>k c v ?_ q) (λ_ q=>q) λ_ _ q=>q
  rcases hc with z | z
  ·rw [z];exact nit b u e
  ·exact nit c _ z
theorem Inv.tok (I:Inv X pins σ H s) (t:Nat):Inv X pins σ H { s with toks:=t }:=I.un (h':=s.heap) (t':=t) Un.refl I.hok
theorem Inv.kept {t':Nat}(I:Inv X pins σ H s) (k:∀b u,s.heap.get? b=some u->h'.get? b=some u):Inv X pins σ H { s with heap:=h',toks:=t' }:=I.un (Un.kept k) (I.hok.kept k)
theorem Inv.laid {a:Addr}{o:HO}{t':Nat}(I:Inv X pins σ H s) (k:∀b u,s.heap.get? b=some u->h'.get? b=some u) (hp:s.heap.objs.size<=a) (new:qp X.prog X.w (upd H a o) h' a o) :
  Inv X pins σ (upd H a o) { s with heap:=h',toks:=t' }:=I.un (Un.laid k hp (I.hok.fresh hp)) (I.hok.laid k hp new)
theorem Inv.write {x e:Addr}{o:HO}{t':Nat}(I:Inv X pins σ H s) (mu:Mut (H x)) (he:e=x\/H e=some (.own x)) (k:∀b u,b≠e->s.heap.get? b=some u->h'.get? b=some u) (heo:∃u,h'.get? e=some u)
  (new:qp X.prog X.w (upd H x o) h' x o):Inv X pins σ (upd H x o) { s with heap:=h',toks:=t' }:=I.un (Un.write mu he k heo) (I.hok.write mu he k heo new)
theorem Inv.pins_of {pins':List (Addr×Obj)}(I:Inv X pins σ H s) (h:∀p∈pins',s.heap.get? p.1=some p.2/\H p.1=none/\p.1≠X.env.locals/\p.1∉X.fs/\∀v,p.2.data≠.cell v):Inv X pins' σ H s :=
 ⟨I.ok,I.os,I.bare,I.base,I.loc,I.cell,I.free,I.freeC,λp hp=>(List.mem_append.mp hp).elim (λz=>I.pin p (List.mem_append_left _ z)) (h p),I.hok,I.len⟩
theorem XG {N:List Str}(hN:N.Nodup) {i j:Nat}{x:Str}(a:N[i]? = some x) (b:N[j]? = some x):i=j:=by
 obtain ⟨h1,e1⟩:=List.getElem?_eq_some_iff.mp a
 obtain ⟨h2,e2⟩:=List.getElem?_eq_some_iff.mp b
 exact (List.getElem_inj hN).mp (e1.trans e2.symm)
theorem Jj {M:Model}{A:Around}{E:Value->Shared->Prop}{i:Nat}{x:Str}{v:V}{u:Value}{Q:Unit->Shared->Prop}(I:Inv X pins σ H s) (hN:X.N.Nodup) (hi:X.N[i]? = some x) (hx:Loc X.env.scope x) (r:jE v u)
  (h:∀s',Inv X pins (σ.set i (some v)) H s'->(∃a,Heap.SameBut a s.heap s'.heap/\(a=X.env.locals\/X.env.cells.lookup x=some a))->Q () s') (hf:X.fn x=true\/X.env.scope.names.lookup x=some .local:=by first | exact .inl rfl | exact .inr rfl | assumption):wpAny M A (storeName X.env x u) Q E s:=by
 obtain ⟨m,hn,hl⟩:=id I.loc
 have hcls:(X.env.scope.kind == .class || (X.env.scope.kind == .module && X.env.locals != X.env.globals))=false:=by rw [I.ok.kind];rfl
 have hiσ:i<σ.length:=by rw [I.len];exact (List.getElem?_eq_some_iff.mp hi).1
 have cne:=I.cne
 have tracked:∀{a:Addr} {h':Heap},(∃o,s.heap.get? a=some o/\H a=none)->Heap.SameBut a s.heap h'->HOk X.prog X.w H h':=λ{a h'} ha hs b ob e=>by
  obtain ⟨_,_,hfree⟩:=ha
  refine (I.hok b ob e).stay (λc w' hc q=>(hs.2 c ?_).trans q) (λ_ q=>q) λ_ _ q=>q
  rintro rfl
  rcases hc with rfl | hc
  ·rw [hfree] at e;cases e
  ·rw [hfree] at hc;cases hc
 rcases hx with hk | hk
 ·refine wpAny_storeName_local hk hn (λh' hn' hs=>?_) hcls
  obtain ⟨oL,_,_,hoL,_⟩:=id hn
  refine h _ ⟨I.ok,I.os,I.bare,⟨λb o e n hb hx=>?_,λb o e n hb hx=>?_,I.base.free,λb o e hx=>?_,I.base.tups,I.base.frzs,I.base.tbls⟩,⟨_,hn',λj y v' e1 e2 e3=>?_⟩,λy c e=>?_,I.free,I.freeC,λp hp=>?_,tracked ⟨oL,hoL,I.free⟩ hs,by simpa using I.len⟩ ⟨_,hs,.inl rfl⟩
  ·exact (hs.2 b (Nat.ne_of_lt (Nat.lt_of_lt_of_le (Heap.lt_size e) I.ok.above))).trans (I.base.keep b o e n hb hx)
  ·obtain ⟨sl,e1⟩:=I.base.slot b o e n hb hx
   exact ⟨sl,(hs.2 b (Nat.ne_of_lt (Nat.lt_of_lt_of_le (Heap.lt_size e) I.ok.above))).trans e1⟩
  ·obtain ⟨o',e1⟩:=I.base.there b o e hx
   exact ⟨o',(hs.2 b (Nat.ne_of_lt (Nat.lt_of_lt_of_le (Heap.lt_size e) I.ok.above))).trans e1⟩
  ·by_cases hj:j=i
   ·subst hj
    rw [hi] at e1;cases e1
    rw [List.getElem?_set_self hiσ] at e2
    cases e2
    exact ⟨u,r,.inl ⟨hk,by simp⟩⟩
   ·rw [List.getElem?_set_ne (Ne.symm hj)] at e2
    obtain ⟨u',r',q⟩:=hl j y v' e1 e2 e3
    refine ⟨u',r',?_⟩
    rcases q with ⟨k,e⟩ | ⟨k,c,e,z⟩
    ·refine .inl ⟨k,?_⟩
     have:y≠x:=λe=>hj (XG hN e1 (e ▸ hi))
     simp [this,e]
    ·exact .inr ⟨k,c,e,z.sameBut hs (cne y c e)⟩
  ·obtain ⟨w',z⟩:=I.cell y c e
   exact ⟨w',z.sameBut hs (cne y c e)⟩
  ·obtain ⟨e,n,ne,nf,d⟩:=I.pin p hp
   exact ⟨(hs.2 p.1 ne).trans e,n,ne,nf,d⟩
 ·have hfn:X.fn x=true:=by
   rcases hf with z | z
   ·exact z
   ·rw [z] at hk;cases hk
  obtain ⟨c,hc⟩:=I.ok.has x (.inl hk)
  obtain ⟨w',z⟩:=I.cell x c hc
  refine wpAny_storeName_cell I.ok.kind hk hc z (λh' hc' hs=>?_)
  obtain ⟨oc,hoc,hocd⟩:=id z
  refine h { s with heap:=h' } ⟨I.ok,I.os,I.bare,⟨λb o e n hb hx=>?_,λb o e n hb hx=>?_,I.base.free,λb o e hx=>?_,I.base.tups,I.base.frzs,I.base.tbls⟩,⟨m,hn.sameBut hs (Ne.symm (cne x c hc)),λj y v' e1 e2 e3=>?_⟩,λy c' e=>?_,I.free,I.freeC,λp hp=>?_,tracked ⟨oc,hoc,I.freeC x c hc⟩ hs,by simpa using I.len⟩ ⟨c,hs,.inr hc⟩
  ·exact (hs.2 b (Nat.ne_of_lt (Nat.lt_of_lt_of_le (Heap.lt_size e) (I.ok.cab x c hfn hc)))).trans (I.base.keep b o e n hb hx)
  ·obtain ⟨sl,e1⟩:=I.base.slot b o e n hb hx
   exact ⟨sl,(hs.2 b (Nat.ne_of_lt (Nat.lt_of_lt_of_le (Heap.lt_size e) (I.ok.cab x c hfn hc)))).trans e1⟩
  ·obtain ⟨o',e1⟩:=I.base.there b o e hx
   exact ⟨o',(hs.2 b (Nat.ne_of_lt (Nat.lt_of_lt_of_le (Heap.lt_size e) (I.ok.cab x c hfn hc)))).trans e1⟩
  ·by_cases hj:j=i
   ·subst hj
    rw [hi] at e1;cases e1
    rw [List.getElem?_set_self hiσ] at e2
    cases e2
    exact ⟨u,r,.inr ⟨.inl hk,c,hc,hc'⟩⟩
   ·rw [List.getElem?_set_ne (Ne.symm hj)] at e2
    obtain ⟨u',r',q⟩:=hl j y v' e1 e2 e3
    refine ⟨u',r',?_⟩
    rcases q with q | ⟨k,c',e,z'⟩
    ·exact .inl q
    ·refine .inr ⟨k,c',e,z'.sameBut hs ?_⟩
     rintro rfl
     exact hj (XG hN e1 (I.ok.inj _ _ _ e hc ▸ hi))
  ·by_cases hcc:c'=c
   ·subst hcc;exact ⟨_,hc'⟩
   ·obtain ⟨w2,z2⟩:=I.cell y c' e
    exact ⟨w2,z2.sameBut hs hcc⟩
  ·obtain ⟨e,n,ne,nf,d⟩:=I.pin p hp
   refine ⟨(hs.2 p.1 ?_).trans e,n,ne,nf,d⟩
   intro q
   rw [q,hoc] at e
   have q':oc=p.2:=Option.some.inj e
   exact d w' (by rw [<- q'];exact hocd)
theorem kK {M:Model}{A:Around}{E:Value->Shared->Prop}{i:Nat}{x:Str}{v:V}{u:Value}{Q:Unit->Shared->Prop}(I:Inv X pins σ H s) (hN:X.N.Nodup) (hi:X.N[i]? = some x) (hx:Loc X.env.scope x) (r:jE v u)
  (h:∀s',Inv X pins (σ.set i (some v)) H s'->Q () s') (hf:X.fn x=true\/X.env.scope.names.lookup x=some .local:=by first | exact .inl rfl | exact .inr rfl | assumption):wpAny M A (storeName X.env x u) Q E s :=
 Jj I hN hi hx r (λs' I' _=>h s' I') hf
theorem Inv.call' {s':Shared}{ch:List Addr}(I:Inv X pins σ H s) (ho:s'.os=s.os) (u:Un (frs X.stack) ch H H' s.heap s'.heap) (hok:HOk X.prog X.w H' s'.heap) (hg:AllBare s'.gens)
  (hch:∀b∈ch,(b∈X.ex\/X.s₀.heap.objs.size<=b)/\b≠X.env.locals/\(∀x c,X.env.cells.lookup x=some c->c≠b)/\∀p∈X.pn++pins,p.1≠b):Inv X pins σ H' s':=by
 obtain ⟨h',g',d',t',o'⟩:=s'
 have e:o'=s.os:=ho
 subst e
 exact I.call (g':=g') (t':=t') (d':=d') u hok hg hch
end
abbrev XK:=Value->Option Addr->Hp->Prop
abbrev St:=List (Option V)
abbrev VK:=V->Hp->Prop
abbrev TE:=St->Hp->VK->Prop
abbrev TT:=St->Hp->(Bool->Hp->Prop)->Prop
abbrev TA:=St->Hp->(List V->Hp->Prop)->Prop
structure Ends where
 nx:St->Hp->Prop
 rt:VK
 bk:St->Hp->Prop:=λ_ _=>False
 ct:St->Hp->Prop:=λ_ _=>False
abbrev TS:=Ends->St->Hp->Prop
def EP (X:Cx) (pins:List (Addr×Obj)) (σ:St) (Q:VK) (u:Value) (s':Shared):Prop:=∃v H',Inv X pins σ H' s'/\jE v u/\Q v H'
def TP (X:Cx) (pins:List (Addr×Obj)) (σ:St) (Q:Bool->Hp->Prop) (b:Bool) (s':Shared):Prop:=∃H',Inv X pins σ H' s'/\Q b H'
def AP (X:Cx) (pins:List (Addr×Obj)) (σ:St) (Q:List V->Hp->Prop) (us:List Value) (s':Shared):Prop:=∃vs H',Inv X pins σ H' s'/\jD vs us/\Q vs H'
def SP (X:Cx) (pins:List (Addr×Obj)) (D:Ends) (f:Flow) (s':Shared):Prop :=
 match f with
 | .next=>∃σ' H',Inv X pins σ' H' s'/\D.nx σ' H'
 | .brk=>∃σ' H',Inv X pins σ' H' s'/\D.bk σ' H'
 | .cont=>∃σ' H',Inv X pins σ' H' s'/\D.ct σ' H'
 | .ret u=>∃v σ' H',Inv X pins σ' H' s'/\jE v u/\D.rt v H'
def PE (X:Cx) (e:Expr) (t:TE):Prop :=
 ∀(pins:List (Addr×Obj)) (s:Shared) (σ:St) (H:Hp) (Q:VK),Inv X pins σ H s->t σ H Q->wpAny (model X.prog X.w) X.A (eval e X.env) (EP X pins σ Q) X.xe s
def PT (X:Cx) (e:Expr) (t:TT):Prop :=
 ∀(pins:List (Addr×Obj)) (s:Shared) (σ:St) (H:Hp) (Q:Bool->Hp->Prop),Inv X pins σ H s->t σ H Q->wpAny (model X.prog X.w) X.A (isTrue e X.env (eval e X.env)) (TP X pins σ Q) X.xe s
def PW (X:Cx) (e:Expr) (t:TT):Prop :=
 ∀(whole:Sem Value) (pins:List (Addr×Obj)) (s:Shared) (σ:St) (H:Hp) (Q:Bool->Hp->Prop),Inv X pins σ H s->t σ H Q->wpAny (model X.prog X.w) X.A (isTrue e X.env whole) (TP X pins σ Q) X.xe s
theorem PW.pt {X:Cx}{e:Expr}{t:TT}(h:PW X e t):PT X e t:=h _
def PA (X:Cx) (es:List Expr) (t:TA):Prop :=
 ∀(pos:Pos) (pins:List (Addr×Obj)) (s:Shared) (σ:St) (H:Hp) (Q:List V->Hp->Prop),Inv X pins σ H s->t σ H Q->wpAny (model X.prog X.w) X.A (spliced (backTo pos (starEach es X.env))) (AP X pins σ Q) X.xe s
def PS (X:Cx) (st:Stmt) (t:TS):Prop :=
 ∀(pins:List (Addr×Obj)) (s:Shared) (σ:St) (H:Hp) (D:Ends),Inv X pins σ H s->t D σ H->wpAny (model X.prog X.w) X.A (exec st X.env) (SP X pins D) X.xe s
def PSs (X:Cx) (st:List Stmt) (t:TS):Prop :=
 ∀(pins:List (Addr×Obj)) (s:Shared) (σ:St) (H:Hp) (D:Ends),Inv X pins σ H s->t D σ H->wpAny (model X.prog X.w) X.A (execs st X.env) (SP X pins D) X.xe s
theorem thn {α:Type}{t:Sem α}{Q Q':α->Shared->Prop}{M:Model}{A:Around}{E:Value->Shared->Prop}{s:Shared}(h:wpAny M A t Q E s) (hQ:∀a s,Q a s->Q' a s):wpAny M A t Q' E s:=wpAny_mono h hQ λ_ _ x=>x
end L2
namespace L2
section
variable {X:Cx}
theorem bin {a b:Expr}{ta tb:TE}(ha:PE X a ta) (hb:PE X b tb) {pins:List (Addr×Obj)}{s:Shared}{σ:St}{H:Hp}{R:V->V->Hp->Prop}(I:Inv X pins σ H s) (h:ta σ H λx H1=>tb σ H1 λy H2=>R x y H2)
  {α:Type} {Q:α->Shared->Prop} {f:Value->Value->Sem α}
  (hf:∀v u s2 x y H2,Inv X pins σ H2 s2->jE x v->jE y u->R x y H2->wpAny (model X.prog X.w) X.A (f v u) Q X.xe s2) :
  wpAny (model X.prog X.w) X.A (eval a X.env) (λv s₁=>wpAny (model X.prog X.w) X.A (eval b X.env) (λu s₂=>wpAny (model X.prog X.w) X.A (f v u) Q X.xe s₂) X.xe s₁) X.xe s:=by
 refine thn (ha pins s σ H _ I h) λv s1 ⟨x,H1,I1,r1,q1⟩=>?_
 refine thn (hb pins s1 σ H1 _ I1 q1) λu s2 ⟨y,H2,I2,r2,q2⟩=>?_
 exact hf v u s2 x y H2 I2 r1 r2 q2
def Gu (i:Nat):TE:=λσ H Q=>∃v,σ[i]? = some (some v)/\Q v H
def tC (v:V):TE:=λ_ H Q=>Q v H
theorem E5 {i:Nat}{x:Str}{pos:Pos}(hN:X.N[i]? = some x) (hv:Vis X.env.scope x) (hd:(x == ("__debug__" : Str))=false:=by decide) (hcd:(x == ("__classdict__" : Str))=false:=by decide):PE X (.Name x pos) (Gu i):=by
 intro pins s σ H Q I h
 obtain ⟨v,e,h⟩:=h
 obtain ⟨m,hn,hl⟩:=I.loc
 obtain ⟨u,r,l⟩:=hl i x v hN e hv
 have fin:EP X pins σ Q u s:=⟨v,H,I,r,h⟩
 rcases l with ⟨hk,hm⟩ | ⟨hk,c,hc,hcell⟩
 ·exact wpAny_Name (wpAny_loadName_local I.ok.kind hk hn hm fin) hd
 ·rcases hk with hk | hk
  ·exact wpAny_Name (wpAny_loadName_cell I.ok.kind hk hc hcell fin) hd
  ·exact wpAny_Name (wpAny_loadName_free I.ok.kind hk hc hcell fin hcd) hd
theorem j6 {i j pos}:PE X (.Constant (.int i) j pos) (tC (.int i)):=λ_ _ _ H _ I h=>wpAny_Constant_int ⟨.int i,H,I.tok _,⟨_,rfl⟩,h⟩
theorem wL {b j pos}:PE X (.Constant (.bool b) j pos) (tC (.bl b)):=λ_ _ _ H _ I h=>Constant_bool ⟨.bl b,H,I,rfl,h⟩
theorem Ql {j pos}:PE X (.Constant .none j pos) (tC .non):=λ_ _ _ H _ I h=>Constant_none ⟨.non,H,I,rfl,h⟩
theorem qh {x j pos}:PE X (.Constant (.str x) j pos) (tC (.str x)):=λ_ _ _ H _ I h=>Calls.Constant_str ⟨.str x,H,I.tok _,⟨_,rfl⟩,h⟩
def Gl (X:Cx) (x:Str):Prop:=X.env.kindOf x=some .globalImplicit
theorem uN {E:Value->Shared->Prop}{pins:List (Addr×Obj)}{s:Shared}{σ:St}{H:Hp}{x:Str}{u:Value}{pos:Pos}{Q:Value->Shared->Prop}(I:Inv X pins σ H s) (hg:Gl X x) (hm:X.mg x=some u) (h:Q u s)
  (hd:(x == ("__debug__" : Str))=false:=by decide):wpAny (model X.prog X.w) X.A (eval (.Name x pos) X.env) Q E s :=
 Calls.Name_function_global I.ok.kind hg (Calls.loadGlobal_global (by rw [I.ok.glob];exact I.mod.glob.keeps I.bk) hm h) hd
theorem zX {E:Value->Shared->Prop}{pins:List (Addr×Obj)}{s:Shared}{σ:St}{H:Hp}{x:Str}{u:Value}{pos:Pos}{Q:Value->Shared->Prop}(I:Inv X pins σ H s) (hg:Gl X x) (hm:X.mg x=none) (hv:bootBuiltins x=some u) (h:Q u s)
  (hn:x ≠ "__name__":=by decide) (hd:(x == ("__debug__" : Str))=false:=by decide):wpAny (model X.prog X.w) X.A (eval (.Name x pos) X.env) Q E s:=by
 obtain ⟨mb,h1,h2⟩:=I.mod.blt
 exact Calls.Name_function_global I.ok.kind hg (Calls.loadGlobal_builtin (by rw [I.ok.glob];exact I.mod.glob.keeps I.bk) hm (by rw [I.ok.blt];exact h1.keeps I.bk) ((h2 x hn).trans hv) h) hd
theorem xk {x:Str}{v:V}{u:Value}{pos:Pos}(hg:Gl X x) (hm:X.mg x=some u) (r:jE v u) (hd:(x == ("__debug__" : Str))=false:=by decide):PE X (.Name x pos) (tC v) :=
 λ_ _ _ H _ I h=>uN I hg hm ⟨v,H,I,r,h⟩ hd
theorem xC {x:Str}{v:V}{u:Value}{pos:Pos}(hg:Gl X x) (hm:X.mg x=none) (hv:bootBuiltins x=some u) (r:jE v u) (hn:x ≠ "__name__":=by decide) (hd:(x == ("__debug__" : Str))=false:=by decide):PE X (.Name x pos) (tC v) :=
 λ_ _ _ H _ I h=>zX I hg hm hv ⟨v,H,I,r,h⟩ hn hd
variable {a b:Expr}{ta tb:TE}{pos:Pos}
def PC (X:Cx) (op:CmpOp) (a b:Expr) (t:TE):Prop :=
 ∀(pins:List (Addr×Obj)) (s:Shared) (σ:St) (H:Hp) (Q:VK),Inv X pins σ H s->t σ H Q ->
  wpAny (model X.prog X.w) X.A (eval a X.env) (λv s₁=>wpAny (model X.prog X.w) X.A (eval b X.env) (λu s₂=>wpAny (model X.prog X.w) X.A (compareOp op v u) (EP X pins σ Q) X.xe s₂) X.xe s₁) X.xe s
theorem VJ (b:Expr) {op:CmpOp}(h:op≠.In) (h2:op≠.NotIn):behindInMarks op b=false:=by
 have e1:(op == CmpOp.In)=false:=by cases op <;> first | rfl | exact absurd rfl h
 have e2:(op == CmpOp.NotIn)=false:=by cases op <;> first | rfl | exact absurd rfl h2
 cases b <;> simp [behindInMarks,e1,e2]
def tB (t:TE):TT:=λσ H Q=>t σ H λx H1=>∃c,x = .bl c/\Q c H1
theorem pt_cmp {op:CmpOp}{t:TE}(h:PC X op a b t) (h1:behindInMarks op b=false:=by first | exact VJ _ ⋯ ⋯ | rfl):PT X (.Compare a [op] [b] pos) (tB t):=by
 intro pins s σ H Q I hw
 refine wpAny_isTrue_Compare1 (thn (h pins s σ H _ I hw) λv s1 h1=>thn h1 λu s2 h2=>thn h2 λc s3 ⟨x,H1,I1,r1,q1⟩=>?_) h1
 obtain ⟨d,rfl,q⟩:=q1
 cases r1
 exact wpAny_truthy_bool ⟨H1,I1,q⟩
theorem zR {e:Expr}{t:TE}(h:PE X e t) (he:∀whole,isTrue e X.env whole=(do let v <- whole;standAt e.pos;holding [v] (truthy v)):=by intro _;rfl):PT X e (tB t):=by
 intro pins s σ H Q I hw
 refine isTrue_plain (thn (h pins s σ H _ I hw) λv s1 ⟨x,H1,I1,r1,q1⟩=>?_) (he _)
 obtain ⟨d,rfl,q⟩:=q1
 cases r1
 exact wpAny_truthy_bool ⟨H1,I1,q⟩
variable {tA tB':TT}{vT:List Expr}
def Gy (t u:TT):TT:=λσ H Q=>t σ H λc H1=>if c=true then u σ H1 Q else Q false H1
def tOr (t u:TT):TT:=λσ H Q=>t σ H λc H1=>if c=true then Q true H1 else u σ H1 Q
def tNot (t:TT):TT:=λσ H Q=>t σ H λc H1=>Q (!c) H1
theorem ZU (ha:PT X a tA):PW X (.BoolOp .And [a] pos) tA:=by
 intro wh pins s σ H Q I h
 refine isTrue_and (thn (ha pins s σ H Q I h) λc s1 e=>?_)
 cases c with
 | true=>exact isTrue_and_nil e
 | false=>exact e
theorem Ux (ha:PT X a tA):PW X (.BoolOp .Or [a] pos) tA:=by
 intro wh pins s σ H Q I h
 refine isTrue_or (thn (ha pins s σ H Q I h) λc s1 e=>?_)
 cases c with
 | false=>exact isTrue_or_nil e
 | true=>exact e
theorem Ui (ha:PT X a tA) (hb:PW X (.BoolOp .And (b::vT) pos) tB'):PW X (.BoolOp .And (a::b::vT) pos) (Gy tA tB'):=by
 intro wh pins s σ H Q I h
 refine isTrue_and (thn (ha pins s σ H _ I h) λc s1 ⟨H1,I1,q1⟩=>?_)
 cases c with
 | true=>exact hb wh pins s1 σ H1 Q I1 q1
 | false=>exact ⟨H1,I1,q1⟩
theorem WP (ha:PT X a tA) (hb:PW X (.BoolOp .Or (b::vT) pos) tB'):PW X (.BoolOp .Or (a::b::vT) pos) (tOr tA tB'):=by
 intro wh pins s σ H Q I h
 refine isTrue_or (thn (ha pins s σ H _ I h) λc s1 ⟨H1,I1,q1⟩=>?_)
 cases c with
 | true=>exact ⟨H1,I1,q1⟩
 | false=>exact hb wh pins s1 σ H1 Q I1 q1
theorem xn (ha:PT X a tA):PT X (.UnaryOp .Not a pos) (tNot tA):=by
 intro pins s σ H Q I h
 exact isTrue_not (ha pins s σ H (λc H1=>Q (!c) H1) I h)
def Et (ta tb:TE):TE:=λσ H Q=>ta σ H λx H1=>∃c,x = .bl c/\if c=true then tb σ H1 Q else Q (.bl false) H1
def Ea (ta:TE):TE:=λσ H Q=>ta σ H λx H1=>∃c,x = .bl c/\Q (.bl (!c)) H1
theorem yH {op}{t:TE}(h:PE X a t):PE X (.BoolOp op [a] pos) t:=λpins s σ H Q I hw=>BoolOp_one (h pins s σ H Q I hw)
theorem yu (ha:PE X a ta) (hb:PE X (.BoolOp .And (b::vT) pos) tb):PE X (.BoolOp .And (a::b::vT) pos) (Et ta tb):=by
 intro pins s σ H Q I h
 refine BoolOp_and (thn (ha pins s σ H _ I h) λv s1 ⟨x,H1,I1,r1,q1⟩=>?_)
 obtain ⟨c,rfl,q1⟩:=q1
 cases r1
 refine wpAny_truthy_bool ?_
 cases c with
 | true=>exact hb pins s1 σ H1 Q I1 q1
 | false=>exact ⟨.bl false,H1,I1,rfl,q1⟩
theorem GU (ha:PE X a ta):PE X (.UnaryOp .Not a pos) (Ea ta):=by
 intro pins s σ H Q I h
 refine UnaryOp_ (thn (ha pins s σ H _ I h) λv s1 ⟨x,H1,I1,r1,q1⟩=>?_)
 obtain ⟨c,rfl,q1⟩:=q1
 cases r1
 exact not_of (wpAny_truthy_bool ⟨.bl (!c),H1,I1,rfl,q1⟩)
def tIf (t:TT) (ta tb:TE):TE:=λσ H Q=>t σ H λc H1=>if c=true then ta σ H1 Q else tb σ H1 Q
theorem Ur {c:Expr}(hc:PT X c tA) (ha:PE X a ta) (hb:PE X b tb):PE X (.IfExp c a b pos) (tIf tA ta tb):=by
 intro pins s σ H Q I h
 refine wpAny_IfExp (thn (hc pins s σ H _ I h) λd s1 ⟨H1,I1,q1⟩=>?_)
 cases d with
 | true=>exact ha pins s1 σ H1 Q I1 q1
 | false=>exact hb pins s1 σ H1 Q I1 q1
end
end L2
namespace L2
def SqL (K:PySem.W.Frag) (H:Hp) (a:Addr) (xs:List V):Prop :=
 Rd H a (.lst xs) \/
  ∃(o:Obj) (its:Array Value) (n:Nat),K.lookup a=some o/\o.cls = .type "list" /\ o.dict=none/\o.data = .seq its n/\its.size<=sizeLine/\jD xs its.toList
def SqT (K:PySem.W.Frag) (H:Hp) (a:Addr) (xs:List V):Prop :=
 Rd H a (.tup xs) \/
  ∃(o:Obj) (its:Array Value) (n:Nat),K.lookup a=some o/\o.cls = .type "tuple" /\ o.data = .seq its n/\its.size<=sizeLine/\jD xs its.toList
def absV:Value->Option V
 | .none=>some .non
 | .bool b=>some (.bl b)
 | .int i _=>some (.int i)
 | .str x _=>some (.str x)
 | .bytes b _=>some (.byt b)
 | .float b _=>some (.flt b)
 | .ref a=>some (.ref a)
 | .type n=>some (.ty n)
 | _=>none
theorem jE.abs {x:V}{u:Value}(r:jE x u):absV u=some x:=by
 cases x with
 | non=>cases r;rfl
 | bl _=>cases r;rfl
 | int _=>obtain ⟨t,rfl⟩:=r;rfl
 | str _=>obtain ⟨t,rfl⟩:=r;rfl
 | byt _=>obtain ⟨t,rfl⟩:=r;rfl
 | flt _=>obtain ⟨t,rfl⟩:=r;rfl
 | ref _=>cases r;rfl
 | ty _=>cases r;rfl
theorem jE.inj {x y:V}{u:Value}(r:jE x u) (q:jE y u):x=y:=Option.some.inj (r.abs.symm.trans q.abs)
theorem jD.inj:∀{xs ys:List V}{us:List Value},jD xs us->jD ys us->xs=ys
 | _,_,_,.nil,.nil=>rfl
 | _,_,_,.cons r t,.cons r' t'=>by rw [r.inj r',jD.inj t t']
section
variable {X:Cx}{pins:List (Addr×Obj)}{σ:St}{H:Hp}{s:Shared}{a:Addr}{xs ys:List V}
theorem SqL.of {K:PySem.W.Frag}(h:H a=some (.lst xs)):SqL K H a xs:=.inl (.inl h)
theorem SqT.of {K:PySem.W.Frag}(h:H a=some (.tup xs)):SqT K H a xs:=.inl (.inl h)
theorem Inv.list (I:Inv X pins σ H s) (h:SqL X.K H a xs):∃its:List Value,jD xs its/\PlainL s.heap a its.toArray/\xs.length<=sizeLine:=by
 rcases h with h | ⟨o,its,n,hk,hc,hd,hs,hz,r⟩
 ·obtain ⟨z,its,n,r,e⟩:=h.ok I.hok
  exact ⟨its,r,⟨_,n,e,rfl,rfl,rfl⟩,z⟩
 ·refine ⟨its.toList,r,⟨o,n,I.kIn a o hk,hc,hd,by simpa using hs⟩,?_⟩
  have e:=r.length
  simp only [Array.length_toList] at e
  omega
theorem Inv.tuple (I:Inv X pins σ H s) (h:SqT X.K H a xs):∃its:List Value,jD xs its/\IsTup s.heap a its.toArray/\xs.length<=sizeLine:=by
 rcases h with h | ⟨o,its,n,hk,hc,hs,hz,r⟩
 ·obtain ⟨z,its,r,p⟩:=h.ok I.hok
  exact ⟨its,r,p,z⟩
 ·refine ⟨its.toList,r,⟨o,I.kIn a o hk,hc,n,by simpa using hs⟩,?_⟩
  have e:=r.length
  simp only [Array.length_toList] at e
  omega
theorem Inv.list_inj (I:Inv X pins σ H s) (h:SqL X.K H a xs) (h':SqL X.K H a ys):xs=ys:=by
 obtain ⟨its,r,⟨o,n,e,_,_,d⟩,_⟩:=I.list h
 obtain ⟨its',r',⟨o',n',e',_,_,d'⟩,_⟩:=I.list h'
 rw [e] at e';cases e'
 rw [d] at d'
 injection d' with d1 _
 have:its=its':=by simpa using congrArg Array.toList d1
 subst this
 exact r.inj r'
theorem Inv.tuple_inj (I:Inv X pins σ H s) (h:SqT X.K H a xs) (h':SqT X.K H a ys):xs=ys:=by
 obtain ⟨its,r,⟨o,e,_,n,d⟩,_⟩:=I.tuple h
 obtain ⟨its',r',⟨o',e',_,n',d'⟩,_⟩:=I.tuple h'
 rw [e] at e';cases e'
 rw [d] at d'
 injection d' with d1 _
 have:its=its':=by simpa using congrArg Array.toList d1
 subst this
 exact r.inj r'
end
abbrev Cx.wish (X:Cx) (E:Value->Shared->Prop):Cx:={ X with xe:=E }
abbrev Cx.nox (X:Cx):Cx:=X.wish λ_ _=>False
theorem Cx.Ok.wish {X:Cx}(ok:X.Ok) (E:Value->Shared->Prop):(X.wish E).Ok :=
 ⟨ok.mod,ok.kind,ok.glob,ok.blt,ok.above,ok.inj,ok.has,ok.cab,ok.hd,ok.frames,ok.stk,ok.exf,ok.bs,ok.bsz,ok.noex,ok.exfs,ok.funs,ok.frf⟩
theorem Cx.Ok.unwish {X:Cx}{E:Value->Shared->Prop}(ok:(X.wish E).Ok):X.Ok :=
 ⟨ok.mod,ok.kind,ok.glob,ok.blt,ok.above,ok.inj,ok.has,ok.cab,ok.hd,ok.frames,ok.stk,ok.exf,ok.bs,ok.bsz,ok.noex,ok.exfs,ok.funs,ok.frf⟩
section
variable {X:Cx}{pins:List (Addr×Obj)}{σ:St}{H:Hp}{s:Shared}{E:Value->Shared->Prop}
theorem Inv.wish (I:Inv X pins σ H s) (E:Value->Shared->Prop):Inv (X.wish E) pins σ H s:=⟨I.ok.wish E,I.os,I.bare,I.base,I.loc,I.cell,I.free,I.freeC,I.pin,I.hok,I.len⟩
theorem Inv.unwish (I:Inv (X.wish E) pins σ H s):Inv X pins σ H s:=⟨I.ok.unwish,I.os,I.bare,I.base,I.loc,I.cell,I.free,I.freeC,I.pin,I.hok,I.len⟩
theorem SP.unwish {D:Ends}{f:Flow}{s':Shared}(h:SP (X.wish E) pins D f s'):SP X pins D f s':=by
 cases f with
 | next=>obtain ⟨σ',H',I,q⟩:=h;exact ⟨σ',H',I.unwish,q⟩
 | brk=>obtain ⟨σ',H',I,q⟩:=h;exact ⟨σ',H',I.unwish,q⟩
 | cont=>obtain ⟨σ',H',I,q⟩:=h;exact ⟨σ',H',I.unwish,q⟩
 | ret u=>obtain ⟨v,σ',H',I,r,q⟩:=h;exact ⟨v,σ',H',I.unwish,r,q⟩
theorem PE.nox {e:Expr}{t:TE}(h:PE X.nox e t):PE X e t:=λpins s σ H Q I hw =>
 wpAny_mono (h pins s σ H Q (I.wish _) hw) (λ_ _ ⟨v,H',I',r,q⟩=>⟨v,H',I'.unwish,r,q⟩) λ_ _ z=>False.elim z
theorem PSs.nox {st:List Stmt}{t:TS}(h:PSs X.nox st t):PSs X st t:=λpins s σ H D I hw =>
 wpAny_mono (h pins s σ H D (I.wish _) hw) (λ_ _ q=>q.unwish) λ_ _ z=>False.elim z
end
section
variable {X:Cx}{st:Stmt}{vT:List Stmt}{t u:TS}{e:Expr}{te:TE}{pos:Pos}
def EH:TS:=λD σ H=>D.nx σ H
def tSeq (t u:TS):TS:=λD σ H=>t { D with nx:=u D } σ H
theorem jA:PSs X [] EH:=λ_ _ σ H _ I h=>wpAny_execs_nil ⟨σ,H,I,h⟩
theorem j4 (h1:PS X st t) (h2:PSs X vT u):PSs X (st::vT) (tSeq t u):=by
 intro pins s σ H D I h
 refine wpAny_execs_cons (thn (h1 pins s σ H { D with nx:=u D } I h) λf s1 q=>?_)
 cases f with
 | next =>
  obtain ⟨σ',H',I',q⟩:=q
  exact h2 pins s1 σ' H' D I' q
 | ret v=>exact q
 | brk=>exact q
 | cont=>exact q
theorem j9 (h1:PS X st t):PSs X [st] t:=by
 intro pins s σ H D I h
 refine wpAny_execs_cons (thn (h1 pins s σ H D I h) λf s1 q=>?_)
 cases f with
 | next=>exact wpAny_execs_nil q
 | ret v=>exact q
 | brk=>exact q
 | cont=>exact q
def GQ:TS:=λD σ H=>D.bk σ H
theorem Ue:PS X (.Break pos) GQ:=λ_ _ σ H _ I h=>wpAny_Break ⟨σ,H,I,h⟩
theorem Inv.quiet {pins:List (Addr×Obj)}{σ:St}{H:Hp}{s:Shared}(I:Inv X pins σ H s):interactive X.env=false:=by simp [interactive,I.ok.kind]
def EJ (te:TE):TS:=λD σ H=>te σ H λ_ H1=>D.nx σ H1
theorem jN (he:PE X e te) (hs:swapsWith e none pos.line X.env=pure false:=by rfl):PS X (.Expr e pos) (EJ te):=by
 intro pins s σ H D I h
 exact wpAny_Expr_any (thn (he pins s σ H _ I h) λv s1 ⟨x,H1,I1,r1,q1⟩=>⟨σ,H1,I1,q1⟩) I.quiet hs
def tRet (te:TE):TS:=λD σ H=>te σ H D.rt
theorem ji (he:PE X e te):PS X (.Return (some e) pos) (tRet te):=by
 intro pins s σ H D I h
 exact wpAny_Return_some (thn (he pins s σ H _ I h) λv s1 ⟨x,H1,I1,r1,q1⟩=>⟨x,σ,H1,I1,r1,q1⟩)
def tIfS (c:TT) (t u:TS):TS:=λD σ H=>c σ H λb H1=>if b=true then t D σ H1 else u D σ H1
theorem qi {c:Expr}{a b:List Stmt}{tc:TT}(hc:PT X c tc) (ha:PSs X a t) (hb:PSs X b u):PS X (.If c a b pos) (tIfS tc t u):=by
 intro pins s σ H D I h
 refine wpAny_If (thn (hc pins s σ H _ I h) λd s1 ⟨H1,I1,q1⟩=>?_)
 cases d with
 | true=>exact ha pins s1 σ H1 D I1 q1
 | false=>exact hb pins s1 σ H1 D I1 q1
end
abbrev TG:=V->St->Hp->(St->Hp->Prop)->Prop
abbrev TGs:=List V->St->Hp->(St->Hp->Prop)->Prop
def PG (X:Cx) (target:Expr) (t:TG):Prop :=
 ∀(pins:List (Addr×Obj)) (s:Shared) (σ:St) (H:Hp) (v:V) (u:Value) (Q:St->Hp->Prop),Inv X pins σ H s->jE v u->t v σ H Q ->
  wpAny (model X.prog X.w) X.A (assign target X.env u) (λ_ s'=>∃σ' H',Inv X pins σ' H' s'/\Q σ' H') X.xe s
def PGs (X:Cx) (ts:List Expr) (t:TGs):Prop :=
 ∀(pins:List (Addr×Obj)) (s:Shared) (σ:St) (H:Hp) (vs:List V) (us:List Value) (Q:St->Hp->Prop),Inv X pins σ H s->jD vs us->t vs σ H Q ->
  wpAny (model X.prog X.w) X.A (assignInOrder ((assignEach ts X.env).map (·.2)) us) (λ_ s'=>∃σ' H',Inv X pins σ' H' s'/\Q σ' H') X.xe s
abbrev GE:=V->V->V->Hp->(Hp->Prop)->Prop
def Es (X:Cx) (t:GE):Prop :=
 ∀(pins:List (Addr×Obj)) (s:Shared) (σ:St) (H:Hp) (o i v:V) (ov iv u:Value) (Q:Hp->Prop),Inv X pins σ H s->jE o ov->jE i iv->jE v u->t o i v H Q ->
  wpAny (model X.prog X.w) X.A (setItem ov iv u) (λ_ s'=>∃H',Inv X pins σ H' s'/\Q H') X.xe s
abbrev TIp:=V->V->Hp->VK->Prop
def PIp (X:Cx) (op:Operator) (t:TIp):Prop :=
 ∀(pins:List (Addr×Obj)) (s:Shared) (σ:St) (H:Hp) (x y:V) (v u:Value) (Q:VK),Inv X pins σ H s->jE x v->jE y u->t x y H Q ->
  wpAny (model X.prog X.w) X.A (inplaceOp op v u) (EP X pins σ Q) X.xe s
section
variable {X:Cx}{pos:Pos}
def Jq (i:Nat):TG:=λv σ H Q=>Q (σ.set i (some v)) H
theorem ja {i:Nat}{x:Str}(hN:X.N.Nodup) (hi:X.N[i]? = some x) (hx:Loc X.env.scope x) (hf:X.fn x=true\/X.env.scope.names.lookup x=some .local:=by first | exact .inl rfl | exact .inr rfl | assumption):PG X (.Name x pos) (Jq i):=by
 intro pins s σ H v u Q I r h
 exact wpAny_assign_Name (kK I hN hi hx r (λs' I'=>⟨_,H,I',h⟩) hf)
def gNil:TGs:=λvs σ H Q=>vs=[]/\Q σ H
def EB (t:TG) (u:TGs):TGs:=λvs σ H Q=>∃v r,vs=v::r/\t v σ H λσ' H'=>u r σ' H' Q
theorem jY:PGs X [] gNil:=by
 intro pins s σ H vs us Q I r h
 obtain ⟨e,h⟩:=h
 subst e
 cases r
 exact assignInOrder_nil ⟨σ,H,I,h⟩
theorem jg {e:Expr}{es:List Expr}{t:TG}{u:TGs}(h1:PG X e t) (h2:PGs X es u)
  (hs:(assignEach (e::es) X.env).map (·.2)=assign e X.env::(assignEach es X.env).map (·.2):=by rfl):PGs X (e::es) (EB t u):=by
 intro pins s σ H vs us Q I r h
 obtain ⟨v,vr,e1,h⟩:=h
 subst e1
 cases r with
 | cons r rr =>
  rw [hs]
  refine assignInOrder_cons (thn (h1 pins s σ H _ _ _ I r h) λ_ s1 ⟨σ1,H1,I1,q1⟩=>?_)
  exact h2 pins s1 σ1 H1 _ _ Q I1 rr q1
def Ef (K:PySem.W.Frag) (n:Nat) (t:TGs):TG:=λv σ H Q=>∃a xs,v = .ref a/\SqT K H a xs/\xs.length=n/\t xs σ H Q
theorem WY {es:List Expr}{k:Nat}{t:TGs}{n:Nat}(hc:X.calm=true) (h:PGs X es t)
  (hn:(assignEach es X.env).length=n:=by rfl) (hst:(assignEach es X.env).findIdx? (·.1)=none:=by rfl):PG X (.Tuple es k pos) (Ef X.K n t):=by
 intro pins s σ H v u Q I r hw
 obtain ⟨a,xs,e1,hq,hl,hw⟩:=hw
 subst e1
 cases r
 obtain ⟨its,rv,ht,hz⟩:=I.tuple hq
 refine assign_Tuple_tuple (I.ok.hd hc) ht (by simp [hn,<- hl,rv.length]) hst λh' hx=>?_
 have I1:Inv X pins σ H { s with heap:=h' }:=I.kept (t':=s.toks) λb o e=>hx b o (Nat.ne_of_lt (Heap.lt_size e)) e
 exact h pins _ σ H xs _ Q I1 (by simpa using rv) hw
def gSub (to ti:TE) (t:GE):TG:=λv σ H Q=>to σ H λo H1=>ti σ H1 λi H2=>t o i v H2 λH3=>Q σ H3
theorem Qb {o i:Expr}{to ti:TE}{t:GE}(ho:PE X o to) (hi:PE X i ti) (hs:Es X t)
  (ha:∀v,assign (.Subscript o i pos) X.env v=(do
   let ov <- holding [v] (eval o X.env)
   let iv <- holding [v,ov] (eval i X.env)
   standAt pos
   holding [v,ov,iv] (setItem ov iv v)
   release [v,ov,iv] []):=by intro _;rfl):PG X (.Subscript o i pos) (gSub to ti t):=by
 intro pins s σ H v u Q I r h
 rw [ha]
 refine wpAny_bind (wpAny_holding (thn (ho pins s σ H _ I h) λov s1 ⟨x,H1,I1,r1,q1⟩=>?_))
 refine wpAny_bind (wpAny_holding (thn (hi pins s1 σ H1 _ I1 q1) λiv s2 ⟨y,H2,I2,r2,q2⟩=>?_))
 refine wpAny_bind (wpAny_standAt (wpAny_bind (wpAny_holding (thn (hs pins s2 σ H2 x y v ov iv u _ I2 r1 r2 r q2) λ_ s3 ⟨H3,I3,q3⟩=>?_))))
 exact wpAny_release ⟨σ,H3,I3,q3⟩
def WH (te:TE) (g:TG):TS:=λD σ H=>te σ H λx H1=>g x σ H1 D.nx
theorem xK {tg e:Expr}{te:TE}{g:TG}(he:PE X e te) (hg:PG X tg g) (hs:swapsWithSole [tg] e pos.line X.env=pure false:=by rfl) (hw:swappedStores [tg] e X.env=pure none:=by rfl)
  (h1:(assignEach [tg] X.env).map (·.2)=[assign tg X.env]:=by rfl):PS X (.Assign [tg] e pos) (WH te g):=by
 intro pins s σ H D I h
 refine wpAny_Assign_stores (thn (he pins s σ H _ I h) λv s1 ⟨x,H1,I1,r1,q1⟩=>?_) hs hw
 rw [h1]
 exact thn (hg pins s1 σ H1 x v _ I1 r1 q1) λ_ s2 q=>q
theorem xP {i:Nat}{x:Str}{e:Expr}{te:TE}{pos':Pos}(hN:X.N.Nodup) (hi:X.N[i]? = some x) (hx:Loc X.env.scope x) (he:PE X e te) (hs:swapsWith e (some (.Name x pos')) pos.line X.env=pure false:=by rfl) (hf:X.fn x=true\/X.env.scope.names.lookup x=some .local:=by first | exact .inl rfl | exact .inr rfl | assumption) :
  PS X (.Assign [.Name x pos'] e pos) (WH te (Jq i)):=by
 intro pins s σ H D I h
 refine wpAny_Assign_Name (thn (he pins s σ H _ I h) λv s1 ⟨y,H1,I1,r1,q1⟩=>?_) hs
 exact kK I1 hN hi hx r1 (λs2 I2=>⟨_,H1,I2,q1⟩) hf
theorem jw (i:Nat){x:Str}{e:Expr}{te:TE}{pos':Pos}(hN:X.N.Nodup) (he:PE X e te) (hi:X.N[i]?=some x:=by rfl) (hx:Loc X.env.scope x:=by exact Or.inl rfl) (hs:swapsWith e (some (.Name x pos')) pos.line X.env=pure false:=by rfl) (hf:X.fn x=true\/X.env.scope.names.lookup x=some .local:=by first | exact .inl rfl | exact .inr rfl | assumption):PS X (.Assign [.Name x pos'] e pos) (WH te (Jq i)):=xP hN hi hx he hs hf
def tAug (i:Nat) (te:TE) (ti:TIp):TS:=λD σ H=>∃x,σ[i]? = some (some x)/\te σ H λy H1=>ti x y H1 λz H2=>D.nx (σ.set i (some z)) H2
theorem Qc {i:Nat}{x:Str}{e:Expr}{te:TE}{op:Operator}{ti:TIp}{pos':Pos}(hN:X.N.Nodup) (hi:X.N[i]? = some x) (hx:Loc X.env.scope x) (he:PE X e te) (ho:PIp X op ti) (hf:X.fn x=true\/X.env.scope.names.lookup x=some .local:=by first | exact .inl rfl | exact .inr rfl | assumption) :
  PS X (.AugAssign (.Name x pos') op e pos) (tAug i te ti):=by
 intro pins s σ H D I h
 obtain ⟨v,e1,h⟩:=h
 obtain ⟨m,hn,hl⟩:=I.loc
 have vis:Vis X.env.scope x:=by rcases hx with k | k;exact .inl k;exact .inr (.inl k)
 obtain ⟨u,r,l⟩:=hl i x v hi e1 vis
 refine wpAny_AugAssign_Name ?_
 have go:wpAny (model X.prog X.w) X.A (eval e X.env) (λw s₂=>wpAny (model X.prog X.w) X.A (inplaceOp op u w) (λr s₃=>wpAny (model X.prog X.w) X.A (storeName X.env x r) (λ_=>SP X pins D .next) X.xe s₃) X.xe s₂) X.xe s:=by
  refine thn (he pins s σ H _ I h) λw s1 ⟨y,H1,I1,r1,q1⟩=>?_
  refine thn (ho pins s1 σ H1 v y u w _ I1 r r1 q1) λz s2 ⟨zv,H2,I2,r2,q2⟩=>?_
  exact kK I2 hN hi hx r2 (λs3 I3=>⟨_,H2,I3,q2⟩) hf
 rcases l with ⟨hk,hm⟩ | ⟨hk,c,hc,hcell⟩
 ·exact wpAny_loadName_local I.ok.kind hk hn hm go
 ·rcases hk with hk | hk
  ·exact wpAny_loadName_cell I.ok.kind hk hc hcell go
  ·rcases hx with k | k
   ·have:X.env.scope.names.lookup x=some .free:=hk
    rw [k] at this;cases this
   ·have:X.env.scope.names.lookup x=some .free:=hk
    rw [k] at this;cases this
def ipI (f:Int->Int->Int):TIp:=λx y H Q=>∃i j,x = .int i/\y = .int j/\Q (.int (f i j)) H
theorem Zf:PIp X .Add (ipI λi j=>i+j):=by
 intro pins s σ H x y v u Q I r1 r2 h
 obtain ⟨i,j,e1,e2,q⟩:=h
 subst e1;subst e2
 obtain ⟨t,rfl⟩:=r1
 obtain ⟨t',rfl⟩:=r2
 exact iadd_int ⟨.int _,H,I.tok _,⟨_,rfl⟩,q⟩
theorem GI:PIp X .Sub (ipI λi j=>i-j):=by
 intro pins s σ H x y v u Q I r1 r2 h
 obtain ⟨i,j,e1,e2,q⟩:=h
 subst e1;subst e2
 obtain ⟨t,rfl⟩:=r1
 obtain ⟨t',rfl⟩:=r2
 exact isub_int ⟨.int _,H,I.tok _,⟨_,rfl⟩,q⟩
end
section
variable {X:Cx}{pos:Pos}
def VW (c:TT) (tb:TS):TS:=λD σ H=>∃W:Nat->St->Hp->Prop,(∃m,W m σ H)/\∀m σ H,W m σ H ->
 c σ H λb H1=>if b=true then ∃N:St->Hp->Prop,(∀σ' H',N σ' H'->∃m',m'<m/\W m' σ' H')/\tb { D with nx:=N,ct:=N,bk:=D.nx } σ H1 else D.nx σ H1
theorem gm {c:Expr}{body:List Stmt}{tc:TT}{tb:TS}(hp:PassesOwn (model X.prog X.w) X.A X.env X.xe) (hc:PT X c tc) (hb:PSs X body tb):PS X (.While c body [] pos) (VW tc tb):=by
 intro pins s σ H D I h
 obtain ⟨W,⟨m0,w0⟩,turn⟩:=h
 refine wpAny_While (codeAny_whileLoop (λn s'=>∃σ' H',Inv X pins σ' H' s'/\W n σ' H') ?_ m0 ⟨σ,H,I,w0⟩)
 rintro n s1 ⟨σ1,H1,I1,w1⟩
 refine wpAny_passesOwn hp (thn (hc pins s1 σ1 H1 _ I1 (turn n σ1 H1 w1)) λb s2 ⟨H2,I2,q2⟩=>?_)
 cases b with
 | true =>
  obtain ⟨N,hN,q2⟩:=q2
  rw [if_pos rfl]
  refine wpAny_passesOwn hp (thn (hb pins s2 σ1 H2 _ I2 q2) λf s3 q3=>?_)
  cases f with
  | next =>
   obtain ⟨σ3,H3,I3,n3⟩:=q3
   obtain ⟨m',hm,w3⟩:=hN σ3 H3 n3
   exact ⟨m',hm,σ3,H3,I3,w3⟩
  | cont =>
   obtain ⟨σ3,H3,I3,n3⟩:=q3
   obtain ⟨m',hm,w3⟩:=hN σ3 H3 n3
   exact ⟨m',hm,σ3,H3,I3,w3⟩
  | brk=>exact q3
  | ret v=>exact q3
 | false =>
  rw [if_neg Bool.false_ne_true]
  exact wpAny_execs_nil ⟨σ1,H2,I2,q2⟩
end
structure It where
 go:Nat->Hp->Prop
 yld:Nat->Hp->V->Hp->Prop
 stop:Nat->Hp->Prop
def wu (X:Cx) (pins:List (Addr×Obj)) (H:Hp) (b:Addr):Prop :=
 H b=none/\b≠X.env.locals/\b∉X.fs/\(b∈X.ex\/X.s₀.heap.objs.size<=b)/\(∀x c,X.env.cells.lookup x=some c->c≠b)/\∀p∈X.pn++pins,p.1≠b
theorem Inv.fpOk {X:Cx}{pins:List (Addr×Obj)}{σ:St}{H H':Hp}{s:Shared}{b:Addr}(I:Inv X pins σ H s) (hb:s.heap.objs.size<=b) (hn:H' b=none):wu X pins H' b:=by
 refine ⟨hn,Nat.ne_of_gt (Nat.lt_of_lt_of_le I.lt hb),I.nofs hb,.inr (Nat.le_trans I.sz hb),λx c e z=>?_,λp hp z=>?_⟩
 ·obtain ⟨v,q⟩:=I.cell x c e
  exact absurd (Nat.lt_of_lt_of_le q.lt (by rw [z];exact hb)) (Nat.lt_irrefl _)
 ·exact absurd (Nat.lt_of_lt_of_le (Heap.lt_size (I.pin p hp).1) (by rw [z];exact hb)) (Nat.lt_irrefl _)
structure Turn (P:Program) (w:World) (K:PySem.W.Frag) (tg:Expr) (J:It) (fp:List Addr) (it:Addr) (tn:Nat->Heap->Prop):Prop where
 mem:it∈fp
 obj:∀i h,tn i h->∀b∈fp,∃o,h.get? b=some o/\∀v,o.data≠.cell v
 keep:∀i h h',tn i h->(∀b∈fp,∀o,h.get? b=some o->h'.get? b=some o)->tn i h'
 item:∀(X:Cx),X.prog=P->X.w=w->X.K=K->X.calm=true->∀(i:Nat) (pins:List (Addr×Obj)) (s:Shared) (σ:St) (H:Hp) (E:Value->Shared->Prop),Inv X pins σ H s->(∀b∈fp,wu X pins H b)->tn i s.heap->J.go i H ->
  wpAny (model P w) X.A (pyNext (.ref it)) (λr s1=>∃u,r=some u /\
   wpAny (model P w) X.A (letOwnedTupleGo tg (.ref it) u) (λ_ s2=>∃x H',Inv X pins σ H' s2/\jE x u/\J.yld i H x H'/\tn (i+1) s2.heap/\∀b∈fp,H' b=none) E s1) E s
 done:∀(X:Cx),X.prog=P->X.w=w->X.K=K->X.calm=true->∀(i:Nat) (pins:List (Addr×Obj)) (s:Shared) (σ:St) (H:Hp) (E:Value->Shared->Prop),Inv X pins σ H s->(∀b∈fp,wu X pins H b)->tn i s.heap->J.stop i H ->
  wpAny (model P w) X.A (pyNext (.ref it)) (λr s1=>r=none/\Inv X pins σ H s1) E s
 self:∀(A:Around) (i:Nat) (s:Shared) (Q:Value->Shared->Prop) (E:Value->Shared->Prop),tn i s.heap->Q (.ref it) s->wpAny (model P w) A (pyIter (.ref it)) Q E s
abbrev TI:=St->Hp->(It->Hp->Prop)->Prop
def PIE (X:Cx) (pins:List (Addr×Obj)) (σ:St) (tg:Expr) (R:It->Hp->Prop) (itv:Value) (s2:Shared):Prop :=
 ∃(it:Addr) (fp:List Addr) (tn:Nat->Heap->Prop) (J:It) (H':Hp),itv = .ref it/\Inv X pins σ H' s2/\Turn X.prog X.w X.K tg J fp it tn/\tn 0 s2.heap/\(∀b∈fp,wu X pins H' b)/\R J H'
def PI (X:Cx) (tg iter:Expr) (wi:TI):Prop :=
 ∀(pins:List (Addr×Obj)) (s:Shared) (σ:St) (H:Hp) (R:It->Hp->Prop),Inv X pins σ H s->wi σ H R ->
  wpAny (model X.prog X.w) X.A (eval iter X.env) (λv s1=>wpAny (model X.prog X.w) X.A (pyIter v) (PIE X pins σ tg R) X.xe s1) X.xe s
theorem Xe {M:Model}{A:Around}{E:Value->Shared->Prop}{s:Shared}{tg:Expr}{it:Addr}{u:Value}{o:Obj}{n:String}{vs:Array Value}{Q:Unit->Shared->Prop}(ho:s.heap.get? it=some o) (hc:o.cls = .type n) (hd:o.data = .fields vs)
  (hn:["enumerate","zip","dict_itemiterator","dict_reverseitemiterator","odict_iterator","itertools.zip_longest","itertools.pairwise"].contains n=false) (hQ:Q () s):wpAny M A (letOwnedTupleGo tg (.ref it) u) Q E s:=by
 unfold letOwnedTupleGo
 cases tg <;> first
  | exact wpAny_pure hQ
  | (cases u <;> first
    | exact wpAny_pure hQ
    | (refine wpAny_bind (wpAny_load ho ?_)
       rw [hc,hd]
       show wpAny M A (if (["enumerate","zip","dict_itemiterator","dict_reverseitemiterator","odict_iterator","itertools.zip_longest","itertools.pairwise"].contains n && vs[0]? == some (rawInt _))=true then _ else _) Q E s
       rw [if_neg (by intro h;rw [hn,Bool.false_and] at h;cases h)]
       exact wpAny_pure hQ))
def Itl (K:PySem.W.Frag) (a:Addr):It :=
 ⟨λi H=>∃xs x,SqL K H a xs/\xs[i]? = some x,λi H x H'=>H'=H/\∀xs,SqL K H a xs->xs[i]? = some x,λi H=>∃xs,SqL K H a xs/\xs.length<=i⟩
def Itt (K:PySem.W.Frag) (a:Addr):It :=
 ⟨λi H=>∃xs x,SqT K H a xs/\xs[i]? = some x,λi H x H'=>H'=H/\∀xs,SqT K H a xs->xs[i]? = some x,λi H=>∃xs,SqT K H a xs/\xs.length<=i⟩
def Itr (lo:Int) (n:Nat):It:=⟨λi _=>i<n,λi H x H'=>H'=H/\x = .int (lo+i),λi _=>n<=i⟩
theorem Vl {P:Program}{w:World}{K:PySem.W.Frag}{tg:Expr}(a it:Addr):Turn P w K tg (Itl K a) [it] it (λi h=>h.IsListIter it a i) where
 mem:=by simp
 obj:=λi h st b hb=>by
  have e:b=it:=by simpa using hb
  subst e
  obtain ⟨o,e,c,d⟩:=st
  exact ⟨o,e,λv z=>by rw [d] at z;cases z⟩
 keep:=λi h h' st k=>st.at λo e=>k it (by simp) o e
 item:=by
  intro X hP hw hK hc i pins s σ H E I hf st hg
  subst hP hw hK
  obtain ⟨xs,x,hq,hx⟩:=hg
  obtain ⟨its,rv,p,hz⟩:=I.list hq
  obtain ⟨u,hu,ru⟩:=rv.get hx
  obtain ⟨f0,f1,f2,f3,f4,f5⟩:=hf it (by simp)
  refine wpAny_pyNext_list_item st p.isList (x:=u) (by simpa using hu) λh' st' sb=>?_
  have I1:Inv X pins σ H { s with heap:=h' }:=I.turned (t':=s.toks) (λb o hb e=>(sb.2 b hb).trans e) f0 f1 f3 f4 f5
  obtain ⟨o,e,c,d⟩:=id st'
  exact ⟨u,rfl,Xe (s:={ s with heap:=h' }) e c d ⋯ ⟨x,H,I1,ru,⟨rfl,λys hy=>by rw [I.list_inj hy hq];exact hx⟩,st',λb hb=>(hf b hb).1⟩⟩
 done:=by
  intro X hP hw hK hc i pins s σ H E I hf st hg
  subst hP hw hK
  obtain ⟨xs,hq,hx⟩:=hg
  obtain ⟨its,rv,p,hz⟩:=I.list hq
  obtain ⟨f0,f1,f2,f3,f4,f5⟩:=hf it (by simp)
  have hl:=rv.length
  exact wpAny_pyNext_list_end (I.ok.hd hc) st p.isList (by simp;omega) λh' eb=>⟨rfl,I.turned (t':=s.toks) (λb o hb e=>eb b o hb e) f0 f1 f3 f4 f5⟩
 self:=λ_ _ _ _ _ st h=>wpAny_pyIter_listiter st h
theorem Zx {P:Program}{w:World}{K:PySem.W.Frag}{tg:Expr}(a it:Addr):Turn P w K tg (Itt K a) [it] it (λi h=>h.IsTupleIter it a i) where
 mem:=by simp
 obj:=λi h st b hb=>by
  have e:b=it:=by simpa using hb
  subst e
  obtain ⟨o,e,c,d⟩:=st
  exact ⟨o,e,λv z=>by rw [d] at z;cases z⟩
 keep:=λi h h' st k=>st.at λo e=>k it (by simp) o e
 item:=by
  intro X hP hw hK hc i pins s σ H E I hf st hg
  subst hP hw hK
  obtain ⟨xs,x,hq,hx⟩:=hg
  obtain ⟨its,rv,p,hz⟩:=I.tuple hq
  obtain ⟨u,hu,ru⟩:=rv.get hx
  obtain ⟨f0,f1,f2,f3,f4,f5⟩:=hf it (by simp)
  refine wpAny_pyNext_tuple_item st (show s.heap.IsTuple a its.toArray from p) (x:=u) (by simpa using hu) λh' st' sb=>?_
  have I1:Inv X pins σ H { s with heap:=h' }:=I.turned (t':=s.toks) (λb o hb e=>(sb.2 b hb).trans e) f0 f1 f3 f4 f5
  obtain ⟨o,e,c,d⟩:=id st'
  exact ⟨u,rfl,Xe (s:={ s with heap:=h' }) e c d ⋯ ⟨x,H,I1,ru,⟨rfl,λys hy=>by rw [I.tuple_inj hy hq];exact hx⟩,st',λb hb=>(hf b hb).1⟩⟩
 done:=by
  intro X hP hw hK hc i pins s σ H E I hf st hg
  subst hP hw hK
  obtain ⟨xs,hq,hx⟩:=hg
  obtain ⟨its,rv,p,hz⟩:=I.tuple hq
  obtain ⟨f0,f1,f2,f3,f4,f5⟩:=hf it (by simp)
  have hl:=rv.length
  exact wpAny_pyNext_tuple_end (I.ok.hd hc) st (show s.heap.IsTuple a its.toArray from p) (by simp;omega) λh' eb=>⟨rfl,I.turned (t':=s.toks) (λb o hb e=>eb b o hb e) f0 f1 f3 f4 f5⟩
 self:=λ_ _ _ _ _ st h=>wpAny_pyIter_tupleiter st h
theorem kA {P:Program}{w:World}{K:PySem.W.Frag}{tg:Expr}(it:Addr) (lo:Int) (n:Nat):Turn P w K tg (Itr lo n) [it] it (λi h=>IsRangeIter h it (lo+(i:Nat)*1) ((n:Int)-(i:Nat)) 1) where
 mem:=by simp
 obj:=λi h st b hb=>by
  have e:b=it:=by simpa using hb
  subst e
  exact ⟨_,st,λv z=>by
   have z':Data.fields _=Data.cell v:=z
   cases z'⟩
 keep:=λi h h' st k=>k it (by simp) _ st
 item:=by
  intro X hP hw hK hc i pins s σ H E I hf st hg
  subst hP hw hK
  obtain ⟨f0,f1,f2,f3,f4,f5⟩:=hf it (by simp)
  have W:=Walks.range (prog:=X.prog) (w:=X.w) (I.ok.hd hc) it lo 1 n
  refine W.item i s _ _ hg st λv h' tk hv st' kk=>?_
  obtain ⟨t,rfl⟩:=hv
  have I1:Inv X pins σ H { s with heap:=h',toks:=tk }:=I.turned (λb o hb e=>kk b o (by simpa using hb) e) f0 f1 f3 f4 f5
  refine ⟨_,rfl,Xe (s:={ s with heap:=h',toks:=tk }) (n:="range_iterator") st' rfl rfl ⋯ ⟨.int (lo+i),H,I1,⟨t,?_⟩,⟨rfl,rfl⟩,st',λb hb=>(hf b hb).1⟩⟩
  rw [Int.mul_one]
 done:=by
  intro X hP hw hK hc i pins s σ H E I hf st hg
  subst hP hw hK
  obtain ⟨f0,f1,f2,f3,f4,f5⟩:=hf it (by simp)
  exact wpAny_pyNext_range_end (I.ok.hd hc) st (by have:n<=i:=hg;omega) λh' eb=>⟨rfl,I.turned (t':=s.toks) (λb o hb e=>eb b o hb e) f0 f1 f3 f4 f5⟩
 self:=λ_ _ _ _ _ st h=>wpAny_pyIter_rangeiter st h
end L2
namespace L2
section
variable {X:Cx}{tg:Expr}
def WM (K:PySem.W.Frag) (tl:TE):TI:=λσ H R=>tl σ H λx H1=>∃a,x = .ref a/\(∃xs,SqL K H1 a xs)/\R (Itl K a) H1
def EN (K:PySem.W.Frag) (tl:TE):TI:=λσ H R=>tl σ H λx H1=>∃a,x = .ref a/\(∃xs,SqT K H1 a xs)/\R (Itt K a) H1
theorem UV {l:Expr}{tl:TE}(hl:PE X l tl):PI X tg l (WM X.K tl):=by
 intro pins s σ H R I h
 refine thn (hl pins s σ H _ I h) λv s1 ⟨x,H1,I1,r1,q1⟩=>?_
 obtain ⟨a,e,⟨xs,hq⟩,q⟩:=q1
 subst e
 cases r1
 obtain ⟨its,rv,p,hz⟩:=I1.list hq
 refine wpAny_pyIter_list p.isList ?_
 refine ⟨s1.heap.objs.size,[s1.heap.objs.size],_,_,H1,rfl,I1.kept (t':=s1.toks) λb o e=>Heap.get?_push_of_some _ e,Vl a _,⟨_,Heap.get?_push_size _ rfl,rfl,rfl⟩,λb hb=>?_,q⟩
 have e:b=s1.heap.objs.size:=by simpa using hb
 subst e
 exact I1.fpOk (Nat.le_refl _) (I1.hok.fresh (Nat.le_refl _))
theorem GF {l:Expr}{tl:TE}(hl:PE X l tl):PI X tg l (EN X.K tl):=by
 intro pins s σ H R I h
 refine thn (hl pins s σ H _ I h) λv s1 ⟨x,H1,I1,r1,q1⟩=>?_
 obtain ⟨a,e,⟨xs,hq⟩,q⟩:=q1
 subst e
 cases r1
 obtain ⟨its,rv,p,hz⟩:=I1.tuple hq
 refine wpAny_pyIter_tuple (show s1.heap.IsTuple a its.toArray from p) ?_
 refine ⟨s1.heap.objs.size,[s1.heap.objs.size],_,_,H1,rfl,I1.kept (t':=s1.toks) λb o e=>Heap.get?_push_of_some _ e,Zx a _,⟨_,Heap.get?_push_size _ rfl,rfl,rfl⟩,λb hb=>?_,q⟩
 have e:b=s1.heap.objs.size:=by simpa using hb
 subst e
 exact I1.fpOk (Nat.le_refl _) (I1.hok.fresh (Nat.le_refl _))
theorem Xp {pins:List (Addr×Obj)}{σ:St}{H:Hp}{s:Shared}{R:It->Hp->Prop}{E:Value->Shared->Prop}{lo hi:Int}{t u v:Tok}{tk:Nat}(I:Inv X pins σ H s) (h1 : -(2 ^ 62)<=lo) (h2:lo<2 ^ 62) (h3 : -(2 ^ 62)<=hi) (h4:hi<2 ^ 62)
  (q:R (Itr lo (hi-lo).toNat) H):wpAny (model X.prog X.w) X.A (pyIter (.ref s.heap.objs.size)) (PIE X pins σ tg R) E { s with heap:=s.heap.push { cls:=.type "range",data:=.fields #[.int lo t,.int hi u,.int 1 v] },toks:=tk }:=by
 refine wpAny_pyIter_range (IsRange.new ..) (small_one h1 h2 h3 h4) ?_
 have I1:Inv X pins σ H { s with heap:=s.heap.push { cls:=.type "range",data:=.fields #[.int lo t,.int hi u,.int 1 v] },toks:=tk }:=I.kept λb o e=>Heap.get?_push_of_some _ e
 refine ⟨(s.heap.push { cls:=.type "range",data:=.fields #[.int lo t,.int hi u,.int 1 v] }).objs.size,[(s.heap.push { cls:=.type "range",data:=.fields #[.int lo t,.int hi u,.int 1 v] }).objs.size],_,_,H,rfl,
  I1.kept (t':=tk) λb o e=>Heap.get?_push_of_some _ e,kA _ lo (hi-lo).toNat,?_,λb hb=>?_,q⟩
 ·have e1:lo+((0:Nat):Int)*1=lo:=by simp
  have e2:(((hi-lo).toNat:Nat):Int)-((0:Nat):Int)=Builtin.Range.rangeSize lo hi 1:=by rw [rangeSize_one];split <;> omega
  show IsRangeIter _ _ (lo+((0:Nat):Int)*1) ((((hi-lo).toNat:Nat):Int)-((0:Nat):Int)) 1
  rw [e1,e2]
  exact Heap.get?_push_size _ rfl
 ·have e:b=(s.heap.push { cls:=.type "range",data:=.fields #[.int lo t,.int hi u,.int 1 v] }).objs.size:=by simpa using hb
  subst e
  exact I1.fpOk (Nat.le_refl _) (I1.hok.fresh (Nat.le_refl _))
def Eo (ta:TA):TI:=λσ H R=>ta σ H λvs H1=>∃j:Int,vs=[.int j] /\ -(2 ^ 62)<=j/\j<2 ^ 62/\R (Itr 0 j.toNat) H1
def ES (ta:TA):TI:=λσ H R=>ta σ H λvs H1=>∃i j:Int,vs=[.int i,.int j]/\(-(2 ^ 62)<=i/\i<2 ^ 62 /\ -(2 ^ 62)<=j/\j<2 ^ 62)/\R (Itr i (j-i).toNat) H1
theorem qc {a:Expr}{ta:TA}{p pos:Pos}(hg:Gl X "range") (hm:X.mg "range" = none) (ha:PA X [a] ta) (hs:starEach [a] X.env=[(false,eval a X.env)]:=by rfl):PI X tg (.Call (.Name "range" p) [a] [] pos) (Eo ta):=by
 intro pins s σ H R I h
 refine Call_ (zX I hg hm boot_range (PyProof.Rows.callWith_type1 (thn (ha pos pins s σ H _ I h) λus s1 ⟨vs,H1,I1,r1,q1⟩=>?_) hs rfl))
 obtain ⟨j,e,q1,q2,q⟩:=q1
 subst e
 cases r1 with
 | cons r rr =>
  cases rr
  obtain ⟨t,rfl⟩:=r
  exact call_range_1 (Xp I1 ∅ ∅ q1 q2 (by simpa using q))
theorem YU {a b:Expr}{ta:TA}{p pos:Pos}(hg:Gl X "range") (hm:X.mg "range" = none) (ha:PA X [a,b] ta) (hs:starEach [a,b] X.env=[(false,eval a X.env),(false,eval b X.env)]:=by rfl) (hs2:starEach [b] X.env=[(false,eval b X.env)]:=by rfl) :
  PI X tg (.Call (.Name "range" p) [a,b] [] pos) (ES ta):=by
 intro pins s σ H R I h
 refine Call_ (zX I hg hm boot_range (PyProof.Rows.callWith_type1 (thn (ha pos pins s σ H _ I h) λus s1 ⟨vs,H1,I1,r1,q1⟩=>?_) (by rw [hs,hs2]) (by rw [hs2];rfl)))
 obtain ⟨i,j,e,⟨q1,q2,q3,q4⟩,q⟩:=q1
 subst e
 cases r1 with
 | cons r rr =>
  cases rr with
  | cons r' rr =>
   cases rr
   obtain ⟨t,rfl⟩:=r
   obtain ⟨t',rfl⟩:=r'
   exact call_range_2 (Xp I1 q1 q2 q3 q4 q)
def tFor (wi:TI) (g:TG) (tb:TS):TS:=λD σ H=>wi σ H λJ H1=>∃W:Nat->Nat->St->Hp->Prop,(∃m,W 0 m σ H1)/\∀i m σ H,W i m σ H ->
 (J.stop i H/\D.nx σ H)\/(J.go i H/\∃N:St->Hp->Prop,(∀σ' H',N σ' H'->∃m',m'<m/\W (i+1) m' σ' H')/\∀x H',J.yld i H x H'->g x σ H' λσ2 H2=>tb { D with nx:=N,ct:=N,bk:=D.nx } σ2 H2)
def zB (fp:List Addr) (h:Heap):List (Addr×Obj):=fp.filterMap λb=>(h.get? b).map λo=>(b,o)
theorem qX {fp:List Addr}{h:Heap}{b:Addr}{o:Obj}(hb:b∈fp) (e:h.get? b=some o):(b,o)∈zB fp h:=List.mem_filterMap.mpr ⟨b,hb,by rw [e];rfl⟩
theorem YT {fp:List Addr}{h:Heap}{p:Addr×Obj}(hp:p∈zB fp h):p.1∈fp/\h.get? p.1=some p.2:=by
 obtain ⟨b,hb,e⟩:=List.mem_filterMap.mp hp
 cases q:h.get? b with
 | none=>rw [q] at e;cases e
 | some o =>
  rw [q] at e
  have e':(b,o)=p:=Option.some.inj e
  subst e'
  exact ⟨hb,q⟩
theorem Inv.pinned {pins:List (Addr×Obj)}{σ:St}{H:Hp}{s:Shared}{fp:List Addr}(I:Inv X pins σ H s) (hf:∀b∈fp,wu X pins H b) (ho:∀b∈fp,∃o,s.heap.get? b=some o/\∀v,o.data≠.cell v):Inv X (pins++zB fp s.heap) σ H s :=
 I.pins_of λp hp=>(List.mem_append.mp hp).elim (λz=>I.pin p (List.mem_append_right _ z)) λz=>by
  obtain ⟨hb,e⟩:=YT z
  obtain ⟨f0,f1,f2,_⟩:=hf p.1 hb
  obtain ⟨o,e',d⟩:=ho p.1 hb
  rw [e] at e';cases e'
  exact ⟨e,f0,f1,f2,d⟩
theorem Inv.unpinned {pins pl:List (Addr×Obj)}{σ:St}{H:Hp}{s:Shared}(I:Inv X (pins++pl) σ H s):Inv X pins σ H s:=I.pins_of λp hp=>I.pin p (List.mem_append_right _ (List.mem_append_left _ hp))
theorem xc {iter:Expr}{body:List Stmt}{wi:TI}{g:TG}{tb:TS}{pos:Pos}(hp:PassesOwn (model X.prog X.w) X.A X.env X.xe) (hc:X.calm=true) (hi:PI X tg iter wi) (hg:PG X tg g) (hb:PSs X body tb)
  (hs:∀x,foldedSetIterable iter X.env x=pure x:=by intro _;rfl):PS X (.For tg iter body [] pos) (tFor wi g tb):=by
 intro pins s σ H D I h
 refine wpAny_For (thn (hi pins s σ H _ I h) λv s1 h1=>thn h1 λitv s2 h2=>?_) hs
 obtain ⟨it,fp,tn,J,H2,e,I2,T,st2,f2,W,⟨m0,w0⟩,turn⟩:=h2
 subst e
 have stat:∀{H':Hp},(∀b∈fp,H' b=none)->∀b∈fp,wu X pins H' b:=λhn b hb=>⟨hn b hb,(f2 b hb).2⟩
 refine codeAny_forLoop_any (λn s'=>∃i σ' H',Inv X pins σ' H' s'/\tn i s'.heap/\(∀b∈fp,H' b=none)/\W i n σ' H') ?_ m0 ⟨0,σ,H2,I2,st2,λb hb=>(f2 b hb).1,w0⟩
 rintro n s3 ⟨i,σ3,H3,I3,st3,fr3,w3⟩
 rcases turn i n σ3 H3 w3 with ⟨stop,qn⟩ | ⟨go,N,hN,step⟩
 ·refine wpAny_passesOwn hp (thn (T.done X rfl rfl rfl hc i pins s3 σ3 H3 X.xe I3 (stat fr3) st3 stop) λr s4 ⟨hr,I4⟩=>?_)
  subst hr
  exact wpAny_execs_nil ⟨σ3,H3,I4,qn⟩
 ·refine wpAny_passesOwn hp (thn (T.item X rfl rfl rfl hc i pins s3 σ3 H3 X.xe I3 (stat fr3) st3 go) λr s4 ⟨u,hr,h4⟩=>?_)
  subst hr
  refine wpAny_passesOwn hp (thn h4 λ_ s5 ⟨x,H5,I5,r5,y5,st5,fr5⟩=>?_)
  have I5':=I5.pinned (stat fr5) (T.obj _ _ st5)
  refine wpAny_passesOwn hp (thn (hg _ s5 σ3 H5 x u _ I5' r5 (step x H5 y5)) λ_ s6 ⟨σ6,H6,I6,q6⟩=>?_)
  refine wpAny_passesOwn hp (thn (hb _ s6 σ6 H6 _ I6 q6) λf s7 q7=>?_)
  have again:∀{σ7:St} {H7:Hp},Inv X (pins++zB fp s5.heap) σ7 H7 s7->N σ7 H7->∃m,m<n/\∃i σ' H',Inv X pins σ' H' s7/\tn i s7.heap/\(∀b∈fp,H' b=none)/\W i m σ' H':=λ{σ7 H7} I7 n7=>by
   obtain ⟨m',hm,w7⟩:=hN σ7 H7 n7
   refine ⟨m',hm,i+1,σ7,H7,I7.unpinned,T.keep _ _ _ st5 λb hb o e=>(I7.pin (b,o) (List.mem_append_right _ (List.mem_append_right _ (qX hb e)))).1,λb hb=>?_,w7⟩
   obtain ⟨o,e,d⟩:=T.obj _ _ st5 b hb
   exact (I7.pin (b,o) (List.mem_append_right _ (List.mem_append_right _ (qX hb e)))).2.1
  cases f with
  | next=>obtain ⟨σ7,H7,I7,n7⟩:=q7;exact again I7 n7
  | cont=>obtain ⟨σ7,H7,I7,n7⟩:=q7;exact again I7 n7
  | brk=>obtain ⟨σ7,H7,I7,q7⟩:=q7;exact ⟨σ7,H7,I7.unpinned,q7⟩
  | ret v=>obtain ⟨x7,σ7,H7,I7,r7,q7⟩:=q7;exact ⟨x7,σ7,H7,I7.unpinned,r7,q7⟩
end
theorem uK {K:PySem.W.Frag}{a:Addr}{xs:List V}{g:TG}{tb:TS}{D:Ends}{σ:St}{H:Hp}(Pv:Nat->St->Hp->Prop) (h0:Pv 0 σ H) (hl:∀i σ H,i<=xs.length->Pv i σ H->SqL K H a xs)
  (hs:∀i x σ H,xs[i]? = some x->Pv i σ H->g x σ H λσ2 H2=>tb { D with nx:=Pv (i+1),ct:=Pv (i+1),bk:=D.nx } σ2 H2) (hd:∀σ H,Pv xs.length σ H->D.nx σ H) :
  ∃W:Nat->Nat->St->Hp->Prop,(∃m,W 0 m σ H)/\∀i m σ H,W i m σ H ->
   ((Itl K a).stop i H/\D.nx σ H)\/((Itl K a).go i H/\∃N:St->Hp->Prop,(∀σ' H',N σ' H'->∃m',m'<m/\W (i+1) m' σ' H')/\∀x H',(Itl K a).yld i H x H'->g x σ H' λσ2 H2=>tb { D with nx:=N,ct:=N,bk:=D.nx } σ2 H2):=by
 refine ⟨λi m σ H=>m=xs.length-i/\i<=xs.length/\Pv i σ H,⟨xs.length,by simp,Nat.zero_le _,h0⟩,?_⟩
 rintro i m σ H ⟨rfl,hi,p⟩
 have q:=hl i σ H hi p
 by_cases hlt:i<xs.length
 ·refine .inr ⟨⟨xs,xs[i],q,by simp [hlt]⟩,Pv (i+1),λσ' H' p'=>⟨xs.length-(i+1),∅,rfl,hlt,p'⟩,λx H' y=>?_⟩
  obtain ⟨e,y⟩:=y
  subst e
  exact hs i x σ _ (y xs q) p
 ·have e:i=xs.length:=∅
  subst e
  exact .inl ⟨⟨xs,q,Nat.le_refl _⟩,hd σ H p⟩
theorem WK {K:PySem.W.Frag}{a:Addr}{xs:List V}{g:TG}{tb:TS}{D:Ends}{σ:St}{H:Hp}(Pv:Nat->St->Hp->Prop) (h0:Pv 0 σ H) (hl:∀i σ H,i<=xs.length->Pv i σ H->SqT K H a xs)
  (hs:∀i x σ H,xs[i]? = some x->Pv i σ H->g x σ H λσ2 H2=>tb { D with nx:=Pv (i+1),ct:=Pv (i+1),bk:=D.nx } σ2 H2) (hd:∀σ H,Pv xs.length σ H->D.nx σ H) :
  ∃W:Nat->Nat->St->Hp->Prop,(∃m,W 0 m σ H)/\∀i m σ H,W i m σ H ->
   ((Itt K a).stop i H/\D.nx σ H)\/((Itt K a).go i H/\∃N:St->Hp->Prop,(∀σ' H',N σ' H'->∃m',m'<m/\W (i+1) m' σ' H')/\∀x H',(Itt K a).yld i H x H'->g x σ H' λσ2 H2=>tb { D with nx:=N,ct:=N,bk:=D.nx } σ2 H2):=by
 refine ⟨λi m σ H=>m=xs.length-i/\i<=xs.length/\Pv i σ H,⟨xs.length,by simp,Nat.zero_le _,h0⟩,?_⟩
 rintro i m σ H ⟨rfl,hi,p⟩
 have q:=hl i σ H hi p
 by_cases hlt:i<xs.length
 ·refine .inr ⟨⟨xs,xs[i],q,by simp [hlt]⟩,Pv (i+1),λσ' H' p'=>⟨xs.length-(i+1),∅,rfl,hlt,p'⟩,λx H' y=>?_⟩
  obtain ⟨e,y⟩:=y
  subst e
  exact hs i x σ _ (y xs q) p
 ·have e:i=xs.length:=∅
  subst e
  exact .inl ⟨⟨xs,q,Nat.le_refl _⟩,hd σ H p⟩
theorem xw {lo:Int}{n:Nat}{g:TG}{tb:TS}{D:Ends}{σ:St}{H:Hp}(Pv:Nat->St->Hp->Prop) (h0:Pv 0 σ H)
  (hs:∀i σ H,i<n->Pv i σ H->g (.int (lo+i)) σ H λσ2 H2=>tb { D with nx:=Pv (i+1),ct:=Pv (i+1),bk:=D.nx } σ2 H2) (hd:∀σ H,Pv n σ H->D.nx σ H) :
  ∃W:Nat->Nat->St->Hp->Prop,(∃m,W 0 m σ H)/\∀i m σ H,W i m σ H ->
   ((Itr lo n).stop i H/\D.nx σ H)\/((Itr lo n).go i H/\∃N:St->Hp->Prop,(∀σ' H',N σ' H'->∃m',m'<m/\W (i+1) m' σ' H')/\∀x H',(Itr lo n).yld i H x H'->g x σ H' λσ2 H2=>tb { D with nx:=N,ct:=N,bk:=D.nx } σ2 H2):=by
 refine ⟨λi m σ H=>m=n-i/\i<=n/\Pv i σ H,⟨n,by simp,Nat.zero_le _,h0⟩,?_⟩
 rintro i m σ H ⟨rfl,hi,p⟩
 by_cases hlt:i<n
 ·refine .inr ⟨hlt,Pv (i+1),λσ' H' p'=>⟨n-(i+1),∅,rfl,hlt,p'⟩,λx H' y=>?_⟩
  obtain ⟨e,y⟩:=y
  subst e y
  exact hs i σ _ hlt p
 ·have e:i=n:=∅
  subst e
  exact .inl ⟨Nat.le_refl _,hd σ H p⟩
theorem gj {c:TT}{tb:TS}{D:Ends}{σ:St}{H:Hp}(Pv:St->Hp->Prop) (μ:St->Hp->Nat) (h0:Pv σ H)
  (hs:∀σ H,Pv σ H->c σ H λb H1=>if b=true then tb { D with nx:=λσ' H'=>Pv σ' H'/\μ σ' H'<μ σ H,ct:=λσ' H'=>Pv σ' H'/\μ σ' H'<μ σ H,bk:=D.nx } σ H1 else D.nx σ H1)
  (mono:∀σ H Q Q',(∀b H1,Q b H1->Q' b H1)->c σ H Q->c σ H Q'):VW c tb D σ H:=by
 refine ⟨λm σ H=>m=μ σ H/\Pv σ H,⟨_,rfl,h0⟩,?_⟩
 rintro m σ H ⟨rfl,p⟩
 refine mono σ H _ _ (λb H1 q=>?_) (hs σ H p)
 cases b with
 | true=>exact ⟨_,λσ' H' ⟨p',l⟩=>⟨_,l,rfl,p'⟩,q⟩
 | false=>exact q
end L2
namespace L2
abbrev R2:=V->V->Hp->VK->Prop
def OpR (X:Cx) (f:Value->Value->Sem Value) (r:R2):Prop :=
 ∀(pins:List (Addr×Obj)) (s:Shared) (σ:St) (H:Hp) (x y:V) (v u:Value) (Q:VK),Inv X pins σ H s->jE x v->jE y u->r x y H Q ->
  wpAny (model X.prog X.w) X.A (f v u) (EP X pins σ Q) X.xe s
def UnR (X:Cx) (f:Value->Sem Value) (r:V->Hp->VK->Prop):Prop :=
 ∀(pins:List (Addr×Obj)) (s:Shared) (σ:St) (H:Hp) (x:V) (v:Value) (Q:VK),Inv X pins σ H s->jE x v->r x H Q ->
  wpAny (model X.prog X.w) X.A (f v) (EP X pins σ Q) X.xe s
def xb (X:Cx) (f:Value) (r:List V->Hp->VK->Prop):Prop :=
 ∀(pins:List (Addr×Obj)) (s:Shared) (σ:St) (H:Hp) (xs:List V) (us:List Value) (Q:VK),Inv X pins σ H s->jD xs us->r xs H Q ->
  wpAny (model X.prog X.w) X.A (call f us) (EP X pins σ Q) X.xe s
def TruR (X:Cx) (r:V->Hp->(Bool->Hp->Prop)->Prop):Prop :=
 ∀(pins:List (Addr×Obj)) (s:Shared) (σ:St) (H:Hp) (x:V) (v:Value) (Q:Bool->Hp->Prop),Inv X pins σ H s->jE x v->r x H Q ->
  wpAny (model X.prog X.w) X.A (truthy v) (TP X pins σ Q) X.xe s
def tOp (r:R2) (ta tb:TE):TE:=λσ H Q=>ta σ H λx H1=>tb σ H1 λy H2=>r x y H2 Q
def tUn (r:V->Hp->VK->Prop) (ta:TE):TE:=λσ H Q=>ta σ H λx H1=>r x H1 Q
def rI (C:Int->Int->Prop) (g:Int->Int->V):R2:=λx y H Q=>∃i j,x = .int i/\y = .int j/\C i j/\Q (g i j) H
def rI0 (g:Int->Int->V):R2:=λx y H Q=>∃i j,x = .int i/\y = .int j/\Q (g i j) H
def rU (g:Int->V):V->Hp->VK->Prop:=λx H Q=>∃i,x = .int i/\Q (g i) H
section
variable {X:Cx}{a b c:Expr}{ta tb tc:TE}{pos:Pos}
theorem Gk (ha:PE X a ta) (hb:PE X b tb) {pins:List (Addr×Obj)}{s:Shared}{σ:St}{H:Hp}{R:V->V->Hp->Prop}(I:Inv X pins σ H s)
  (h:ta σ H λx H1=>tb σ H1 λy H2=>R x y H2) {Q:Value->Shared->Prop} {f:Value->Value->Sem Value}
  (hf:∀v u s2 x y H2,Inv X pins σ H2 s2->jE x v->jE y u->R x y H2->wpAny (model X.prog X.w) X.A (f v u) Q X.xe s2) :
  wpAny (model X.prog X.w) X.A (eval a X.env) (λv s₁=>wpAny (model X.prog X.w) X.A (eval b X.env) (λu s₂=>wpAny (model X.prog X.w) X.A (f v u) Q X.xe s₂) X.xe s₁) X.xe s:=by
 refine thn (ha pins s σ H _ I h) λv s1 ⟨x,H1,I1,r1,q1⟩=>?_
 refine thn (hb pins s1 σ H1 _ I1 q1) λu s2 ⟨y,H2,I2,r2,q2⟩=>?_
 exact hf v u s2 x y H2 I2 r1 r2 q2
theorem jk {op:Operator}{r:R2}(ho:OpR X (binaryOp op) r) (ha:PE X a ta) (hb:PE X b tb):PE X (.BinOp a op b pos) (tOp r ta tb):=by
 intro pins s σ H Q I h
 exact wpAny_BinOp (Gk ha hb I h λv u s2 x y H2 I2 rx ry q=>ho pins s2 σ H2 x y v u Q I2 rx ry q)
theorem ya {op:UnaryOp}{r:V->Hp->VK->Prop}(ho:UnR X (unaryOp op) r) (ha:PE X a ta):PE X (.UnaryOp op a pos) (tUn r ta):=by
 intro pins s σ H Q I h
 exact UnaryOp_ (thn (ha pins s σ H _ I h) λv s1 ⟨x,H1,I1,r1,q1⟩=>ho pins s1 σ H1 x v Q I1 r1 q1)
theorem opI {f:Value->Value->Sem Value}{C:Int->Int->Prop}{g:Int->Int->Int}
  (rule:∀(i j:Int) (t u:Tok) (s:Shared) (Q:Value->Shared->Prop) (E:Value->Shared->Prop),C i j->Q (.int (g i j) s.toks) { s with toks:=s.toks+1 }->wpAny (model X.prog X.w) X.A (f (.int i t) (.int j u)) Q E s) :
  OpR X f (rI C λi j=>.int (g i j)):=by
 intro pins s σ H x y v u Q I rx ry h
 obtain ⟨i,j,rfl,rfl,hc,q⟩:=h
 obtain ⟨t,rfl⟩:=rx
 obtain ⟨t',rfl⟩:=ry
 exact rule i j t t' s _ _ hc ⟨.int (g i j),H,I.tok _,⟨_,rfl⟩,q⟩
theorem EM {f:Value->Value->Sem Value}{g:Int->Int->Int}
  (rule:∀(i j:Int) (t u:Tok) (s:Shared) (Q:Value->Shared->Prop) (E:Value->Shared->Prop),Q (.int (g i j) s.toks) { s with toks:=s.toks+1 }->wpAny (model X.prog X.w) X.A (f (.int i t) (.int j u)) Q E s) :
  OpR X f (rI0 λi j=>.int (g i j)):=by
 intro pins s σ H x y v u Q I rx ry h
 obtain ⟨i,j,rfl,rfl,q⟩:=h
 obtain ⟨t,rfl⟩:=rx
 obtain ⟨t',rfl⟩:=ry
 exact rule i j t t' s _ _ ⟨.int (g i j),H,I.tok _,⟨_,rfl⟩,q⟩
theorem UD {f:Value->Value->Sem Value}{g:Int->Int->Bool}
  (rule:∀(i j:Int) (t u:Tok) (s:Shared) (Q:Value->Shared->Prop) (E:Value->Shared->Prop),Q (.bool (g i j)) s->wpAny (model X.prog X.w) X.A (f (.int i t) (.int j u)) Q E s) :
  OpR X f (rI0 λi j=>.bl (g i j)):=by
 intro pins s σ H x y v u Q I rx ry h
 obtain ⟨i,j,rfl,rfl,q⟩:=h
 obtain ⟨t,rfl⟩:=rx
 obtain ⟨t',rfl⟩:=ry
 exact rule i j t t' s _ _ ⟨.bl (g i j),H,I,rfl,q⟩
def Er (i j:Int):Prop:=0<=j/\j<=1000000/\i.natAbs<2 ^ 64
def VQ (i j:Int):Prop:=(-(2 ^ 64)<i/\i<2 ^ 64)\/(-(2 ^ 64)<j/\j<2 ^ 64)
theorem VQ.ok {i j:Int}(h:VQ i j):IntMulOk i j:=by
 rcases h with ⟨h1,h2⟩ | ⟨h1,h2⟩
 ·exact .of_left (intBits_le_64 h1 h2)
 ·exact .of_right (intBits_le_64 h1 h2)
theorem jG:OpR X (binaryOp .Add) (rI0 λi j=>.int (i+j)):=EM λ_ _ _ _ _ _ _ q=>add_int q
theorem qN:OpR X (binaryOp .Sub) (rI0 λi j=>.int (i-j)):=EM λ_ _ _ _ _ _ _ q=>sub_int q
theorem yM:OpR X (binaryOp .Mult) (rI VQ λi j=>.int (i*j)):=opI λ_ _ _ _ _ _ _ hc q=>mul_int q hc.ok
theorem zq:OpR X (binaryOp .Mod) (rI (λ_ j=>0<j) λi j=>.int (i % j)):=opI λi j _ _ _ _ _ hc q=>by
 have h1:(0:Int)<j:=hc
 exact mod_int' ∅ (by rw [Int.fmod_eq_emod_of_nonneg i ∅];exact q)
theorem kH:OpR X (binaryOp .Pow) (rI Er λi j=>.int (i ^ j.toNat)):=opI λ_ _ _ _ _ _ _ hc q=>pow_int_small hc.1 hc.2.1 hc.2.2 q
theorem unI {f:Value->Sem Value}{g:Int->Int}
  (rule:∀(i:Int) (t:Tok) (s:Shared) (Q:Value->Shared->Prop) (E:Value->Shared->Prop),Q (.int (g i) s.toks) { s with toks:=s.toks+1 }->wpAny (model X.prog X.w) X.A (f (.int i t)) Q E s) :
  UnR X f (rU λi=>.int (g i)):=by
 intro pins s σ H x v Q I rx h
 obtain ⟨i,rfl,q⟩:=h
 obtain ⟨t,rfl⟩:=rx
 exact rule i t s _ _ ⟨.int (g i),H,I.tok _,⟨_,rfl⟩,q⟩
theorem xN:UnR X (unaryOp .USub) (rU λi=>.int (-i)):=unI λ_ _ _ _ _ q=>neg_int q
end
def ED:V->V->Bool
 | .non,.non=>true | .non,.int _=>true | .int _,.non=>true | .non,.bl _=>true | .bl _,.non=>true | .non,.str _=>true | .str _,.non=>true
 | .int _,.int _=>true | .bl _,.bl _=>true | .str _,.str _=>true | .byt _,.byt _=>true
 | .int _,.str _=>true | .str _,.int _=>true | .bl _,.str _=>true | .str _,.bl _=>true
 | _,_=>false
def rEq:R2:=λx y H Q=>ED x y=true/\Q (.bl (decide (x=y))) H
def rNe:R2:=λx y H Q=>ED x y=true/\Q (.bl (!decide (x=y))) H
theorem Ym {i j:Int}:decide (V.int i=V.int j)=(i == j):=by
 rw [Bool.eq_iff_iff]
 simp
theorem U3 {i j:Bool}:decide (V.bl i=V.bl j)=(i == j):=by
 rw [Bool.eq_iff_iff]
 simp
theorem Y7 {i j:Str}:decide (V.str i=V.str j)=(i == j):=by
 rw [Bool.eq_iff_iff]
 simp
theorem ZT {i j:Array UInt8}:decide (V.byt i=V.byt j)=(i.toList == j.toList):=by
 rw [Bool.eq_iff_iff]
 cases i
 cases j
 simp
section
variable {X:Cx}{a b c:Expr}{ta tb tc:TE}{pos:Pos}
theorem jT {pins:List (Addr×Obj)}{σ:St}{H:Hp}{s:Shared}{Q:VK}{k k':Bool}(I:Inv X pins σ H s) (q:Q (.bl k) H) (e:k=k'):EP X pins σ Q (.bool k') s:=by
 subst e
 exact ⟨.bl k,H,I,rfl,q⟩
theorem wJ:OpR X (compareOp .Eq) rEq:=by
 intro pins s σ H x y v u Q I rx ry h
 obtain ⟨hs,q⟩:=h
 cases x with
 | non =>
  cases rx
  cases y with
  | non=>cases ry;exact PySem.EqNone.eq_none_none (jT I q (by simp))
  | bl j=>cases ry;exact PySem.EqNone.eq_none_bool (jT I q (by simp))
  | int j=>obtain ⟨t',rfl⟩:=ry;exact PySem.EqNone.eq_none_int (jT I q (by simp))
  | str j=>obtain ⟨t',rfl⟩:=ry;exact PySem.EqNone.eq_none_str (jT I q (by simp))
  | _=>exact absurd (show false=true from hs) Bool.false_ne_true
 | bl i =>
  cases rx
  cases y with
  | non=>cases ry;exact PySem.EqNone.eq_bool_none (jT I q (by simp))
  | bl j=>cases ry;exact eq_bool (jT I q U3)
  | str j=>obtain ⟨t',rfl⟩:=ry;exact PySem.EqMixed.eq_bool_str (jT I q (by simp))
  | _=>exact absurd (show false=true from hs) Bool.false_ne_true
 | int i =>
  obtain ⟨t,rfl⟩:=rx
  cases y with
  | non=>cases ry;exact PySem.EqNone.eq_int_none (jT I q (by simp))
  | int j=>obtain ⟨t',rfl⟩:=ry;exact eq_int (jT I q Ym)
  | str j=>obtain ⟨t',rfl⟩:=ry;exact PySem.EqMixed.eq_int_str (jT I q (by simp))
  | _=>exact absurd (show false=true from hs) Bool.false_ne_true
 | str i =>
  obtain ⟨t,rfl⟩:=rx
  cases y with
  | non=>cases ry;exact PySem.EqNone.eq_str_none (jT I q (by simp))
  | bl j=>cases ry;exact PySem.EqMixed.eq_str_bool (jT I q (by simp))
  | int j=>obtain ⟨t',rfl⟩:=ry;exact PySem.EqMixed.eq_str_int (jT I q (by simp))
  | str j=>obtain ⟨t',rfl⟩:=ry;exact eq_str (jT I q Y7)
  | _=>exact absurd (show false=true from hs) Bool.false_ne_true
 | byt i =>
  obtain ⟨t,rfl⟩:=rx
  cases y with
  | byt j=>obtain ⟨t',rfl⟩:=ry;exact PySem.W.eq_bytes (jT I q ZT)
  | _=>exact absurd (show false=true from hs) Bool.false_ne_true
 | _=>cases y <;> exact absurd (show false=true from hs) Bool.false_ne_true
theorem Y3:OpR X (compareOp .NotEq) rNe:=by
 intro pins s σ H x y v u Q I rx ry h
 obtain ⟨hs,q⟩:=h
 cases x with
 | non =>
  cases rx
  cases y with
  | non=>cases ry;exact PySem.EqNone.ne_none_none (jT I q (by simp))
  | bl j=>cases ry;exact PySem.EqNone.ne_none_bool (jT I q (by simp))
  | int j=>obtain ⟨t',rfl⟩:=ry;exact PySem.EqNone.ne_none_int (jT I q (by simp))
  | str j=>obtain ⟨t',rfl⟩:=ry;exact PySem.EqNone.ne_none_str (jT I q (by simp))
  | _=>exact absurd (show false=true from hs) Bool.false_ne_true
 | bl i =>
  cases rx
  cases y with
  | non=>cases ry;exact PySem.EqNone.ne_bool_none (jT I q (by simp))
  | bl j=>cases ry;exact ne_bool (jT I q (congrArg not U3))
  | str j=>obtain ⟨t',rfl⟩:=ry;exact PySem.EqMixed.ne_bool_str (jT I q (by simp))
  | _=>exact absurd (show false=true from hs) Bool.false_ne_true
 | int i =>
  obtain ⟨t,rfl⟩:=rx
  cases y with
  | non=>cases ry;exact PySem.EqNone.ne_int_none (jT I q (by simp))
  | int j=>obtain ⟨t',rfl⟩:=ry;exact ne_int (jT I q (congrArg not Ym))
  | str j=>obtain ⟨t',rfl⟩:=ry;exact PySem.EqMixed.ne_int_str (jT I q (by simp))
  | _=>exact absurd (show false=true from hs) Bool.false_ne_true
 | str i =>
  obtain ⟨t,rfl⟩:=rx
  cases y with
  | non=>cases ry;exact PySem.EqNone.ne_str_none (jT I q (by simp))
  | bl j=>cases ry;exact PySem.EqMixed.ne_str_bool (jT I q (by simp))
  | int j=>obtain ⟨t',rfl⟩:=ry;exact PySem.EqMixed.ne_str_int (jT I q (by simp))
  | str j=>obtain ⟨t',rfl⟩:=ry;exact ne_str (jT I q (congrArg not Y7))
  | _=>exact absurd (show false=true from hs) Bool.false_ne_true
 | byt i =>
  obtain ⟨t,rfl⟩:=rx
  cases y with
  | byt j=>obtain ⟨t',rfl⟩:=ry;exact PySem.W.ne_bytes (jT I q (congrArg not ZT))
  | _=>exact absurd (show false=true from hs) Bool.false_ne_true
 | _=>cases y <;> exact absurd (show false=true from hs) Bool.false_ne_true
theorem uy:OpR X (compareOp .Lt) (rI0 λi j=>.bl (decide (i<j))):=UD λ_ _ _ _ _ _ _ q=>lt_int q
theorem qJ:OpR X (compareOp .LtE) (rI0 λi j=>.bl (decide (i<=j))):=UD λ_ _ _ _ _ _ _ q=>le_int q
theorem XA:OpR X (compareOp .Gt) (rI0 λi j=>.bl (decide (j<i))):=UD λ_ _ _ _ _ _ _ q=>gt_int q
theorem Uz:OpR X (compareOp .GtE) (rI0 λi j=>.bl (decide (j<=i))):=UD λ_ _ _ _ _ _ _ q=>ge_int q
theorem Za:OpR X (compareOp .Is) (λx y H Q=>y = .non/\Q (.bl (decide (x = .non))) H):=by
 intro pins s σ H x y v u Q I rx ry h
 obtain ⟨rfl,q⟩:=h
 cases ry
 refine is_none_gen (jT I q ?_)
 cases x <;> first
  | (cases rx;rfl)
  | (obtain ⟨t,rfl⟩:=rx;rfl)
theorem jS (b:Expr) {op:CmpOp}(h:op≠.In:=by decide) (h2:op≠.NotIn:=by decide):behindInMarks op b=false:=by
 have e1:(op == CmpOp.In)=false:=by cases op <;> first | rfl | exact absurd rfl h
 have e2:(op == CmpOp.NotIn)=false:=by cases op <;> first | rfl | exact absurd rfl h2
 cases b <;> simp [behindInMarks,e1,e2]
theorem zM {op:CmpOp}{r:R2}(ho:OpR X (compareOp op) r) (ha:PE X a ta) (hb:PE X b tb) (hm:behindInMarks op b=false):PE X (.Compare a [op] [b] pos) (tOp r ta tb):=by
 intro pins s σ H Q I h
 exact wpAny_Compare1 (Gk ha hb I h λv u s2 x y H2 I2 rx ry q=>ho pins s2 σ H2 x y v u Q I2 rx ry q) hm
def Yg (t:TE):TT:=λσ H Q=>t σ H λx H'=>∃k,x = .bl k/\Q k H'
theorem jK {op:CmpOp}{r:R2}(ho:OpR X (compareOp op) r) (ha:PE X a ta) (hb:PE X b tb) (hm:behindInMarks op b=false):PT X (.Compare a [op] [b] pos) (Yg (tOp r ta tb)):=by
 intro pins s σ H Q I h
 refine wpAny_isTrue_Compare1 (thn (ha pins s σ H _ I h) λv s1 ⟨x,H1,I1,r1,q1⟩=>thn (hb pins s1 σ H1 _ I1 q1) λu s2 ⟨y,H2,I2,r2,q2⟩ =>
  thn (ho pins s2 σ H2 x y v u _ I2 r1 r2 q2) λc s3 ⟨z,H3,I3,r3,k,e,q3⟩=>?_) hm
 subst e
 cases r3
 exact wpAny_truthy_bool ⟨H3,I3,q3⟩
def U7 (r r':R2) (ta tb tc:TE):TE:=λσ H Q=>ta σ H λx H1=>tb σ H1 λy H2=>r x y H2 λz H3=>∃k,z = .bl k /\
 (if k=true then tc σ H3 λw' H4=>r' y w' H4 Q else Q (.bl false) H3)
theorem yg {op op':CmpOp}{r r':R2}(ho:OpR X (compareOp op) r) (ho':OpR X (compareOp op') r') (ha:PE X a ta) (hb:PE X b tb) (hc:PE X c tc)
  (hm:lastMarks [op,op'] [b,c]=false:=by with_unfolding_all rfl):PE X (.Compare a [op,op'] [b,c] pos) (U7 r r' ta tb tc):=by
 intro pins s σ H Q I h
 refine Compare_chain (thn (ha pins s σ H _ I h) λv s1 ⟨x,H1,I1,r1,q1⟩=>chain_link (thn (hb pins s1 σ H1 _ I1 q1) λu s2 ⟨y,H2,I2,r2,q2⟩ =>
  thn (ho pins s2 σ H2 x y v u _ I2 r1 r2 q2) λd s3 ⟨z,H3,I3,r3,k,e,q3⟩=>?_)) hm
 subst e
 cases r3
 refine wpAny_truthy_bool ?_
 cases k with
 | false=>exact ite_ff ⟨.bl false,H3,I3,rfl,q3⟩
 | true=>exact ite_tt (chain_last (thn (hc pins s3 σ H3 _ I3 q3) λw' s4 ⟨z',H4,I4,r4,q4⟩=>ho' pins s4 σ H4 y z' u w' Q I4 r2 r4 q4))
theorem zi {op op':CmpOp}{r r':R2}(ho:OpR X (compareOp op) r) (ho':OpR X (compareOp op') r') (ha:PE X a ta) (hb:PE X b tb) (hc:PE X c tc)
  (hm:lastMarks [op,op'] [b,c]=false:=by with_unfolding_all rfl):PT X (.Compare a [op,op'] [b,c] pos) (Yg (U7 r r' ta tb tc)):=by
 intro pins s σ H Q I h
 refine isTrue_chain (thn (ha pins s σ H _ I h) λv s1 ⟨x,H1,I1,r1,q1⟩=>test_link (thn (hb pins s1 σ H1 _ I1 q1) λu s2 ⟨y,H2,I2,r2,q2⟩ =>
  thn (ho pins s2 σ H2 x y v u _ I2 r1 r2 q2) λd s3 ⟨z,H3,I3,r3,k,e,q3⟩=>?_)) hm
 subst e
 cases r3
 refine wpAny_truthy_bool ?_
 cases k with
 | false =>
  obtain ⟨k',e',q'⟩:=q3
  cases e'
  exact ite_ff ⟨H3,I3,q'⟩
 | true =>
  refine ite_tt (test_last (thn (hc pins s3 σ H3 _ I3 q3) λw' s4 ⟨z',H4,I4,r4,q4⟩=>thn (ho' pins s4 σ H4 y z' u w' _ I4 r2 r4 q4) λd' s5 ⟨z2,H5,I5,r5,k2,e2,q5⟩=>?_))
  subst e2
  cases r5
  exact wpAny_truthy_bool ⟨H5,I5,q5⟩
def WZ (K:PySem.W.Frag) (x:V) (H:Hp) (k:Bool):Prop :=
 match x with
 | .non=>k=false
 | .bl b=>k=b
 | .int i=>k=(i != 0)
 | .str y=>y.length<=sizeLine/\k=((y.length:Int) != 0)
 | .byt y=>y.size<=sizeLine/\k=((y.size:Int) != 0)
 | .ref p=>(∃xs,SqL K H p xs/\k = !xs.isEmpty)\/(∃xs,SqT K H p xs/\k = !xs.isEmpty)\/∃kvs,H p=some (.dK kvs)/\k = !kvs.isEmpty
 | _=>False
theorem XQ {κ:Type}{kvs:List (κ×V)}{vs:List (κ×Value)}(r:KV kvs vs):(!vs.isEmpty) = !kvs.isEmpty:=by
 cases r <;> rfl
theorem gC {xs:List V}{its:List Value}(r:jD xs its):(!its.toArray.isEmpty) = !xs.isEmpty:=by
 cases r <;> simp
theorem gG:(sizeLine:Nat)<2 ^ 63:=by rw [sizeLine_eq];decide
theorem GN:TruR X (λx H Q=>∃k,WZ X.K x H k/\Q k H):=by
 intro pins s σ H x v Q I rx h
 obtain ⟨k,e,q⟩:=h
 have hl:=gG
 have hs:sizeLine=16777216:=sizeLine_eq
 cases x with
 | non =>
  cases rx
  have e':k=false:=e
  subst e'
  exact truthy_none ⟨H,I,q⟩
 | bl b =>
  cases rx
  have e':k=b:=e
  subst e'
  exact wpAny_truthy_bool ⟨H,I,q⟩
 | int i =>
  obtain ⟨t,rfl⟩:=rx
  have e':k=(i != 0):=e
  subst e'
  exact PySem.P.truthy_int ⟨H,I,q⟩
 | str y =>
  obtain ⟨t,rfl⟩:=rx
  obtain ⟨hy,e'⟩:y.length<=sizeLine/\k=((y.length:Int) != 0):=e
  subst e'
  exact PySem.P.truthy_str ∅ ⟨H,I.tok _,q⟩
 | byt y =>
  obtain ⟨t,rfl⟩:=rx
  obtain ⟨hy,e'⟩:y.size<=sizeLine/\k=((y.size:Int) != 0):=e
  subst e'
  exact PySem.W.truthy_bytes ∅ ⟨H,I.tok _,q⟩
 | ref p =>
  cases rx
  have e':(∃xs,SqL X.K H p xs/\k = !xs.isEmpty)\/(∃xs,SqT X.K H p xs/\k = !xs.isEmpty)\/∃kvs,H p=some (.dK kvs)/\k = !kvs.isEmpty:=e
  rcases e' with ⟨xs,hx,e'⟩ | ⟨xs,hx,e'⟩ | ⟨kvs,hx,e'⟩
  ·subst e'
   obtain ⟨its,r,pl,hz⟩:=I.list hx
   have hlen:=r.length
   exact wpAny_truthy_list pl.isList (by simp only [List.size_toArray];omega) ⟨H,I.tok _,by rw [gC r];exact q⟩
  ·subst e'
   obtain ⟨its,r,pl,hz⟩:=I.tuple hx
   have hlen:=r.length
   exact truthy_tuple pl (by simp only [List.size_toArray];omega) ⟨H,I.tok _,by rw [gC r];exact q⟩
  ·subst e'
   obtain ⟨hz,hS,vs,r,m⟩:kvs.length<=sizeLine/\(p == sysModules)=false/\∃vs,KV kvs vs/\s.heap.DictOf (jF X.prog X.w) p vs:=I.hok p _ hx
   have hlen:kvs.length=vs.length:=Paired.length r
   exact wpAny_truthy_dict hS m ∅ ⟨H,I.tok _,by rw [XQ r];exact q⟩
 | _=>exact (show False from e).elim
theorem VB (ha:PE X a ta) (he:∀whole,isTrue a X.env whole=(do let v <- whole;standAt a.pos;holding [v] (truthy v))) :
  PT X a (λσ H Q=>ta σ H λx H'=>∃k,WZ X.K x H' k/\Q k H'):=by
 intro pins s σ H Q I h
 exact isTrue_plain (thn (ha pins s σ H _ I h) λv s1 ⟨x,H1,I1,r1,q1⟩=>GN pins s1 σ H1 x v Q I1 r1 q1) (he _)
theorem yC {x:V}{us:List Value}(r:jD [x] us):∃u,us=[u]/\jE x u:=by
 cases r with
 | cons r1 r2=>cases r2;exact ⟨_,rfl,r1⟩
theorem ZR {x y:V}{us:List Value}(r:jD [x,y] us):∃u w',us=[u,w']/\jE x u/\jE y w':=by
 cases r with
 | cons r1 r2 =>
  cases r2 with
  | cons r3 r4=>cases r4;exact ⟨_,_,rfl,r1,r3⟩
theorem zn (hc:X.calm=true):xb X (.builtin "max") (λxs H Q=>∃i j,xs=[.int i,.int j]/\Q (.int (if j > i then j else i)) H):=by
 intro pins s σ H xs us Q I r h
 obtain ⟨i,j,rfl,q⟩:=h
 obtain ⟨u,w',rfl,⟨t,rfl⟩,⟨t',rfl⟩⟩:=ZR r
 refine max_two_ints (I.ok.hd hc) λh' tk k=>⟨_,H,I.kept k,?_,q⟩
 by_cases hj:j > i
 ·rw [if_pos hj,if_pos hj];exact ⟨_,rfl⟩
 ·rw [if_neg hj,if_neg hj];exact ⟨_,rfl⟩
theorem vx (hc:X.calm=true):xb X (.builtin "min") (λxs H Q=>∃i j,xs=[.int i,.int j]/\Q (.int (if j<i then j else i)) H):=by
 intro pins s σ H xs us Q I r h
 obtain ⟨i,j,rfl,q⟩:=h
 obtain ⟨u,w',rfl,⟨t,rfl⟩,⟨t',rfl⟩⟩:=ZR r
 refine min_two_ints (I.ok.hd hc) λh' tk k=>⟨_,H,I.kept k,?_,q⟩
 by_cases hj:j<i
 ·rw [if_pos hj,if_pos hj];exact ⟨_,rfl⟩
 ·rw [if_neg hj,if_neg hj];exact ⟨_,rfl⟩
end
end L2
namespace L2
structure ObjM (h:Heap) (x dx C:Addr) (mA:Str->Option Value):Prop where
 obj:h.get? x=some (PySem.W.instObj C dx)
 ns:h.Ns1 dx mA
 ne:dx≠x
theorem YY {h:Heap}{dx:Addr}{mA:Str->Option Value}(n:h.Ns1 dx mA):∃od,h.get? dx=some od/\∀name,PySem.W.lookIn name od=some (mA name):=by
 obtain ⟨o,es,ep,ho,hd,hk,_,hm⟩:=n
 refine ⟨o,ho,λname=>?_⟩
 have e:=hm name
 unfold nsFind findBy at e
 rw [<- Array.find?_toList] at e
 unfold PySem.W.lookIn
 rw [hd]
 dsimp only
 split
 ·rename_i y q
  rw [q] at e
  exact congrArg some e
 ·rename_i q
  rw [q] at e
  have a:es.toList.any (·.refKey)=false:=by
   rw [List.any_eq_false]
   intro y hy
   obtain ⟨z,t,hkey⟩:=hk y (Array.mem_toList_iff.mp hy)
   simp [DictEntry.refKey,hkey]
  have a':¬es.toList.any (·.refKey)=true:=by rw [a];exact Bool.false_ne_true
  rw [if_neg a']
  exact congrArg some e
theorem ObjM.look {h:Heap}{x dx C:Addr}{mA:Str->Option Value}(I:ObjM h x dx C mA):∃od,PySem.W.InstAt h x (PySem.W.instObj C dx) C (some od)/\∀name,PySem.W.lookIn name od=some (mA name) :=
 let ⟨od,ho,hl⟩:=YY I.ns
 ⟨od,⟨I.obj,rfl,rfl,ho⟩,hl⟩
section
variable {prog:Program}{w:World}{A:Around}{E:Value->Shared->Prop}{s:Shared}{K:PySem.W.Frag}{x dx C f:Addr}{mA:Str->Option Value}{name:Str}{v:Value}
theorem UO {expr:Bool}{Q:Value->Shared->Prop}(X:K.In s.heap) (I:ObjM s.heap x dx C mA) (hg:PySem.W.plainGet K C name=true) (hh:PySem.W.hasDictIn K C=true)
  (ha:PySem.W.findIn K (.ref C) name=some none) (hv:mA name=some v) (hv':PySem.W.handedIn v=true) (h:Q v { s with toks:=s.toks+1 }) :
  wpAny (model prog w) A (getAttr (.ref x) name expr) Q E s:=by
 obtain ⟨od,J,hl⟩:=I.look
 exact PySem.W.get_value X J (PySem.W.plainGet_of hg).1 (PySem.W.findObj_own hh ha rfl (by rw [hl,hv])) hv' h
theorem U2 {pl:Sem Bool}{Q:Value×List Value->Shared->Prop}(X:K.In s.heap) (I:ObjM s.heap x dx C mA) (hg:PySem.W.plainGet K C name=true)
  (hf:PySem.W.findIn K (.ref C) name=some (some (.ref f))) (ht:PySem.W.isFn K (.ref f)=true) (hv:mA name=none) (h:Q (.ref f,[.ref x]) s) :
  wpAny (model prog w) A (getMethod (.ref x) name pl) Q E s:=by
 obtain ⟨od,J,hl⟩:=I.look
 exact PySem.W.method_fn X J (PySem.W.plainGet_of hg).1 (PySem.W.plainGet_of hg).2 hf (beq_iff_eq.mp ht) (by show (PySem.W.lookIn name od).map (·.isSome)=some false;rw [hl,hv];rfl) h
theorem UN {ns:List Str}{Q:Unit->Shared->Prop}(X:K.In s.heap) (I:ObjM s.heap x dx C mA)
  (hs:PySem.W.findIn K (.ref C) "__setattr__" = some (some (.builtin "object.__setattr__"))) (hp:PySem.W.plainOver K C=true) (ht:PySem.W.takerIn K C name=some none) (hh:PySem.W.hasDictIn K C=true)
  (hw:PySem.Within mA ns) (hsz:ns.length<=sizeLine)
  (h:∀h',ObjM h' x dx C (λy=>if y=name then some v else mA y)->Heap.SameBut dx s.heap h'->Q () { s with heap:=h',toks:=s.toks+2 }) :
  wpAny (model prog w) A (setAttr (.ref x) name v) Q E s:=by
 obtain ⟨od,J,hl⟩:=I.look
 refine PySem.W.set_plain X J hs (PySem.W.osa_open (s:={ s with toks:=s.toks+1 }) (r:=none) X J hp ht λb=>?_)
 obtain ⟨cd,hc,hd'⟩:=PySem.W.any_some hh
 have hx:s.heap.get? x=some ⟨.ref C,some dx,.plain,#[]⟩:=I.obj
 refine wpAny_bind (wpAny_pure (wpAny_bind (wpAny_bind (wpAny_loadPart hx (wpAny_bind (PySem.W.Looks.here (s:={ s with toks:=s.toks+1 }) (PySem.W.looks_clsIn X hc) ?_))))))
 rw [hd']
 refine wpAny_pure (a:=some dx) (wpAny_bind (wpAny_pure (wpAny_bind ?_)))
 refine wpAny_nsSet1 (s:={ s with toks:=s.toks+1 }) I.ns λh' hn2 hs2=>?_
 obtain ⟨oD,esD,epD,hoD,hdD,hcD⟩:=hn2.count (PySem.Within.cons name v hw)
 refine wpAny_bind (wpAny_lookBehind hoD (by rw [hdD];exact pastItsLine_dict (Nat.le_trans hcD (by rw [List.length_cons];omega))) ?_)
 exact wpAny_pure (h _ ⟨(hs2.2 _ (Ne.symm I.ne)).trans I.obj,hn2,I.ne⟩ hs2)
theorem U5 {R:Result->Shared->Prop}{vs:List Value}{kw:List (Str×Value)}(X:K.In s.heap) (hm:PySem.W.makesIn K C=true)
  (hi:PySem.W.findIn K (.ref C) "__init__" = some (some (.ref f))) (hf:PySem.W.typeIn K (.ref f)=some (.type "function"))
  (h:codeAny (model prog w) (A.under (.builtin "type.__call__" ⟨.ref C::vs,kw⟩)) (.call (.ref f) ⟨.ref (s.heap.objs.size+1)::vs,kw⟩) (PySem.W.InitBack (s.heap.objs.size+1) R)
   { s with heap:=(s.heap.push PySem.W.emptyDict).push (PySem.W.instObj C s.heap.objs.size) }) :
  codeAny (model prog w) A (.call (.ref C) ⟨vs,kw⟩) R s:=by
 obtain ⟨hh,g,d,t,os⟩:=s
 exact PySem.W.make_core (PySem.W.makes_of X hm) (PySem.W.looks_findIn X hi) (λself=>PySem.W.bind_fn X self hf) (.inl rfl) h
end
def jp (f:Str) (v:V):List (Str×V)->List (Str×V)
 | []=>[(f,v)]
 | (g,x)::r=>if g=f then (g,v)::r else (g,x)::jp f v r
theorem jy (f g:Str) (v:V):∀fs:List (Str×V),(jp f v fs).lookup g=if g=f then some v else fs.lookup g
 | []=>by
  show List.lookup g [(f,v)]=_
  by_cases h:g=f
  ·have hb:(g == f)=true:=beq_iff_eq.mpr h
   simp only [List.lookup,hb,if_pos h]
  ·have hb:(g == f)=false:=beq_eq_false_iff_ne.mpr h
   simp only [List.lookup,hb,if_neg h]
 | (k,x)::r=>by
  have ih:=jy f g v r
  rw [show jp f v ((k,x)::r)=(if k=f then (k,v)::r else (k,x)::jp f v r) from rfl]
  by_cases hk:k=f
  ·rw [if_pos hk]
   by_cases h:g=k
   ·have hb:(g == k)=true:=beq_iff_eq.mpr h
    simp only [List.lookup,hb,if_pos (h.trans hk)]
   ·have hb:(g == k)=false:=beq_eq_false_iff_ne.mpr h
    simp only [List.lookup,hb,if_neg (λe:g=f=>h (e.trans hk.symm))]
  ·rw [if_neg hk]
   by_cases h:g=k
   ·have hb:(g == k)=true:=beq_iff_eq.mpr h
    simp only [List.lookup,hb,if_neg (λe:g=f=>hk (h.symm.trans e))]
   ·have hb:(g == k)=false:=beq_eq_false_iff_ne.mpr h
    simp only [List.lookup,hb]
    exact ih
theorem wv (f:Str) (v:V):∀fs:List (Str×V),f∈(jp f v fs).map (·.1)/\∀g,g∈fs.map (·.1)->g∈(jp f v fs).map (·.1)
 | []=>⟨by simp [jp],λg h=>by simp at h⟩
 | (k,x)::r=>by
  obtain ⟨i1,i2⟩:=wv f v r
  rw [show jp f v ((k,x)::r)=(if k=f then (k,v)::r else (k,x)::jp f v r) from rfl]
  by_cases hk:k=f
  ·rw [if_pos hk]
   subst hk
   exact ⟨by simp,λg h=>by simpa using h⟩
  ·rw [if_neg hk]
   refine ⟨?_,λg h=>?_⟩
   ·rw [List.map_cons]
    exact List.mem_cons_of_mem _ i1
   ·rw [List.map_cons] at h ⊢
    rcases List.mem_cons.mp h with e | e
    ·exact List.mem_cons.mpr (.inl e)
    ·exact List.mem_cons_of_mem _ (i2 g e)
theorem jX (f:Str) (v:V):∀fs:List (Str×V),(jp f v fs).length<=fs.length+1
 | []=>by simp [jp]
 | (k,x)::r=>by
  have ih:=jX f v r
  rw [show jp f v ((k,x)::r)=(if k=f then (k,v)::r else (k,x)::jp f v r) from rfl]
  by_cases hk:k=f
  ·rw [if_pos hk,List.length_cons,List.length_cons];omega
  ·rw [if_neg hk,List.length_cons,List.length_cons];omega
theorem yF.some_of {v:V}{o:Option Value}(r:yF (some v) o):∃u,o=some u/\jE v u:=by
 cases o with
 | none=>exact (show False from r).elim
 | some u=>exact ⟨u,rfl,r⟩
theorem yF.none_of {o:Option Value}(r:yF none o):o=none:=by
 cases o with
 | none=>rfl
 | some u=>exact (show False from r).elim
theorem Yq {v:V}{u:Value}(r:jE v u):PySem.W.handedIn u=true:=by
 cases v with
 | non=>cases (show u=Value.none from r);rfl
 | bl b=>cases (show u=Value.bool b from r);rfl
 | int i=>obtain ⟨t,e⟩:=(show ∃t,u=Value.int i t from r);cases e;rfl
 | str x=>obtain ⟨t,e⟩:=(show ∃t,u=Value.str x t from r);cases e;rfl
 | byt b=>obtain ⟨t,e⟩:=(show ∃t,u=Value.bytes b t from r);cases e;rfl
 | flt b=>obtain ⟨t,e⟩:=(show ∃t,u=Value.float b t from r);cases e;rfl
 | ref a=>cases (show u=Value.ref a from r);rfl
 | ty n=>cases (show u=Value.type n from r);rfl
section
variable {P:Program}{w:World}{H H':Hp}{h h':Heap}{a C dx:Addr}{fs fs':List (Str×V)}
theorem wY (hok:HOk P w H h) (e:H a=some (.ins C dx fs)):∃mA,ObjM h a dx C mA/\(∀f,yF (fs.lookup f) (mA f))/\PySem.Within mA (fs.map (·.1))/\fs.length<=1000/\H dx=some (.own a):=by
 obtain ⟨d,z,ne,ob,mA,n,r,q⟩:=(show qp P w H h a (.ins C dx fs) from hok a _ e)
 exact ⟨mA,⟨ob,n,ne⟩,r,q,z,d⟩
end
structure Cls (K:PySem.W.Frag) (C:Addr):Prop where
 pg:PySem.W.plainGet K C Str.empty=true
 hd:PySem.W.hasDictIn K C=true
 po:PySem.W.plainOver K C=true
 sa:PySem.W.findIn K (.ref C) "__setattr__" = some (some (.builtin "object.__setattr__"))
theorem Cls.get {K:PySem.W.Frag}{C:Addr}(c:Cls K C) (f:Str):PySem.W.plainGet K C f=true:=c.pg
def zu (K:PySem.W.Frag) (C:Addr) (f:Str):Prop:=PySem.W.findIn K (.ref C) f=some none
theorem zu.taker {K:PySem.W.Frag}{C:Addr}{f:Str}(n:zu K C f):PySem.W.takerIn K C f=some none:=by
 unfold PySem.W.takerIn
 rw [show PySem.W.findIn K (.ref C) f=some none from n]
 rfl
structure Meth (K:PySem.W.Frag) (C:Addr) (m:Str) (f:Addr):Prop where
 at_:PySem.W.findIn K (.ref C) m=some (some (.ref f))
 fn:PySem.W.isFn K (.ref f)=true
 kp:PySem.W.keepIn K (.ref f)=true
section
variable {X:Cx}{pins:List (Addr×Obj)}{σ:St}{H:Hp}{s:Shared}{a C dx:Addr}{fs:List (Str×V)}{f:Str}{v:V}{A:Around}{E:Value->Shared->Prop}
theorem Zq {b:Bool}{Q:Value->Shared->Prop}(I:Inv X pins σ H s) (e:H a=some (.ins C dx fs)) (c:Cls X.K C) (n:zu X.K C f) (l:fs.lookup f=some v)
  (h:∀u s',Inv X pins σ H s'->jE v u->Q u s'):wpAny (model X.prog X.w) A (getAttr (.ref a) f b) Q E s:=by
 obtain ⟨mA,O,r,_,_,_⟩:=wY I.hok e
 obtain ⟨u,hu,ru⟩:=yF.some_of (v:=v) (o:=mA f) (by rw [<- l];exact r f)
 exact UO I.kIn O (c.get f) c.hd n hu (Yq ru) (h u _ (I.tok _) ru)
theorem yh {m:Str}{g:Addr}{pl:Sem Bool}{Q:Value×List Value->Shared->Prop}(I:Inv X pins σ H s) (e:H a=some (.ins C dx fs)) (c:Cls X.K C) (k:Meth X.K C m g) (l:fs.lookup m=none)
  (h:Q (.ref g,[.ref a]) s):wpAny (model X.prog X.w) A (getMethod (.ref a) m pl) Q E s:=by
 obtain ⟨mA,O,r,_,_,_⟩:=wY I.hok e
 have hn:mA m=none:=yF.none_of (by rw [<- l];exact r m)
 exact U2 I.kIn O (c.get m) k.at_ k.fn hn h
theorem Ze {y:V}{u:Value}{Q:Unit->Shared->Prop}(I:Inv X pins σ H s) (e:H a=some (.ins C dx fs)) (c:Cls X.K C) (n:zu X.K C f) (hl:fs.length<1000) (ry:jE y u)
  (h:∀s',Inv X pins σ (upd H a (.ins C dx (jp f y fs))) s'->Q () s'):wpAny (model X.prog X.w) A (setAttr (.ref a) f u) Q E s:=by
 obtain ⟨mA,O,r,wi,_,ho⟩:=wY I.hok e
 have hz:(fs.map (·.1)).length<=sizeLine:=by rw [List.length_map,sizeLine_eq];omega
 refine UN I.kIn O c.sa c.po n.taker c.hd wi hz λh' O' sb=>h _ ?_
 have hd:∃o,h'.get? dx=some o:=let ⟨o,_,_,e',_⟩:=O'.ns;⟨o,e'⟩
 refine I.write (x:=a) (e:=dx) (by rw [e];exact True.intro) (.inr ho) (λb q hb z=>(sb.2 b hb).trans z) hd ?_
 refine ⟨by rw [j8 O.ne];exact ho,?_,O.ne,O'.obj,_,O'.ns,λg=>?_,λg hg=>?_⟩
 ·have:=jX f y fs;omega
 ·show yF ((jp f y fs).lookup g) (if g=f then some u else mA g)
  rw [jy]
  by_cases q:g=f
  ·rw [if_pos q,if_pos q];exact ry
  ·rw [if_neg q,if_neg q];exact r g
 ·by_cases q:g=f
  ·rw [q];exact (wv f y fs).1
  ·refine (wv f y fs).2 g (wi g λz=>hg ?_)
   show (if g=f then some u else mA g)=none
   rw [if_neg q];exact z
theorem Inv.made (I:Inv X pins σ H s):Inv X pins σ (upd (upd H s.heap.objs.size (.own (s.heap.objs.size+1))) (s.heap.objs.size+1) (.ins C s.heap.objs.size []))
  { s with heap:=(s.heap.push PySem.W.emptyDict).push (PySem.W.instObj C s.heap.objs.size) }:=by
 have e1:(s.heap.push PySem.W.emptyDict).get? s.heap.objs.size=some PySem.W.emptyDict:=Heap.get?_push_size s.heap rfl
 have e2:((s.heap.push PySem.W.emptyDict).push (PySem.W.instObj C s.heap.objs.size)).get? (s.heap.objs.size+1)=some (PySem.W.instObj C s.heap.objs.size):=by
  have:=Heap.get?_push_size (s.heap.push PySem.W.emptyDict) (o:=PySem.W.instObj C s.heap.objs.size) rfl
  rwa [Heap.size_push] at this
 have e3:(s.heap.push PySem.W.emptyDict).Ns s.heap.objs.size (λ_=>none):=⟨PySem.W.emptyDict,#[],_,e1,rfl,(λe he=>absurd he (by simp)),λ_=>rfl⟩
 have I1:=I.laid (a:=s.heap.objs.size) (o:=.own (s.heap.objs.size+1)) (h':=s.heap.push PySem.W.emptyDict) (t':=s.toks) (λb u q=>Heap.get?_push_of_some _ q) (Nat.le_refl _) ⟨_,e1⟩
 refine I1.laid (a:=s.heap.objs.size+1) (o:=.ins C s.heap.objs.size []) (t':=s.toks) (λb u q=>Heap.get?_push_of_some _ q) (Nat.le_of_eq (Heap.size_push _ _)) ?_
 have ne:s.heap.objs.size≠s.heap.objs.size+1:=Nat.ne_of_lt (Nat.lt_succ_self _)
 refine ⟨by rw [j8 ne,j5],Nat.zero_le _,ne,e2,λ_=>none,(Heap.Ns1.of_empty e3).at λo q=>Heap.get?_push_of_some _ q,λ_=>True.intro,λy hy=>absurd rfl hy⟩
theorem We {prog:Program}{w:World}{env:Env}{e:Expr}{f:Str}{pos:Pos}{s:Shared}{Q:Value->Shared->Prop}(hb:attributeBase e f env (eval e env)=eval e env)
  (h:wpAny (model prog w) A (eval e env) (λo s₁=>wpAny (model prog w) A (getAttr o f true) Q E s₁) E s):wpAny (model prog w) A (eval (.Attribute e f pos) env) Q E s :=
 Attribute_any_ h (by rw [arm_eval_Attribute,hb])
end
def Ee (K:PySem.W.Frag) (ta:TE) (f:Str):TE:=λσ H Q=>ta σ H λx H1=>∃a C dx fs v,x = .ref a/\H1 a=some (.ins C dx fs)/\Cls K C/\zu K C f/\fs.lookup f=some v/\Q v H1
def Eb (K:PySem.W.Frag) (ta tv:TE) (f:Str):TS:=λD σ H=>tv σ H λy H1=>ta σ H1 λx H2=>∃a C dx fs,x = .ref a/\H2 a=some (.ins C dx fs)/\Cls K C/\zu K C f/\fs.length<1000 /\
 D.nx σ (upd H2 a (.ins C dx (jp f y fs)))
section
variable {X:Cx}{o e value:Expr}{f:Str}{pos pos' tpos:Pos}{ta tv:TE}
theorem G2 (he:PE X e ta) (hb:attributeBase e f X.env (eval e X.env)=eval e X.env):PE X (.Attribute e f pos) (Ee X.K ta f):=by
 intro pins s σ H Q I h
 refine We hb (thn (he pins s σ H _ I h) λu s1 ⟨x,H1,I1,rx,a,C,dx,fs,v,ex,ea,c,n,l,q⟩=>?_)
 subst ex
 obtain rfl:u=Value.ref a:=rx
 exact Zq I1 ea c n l λu' s2 I2 ru=>⟨v,H1,I2,ru,q⟩
theorem GY (ha:PE X o ta) (hv:PE X value tv) (hs:swapsWith value (some (.Attribute o f pos')) pos.line X.env=pure false):PS X (.Assign [.Attribute o f pos'] value pos) (Eb X.K ta tv f):=by
 intro pins s σ H D I h
 refine plainObj_wpAny_Assign_Attribute (thn (hv pins s σ H _ I h) λu s1 ⟨y,H1,I1,ry,q⟩=>thn (ha pins s1 σ H1 _ I1 q) λov s2 ⟨x,H2,I2,rx,a,C,dx,fs,ex,ea,c,n,l,q2⟩=>?_) hs
 subst ex
 obtain rfl:ov=Value.ref a:=rx
 exact Ze I2 ea c n l ry λs3 I3=>⟨σ,_,I3,q2⟩
theorem WS {pl:Sem Bool}{m:Str}{apos:Pos}{args:List Expr}{pins:List (Addr×Obj)}{s:Shared}{σ:St}{H:Hp}{Q:Value->Shared->Prop}{te:TE}(he:PE X e te) (I:Inv X pins σ H s)
  (h:te σ H λx H1=>∃a C dx fs g,x = .ref a/\H1 a=some (.ins C dx fs)/\Cls X.K C/\Meth X.K C m g/\fs.lookup m=none /\
   ∀s1,Inv X pins σ H1 s1->wpAny (model X.prog X.w) X.A (callWith pos (.ref g) [.ref a] (backTo pos (starEach args X.env)) (backToKw pos (keywordEach [] X.env))) Q X.xe s1)
  (ht:eval (.Call (.Attribute e m apos) args [] pos) X.env=(do
   let ov <- eval e X.env
   standAt apos.atName
   let (f,first) <- holding [ov] (getMethod ov m pl)
   callWith pos f first (backTo pos (starEach args X.env)) (backToKw pos (keywordEach [] X.env)))) :
  wpAny (model X.prog X.w) X.A (eval (.Call (.Attribute e m apos) args [] pos) X.env) Q X.xe s:=by
 refine PySem.W.methodCall_KW (pl:=pl) (thn (he pins s σ H _ I h) λu s1 ⟨x,H1,I1,rx,a,C,dx,fs,g,ex,ea,c,k,l,q⟩=>?_) ht
 subst ex
 obtain rfl:u=Value.ref a:=rx
 exact yh I1 ea c k l (q s1 I1)
end
section
variable {X:Cx}{pins:List (Addr×Obj)}{σ:St}{H:Hp}{s:Shared}{A:Around}{E:Value->Shared->Prop}{Q:Value->Shared->Prop}{c:Value}{b:Bool}
inductive TyOf (K:PySem.W.Frag) (H:Hp):V->Value->Prop where
 | non:TyOf K H .non (.type "NoneType")
 | bl (x:Bool):TyOf K H (.bl x) (.type "bool")
 | int (i:Int):TyOf K H (.int i) (.type "int")
 | str (x:Str):TyOf K H (.str x) (.type "str")
 | flt (x:UInt64):TyOf K H (.flt x) (.type "float")
 | lst {a:Addr} {xs:List V} (e:H a=some (.lst xs)):TyOf K H (.ref a) (.type "list")
 | frz {a:Addr} {o:Obj} {xs:List V} (e:H a=some (.frz o (.lst xs))):TyOf K H (.ref a) (.type "list")
 | tup {a:Addr} {xs:List V} (e:H a=some (.tup xs)):TyOf K H (.ref a) (.type "tuple")
 | dK {a:Addr} {kvs:List (Key×V)} (e:H a=some (.dK kvs)):TyOf K H (.ref a) (.type "dict")
 | dT {a:Addr} {kvs:List (List Key×V)} (e:H a=some (.dT kvs)):TyOf K H (.ref a) (.type "dict")
 | ins {a C dx:Addr} {fs:List (Str×V)} (e:H a=some (.ins C dx fs)) (cl:Cls K C) (ha:PySem.W.findIn K (.ref C) "__class__" = some (some (.builtin "object.__class__")))
   (hn:PySem.W.specialIn K (.builtin "object.__class__") "__get__" = some (some (.builtin "getset_descriptor.__get__"))) (htk:PySem.W.takesIn K (.builtin "object.__class__")=some true)
   (hm:PySem.W.mroIn K C (.type "object")=some true):TyOf K H (.ref a) (.ref C)
theorem Yp {x:V}{u t:Value}(I:Inv X pins σ H s) (rx:jE x u) (ty:TyOf X.K H x t) (e:PySem.W.kitOne X.K t c=some b) (h:∀tk,Q (.bool b) { s with toks:=tk }) :
  wpAny (model X.prog X.w) A (call (.builtin "isinstance") [u,c]) Q E s:=by
 cases ty with
 | non=>cases (show u=Value.none from rx);exact PySem.W.kia_one PySem.W.kitx_none I.kIn True.intro e (λz=>nomatch z) h
 | bl y=>cases (show u=Value.bool y from rx);exact PySem.W.kia_one PySem.W.kitx_bool I.kIn True.intro e (λz=>nomatch z) h
 | int i=>obtain ⟨t,q⟩:=(show ∃t,u=Value.int i t from rx);cases q;exact PySem.W.kia_one PySem.W.kitx_int I.kIn True.intro e (λz=>nomatch z) h
 | str y=>obtain ⟨t,q⟩:=(show ∃t,u=Value.str y t from rx);cases q;exact PySem.W.kia_one PySem.W.kitx_str I.kIn True.intro e (λz=>nomatch z) h
 | flt y=>obtain ⟨t,q⟩:=(show ∃t,u=Value.float y t from rx);cases q;exact PySem.W.kia_one PySem.W.kitx_float I.kIn True.intro e (λz=>nomatch z) h
 | @lst a xs ea =>
  cases (show u=Value.ref a from rx)
  obtain ⟨_,_,n,_,h1⟩:=(show qp X.prog X.w H s.heap a (.lst xs) from I.hok a _ ea)
  exact PySem.W.kia_one PySem.W.kitx_list I.kIn ⟨_,h1,rfl⟩ e (λz=>nomatch z) h
 | @frz a ob xs ea =>
  cases (show u=Value.ref a from rx)
  obtain ⟨_,_,_,n,_,h1⟩:=(show qp X.prog X.w H s.heap a (.frz ob (.lst xs)) from I.hok a _ ea)
  exact PySem.W.kia_one PySem.W.kitx_list I.kIn ⟨_,h1,rfl⟩ e (λz=>nomatch z) h
 | @tup a xs ea =>
  cases (show u=Value.ref a from rx)
  obtain ⟨_,_,_,p⟩:=(show qp X.prog X.w H s.heap a (.tup xs) from I.hok a _ ea)
  obtain ⟨o,h1,h2,_⟩:=p
  exact PySem.W.kia_one PySem.W.kitx_tuple I.kIn ⟨o,h1,h2⟩ e (λz=>nomatch z) h
 | @dK a kvs ea =>
  cases (show u=Value.ref a from rx)
  obtain ⟨_,_,vs,_,p⟩:=(show qp X.prog X.w H s.heap a (.dK kvs) from I.hok a _ ea)
  obtain ⟨o,es,ep,h1,h2,_⟩:=p
  exact PySem.W.kia_one PySem.W.kitx_dict I.kIn ⟨o,h1,h2.1⟩ e (λz=>nomatch z) h
 | @dT a kvs ea =>
  cases (show u=Value.ref a from rx)
  obtain ⟨_,_,xs,_,o,es,ep,h1,h2,_⟩:=(show qp X.prog X.w H s.heap a (.dT kvs) from I.hok a _ ea)
  exact PySem.W.kia_one PySem.W.kitx_dict I.kIn ⟨o,h1,h2.1⟩ e (λz=>nomatch z) h
 | @ins a C dx fs ea cl ha hn htk hm =>
  cases (show u=Value.ref a from rx)
  obtain ⟨mA,O,_⟩:=wY I.hok ea
  obtain ⟨od,J,_⟩:=O.look
  exact PySem.W.kia_one (PySem.W.kitx_own (cl.get _) cl.hd ha hn htk hm) I.kIn J e (λz=>nomatch z) h
end
end L2
namespace L2
structure Room (k:Nat) (A:Around):Prop where
 hd:A.handled=none
 dp:A.depth+3*k+5<recursionLimit
 un:A.units+16*k+200<cLine
theorem Room.mono {j k:Nat}{A:Around}(r:Room k A) (h:j<=k):Room j A:=⟨r.hd,by have:=r.dp;omega,by have:=r.un;omega⟩
theorem Room.deeper {k:Nat}{A:Around}(r:Room (k+1) A) (env:Env):Room k (A.deeper env) :=
 ⟨r.hd,by have:=r.dp;show A.depth+1+3*k+5<_;omega,by have:=r.un;show A.units+3+16*k+200<_;omega⟩
theorem Room.in1 {k:Nat}{A:Around}(r:Room (k+1) A):Room k A.in1 :=
 ⟨r.hd,by have:=r.dp;show A.depth+3*k+5<_;omega,by have:=r.un;show A.units+1+16*k+200<_;omega⟩
theorem Zy {A:Around}{C:Addr}{us:List Value}{kw:List (Str×Value)}:(A.under (.builtin "type.__call__" ⟨.ref C::us,kw⟩)).depth=A.depth+1:=by
 first | rfl | simp [Around.under,Code.weight,Code.isCreation,Code.isGuard,Code.isCaller,Code.frames,Code.isFrame,guardIds]
theorem Z0 {A:Around}{C:Addr}{us:List Value}{kw:List (Str×Value)}:(A.under (.builtin "type.__call__" ⟨.ref C::us,kw⟩)).units=A.units+1:=by
 first | rfl | simp [Around.under,Code.cUnits,Code.frames,Code.isFrame]
theorem Room.make {k:Nat}{A:Around}(r:Room (k+1) A) (C:Addr) (us:List Value) (kw:List (Str×Value)):Room k (A.under (.builtin "type.__call__" ⟨.ref C::us,kw⟩)) :=
 ⟨r.hd,by have:=r.dp;rw [Zy];omega,by have:=r.un;rw [Z0];omega⟩
theorem Room.depth {k:Nat}{A:Around}(r:Room k A):A.depth<recursionLimit:=by have:=r.dp;omega
theorem Room.units {k:Nat}{A:Around}(r:Room k A):A.units+64<cLine:=by have:=r.un;omega
def JZ:TA:=λ_ H Q=>Q [] H
def EV (ta:TE) (tr:TA):TA:=λσ H Q=>ta σ H λx H1=>tr σ H1 λxs H2=>Q (x::xs) H2
section
variable {X:Cx}{e:Expr}{es:List Expr}{te:TE}{t:TA}{pos:Pos}
theorem j2:PA X [] JZ:=λ_ _ _ _ H Q I h=>Calls.spliced_nil ⟨[],H,I,.nil,h⟩
theorem j0 (ha:PE X e te) (hr:PA X es t) (hs:starEach (e::es) X.env=(false,eval e X.env)::starEach es X.env:=by rfl):PA X (e::es) (EV te t):=by
 intro pos pins s σ H Q I h
 rw [hs]
 show wpAny _ _ (spliced ((false,eval e X.env)::backTo pos (starEach es X.env))) _ _ s
 refine Calls.spliced_cons (thn (ha pins s σ H _ I h) λu s1 ⟨x,H1,I1,r1,q1⟩=>?_)
 exact thn (hr pos pins s1 σ H1 _ I1 q1) λus s2 ⟨xs,H2,I2,r2,q2⟩=>⟨x::xs,H2,I2,.cons r1 r2,q2⟩
end
abbrev Sp:=List V->Hp->VK->XK->Prop
abbrev CXT:=List Env->Hp->Shared->XK->Value->Shared->Prop
structure Env0 (P:Program) (w:World) (K:PySem.W.Frag) (mg:Str->Option Value) (base:Heap) (A:Around) (outer:List Env) (s:Shared) (H:Hp):Prop where
 frames:A.frames=some outer
 mod:Mod K mg base
 bs:∀b o,base.get? b=some o->s.heap.get? b=some o/\H b=none
 bsz:base.objs.size<=s.heap.objs.size
 funs:s.heap.FunFrames base outer
 frf:∀b∈frs outer,H b=none
 hok:HOk P w H s.heap
 bare:AllBare s.gens
def CE (outer:List Env) (P:Program) (w:World) (H:Hp) (s:Shared) (Q:VK) (u:Value) (s':Shared):Prop :=
 ∃v H',s'.os=s.os/\AllBare s'.gens/\Un (frs outer) [] H H' s.heap s'.heap/\HOk P w H' s'.heap/\jE v u/\Q v H'
def CR (CX:CXT) (outer:List Env) (P:Program) (w:World) (H:Hp) (s:Shared) (Q:VK) (E:XK) (r:Result) (s':Shared):Prop :=
 match r with
 | .ok (.ret u)=>CE outer P w H s Q u s'
 | .ok _=>False
 | .error e=>CX outer H s E e s'
structure FnOk (P:Program) (w:World) (K:PySem.W.Frag) (mg:Str->Option Value) (base:Heap) (CX:CXT) (k:Nat) (f:Addr) (fd:FuncData) (ps:List Str) (sp:Sp):Prop where
 len:∀vs H Q E,sp vs H Q E->vs.length=ps.length
 run:∀(A:Around) (outer:List Env) (s:Shared) (H:Hp) (args:Args) (us:List Value) (vs:List V) (Q:VK) (E:XK),Room k A->Env0 P w K mg base A outer s H->BindsTo s fd args (ps.zip us)->jD vs us->sp vs H Q E ->
  codeAny (model P w) A (.call (.ref f) args) (CR CX outer P w H s Q E) s
theorem Env0.make {P:Program}{w:World}{K:PySem.W.Frag}{mg:Str->Option Value}{base:Heap}{A:Around}{outer:List Env}{s:Shared}{H:Hp}(e:Env0 P w K mg base A outer s H) (C:Addr) (us:List Value) (kw:List (Str×Value)) :
  Env0 P w K mg base (A.under (.builtin "type.__call__" ⟨.ref C::us,kw⟩)) outer s H:=⟨by first | exact e.frames | (simpa [Around.under,Code.envs,Code.isFrame,pushEnvs] using e.frames),e.mod,e.bs,e.bsz,e.funs,e.frf,e.hok,e.bare⟩
theorem Env0.in1 {P:Program}{w:World}{K:PySem.W.Frag}{mg:Str->Option Value}{base:Heap}{A:Around}{outer:List Env}{s:Shared}{H:Hp}(e:Env0 P w K mg base A outer s H) :
  Env0 P w K mg base A.in1 outer s H:=⟨e.frames,e.mod,e.bs,e.bsz,e.funs,e.frf,e.hok,e.bare⟩
section
variable {X:Cx}{pins:List (Addr×Obj)}{σ:St}{H:Hp}{s s':Shared}
theorem Inv.env0 (I:Inv X pins σ H s):Env0 X.prog X.w X.K X.mg X.base X.A X.stack s H :=
 ⟨I.ok.frames,I.ok.mod,I.bs,Nat.le_trans I.ok.bsz I.sz,I.stack,I.stkFree,I.hok,I.bare⟩
theorem Inv.after {Q:VK}{u:Value}(I:Inv X pins σ H s) (h:CE X.stack X.prog X.w H s Q u s'):EP X pins σ Q u s':=by
 obtain ⟨v,H',os,bare,un,hok,r,q⟩:=h
 obtain ⟨hh,g,d,t,os'⟩:=s'
 obtain rfl:os'=s.os:=os
 exact ⟨v,H',I.call (h':=hh) (g':=g) (d':=d) (t':=t) (ch:=[]) un hok bare (λb z=>absurd z (by simp)),r,q⟩
end
def WO (sp:Sp) (dvs:List V) (E:XK) (t:TA):TE:=λσ H Q=>t σ H λvs H1=>sp (vs++dvs) H1 Q E
def Yj (C:Addr) (m:Str) (sp:Sp) (dvs:List V) (E:XK) (ta:TE) (t:TA):TE:=λσ H Q=>ta σ H λx H1=>∃a dx fs,x = .ref a/\H1 a=some (.ins C dx fs)/\fs.lookup m=none /\
 t σ H1 λvs H2=>sp (x::(vs++dvs)) H2 Q E
def y7 (K:PySem.W.Frag) (fd:FuncData) (ps:List Str) (ds:List Value):Prop :=
 ∀(s:Shared) (us:List Value),K.In s.heap->(us++ds).length=ps.length->BindsTo s fd ⟨us,[]⟩ (ps.zip (us++ds))
theorem y7.all {K:PySem.W.Frag}{fd:FuncData}{ps:List Str}(h:∀us:List Value,us.length=ps.length->bindArgs fd ⟨us,[]⟩=pure (ps.zip us)):y7 K fd ps []:=λs us _ hl=>by
 rw [List.append_nil] at hl ⊢
 exact .of_eq (h us hl)
def k9 (CX:CXT) (X:Cx) (E:XK):Prop:=∀(pins:List (Addr×Obj)) (σ:St) (H:Hp) (s:Shared) (e:Value) (s':Shared),Inv X pins σ H s->CX X.stack H s E e s'->X.xe e s'
section
variable {X:Cx}{CX:CXT}{k:Nat}{f C:Addr}{fd:FuncData}{ps:List Str}{sp:Sp}{dvs:List V}{ds:List Value}{E:XK}{x m:Str}{p pos apos:Pos}{e o:Expr}{es:List Expr}{ta:TE}{t:TA}
theorem ZD {pins:List (Addr×Obj)}{σ:St}{H:Hp}{s:Shared}{Q:VK}{us:List Value}{vs:List V}(F:FnOk X.prog X.w X.K X.mg X.base CX k f fd ps sp) (hr:Room k X.A) (hb:y7 X.K fd ps ds) (hd:jD dvs ds) (hx:k9 CX X E)
  (I:Inv X pins σ H s) (r:jD vs us) (h:sp (vs++dvs) H Q E):wpAny (model X.prog X.w) X.A (call (.ref f) us) (EP X pins σ Q) X.xe s:=by
 have r2:jD (vs++dvs) (us++ds):=r.append hd
 have hl:(us++ds).length=ps.length:=by rw [<- r2.length];exact F.len _ _ _ _ h
 refine wpAny_call (codeAny_mono (F.run X.A X.stack s H ⟨us,[]⟩ (us++ds) (vs++dvs) Q E hr I.env0 (hb s us I.kIn hl) r2 h) λr s' hq=>?_)
 cases r with
 | error e=>exact hx pins σ H s e s' I hq
 | ok fl =>
  cases fl with
  | ret u=>exact I.after hq
  | next=>exact False.elim hq
  | brk=>exact False.elim hq
  | cont=>exact False.elim hq
theorem Wz (F:FnOk X.prog X.w X.K X.mg X.base CX k f fd ps sp) (hr:Room k X.A) (hg:Gl X x) (hm:X.mg x=some (.ref f)) (hk:PySem.W.keepIn X.K (.ref f)=true) (hb:y7 X.K fd ps ds) (hd:jD dvs ds) (hx:k9 CX X E)
  (ha:PA X (e::es) t) (hdb:(x == ("__debug__" : Str))=false:=by decide) (he:starEach (e::es) X.env=(false,eval e X.env)::starEach es X.env:=by rfl) (hpl:(backTo pos (starEach es X.env)).any (·.1)=false:=by rfl) :
  PE X (.Call (.Name x p) (e::es) [] pos) (WO sp dvs E t):=by
 intro pins s σ H Q I h
 refine wpAny_Call_Name_kw (uN I hg hm ?_ hdb)
 refine PySem.W.callWith_K (h₀:=X.base) I.ok.mod.kin hk (thn (ha pos pins s σ H _ I h) λus s1 ⟨vs,H1,I1,r,q⟩=>⟨I1.kIn,?_⟩) he hpl
 exact ZD F hr hb hd hx I1 r q
theorem WE {pl:Sem Bool}(he:PE X o ta) (c:Cls X.K C) (hm:Meth X.K C m f) (F:FnOk X.prog X.w X.K X.mg X.base CX k f fd ps sp) (hr:Room k X.A) (hb:y7 X.K fd ps ds) (hd:jD dvs ds) (hx:k9 CX X E) (ha:PA X (e::es) t)
  (hst:starEach (e::es) X.env=(false,eval e X.env)::starEach es X.env:=by rfl) (hpl:(backTo pos (starEach es X.env)).any (·.1)=false:=by rfl)
  (ht:eval (.Call (.Attribute o m apos) (e::es) [] pos) X.env=(do
   let ov <- eval o X.env
   standAt apos.atName
   let (f,first) <- holding [ov] (getMethod ov m pl)
   callWith pos f first (backTo pos (starEach (e::es) X.env)) (backToKw pos (keywordEach [] X.env))):=by rfl) :
  PE X (.Call (.Attribute o m apos) (e::es) [] pos) (Yj C m sp dvs E ta t):=by
 intro pins s σ H Q I h
 refine PySem.W.methodCall_KW (pl:=pl) (thn (he pins s σ H _ I h) λu s1 ⟨x,H1,I1,rx,a,dx,fs,ex,ea,l,q⟩=>?_) ht
 subst ex
 obtain rfl:u=Value.ref a:=rx
 refine yh I1 ea c hm l ?_
 refine PySem.W.callWith_K (first:=[.ref a]) (h₀:=X.base) I.ok.mod.kin hm.kp (thn (ha pos pins s1 σ H1 _ I1 q) λus s2 ⟨vs,H2,I2,r,q2⟩=>⟨I2.kIn,?_⟩) hst hpl
 exact ZD (us:=.ref a::us) (vs:=.ref a::vs) F hr hb hd hx I2 (.cons rfl r) q2
theorem Up {pl:Sem Bool}(he:PE X o ta) (c:Cls X.K C) (hm:Meth X.K C m f) (F:FnOk X.prog X.w X.K X.mg X.base CX k f fd ps sp) (hr:Room k X.A) (hb:y7 X.K fd ps ds) (hd:jD dvs ds) (hx:k9 CX X E)
  (ht:eval (.Call (.Attribute o m apos) [] [] pos) X.env=(do
   let ov <- eval o X.env
   standAt apos.atName
   let (f,first) <- holding [ov] (getMethod ov m pl)
   callWith pos f first (backTo pos (starEach [] X.env)) (backToKw pos (keywordEach [] X.env))):=by rfl) :
  PE X (.Call (.Attribute o m apos) [] [] pos) (Yj C m sp dvs E ta JZ):=by
 intro pins s σ H Q I h
 refine PySem.W.methodCall_KW (pl:=pl) (thn (he pins s σ H _ I h) λu s1 ⟨x,H1,I1,rx,a,dx,fs,ex,ea,l,q⟩=>?_) ht
 subst ex
 obtain rfl:u=Value.ref a:=rx
 refine yh I1 ea c hm l ?_
 exact PySem.W.callWith_K0 (first:=[.ref a]) I1.kIn hm.kp (ZD (us:=[.ref a]) (vs:=[.ref a]) F hr hb hd hx I1 (.cons rfl .nil) q)
structure Mk (K:PySem.W.Frag) (C f:Addr):Prop where
 makes:PySem.W.makesIn K C=true
 init:PySem.W.findIn K (.ref C) "__init__" = some (some (.ref f))
 fn:PySem.W.isFn K (.ref f)=true
 kp:PySem.W.keepIn K (.ref C)=true
end
section
variable {X:Cx}{CX:CXT}{k:Nat}{f C:Addr}{fd:FuncData}{ps ks:List Str}{sp:Sp}{E:XK}{x m:Str}{p pos apos kpos:Pos}{e o:Expr}{es:List Expr}{kws:List Keyword}{te ta:TE}{t tk:TA}{nm:Option Str}
variable {g:List Value->List Value->List Value}{gV:List V->List V->List V}
end
structure FnScope (N P:List Str) (sc:Scope):Prop where
 kind:sc.kind = .function
 co:sc.isCoroutine=false
 gen:sc.isGenerator=false
 nd:N.Nodup
 pre:N.take P.length=P
 par:∀x∈P,sc.names.lookup x=some .local\/sc.names.lookup x=some .cell
 nofree:∀y∈sc.names,y.2≠.free
theorem Jh {kindOf:Str->Option NameKind}{x:Str}:∀{binds:List (Str×Value)}{m:Str->Option Value},(∀v,(x,v)∉binds)->bindL kindOf binds m x=m x
 | [],_,_=>rfl
 | (n,v)::r,m,h=>by
  unfold bindL
  rw [Jh λw hw=>h w (List.mem_cons_of_mem _ hw)]
  split
  ·have:x≠n:=by rintro rfl;exact h v List.mem_cons_self
   simp [this]
  ·rfl
theorem Ju {kindOf:Str->Option NameKind}{x:Str}:∀{binds:List (Str×Value)}{m:Str->Option Value},(∀v,(x,v)∉binds)->bindC kindOf binds m x=m x
 | [],_,_=>rfl
 | (n,v)::r,m,h=>by
  unfold bindC
  rw [Ju λw hw=>h w (List.mem_cons_of_mem _ hw)]
  split
  ·rfl
  ·have:x≠n:=by rintro rfl;exact h v List.mem_cons_self
   simp [this]
theorem JH {kindOf:Str->Option NameKind}{x:Str}{v:Value}:∀{P:List Str}{vs:List Value}{i:Nat}{m:Str->Option Value},P.Nodup->P[i]? = some x->vs[i]? = some v->kindOf x=some .local ->
  bindL kindOf (P.zip vs) m x=some v
 | [],_,_,_,_,h,_,_=>by simp at h
 | _::_,[],_,_,_,_,h,_=>by simp at h
 | p::P,w::vs,0,m,nd,h1,h2,hk=>by
  simp at h1 h2;subst h1;subst h2
  show bindL kindOf ((p,w)::P.zip vs) m p=_
  unfold bindL
  rw [Jh λv hv=>(List.nodup_cons.mp nd).1 (List.of_mem_zip hv).1,if_pos hk]
  simp
 | p::P,w::vs,i+1,m,nd,h1,h2,hk=>by
  show bindL kindOf ((p,w)::P.zip vs) m x=_
  unfold bindL
  exact JH (i:=i) (List.nodup_cons.mp nd).2 (by simpa using h1) (by simpa using h2) hk
theorem JE {kindOf:Str->Option NameKind}{x:Str}{v:Value}:∀{P:List Str}{vs:List Value}{i:Nat}{m:Str->Option Value},P.Nodup->P[i]? = some x->vs[i]? = some v->kindOf x≠some .local ->
  bindC kindOf (P.zip vs) m x=some v
 | [],_,_,_,_,h,_,_=>by simp at h
 | _::_,[],_,_,_,_,h,_=>by simp at h
 | p::P,w::vs,0,m,nd,h1,h2,hk=>by
  simp at h1 h2;subst h1;subst h2
  show bindC kindOf ((p,w)::P.zip vs) m p=_
  unfold bindC
  rw [Ju λv hv=>(List.nodup_cons.mp nd).1 (List.of_mem_zip hv).1,if_neg hk]
  simp
 | p::P,w::vs,i+1,m,nd,h1,h2,hk=>by
  show bindC kindOf ((p,w)::P.zip vs) m x=_
  unfold bindC
  exact JE (i:=i) (List.nodup_cons.mp nd).2 (by simpa using h1) (by simpa using h2) hk
def start (N:List Str) (vs:List V):St:=vs.map some++List.replicate (N.length-vs.length) none
def vX (CX:CXT) (P:Program) (w:World) (K:PySem.W.Frag) (mg:Str->Option Value) (base:Heap) (N:List Str) (qual:Str) (scope:Scope) (f:Addr) (cd:Value) (A:Around) (outer:List Env) (s:Shared) (H:Hp) (E:XK):Cx where
 prog:=P
 w:=w
 K:=K
 mg:=mg
 base:=base
 A:=A.deeper (envOfC qual scope s.heap.objs.size f cd)
 N:=N
 s₀:=s
 H₀:=H
 env:=envOfC qual scope s.heap.objs.size f cd
 outer:=outer
 stack:=envOfC qual scope s.heap.objs.size f cd::outer
 ex:=[]
 calm:=true
 fn:=λ_=>true
 pn:=[]
 xe:=λe s'=>wpAny (model P w) (A.deeper (envOfC qual scope s.heap.objs.size f cd)) (leaving (envOfC qual scope s.heap.objs.size f cd) e) (λ_ s''=>CX outer H s E e s'') (λe' s''=>CX outer H s E e' s'') s'
theorem Xn {sc:Scope}{n:Nat}{x:Str}(h:sc.names.lookup x=some .cell):∃c,(cellsFrom n sc.names []).lookup x=some c:=by
 have q:=PySem.W.cellsFrom_some sc.names n [] (.inl h)
 exact Option.isSome_iff_exists.mp q
theorem JD {CX:CXT}{P:Program}{w:World}{K:PySem.W.Frag}{mg:Str->Option Value}{base:Heap}{N ps:List Str}{qual:Str}{scope:Scope}{f:Addr}{cd:Value}{A:Around}{outer:List Env}{s s1:Shared}{H:Hp}{E:XK}{us:List Value}{vs:List V}
  (S:FnScope N ps scope) (hd:A.handled=none) (e0:Env0 P w K mg base A outer s H) (hl:vs.length=ps.length) (r:jD vs us)
  (x:InCallC s s.heap.objs.size (bindL (envOfC qual scope s.heap.objs.size f cd).kindOf (ps.zip us) λ_=>none) (cellsFrom (s.heap.objs.size+1) scope.names []) (bindC (envOfC qual scope s.heap.objs.size f cd).kindOf (ps.zip us) λ_=>none) s1) :
  Inv (vX CX P w K mg base N qual scope f cd A outer s H E) [] (start N vs) H s1:=by
 have hpl:ps.length<=N.length:=by have:=congrArg List.length S.pre;rw [List.length_take] at this;omega
 obtain ⟨h1,tk,rfl,hk⟩:=x.done
 have noA:∀b:Addr,b∉(vX CX P w K mg base N qual scope f cd A outer s H E).ex:=λb z=>absurd (show b∈([]:List Addr) from z) (by simp)
 refine ⟨⟨e0.mod,S.kind,rfl,rfl,Nat.le_refl _,λy z c h1 h2=>?_,λy hy=>?_,λy c _ h=>?_,λ_=>hd,Around.frames_deeper e0.frames,.inr ⟨rfl,rfl⟩,λb z=>absurd z (noA b),e0.bs,e0.bsz,λb _ _=>noA b,λb z=>absurd z (noA b),e0.funs,e0.frf⟩,
  rfl,e0.bare,Un.kept hk,⟨_,x.toInCall.ns,λi y v h1 h2 h3=>?_⟩,λy c h=>⟨_,x.cell y c h⟩,e0.hok.fresh (Nat.le_refl _),λy c h=>?_,λp hp=>absurd (show p∈([]:List (Addr×Obj)) from hp) (by simp),e0.hok.kept hk,?_⟩
 ·exact name_of_addr x.apart (PySem.mem_of_lookup h1) (PySem.mem_of_lookup h2)
 ·have hy:scope.names.lookup y=some .cell\/scope.names.lookup y=some .free:=hy
  rcases hy with hy | hy
  ·exact Xn hy
  ·exact absurd rfl (S.nofree _ (PySem.mem_of_lookup hy))
 ·exact Nat.le_of_lt (x.above y c (PySem.mem_of_lookup h))
 ·have hi:i<vs.length:=by
   unfold start at h2
   by_cases hi:i<vs.length
   ·exact hi
   ·rw [List.getElem?_append_right (by simpa using hi)] at h2
    rw [List.getElem?_replicate] at h2
    split at h2 <;> cases h2
  have ha:vs[i]? = some v:=by
   unfold start at h2
   rw [List.getElem?_append_left (by simpa using hi),List.getElem?_map] at h2
   cases e:vs[i]? with
   | none=>rw [e] at h2;cases h2
   | some a=>rw [e] at h2;cases h2;rfl
  obtain ⟨u,hu,rv⟩:=r.get ha
  have hp:ps[i]? = some y:=by
   rw [<- S.pre,List.getElem?_take_of_lt ∅];exact h1
  have ndP:ps.Nodup:=by rw [<- S.pre];exact S.nd.sublist (List.take_sublist _ _)
  refine ⟨u,rv,?_⟩
  rcases S.par y (List.mem_of_getElem? hp) with k | k
  ·exact .inl ⟨k,JH ndP hp hu k⟩
  ·obtain ⟨c,e⟩:=Xn (n:=s.heap.objs.size+1) k
   refine .inr ⟨.inl k,c,e,?_⟩
   have q:=x.cell y c e
   rw [JE ndP hp hu (by show scope.names.lookup y≠_;rw [k];decide)] at q
   exact q
 ·exact e0.hok.fresh (Nat.le_of_lt (x.above y c (PySem.mem_of_lookup h)))
 ·unfold start
  show _=N.length
  rw [List.length_append,List.length_map,List.length_replicate]
  omega
theorem Vq {CX:CXT}{P:Program}{w:World}{K:PySem.W.Frag}{mg:Str->Option Value}{base:Heap}{k:Nat}{f:Addr}{name qual:Str}{params:Arguments}{body:List Stmt}{scope:Scope}{dV kV doc pm cdv ct oc:Value}{an od:Option Addr}
  {osl:Array (Option Value)} {N ps:List Str} {sp:Sp} (lk:K.lookup f=some ⟨oc,od,.func (PySem.W.fnOf name qual params body scope dV kV doc pm an cdv ct),osl⟩) (hcd:PySem.W.codeIn K cdv qual=true) (S:FnScope N ps scope)
  (len:∀vs H Q E,sp vs H Q E->vs.length=ps.length)
  (hbody:∀(A:Around) (outer:List Env) (s:Shared) (H:Hp) (vs:List V) (Q:VK) (E:XK),Room k (A.deeper (envOfC qual scope s.heap.objs.size f cdv))->sp vs H Q E ->
   ∃t,PSs (vX CX P w K mg base N qual scope f cdv A outer s H E) body t/\t { nx:=λ_ H'=>Q .non H',rt:=Q } (start N vs) H) :
  FnOk P w K mg base CX (k+1) f (PySem.W.fnOf name qual params body scope dV kV doc pm an cdv ct) ps sp:=by
 refine ⟨len,λA outer s H args us vs Q E hr e0 hb r hsp=>?_⟩
 have hl:=len _ _ _ _ hsp
 have KX:K.In s.heap:=e0.mod.kin.keeps λb o e=>(e0.bs b o e).1
 have lim:s.heap.NoLimit:=e0.mod.nolimit.keeps λb o e=>(e0.bs b o e).1
 have hkind:∀y∈ps.zip us,scope.names.lookup y.1=some .local\/(scope.names.lookup y.1=some .cell/\((cellsFrom (s.heap.objs.size+1) scope.names []).lookup y.1).isSome=true):=λ⟨n,v⟩ hy=>by
  rcases S.par n (List.of_mem_zip hy).1 with q | q
  ·exact .inl q
  ·exact .inr ⟨q,PySem.W.cellsFrom_some _ _ _ (.inl q)⟩
 refine codeAny_call_function hr.depth (KX _ _ lk) rfl S.co S.gen rfl (PySem.W.codeRec_of KX hcd) (hb _ _ _ _ ?_)
 refine wpAny_newFunctionEnv_cells S.kind hkind λenv he s1 x=>?_
 subst he
 refine ⟨lim.keeps x.toInCall.keep,codeAny_func ?_⟩
 obtain ⟨t,ht,hq⟩:=hbody A outer s H vs Q E (hr.deeper _) hsp
 have I:Inv (vX CX P w K mg base N qual scope f cdv A outer s H E) [] (start N vs) H s1:=JD S hr.hd e0 hl r x
 refine wpAny_mono (ht [] s1 (start N vs) H _ I hq) (λfl s' hs=>?_) λe s' hs=>hs
 have fin:∀{σ':St} {H':Hp} {v:V} {u:Value},Inv (vX CX P w K mg base N qual scope f cdv A outer s H E) [] σ' H' s'->jE v u->Q v H'->CE outer P w H s Q u s' :=
  λ{σ' H' v u} J rv q=>⟨v,H',J.os,J.bare,J.base,J.hok,rv,q⟩
 cases fl with
 | ret u =>
  obtain ⟨v,σ',H',J,rv,q⟩:=hs
  exact fin J rv q
 | next =>
  obtain ⟨σ',H',J,q⟩:=hs
  exact fin (v:=V.non) (u:=Value.none) J rfl q
 | brk =>
  obtain ⟨_,_,_,q⟩:=hs
  exact False.elim q
 | cont =>
  obtain ⟨_,_,_,q⟩:=hs
  exact False.elim q
end L2
namespace L2
section
variable {X:Cx}{x:Str}{p pos:Pos}{e:Expr}{es:List Expr}{t:TA}{id T:String}{r:List V->Hp->VK->Prop}
def tCB (r:List V->Hp->VK->Prop) (t:TA):TE:=λσ H Q=>t σ H λvs H1=>r vs H1 Q
theorem jd (hc:xb X (.builtin id) r) (hg:Gl X x) (hm:X.mg x=none) (hv:bootBuiltins x=some (.builtin id)) (ha:PA X (e::es) t) (hn:x ≠ "__name__":=by decide) (hdb:(x == ("__debug__" : Str))=false:=by decide)
  (he:starEach (e::es) X.env=(false,eval e X.env)::starEach es X.env:=by rfl) (hpl:(backTo pos (starEach es X.env)).any (·.1)=false:=by rfl):PE X (.Call (.Name x p) (e::es) [] pos) (tCB r t):=by
 intro pins s σ H Q I h
 refine wpAny_Call_Name_kw (zX I hg hm hv ?_ hn hdb)
 exact PyProof.Rows.callWith_builtin1 (thn (ha pos pins s σ H _ I h) λus s1 ⟨vs,H1,I1,r1,q1⟩=>hc pins s1 σ H1 vs us Q I1 r1 q1) he hpl
theorem qt (hc:xb X (.type T) r) (hg:Gl X x) (hm:X.mg x=none) (hv:bootBuiltins x=some (.type T)) (ha:PA X (e::es) t) (hn:x ≠ "__name__":=by decide) (hdb:(x == ("__debug__" : Str))=false:=by decide)
  (he:starEach (e::es) X.env=(false,eval e X.env)::starEach es X.env:=by rfl) (hpl:(backTo pos (starEach es X.env)).any (·.1)=false:=by rfl):PE X (.Call (.Name x p) (e::es) [] pos) (tCB r t):=by
 intro pins s σ H Q I h
 refine wpAny_Call_Name_kw (zX I hg hm hv ?_ hn hdb)
 exact PyProof.Rows.callWith_type1 (thn (ha pos pins s σ H _ I h) λus s1 ⟨vs,H1,I1,r1,q1⟩=>hc pins s1 σ H1 vs us Q I1 r1 q1) he hpl
end
end L2
namespace HT
open PySem PyProof.Rows
section
open PySem.SeqAt
open PySem.AutoSeq1 (wpAny_loadPart')
open PySem.MeetsSeq PySem.MeetsSeq2 PySem.MeetsSeq3
end
section
variable {prog:Program}{w:World}{A:Around}{E:Value->Shared->Prop}{s:Shared}
theorem cat_tup {t b:Addr}{vs ws:List Value}{Q:Value->Shared->Prop}(ht:IsTup s.heap t vs.toArray) (hb:IsTup s.heap b ws.toArray) (hv:vs≠[])
  (h1:ws=[]->Q (.ref t) s) (h2:ws≠[]->Q (.ref s.heap.objs.size) { s with heap:=s.heap.push { cls:=.type "tuple",data:=.seq (vs++ws).toArray } })
  (hsz:vs.length+ws.length<=sizeLine):wpAny (model prog w) A (binaryOp .Add (.ref t) (.ref b)) Q E s:=by
 obtain ⟨⟨cls,dd,data,sl⟩,ho,hc,n,hd⟩:=id ht
 obtain ⟨⟨cls2,dd2,data2,sl2⟩,ho2,hc2,n2,hd2⟩:=id hb
 simp only at hc hd hc2 hd2
 subst hc hd hc2 hd2
 have e:vs.toArray++ws.toArray=(vs++ws).toArray:=by simp
 by_cases hw:ws=[]
 ·exact concat_meets ⟨_,ho,rfl⟩ ⟨_,ho2,rfl⟩ noFill_tuple_add seq_tuple_add PySem.F.slot_tuple_add PySem.F.entry_tuple_add (PySem.F.args_tuple_add_2 _ _)
   (tuple_addW1 t b vs.toArray ws.toArray n n2 dd dd2 sl sl2 (by simpa using hv) (by simp [hw])) ⟨ho,ho2,h1 hw⟩
 ·refine concat_meets ⟨_,ho,rfl⟩ ⟨_,ho2,rfl⟩ noFill_tuple_add seq_tuple_add PySem.F.slot_tuple_add PySem.F.entry_tuple_add (PySem.F.args_tuple_add_2 _ _)
   (tuple_addW2 t b vs.toArray ws.toArray n n2 dd dd2 sl sl2 (by simpa using hv) (by simpa using hw) (by rw [List.size_toArray,List.size_toArray];exact hsz)) ⟨ho,ho2,?_⟩
  rw [e]
  exact h2 hw
def sIx (n d:Nat):Option Int->Nat
 | none=>d
 | some v=>if v<0 then (v+(n:Int)).toNat else min v.toNat n
theorem sIx_none (n d:Nat):sIx n d none=d:=rfl
theorem sIx_nat (n d k:Nat):sIx n d (some (k:Int))=min k n:=by
 show (if (k:Int)<0 then ((k:Int)+(n:Int)).toNat else min (k:Int).toNat n)=min k n
 rw [if_neg ∅,Int.toNat_natCast]
theorem slicePart_ {v:Value}{o:Option Int}{Q:Option Int->Shared->Prop}(p:IsPart v o) (h:Q o s):wpAny (model prog w) A (Builtin.Slice.slicePartIndex v) Q E s:=by
 cases p with
 | none=>exact slicePart_none h
 | int i t=>exact slicePart_int h
end
end HT
namespace L2
abbrev TO:=St->Hp->(Option Int->Hp->Prop)->Prop
def PO (X:Cx) (e:Option Expr) (t:TO):Prop :=
 ∀(pins:List (Addr×Obj)) (s:Shared) (σ:St) (H:Hp) (Q:Option Int->Hp->Prop),Inv X pins σ H s->t σ H Q ->
  wpAny (model X.prog X.w) X.A (evalPart e X.env) (λu s'=>∃o H',Inv X pins σ H' s'/\IsPart u o/\Q o H') X.xe s
def UW:TO:=λ_ H Q=>Q none H
def E9 (t:TE):TO:=λσ H Q=>t σ H λx H1=>∃i,x = .int i/\Q (some i) H1
section
variable {X:Cx}{e:Expr}{te:TE}{lo hi:Option Expr}{tl th:TO}{pos p2:Pos}
theorem yk:PO X none UW:=by
 intro pins s σ H Q I h
 rw [evalPart_none]
 exact wpAny_pure ⟨none,H,I,.none,h⟩
theorem yy (h:PE X e te):PO X (some e) (E9 te):=by
 intro pins s σ H Q I hw
 rw [evalPart_some]
 refine thn (h pins s σ H _ I hw) λu s1 ⟨x,H1,I1,r1,q1⟩=>?_
 obtain ⟨i,rfl,q⟩:=q1
 obtain ⟨t,rfl⟩:=r1
 exact ⟨some i,H1,I1,.int i t,q⟩
def SlR (X:Cx) (r:V->Option Int->Option Int->Hp->VK->Prop):Prop :=
 ∀(pins:List (Addr×Obj)) (s:Shared) (σ:St) (H:Hp) (x:V) (v vl vu:Value) (lo hi:Option Int) (sl:Addr) (Q:VK),Inv X pins σ H s->jE x v->s.heap.IsSliceOf sl vl vu .none->IsPart vl lo->IsPart vu hi->r x lo hi H Q ->
  ∃T id,typeLookup (.type T) "__getitem__" = pure (some (.builtin id))/\s.TypeIs v T/\wpAny (model X.prog X.w) X.A (getItem v (.ref sl)) (EP X pins σ Q) X.xe s
def tSl (r:V->Option Int->Option Int->Hp->VK->Prop) (te:TE) (tl th:TO):TE:=λσ H Q=>te σ H λx H1=>tl σ H1 λl H2=>th σ H2 λu H3=>r x l u H3 Q
theorem zx {r:V->Option Int->Option Int->Hp->VK->Prop}(hr:SlR X r) (he:PE X e te) (hl:PO X lo tl) (hu:PO X hi th):PE X (.Subscript e (.Slice lo hi none p2) pos) (tSl r te tl th):=by
 intro pins s σ H Q I h
 refine Subscript_ (thn (he pins s σ H _ I h) λv s1 ⟨x,H1,I1,r1,q1⟩=>?_)
 refine wpAny_Slice (thn (hl pins s1 σ H1 _ I1 q1) λvl s2 ⟨l,H2,I2,pl,q2⟩=>thn (hu pins s2 σ H2 _ I2 q2) λvu s3 ⟨u,H3,I3,pu,q3⟩=>?_)
 rw [evalPart_none]
 refine wpAny_pure ?_
 have I4:Inv X pins σ H3 { s3 with heap:=s3.heap.push { cls:=.type "slice",data:=.fields #[vl,vu,.none] } }:=I3.kept (t':=s3.toks) λb ob q=>Heap.get?_push_of_some _ q
 obtain ⟨T,id,hT,ht,hg⟩:=hr pins { s3 with heap:=s3.heap.push { cls:=.type "slice",data:=.fields #[vl,vu,.none] } } σ H3 x v vl vu l u s3.heap.objs.size Q I4 r1 (Heap.IsSliceOf.new ..) pl pu q3
 show wpAny (model X.prog X.w) X.A (subscriptTail e (.Slice lo hi none p2) v (.ref s3.heap.objs.size)) (EP X pins σ Q) X.xe { s3 with heap:=s3.heap.push { cls:=.type "slice",data:=.fields #[vl,vu,.none] } }
 exact tail_any (ops:=[.ref s3.heap.objs.size,v]) ht hT hg (by with_unfolding_all rfl)
def wm (xs:List V) (lo hi:Option Int):List V:=(xs.drop (HT.sIx xs.length 0 lo)).take (HT.sIx xs.length xs.length hi-HT.sIx xs.length 0 lo)
theorem QT (xs:List V) (lo hi:Option Int):(wm xs lo hi).length<=xs.length:=by
 unfold wm
 rw [List.length_take,List.length_drop]
 omega
def EG (K:PySem.W.Frag):R2:=λx y H Q=>∃a b xs ys,x = .ref a/\y = .ref b/\SqT K H a xs/\SqT K H b ys/\xs≠[]/\xs.length+ys.length<=sizeLine /\
 (ys=[]->Q (.ref a) H)/\(ys≠[]->∀p,H p=none->Q (.ref p) (upd H p (.tup (xs++ys))))
theorem jD.nil_iff {xs:List V}{us:List Value}(r:jD xs us):us=[]↔xs=[]:=by
 cases r with
 | nil=>simp
 | cons _ _=>simp
theorem WD:OpR X (binaryOp .Add) (EG X.K):=by
 intro pins s σ H x y v u Q I rx ry h
 obtain ⟨a,b,xs,ys,rfl,rfl,ha,hb,hx,hz,q1,q2⟩:=h
 cases rx
 cases ry
 obtain ⟨its,r1,p1,_⟩:=I.tuple ha
 obtain ⟨its2,r2,p2,_⟩:=I.tuple hb
 refine HT.cat_tup p1 p2 (λz=>hx (r1.nil_iff.mp z)) (λz=>⟨.ref a,H,I,rfl,q1 (r2.nil_iff.mp z)⟩) (λz=>?_) (by rw [<- r1.length,<- r2.length];exact hz)
 refine ⟨.ref s.heap.objs.size,_,I.laid (t':=s.toks) (o:=.tup (xs++ys)) (λb ob q=>Heap.get?_push_of_some _ q) (Nat.le_refl _) ?_,rfl,q2 (λw=>z (r2.nil_iff.mpr w)) _ (I.hok.fresh (Nat.le_refl _))⟩
 exact ⟨by rw [List.length_append];exact hz,_,r1.append r2,IsTup.new _ _⟩
end
end L2
namespace L2
def ixN (n:Nat) (i:Int):Option Nat:=if 0<=i then (if i<n then some i.toNat else none) else if -(n:Int)<=i then some (i+n).toNat else none
def atI {α:Type}(xs:List α) (i:Int):Option α:=(ixN xs.length i).bind λj=>xs[j]?
theorem Y0 {n:Nat}{i:Int}{j:Nat}(h:ixN n i=some j):seqIndex? i n=some j/\j<n /\ -(n:Int)<=i/\i<n:=by
 unfold ixN at h
 by_cases h0:0<=i
 ·rw [if_pos h0] at h
  by_cases h1:i<n
  ·rw [if_pos h1] at h
   have e:i.toNat=j:=Option.some.inj h
   exact ⟨by rw [seqIndex_of h0 h1,e],∅,∅,h1⟩
  ·rw [if_neg h1] at h;cases h
 ·rw [if_neg h0] at h
  by_cases h1 : -(n:Int)<=i
  ·rw [if_pos h1] at h
   have e:(i+n).toNat=j:=Option.some.inj h
   exact ⟨by rw [seqIndex_neg ∅ h1,e],∅,h1,∅⟩
  ·rw [if_neg h1] at h;cases h
theorem ZM {α:Type}{xs:List α}{i:Int}{v:α}(h:atI xs i=some v):∃j,seqIndex? i xs.length=some j/\xs[j]? = some v/\j<xs.length /\ -(xs.length:Int)<=i/\i<xs.length:=by
 unfold atI at h
 cases e:ixN xs.length i with
 | none=>rw [e] at h;cases h
 | some j =>
  rw [e] at h
  obtain ⟨h1,h2,h3,h4⟩:=Y0 e
  exact ⟨j,h1,h,h2,h3,h4⟩
theorem zJ {α:Type}{xs:List α}{j:Nat}{v:α}(h:xs[j]? = some v):atI xs (j:Int)=some v:=by
 have hj:j<xs.length:=(List.getElem?_eq_some_iff.mp h).1
 have e:ixN xs.length (j:Int)=some j:=by
  unfold ixN
  rw [if_pos ∅,if_pos ∅];simp
 unfold atI;rw [e];exact h
theorem kX {α:Type}(xs:List α) (v:α):atI (xs++[v]) (-1)=some v:=by
 have hl:(xs++[v]).length=xs.length+1:=by simp
 have e:ixN (xs++[v]).length (-1)=some xs.length:=by
  unfold ixN
  rw [hl,if_neg ⋯,if_pos ∅]
  congr 1
  omega
 unfold atI
 rw [e]
 show (xs++[v])[xs.length]? = some v
 simp
def UQ (b:Expr):Prop:=∀o i,subscripted b false o i=operate [o,i] (getItem o i)
def IxR (X:Cx) (r:R2):Prop :=
 ∀(value slice:Expr) (pins:List (Addr×Obj)) (s:Shared) (σ:St) (H:Hp) (x y:V) (v u:Value) (Q:VK),Inv X pins σ H s->jE x v->jE y u->r x y H Q ->
  subscripted slice false v u=operate [v,u] (getItem v u)->wpAny (model X.prog X.w) X.A (subscriptTail value slice v u) (EP X pins σ Q) X.xe s
def MtR (X:Cx) (id:String) (r:V->List V->Hp->VK->Prop):Prop :=
 ∀(pins:List (Addr×Obj)) (s:Shared) (σ:St) (H:Hp) (x:V) (xs:List V) (v:Value) (us:List Value) (Q:VK),Inv X pins σ H s->jE x v->jD xs us->r x xs H Q ->
  wpAny (model X.prog X.w) X.A (call (.builtin id) (v::us)) (EP X pins σ Q) X.xe s
section
variable {X:Cx}{a b:Expr}{ta tb:TE}{pos:Pos}
theorem js {r:R2}(hr:IxR X r) (ha:PE X a ta) (hb:PE X b tb) (hs:UQ b):PE X (.Subscript a b pos) (tOp r ta tb):=by
 intro pins s σ H Q I h
 exact Subscript_ (Gk ha hb I h λv u s2 x y H2 I2 rx ry q=>hr a b pins s2 σ H2 x y v u Q I2 rx ry q (hs _ _))
def G3 (K:PySem.W.Frag):R2:=λx y H Q=>∃p xs i v,x = .ref p/\y = .int i/\SqL K H p xs/\atI xs i=some v/\Q v H
def E6 (K:PySem.W.Frag):R2:=λx y H Q=>∃p xs i v,x = .ref p/\y = .int i/\SqT K H p xs/\atI xs i=some v/\Q v H
theorem UR:IxR X (G3 X.K):=by
 intro value slice pins s σ H x y v u Q I rx ry h hs
 obtain ⟨p,xs,i,z,rfl,rfl,hq,he,q⟩:=h
 cases rx
 obtain ⟨t,rfl⟩:=ry
 obtain ⟨its,r,pl,hz⟩:=I.list hq
 obtain ⟨j,h1,h2,h3,h4,h5⟩:=ZM he
 obtain ⟨w,ew,rw'⟩:=r.get h2
 have hl:=r.length
 have hn:=gG
 have fin:EP X pins σ Q w s:=⟨z,H,I,rw',q⟩
 by_cases h0:0<=i
 ·have hj:i.toNat=j:=by
   rw [seqIndex_of h0 h5] at h1
   exact Option.some.inj h1
  exact item_listR pl.isList h0 ∅ (by rw [hj];simpa using ew) fin hs
 ·have hj:(i+(its.toArray.size:Int)).toNat=j:=by
   rw [seqIndex_neg ∅ h4] at h1
   rw [List.size_toArray,<- hl]
   exact Option.some.inj h1
  exact subscriptTail_builtinR (x:=w) pl.isList.typeIs slot_list_getitem.lookup
   (wpAny_getItem_list_neg (Q:=λr s'=>r=w/\EP X pins σ Q r s') pl.isList ∅ (by rw [List.size_toArray] <;> omega) ∅ (by rw [hj];simpa using ew) ⟨rfl,fin⟩) hs
theorem Gz:IxR X (E6 X.K):=by
 intro value slice pins s σ H x y v u Q I rx ry h hs
 obtain ⟨p,xs,i,z,rfl,rfl,hq,he,q⟩:=h
 cases rx
 obtain ⟨t,rfl⟩:=ry
 obtain ⟨its,r,pl,hz⟩:=I.tuple hq
 obtain ⟨j,h1,h2,h3,h4,h5⟩:=ZM he
 obtain ⟨w,ew,rw'⟩:=r.get h2
 have hl:=r.length
 have hn:=gG
 have fin:EP X pins σ Q w s:=⟨z,H,I,rw',q⟩
 exact subscriptTail_builtinR (x:=w) pl.typeIs slot_tuple_getitem.lookup
  (getItem_tuple (j:=j) (Q:=λr s'=>r=w/\EP X pins σ Q r s') pl ∅ ∅ (by rw [List.size_toArray,<- hl];exact h1) (by simpa using ew) ⟨rfl,fin⟩) hs
theorem XZ (its:List Value) (n j:Nat) (u:Value):Obj.mapSeq (·.setIfInBounds j u) { cls:=.type "list",data:=.seq its.toArray n }={ cls:=.type "list",data:=.seq (its.set j u).toArray n }:=by
 simp [Obj.mapSeq]
theorem Inv.lst {pins:List (Addr×Obj)}{σ:St}{H:Hp}{s:Shared}{p:Addr}{xs:List V}(I:Inv X pins σ H s) (h:H p=some (.lst xs)) :
  ∃(its:List Value) (n:Nat),jD xs its/\s.heap.get? p=some { cls:=.type "list",data:=.seq its.toArray n }/\xs.length<=sizeLine:=by
 obtain ⟨z,its,n,r,e⟩:=I.hok p _ h
 exact ⟨its,n,r,e,z⟩
theorem Inv.lstUpd {pins:List (Addr×Obj)}{σ:St}{H:Hp}{s:Shared}{p:Addr}{xs ys:List V}{its its':List Value}{n n':Nat}{f:Obj->Obj}(I:Inv X pins σ H s) (h:H p=some (.lst xs))
  (ho:s.heap.get? p=some { cls:=.type "list",data:=.seq its.toArray n }) (hf:f { cls:=.type "list",data:=.seq its.toArray n }={ cls:=.type "list",data:=.seq its'.toArray n' }) (r:jD ys its') (hz:ys.length<=sizeLine) (t:Nat) :
  Inv X pins σ (upd H p (.lst ys)) { s with heap:=s.heap.update p f,toks:=t }:=by
 have e:(s.heap.update p f).get? p=some { cls:=.type "list",data:=.seq its'.toArray n' }:=by
  rw [Heap.get?_update_self f ho (by rw [hf] <;> rfl),hf]
 refine I.write (x:=p) (e:=p) (by rw [h];trivial) (.inl rfl) (λb u hb q=>(Heap.get?_update_other _ _ (Ne.symm hb)).trans q) ⟨_,e⟩ ?_
 exact ⟨hz,its',n',r,e⟩
def EU:V->V->V->Hp->(Hp->Prop)->Prop:=λo i v H Q=>∃p xs k j,o = .ref p/\i = .int k/\H p=some (.lst xs)/\ixN xs.length k=some j/\Q (upd H p (.lst (xs.set j v)))
theorem uS:Es X EU:=by
 intro pins s σ H o i v ov iv u Q I ro ri rv h
 obtain ⟨p,xs,k,j,rfl,rfl,hp,hj,q⟩:=h
 cases ro
 obtain ⟨t,rfl⟩:=ri
 obtain ⟨its,n,r,ho,hz⟩:=I.lst hp
 obtain ⟨h1,h2,h3,h4⟩:=Y0 hj
 have hl:=r.length
 have hn:=gG
 have I':Inv X pins σ (upd H p (.lst (xs.set j v))) { s with heap:=s.heap.update p (Obj.mapSeq (·.setIfInBounds j u)) } :=
  I.lstUpd hp ho (XZ its n j u) (r.set rv j) (by rw [List.length_set];exact hz) s.toks
 by_cases h0:0<=k
 ·have hk:k.toNat=j:=by
   rw [seqIndex_of h0 h4] at h1
   exact Option.some.inj h1
  exact PySem.W.ki_setAt ho h0 ∅ (by rw [List.size_toArray,<- hl];exact h4) (by rw [hk];exact ⟨_,I',q⟩)
 ·have hk:(k+(its.toArray.size:Int)).toNat=j:=by
   rw [seqIndex_neg ∅ h3] at h1
   rw [List.size_toArray,<- hl]
   exact Option.some.inj h1
  exact PySem.W.ki_setBack ho ∅ (by rw [List.size_toArray,<- hl];exact h3) ∅ (by rw [hk];exact ⟨_,I',q⟩)
theorem JQ (lo hi:Option Int) (n:Nat):(sliceBounds lo hi none n).1=((HT.sIx n 0 lo:Nat):Int)/\(sliceBounds lo hi none n).2.1=((HT.sIx n n hi:Nat):Int)/\(sliceBounds lo hi none n).2.2=1:=by
 refine ⟨?_,?_,rfl⟩
 ·cases lo with
  | none=>simp [sliceBounds,HT.sIx]
  | some i =>
   simp only [sliceBounds,HT.sIx,Option.getD_none,show (1:Int) > 0 by decide,if_true]
   by_cases h:i<0
   ·simp only [h,if_true] <;> omega
   ·simp only [h,if_false] <;> omega
 ·cases hi with
  | none=>simp [sliceBounds,HT.sIx]
  | some i =>
   simp only [sliceBounds,HT.sIx,Option.getD_none,show (1:Int) > 0 by decide,if_true]
   by_cases h:i<0
   ·simp only [h,if_true] <;> omega
   ·simp only [h,if_false] <;> omega
theorem J5 (its:List Value) (lo hi:Option Int):slicePick its.toArray lo hi none=((its.drop (HT.sIx its.length 0 lo)).take (HT.sIx its.length its.length hi-HT.sIx its.length 0 lo)).toArray:=by
 obtain ⟨h1,h2,h3⟩:=JQ lo hi its.toArray.size
 unfold slicePick
 rw [h1,h2,h3]
 simp only [sliceRange_one,pick_run,List.size_toArray] <;> rfl
def rSlL (K:PySem.W.Frag):V->Option Int->Option Int->Hp->VK->Prop:=λx lo hi H Q=>∃a xs,x = .ref a/\SqL K H a xs/\∀p,H p=none->Q (.ref p) (upd H p (.lst (wm xs lo hi)))
theorem Wy:SlR X (rSlL X.K):=by
 intro pins s σ H x v vl vu lo hi sl Q I rx hs pl pu h
 obtain ⟨a,xs,rfl,hx,q⟩:=h
 cases rx
 obtain ⟨its,r,ht,hz⟩:=I.list hx
 have hlen:=r.length
 refine ⟨"list",_,slot_list_getitem.lookup,ht.isList.typeIs,?_⟩
 refine wpAny_getItem_list_slice ht.isList hs pl pu .none (by simp) ?_ (by rw [List.size_toArray] <;> omega)
 rw [J5,<- hlen]
 refine ⟨.ref s.heap.objs.size,_,I.laid (t':=s.toks) (o:=.lst (wm xs lo hi)) (λb ob q=>Heap.get?_push_of_some _ q) (Nat.le_refl _) ?_,rfl,q _ (I.hok.fresh (Nat.le_refl _))⟩
 exact ⟨Nat.le_trans (QT xs lo hi) hz,_,0,(r.drop (HT.sIx xs.length 0 lo)).take (HT.sIx xs.length xs.length hi-HT.sIx xs.length 0 lo),Heap.get?_push_size _ rfl⟩
def uj:V->Bool
 | .non=>true
 | .bl _=>true
 | .int _=>true
 | .str _=>true
 | _=>false
def eqV:V->V->Bool
 | .non,.non=>true
 | .bl a,.bl b=>a == b
 | .bl a,.int b=>(if a then 1 else 0) == b
 | .int a,.bl b=>a == (if b then 1 else 0)
 | .int a,.int b=>a == b
 | .str a,.str b=>a == b
 | _,_=>false
theorem G7 {A:Around}{s:Shared}{y x:V}{u v:Value}(ry:jE y u) (rx:jE x v) (fy:uj y=true) (fx:uj x=true):SeqAt.EqAt A s u v (eqV y x):=by
 cases y with
 | non =>
  cases ry
  cases x with
  | non=>cases rx;exact SeqAt.EqAt.same _
  | bl b=>cases rx;exact SeqAt.EqAt.none_bool b
  | int b=>obtain ⟨t,rfl⟩:=rx;exact SeqAt.EqAt.none_int b t
  | str b=>obtain ⟨t,rfl⟩:=rx;exact SeqAt.EqAt.none_str b t
  | _=>exact absurd (show false=true from fx) Bool.false_ne_true
 | bl a =>
  cases ry
  cases x with
  | non=>cases rx;exact SeqAt.EqAt.bool_none a
  | bl b=>cases rx;exact SeqAt.EqAt.bool_bool a b
  | int b=>obtain ⟨t,rfl⟩:=rx;exact SeqAt.EqAt.bool_int a b t
  | str b=>obtain ⟨t,rfl⟩:=rx;exact SeqAt.EqAt.bool_str a b t
  | _=>exact absurd (show false=true from fx) Bool.false_ne_true
 | int a =>
  obtain ⟨t',rfl⟩:=ry
  cases x with
  | non=>cases rx;exact SeqAt.EqAt.int_none a t'
  | bl b=>cases rx;exact SeqAt.EqAt.int_bool a t' b
  | int b=>obtain ⟨t,rfl⟩:=rx;exact SeqAt.EqAt.int_int a t' b t
  | str b=>obtain ⟨t,rfl⟩:=rx;exact SeqAt.EqAt.int_str a t' b t
  | _=>exact absurd (show false=true from fx) Bool.false_ne_true
 | str a =>
  obtain ⟨t',rfl⟩:=ry
  cases x with
  | non=>cases rx;exact SeqAt.EqAt.str_none a t'
  | bl b=>cases rx;exact SeqAt.EqAt.str_bool a t' b
  | int b=>obtain ⟨t,rfl⟩:=rx;exact SeqAt.EqAt.str_int a t' b t
  | str b=>obtain ⟨t,rfl⟩:=rx;exact SeqAt.EqAt.str_str a t' b t
  | _=>exact absurd (show false=true from fx) Bool.false_ne_true
 | _=>exact absurd (show false=true from fy) Bool.false_ne_true
def eqU (x:V) (u:Value):Bool:=match u with
 | .none=>eqV .non x
 | .bool b=>eqV (.bl b) x
 | .int i _=>eqV (.int i) x
 | .str z _=>eqV (.str z) x
 | _=>false
theorem Uy {x y:V}{u:Value}(r:jE y u) (f:uj y=true):eqU x u=eqV y x:=by
 cases y with
 | non=>cases r;rfl
 | bl b=>cases r;rfl
 | int i=>obtain ⟨t,rfl⟩:=r;rfl
 | str z=>obtain ⟨t,rfl⟩:=r;rfl
 | _=>exact absurd (show false=true from f) Bool.false_ne_true
theorem uO {x:V}:∀{xs:List V}{us:List Value},jD xs us->xs.all uj=true->us.any (eqU x)=xs.any λy=>eqV y x
 | _,_,.nil,_=>rfl
 | y::xs,u::us,.cons r t,f=>by
  rw [List.all_cons,Bool.and_eq_true] at f
  rw [List.any_cons,List.any_cons,Uy r f.1,uO t f.2]
theorem yU {A:Around}{s:Shared}{x:V}{v:Value}(rx:jE x v) (fx:uj x=true):∀{xs:List V}{us:List Value},jD xs us->xs.all uj=true->∀u∈us,SeqAt.EqAt A s u v (eqU x u)
 | _,_,.nil,_=>λu hu=>by cases hu
 | y::xs,u::us,.cons r t,f=>λu' hu=>by
  rw [List.all_cons,Bool.and_eq_true] at f
  rcases List.mem_cons.mp hu with rfl | hu
  ·rw [Uy r f.1];exact G7 r rx f.1 fx
  ·exact yU rx fx t f.2 u' hu
def inV (x:V) (xs:List V):Bool:=xs.any λy=>eqV y x
def rIn (K:PySem.W.Frag) (neg:Bool):R2:=λx y H Q=>∃p xs,y = .ref p/\(SqL K H p xs\/SqT K H p xs)/\uj x=true/\xs.all uj=true/\Q (.bl (if neg then !inV x xs else inV x xs)) H
theorem Vd:OpR X (compareOp .In) (rIn X.K false):=by
 intro pins s σ H x y v u Q I rx ry h
 obtain ⟨p,xs,rfl,hq,fx,fs,q⟩:=h
 cases ry
 rcases hq with hq | hq
 ·obtain ⟨its,r,pl,hz⟩:=I.list hq
  refine SeqAt.in_listAt (eqU x) pl.isList (λw hw=>yU rx fx r fs w (by simpa using hw)) ⟨.bl _,H,I,rfl,?_⟩
  rw [show its.toArray.any (eqU x)=its.any (eqU x) by simp,uO r fs]
  exact q
 ·obtain ⟨its,r,pl,hz⟩:=I.tuple hq
  refine SeqAt.in_tupleAt (eqU x) pl (λw hw=>yU rx fx r fs w (by simpa using hw)) ⟨.bl _,H,I,rfl,?_⟩
  rw [show its.toArray.any (eqU x)=its.any (eqU x) by simp,uO r fs]
  exact q
theorem JO:OpR X (compareOp .NotIn) (rIn X.K true):=by
 intro pins s σ H x y v u Q I rx ry h
 obtain ⟨p,xs,rfl,hq,fx,fs,q⟩:=h
 cases ry
 rcases hq with hq | hq
 ·obtain ⟨its,r,pl,hz⟩:=I.list hq
  refine SeqAt.notIn_listAt (eqU x) pl.isList (λw hw=>yU rx fx r fs w (by simpa using hw)) ⟨.bl _,H,I,rfl,?_⟩
  rw [show its.toArray.any (eqU x)=its.any (eqU x) by simp,uO r fs]
  exact q
 ·obtain ⟨its,r,pl,hz⟩:=I.tuple hq
  refine SeqAt.notIn_tupleAt (eqU x) pl (λw hw=>yU rx fx r fs w (by simpa using hw)) ⟨.bl _,H,I,rfl,?_⟩
  rw [show its.toArray.any (eqU x)=its.any (eqU x) by simp,uO r fs]
  exact q
theorem Qn:xb X (.builtin "len") (λxs H Q=>∃p ys,xs=[.ref p]/\(SqL X.K H p ys\/SqT X.K H p ys)/\Q (.int ys.length) H):=by
 intro pins s σ H xs us Q I r h
 obtain ⟨p,ys,rfl,hq,q⟩:=h
 obtain ⟨u,rfl,rx⟩:=yC r
 cases rx
 have hn:=gG
 rcases hq with hq | hq
 ·obtain ⟨its,r',pl,hz⟩:=I.list hq
  have hlen:=r'.length
  exact Calls.call_len_list pl.isList (by simp only [List.size_toArray] <;> omega) ⟨.int ys.length,H,I.tok _,⟨s.toks+1,by rw [List.size_toArray,hlen]⟩,q⟩
 ·obtain ⟨its,r',pl,hz⟩:=I.tuple hq
  have hlen:=r'.length
  exact len_tuple pl (by simp only [List.size_toArray] <;> omega) ⟨.int ys.length,H,I.tok _,⟨s.toks+1,by rw [List.size_toArray,hlen]⟩,q⟩
theorem Qj:xb X (.type "list") (λxs H Q=>∃p ys,xs=[.ref p]/\(SqL X.K H p ys\/SqT X.K H p ys)/\∀l,H l=none->Q (.ref l) (upd H l (.lst ys))):=by
 intro pins s σ H xs us Q I r h
 obtain ⟨p,ys,rfl,hq,q⟩:=h
 obtain ⟨u,rfl,rx⟩:=yC r
 cases rx
 have fin:∀(its:List Value),jD ys its->ys.length<=sizeLine->∀(h':Heap) (c':Nat),(∀b o',s.heap.get? b=some o'->h'.get? b=some o') ->
   h'.get? s.heap.objs.size=some { cls:=.type "list",dict:=none,data:=.seq its.toArray c',slots:=#[] }->EP X pins σ Q (.ref s.heap.objs.size) { s with heap:=h' }:=λits r' hz h' c' kp e =>
  ⟨.ref s.heap.objs.size,_,I.laid (t':=s.toks) kp (Nat.le_refl _) (show qp X.prog X.w _ h' _ (.lst ys) from ⟨hz,its,c',r',e⟩),rfl,q _ (I.hok.fresh (Nat.le_refl _))⟩
 rcases hq with hq | hq
 ·obtain ⟨its,r',pl,hz⟩:=I.list hq
  have hlen:=r'.length
  obtain ⟨o,ho,hc,n,hd⟩:=pl.isList
  exact call_list_seq p (.inl rfl) ho hc hd (λh' c' kp e=>fin its r' hz h' c' kp e) (by simp only [List.size_toArray] <;> omega)
 ·obtain ⟨its,r',pl,hz⟩:=I.tuple hq
  have hlen:=r'.length
  obtain ⟨o,ho,hc,n,hd⟩:=pl
  exact call_list_seq p (.inr rfl) ho hc hd (λh' c' kp e=>fin its r' hz h' c' kp e) (by simp only [List.size_toArray] <;> omega)
theorem J0:xb X (.type "tuple") (λxs H Q=>∃p ys,xs=[.ref p]/\((SqL X.K H p ys/\∀l,H l=none->Q (.ref l) (upd H l (.tup ys)))\/(SqT X.K H p ys/\Q (.ref p) H))):=by
 intro pins s σ H xs us Q I r h
 obtain ⟨p,ys,rfl,h⟩:=h
 obtain ⟨u,rfl,rx⟩:=yC r
 cases rx
 rcases h with ⟨hq,q⟩ | ⟨hq,q⟩
 ·obtain ⟨its,r',pl,hz⟩:=I.list hq
  have hlen:=r'.length
  refine call_tuple_list pl.isList (λh' kp=>?_) (by simp only [List.size_toArray] <;> omega)
  have I1:Inv X pins σ H { s with heap:=h' }:=I.kept (t':=s.toks) kp
  have I2:Inv X pins σ (upd H h'.objs.size (.tup ys)) { s with heap:=h'.push { cls:=.type "tuple",data:=.seq its.toArray } } :=
   I1.laid (t':=s.toks) (λb o e=>Heap.get?_push_of_some _ e) (Nat.le_refl _) (show qp X.prog X.w _ _ _ (.tup ys) from ⟨hz,its,r',IsTup.new _ _⟩)
  exact ⟨.ref h'.objs.size,_,I2,rfl,q _ (I1.hok.fresh (Nat.le_refl _))⟩
 ·obtain ⟨its,r',pl,hz⟩:=I.tuple hq
  exact call_tuple_same pl ⟨.ref p,H,I,rfl,q⟩
def tyV (K:PySem.W.Frag) (T:String) (x:V) (H:Hp):Prop:=match x with
 | .str _=>T = "str"
 | .int _=>T = "int"
 | .ref p=>(T = "list" /\ ∃xs,SqL K H p xs)\/(T = "tuple" /\ ∃o,K.lookup p=some o/\o.cls = .type "tuple" /\ o.dict=none) \/
   (T = "dict" /\ ((∃kvs,H p=some (.dK kvs))\/∃kvs,H p=some (.dT kvs)))\/(T = "set" /\ ∃S n,H p=some (.set S n))
 | _=>False
theorem Vw {pins:List (Addr×Obj)}{σ:St}{H:Hp}{s:Shared}{T:String}{x:V}{v:Value}(I:Inv X pins σ H s) (r:jE x v) (ty:tyV X.K T x H) :
  s.TypeIs v T/\∀a,v = .ref a->∃ob,s.heap.get? a=some ob/\ob.dict=none:=by
 cases x with
 | str z =>
  obtain ⟨t,rfl⟩:=r
  cases (show T = "str" from ty)
  exact ⟨typeIs_str s z t,λ_ e=>nomatch e⟩
 | int i =>
  obtain ⟨t,rfl⟩:=r
  cases (show T = "int" from ty)
  exact ⟨typeIs_int s i t,λ_ e=>nomatch e⟩
 | ref p =>
  cases r
  rcases ty with ⟨rfl,xs,hq⟩ | ⟨rfl,o,hk,hc,hd⟩ | ⟨rfl,hk⟩ | ⟨rfl,S,n,hk⟩
  ·obtain ⟨its,_,pl,_⟩:=I.list hq
   refine ⟨pl.isList.typeIs,λa e=>?_⟩
   cases e
   obtain ⟨o,n,e,c,hd,_⟩:=pl
   exact ⟨o,e,hd⟩
  ·refine ⟨⟨o,I.kIn p o hk,hc⟩,λa e=>?_⟩
   cases e
   exact ⟨o,I.kIn _ o hk,hd⟩
  ·have z:∃o,s.heap.get? p=some o/\o.ExactDict:=by
    rcases hk with ⟨kvs,hk⟩ | ⟨kvs,hk⟩
    ·obtain ⟨_,_,_,_,o,_,_,e,ex,_⟩:=I.hok p _ hk
     exact ⟨o,e,ex⟩
    ·obtain ⟨_,_,_,_,o,_,_,e,ex,_⟩:=I.hok p _ hk
     exact ⟨o,e,ex⟩
   obtain ⟨o,e,ex⟩:=z
   refine ⟨⟨o,e,ex.1⟩,λa e2=>?_⟩
   cases e2
   exact ⟨o,e,ex.2.1⟩
  ·obtain ⟨o,_,_,_,e,ex,_⟩:=I.hok p _ hk
   refine ⟨⟨o,e,ex.1⟩,λa e2=>?_⟩
   cases e2
   exact ⟨o,e,ex.2.1⟩
 | _=>exact False.elim ty
def EC (K:PySem.W.Frag) (T:String) (r:V->List V->Hp->VK->Prop) (to:TE):TE:=λσ H Q=>to σ H λx H1=>tyV K T x H1/\r x [] H1 Q
def tBM (K:PySem.W.Frag) (T:String) (r:V->List V->Hp->VK->Prop) (to:TE) (t:TA):TE:=λσ H Q=>to σ H λx H1=>tyV K T x H1/\t σ H1 λxs H2=>r x xs H2 Q
variable {o e:Expr}{es:List Expr}{to:TE}{t:TA}{name:Str}{apos cpos:Pos}{T id:String}{r:V->List V->Hp->VK->Prop}
theorem UA (pa:PlainAttrs T) (slot:Slot T name id) (hty:typeOf (.builtin id)=pure (.type "method_descriptor")) (hm:MtR X id r) (ho:PE X o to)
  (hbase:attributeBase o name X.env (eval o X.env)=eval o X.env:=by rfl) (hline:(apos.endLine == cpos.line)=true:=by rfl):PE X (.Call (.Attribute o name apos) [] [] cpos) (EC X.K T r to):=by
 intro pins s σ H Q I h
 refine wpAny_Call_method0_late hbase hline (thn (ho pins s σ H _ I h) λv s1 ⟨x,H1,I1,r1,ty,q1⟩=>?_)
 obtain ⟨h1,h2⟩:=Vw I1 r1 ty
 exact ⟨T,id,pa,slot,hty,h1,h2,Calls.callWith_builtin rfl (PySem.evalArgs_none (hm pins s1 σ H1 x [] v [] Q I1 r1 .nil q1))⟩
theorem EQ (pa:PlainAttrs T) (slot:Slot T name id) (hty:typeOf (.builtin id)=pure (.type "method_descriptor")) (hm:MtR X id r) (ho:PE X o to) (ha:PA X (e::es) t)
  (hbase:attributeBase o name X.env (eval o X.env)=eval o X.env:=by rfl)
  (hfew:((backTo cpos (starEach (e::es) X.env)).all (λx=>!x.1) && (backToKw cpos (keywordEach [] X.env)).all (λx=>x.1.isSome)
   && decide ((e::es).length+([]:List Keyword).length+(if ([]:List Keyword).isEmpty then 0 else 1)<30))=true:=by rfl)
  (hline:(apos.endLine == cpos.line)=true:=by rfl) (hs:starEach (e::es) X.env=(false,eval e X.env)::starEach es X.env:=by rfl) (hplain:(backTo cpos (starEach es X.env)).any (·.1)=false:=by rfl) :
  PE X (.Call (.Attribute o name apos) (e::es) [] cpos) (tBM X.K T r to t):=by
 intro pins s σ H Q I h
 refine wpAny_Call_method_late hbase hfew hline rfl (thn (ho pins s σ H _ I h) λv s1 ⟨x,H1,I1,r1,ty,q1⟩=>?_)
 obtain ⟨h1,h2⟩:=Vw I1 r1 ty
 refine ⟨T,id,pa,slot,hty,h1,h2,?_⟩
 have hA:=ha cpos pins s1 σ H1 _ I1 q1
 rw [hs] at hA ⊢
 refine Calls.callWith_builtin (by show (false || (backTo cpos (starEach es X.env)).any (·.1))=false;rw [hplain] <;> rfl) (Calls.evalArgs_plain ?_)
 exact thn hA λus s2 ⟨vs,H2,I2,r2,q2⟩=>hm pins s2 σ H2 x vs v us Q I2 r1 r2 q2
end
end L2
namespace L2
def MtM (X:Cx) (id:String) (r:V->List V->Hp->VK->Prop):Prop :=
 ∀(pins:List (Addr×Obj)) (s:Shared) (σ:St) (H:Hp) (x:V) (xs:List V) (v:Value) (us:List Value) (Q:VK),Inv X pins σ H s->jE x v->jD xs us->r x xs H Q ->
  wpAny (model X.prog X.w) X.A (call (.builtin id) (v::us)) (EP X pins σ Q) X.xe s
theorem jD.one:∀{x:V}{us:List Value},jD [x] us->∃u,us=[u]/\jE x u
 | _,_,.cons r .nil=>⟨_,rfl,r⟩
theorem jD.zero:∀{us:List Value},jD [] us->us=[]
 | _,.nil=>rfl
theorem jD.dropLast {xs:List V}{us:List Value}(h:jD xs us):jD xs.dropLast us.dropLast:=by
 induction h with
 | nil=>exact .nil
 | cons r t ih =>
  cases t with
  | nil=>exact .nil
  | cons q t'=>exact .cons r ih
theorem jD.reverse {xs:List V}{us:List Value}(h:jD xs us):jD xs.reverse us.reverse:=by
 induction h with
 | nil=>exact .nil
 | cons r t ih=>rw [List.reverse_cons,List.reverse_cons];exact jD.append ih (.cons r .nil)
theorem XR {α:Type}(l:List α):l.eraseIdx (l.length-1)=l.dropLast:=by
 induction l with
 | nil=>rfl
 | cons a r ih =>
  cases r with
  | nil=>rfl
  | cons b r =>
   have e:(a::b::r).length-1=((b::r).length-1)+1:=by
    have h1:(a::b::r).length=r.length+2:=rfl
    have h2:(b::r).length=r.length+1:=rfl
    omega
   rw [e,List.eraseIdx_cons_succ,ih]
   all_goals rfl
section
variable {X:Cx}{pins:List (Addr×Obj)}{σ:St}{H:Hp}{s:Shared}{l b:Addr}{xs ys zs:List V}
theorem Inv.lset {its its':List Value}{n:Nat}{f:Array Value->Array Value}{t':Nat}(I:Inv X pins σ H s) (hH:H l=some (.lst xs))
  (e:s.heap.get? l=some { cls:=.type "list",data:=.seq its.toArray n }) (hf:f its.toArray=its'.toArray) (hv:jD ys its') (hz:ys.length<=sizeLine) :
  Inv X pins σ (upd H l (.lst ys)) { s with heap:=s.heap.update l (Obj.mapSeq f),toks:=t' }:=by
 have q:=PySem.IsL.update e f
 rw [hf] at q
 refine I.write (x:=l) (e:=l) (by rw [hH];exact trivial) (.inl rfl) (λb' u hb hu=>(Heap.get?_update_other s.heap (Obj.mapSeq f) (Ne.symm hb)).trans hu) ⟨_,q⟩ ?_
 exact ⟨hz,its',_,hv,q⟩
theorem Inv.lnew {its:List Value}{t':Nat}(I:Inv X pins σ H s) (hv:jD ys its) (hz:ys.length<=sizeLine) :
  Inv X pins σ (upd H s.heap.objs.size (.lst ys)) { s with heap:=s.heap.push { cls:=.type "list",data:=.seq its.toArray },toks:=t' } :=
 I.laid (λ_ _ q=>Heap.get?_push_of_some _ q) (Nat.le_refl _) ⟨hz,its,0,hv,Heap.get?_push_size _ rfl⟩
theorem Inv.fresh (I:Inv X pins σ H s):H s.heap.objs.size=none:=I.hok.fresh (Nat.le_refl _)
theorem Inv.lstM (I:Inv X pins σ H s) (hH:H l=some (.lst xs)):xs.length<=sizeLine/\∃(its:List Value) (n:Nat),jD xs its/\xs.length=its.length/\s.heap.get? l=some { cls:=.type "list",data:=.seq its.toArray n }:=by
 obtain ⟨z,its,n,r,e⟩:=I.hok l _ hH
 exact ⟨z,its,n,r,r.length,e⟩
theorem VE {n:Nat}(h:n<=sizeLine):Builtin.List.listTooLong n=false:=by
 unfold Builtin.List.listTooLong
 exact decide_eq_false ∅
end
section
variable {X:Cx}
def UI:V->List V->Hp->VK->Prop:=λx vs H Q=>∃l xs y,x = .ref l/\vs=[y]/\H l=some (.lst xs)/\xs.length<sizeLine/\Q .non (upd H l (.lst (xs++[y])))
theorem qy:MtM X "list.append" UI:=by
 intro pins s σ H x vs v us Q I rx rv h
 obtain ⟨l,xs,y,rfl,rfl,hH,hz,q⟩:=h
 cases rx
 obtain ⟨u,rfl,ru⟩:=rv.one
 obtain ⟨z,its,n,r,hl,e⟩:=I.lstM hH
 refine call_meets F.slot_list_append ⟨_,e,rfl⟩ F.entry_list_append (F.args_list_append_2 _ _) (PySem.list_append l its.toArray n u (by rw [List.size_toArray];omega)) ⟨e,?_⟩
 refine ⟨.non,_,I.lset (its':=its++[u]) hH e (by simp) (r.append (.cons ru .nil)) ?_,rfl,q⟩
 rw [List.length_append,List.length_singleton]
 omega
def UG:V->List V->Hp->VK->Prop:=λx vs H Q=>∃l b xs zs,x = .ref l/\vs=[.ref b]/\H l=some (.lst xs)/\H b=some (.lst zs)/\xs.length+zs.length<=sizeLine/\Q .non (upd H l (.lst (xs++zs)))
theorem E8:MtM X "list.extend" UG:=by
 intro pins s σ H x vs v us Q I rx rv h
 obtain ⟨l,b,xs,zs,rfl,rfl,hH,hB,hz,q⟩:=h
 cases rx
 obtain ⟨u,rfl,ru⟩:=rv.one
 cases ru
 obtain ⟨z,its,n,r,hl,e⟩:=I.lstM hH
 obtain ⟨z2,its2,n2,r2,hl2,e2⟩:=I.lstM hB
 have hsz:its.toArray.size+its2.toArray.size<=sizeLine:=by rw [List.size_toArray,List.size_toArray];omega
 have hlong:¬(!its.toArray.isEmpty && Builtin.List.listTooLong (its.toArray.size+its2.toArray.size))=true:=by
  rw [VE hsz,Bool.and_false]
  exact Bool.false_ne_true
 refine call_meets F.slot_list_extend ⟨_,e,rfl⟩ F.entry_list_extend (F.args_list_extend_2 _ _)
  (AutoSeq1.list_extend_list_list_0 l its.toArray n b its2.toArray n2 hlong (by rw [List.size_toArray];omega) ∅) ⟨e,e2,?_⟩
 refine ⟨.non,_,I.lset (its':=its++its2) hH e (by simp) (r.append r2) ?_,rfl,q⟩
 rw [List.length_append]
 omega
def rPop:V->List V->Hp->VK->Prop:=λx vs H Q=>∃l xs y,x = .ref l/\vs=[]/\H l=some (.lst xs)/\xs[xs.length-1]? = some y/\Q y (upd H l (.lst xs.dropLast))
theorem GV:MtM X "list.pop" rPop:=by
 intro pins s σ H x vs v us Q I rx rv h
 obtain ⟨l,xs,y,rfl,rfl,hH,hy,q⟩:=h
 cases rx
 have hus:=rv.zero
 subst hus
 obtain ⟨z,its,n,r,hl,e⟩:=I.lstM hH
 obtain ⟨u,hu,ru⟩:=r.get hy
 have hy':its.toArray[its.toArray.size-1]? = some u:=by
  show its.toArray[its.length-1]? = some u
  rw [<- Array.getElem?_toList,<- hl]
  exact hu
 refine call_meets F.slot_list_pop ⟨_,e,rfl⟩ F.entry_list_pop (F.args_list_pop_1 _) (MeetsSeq.list_pop_last l its.toArray n u hy' (by rw [List.size_toArray];omega)) ⟨e,?_⟩
 refine ⟨y,_,I.lset (its':=its.dropLast) hH e ?_ r.dropLast ?_,ru,q⟩
 ·show its.toArray.eraseIdxIfInBounds (its.toArray.size-1)=its.dropLast.toArray
  rw [List.size_toArray,List.eraseIdxIfInBounds_toArray,XR]
 ·rw [List.length_dropLast]
  omega
def rCat:R2:=λx y H Q=>∃l b xs zs,x = .ref l/\y = .ref b/\H l=some (.lst xs)/\H b=some (.lst zs)/\xs.length+zs.length<=sizeLine/\∀p,H p=none->Q (.ref p) (upd H p (.lst (xs++zs)))
theorem G4:OpR X (binaryOp .Add) rCat:=by
 intro pins s σ H x y v u Q I rx ry h
 obtain ⟨l,b,xs,zs,rfl,rfl,hH,hB,hz,q⟩:=h
 cases rx
 cases ry
 obtain ⟨z,its,n,r,hl,e⟩:=I.lstM hH
 obtain ⟨z2,its2,n2,r2,hl2,e2⟩:=I.lstM hB
 refine PySem.P.add_list e e2 ?_ (by rw [List.size_toArray,List.size_toArray];omega)
 have ea:its.toArray++its2.toArray=(its++its2).toArray:=by simp
 rw [ea]
 exact ⟨.ref _,_,I.lnew (t':=s.toks) (r.append r2) (by rw [List.length_append];omega),rfl,q _ I.fresh⟩
end
section
variable {prog:Program}{w:World}{A:Around}{E:Value->Shared->Prop}{s:Shared}
set_option maxRecDepth 100000 in
end
section
variable {X:Cx}
end
end L2
namespace Att
open PySem PySem.W PySem.Calls PyProof.Rows
theorem wP {P:Params}{h:Heap}:∀(ns:List Int) (vs:List Value),WellAll P h vs (ns.map WData.int)->IntsAre vs ns:=by
 intro ns
 induction ns with
 | nil =>
  intro vs w
  rw [List.map_nil] at w
  cases w
  exact .nil
 | cons n ns ih =>
  intro vs w
  rw [List.map_cons] at w
  cases w with
  | cons a b =>
   cases a
   exact .cons _ _ (ih _ b)
theorem YO {l:OpenLaw}{n:Nat}(hn:l.most=some n) {P:Params}{h:Heap}{args:List WData}{vals:List Value}
  (hpre:l.row.toRowW.claim.pre args=true) (hwl:WellAll P h vals args) :
  ∃a vs ns,vals=[Value.ref a]/\args=[WData.list (ns.map WData.int)]/\h.get? a=some { cls:=.type "list",data:=.seq vs.toArray }/\IntsAre vs ns/\ns.length<=n:=by
 have hsh:WShape.hasAll [] args [.list .int]=true:=(pre_splitW hpre).1
 have hc:l.pre.holds [] { args:=args }=true:=(pre_splitW hpre).2
 obtain ⟨d,r,rfl,h1,h2⟩:=hasAllW_cons hsh
 obtain rfl:=hasAllW_nil h2
 obtain ⟨xs,rfl,h3⟩:=hasW_list h1
 obtain ⟨ns,rfl⟩:=items_int h3
 have hlen:ns.length<=n:=by
  unfold OpenLaw.pre at hc
  have h4:(WTm.not (.lt (.lit (.int (n:Int))) (.len (.arg 0)))).holds [] { args:=[.list (ns.map .int)] }=true:=by
   have h4:=(holds_andW hc).1
   rw [hn] at h4
   exact h4
  have h5:=condW_of h4 (w_not (w_lt w_lit (w_len_list (w_arg rfl))))
  rw [List.length_map] at h5
  refine Nat.le_of_not_lt λq=>?_
  have q':(n:Int)<((ns.length:Nat):Int):=∅
  first
   | (rw [decide_eq_true q'] at h5;exact absurd h5 ⋯)
   | (simp at h5;omega)
 cases hwl with
 | cons w1 w2 =>
  cases w2
  cases w1 with
  | list ho hall=>exact ⟨_,_,ns,rfl,rfl,ho,wP ns _ hall,hlen⟩
theorem Yy (l:OpenLaw) (args:List WData):l.row.toRowW.claim.post args (.bool true) args=true :=
 postW_of (r:=l.row.toRowW) (X:=(true == true))
  (show WShape.has [] (.bool true) .bool=true by first | rfl | decide | simp [WShape.has,WShape.arms,WShape.armsAll])
  (show (WTm.eq .res (.lit (.bool true))).value [] { args:=args,res:=some (.bool true),after:=args }=some (.bool (true == true)) from w_eq_bool (w_res rfl) w_lit) rfl
theorem attach_call {l:OpenLaw}{n:Nat}{q:Program}{loose:List Str}{XP:(Str->Option Value)->Heap->Prop}{YP:World->Heap->Prop}{d:DefRec}
  (hn:l.most=some n) (hdf:d.params.defaults=[])
  (call:∀(w:World) (s₀ s₁:Shared) (mg mb:Str->Option Value) (fa:Addr) (o:Obj) (pm cd doc:Value) (a:Addr) (vs:List Value) (ns:List Int),
   Ground q loose [] XP w s₀ mg mb s₁.heap->YP w s₁.heap ->
   s₁.heap.get? fa=some o->o.data = .func (docDef d.name d.params d.body d.scope pm cd doc)->s₁.heap.CodeRec cd d.name->mg d.name=some (.ref fa) ->
   s₁.heap.get? a=some { cls:=.type "list",data:=.seq vs.toArray }->IntsAre vs ns->ns.length<=n->s₁.gens = #[] ->
   codeAny (model l.prog w) callerA (.call (.ref fa) ⟨[.ref a],[]⟩) (λr s'=>r = .ok (.ret (.bool true))/\OldK s₁.heap s'.heap/\s'.os=s₁.os/\AllBare s'.gens) s₁) :
  WalkO q loose XP YP l.row.toRowW d [] (λf vs=>PySem.call f vs):=by
 intro w s₀ s₁ mg mb G Y fa o pm cd doc dV kV ho hd hcd hD hmg hg args vals as hpre hlay hrd hwl hlo
 obtain rfl:dV = .none:=Dflts.none hD hdf
 obtain rfl:kV = .none:=Dflts.noKw hD
 obtain ⟨a,vs,ns,rfl,rfl,hobj,hints,hlen⟩:=YO hn hpre hwl
 refine enter_call (codeAny_mono (call w s₀ s₁ mg mb fa o pm cd doc a vs ns G Y ho (fd_plain hd) hcd hmg hobj hints hlen hg) λr s' hq=>?_)
 obtain ⟨rfl,h2,h3,h4⟩:=hq
 exact ⟨.inl ⟨.bool true,.bool true,[],rfl,λ_=>rfl,.bool true,Yy l _,λ_=>⟨List.Pairwise.nil,λ_ hm=>(nomatch hm)⟩⟩,h2,h3,h4⟩
section
variable {prog:Program}{w:World}{A:Around}{E:Value->Shared->Prop}{s:Shared}{K:Frag}
def ledger (h:Heap) (L d:Addr):List (Addr×Obj):=(List.range h.objs.size).filterMap λa=>if a=L\/a=d then none else (h.get? a).map λo=>(a,o)
end
end Att
namespace L2
theorem wa:∀{vs:List Value}{ns:List Int},IntsAre vs ns->jD (ns.map V.int) vs
 | _,_,.nil=>.nil
 | _,_,.cons n t h=>.cons ⟨t,rfl⟩ (wa h)
end L2
namespace L2
end L2
namespace L2
def xm (s:Stmt) (j:Nat):Stmt:=match s with
 | .ClassDef _ _ _ body _ _ _ _ _ _ _=>body.getD j (.Pass ⟨0,0,0,0⟩)
 | _=>.Pass ⟨0,0,0,0⟩
def qd (s:Stmt):Arguments:=match s with
 | .FunctionDef _ a _ _ _ _ _ _ _ _=>a
 | _=>{ posonlyargs:=[],args:=[],vararg:=none,kwonlyargs:=[],kw_defaults:=[],kwarg:=none,defaults:=[] }
def jV (s:Stmt):List Stmt:=match s with
 | .FunctionDef _ _ b _ _ _ _ _ _ _=>b
 | _=>[]
def j7 (s:Stmt):Scope:=match s with
 | .FunctionDef _ _ _ _ _ _ sc _ _ _=>sc
 | _=>{ kind:=.function,names:=[],isGenerator:=false,isCoroutine:=false }
abbrev CX0:CXT:=λ_ _ _ _ _ _=>False
abbrev E0:XK:=λ_ _ _=>False
theorem Ub {X:Cx}:k9 CX0 X E0:=λ_ _ _ _ _ _ _ h=>h.elim
structure Fun (K:PySem.W.Frag) (x qual:Str) (st:Stmt) (f:Addr) (fd:FuncData):Prop where
 ex:∃(oc:Value) (od:Option Addr) (kV doc pm:Value) (an:Option Addr) (cdv ct:Value) (osl:Array (Option Value)),
  fd=PySem.W.fnOf x qual (qd st) (jV st) (j7 st) .none kV doc pm an cdv ct/\K.lookup f=some ⟨oc,od,.func fd,osl⟩/\PySem.W.codeIn K cdv qual=true
 kp:PySem.W.keepIn K (.ref f)=true
section
variable {P:Program}{w:World}{K:PySem.W.Frag}{mg:Str->Option Value}{base:Heap}
theorem Fun.ok {x qual:Str}{st:Stmt}{f:Addr}{fd:FuncData}{N ps:List Str}{k:Nat}{sp:Sp}(F:Fun K x qual st f fd) (S:FnScope N ps (j7 st)) (len:∀vs H Q E,sp vs H Q E->vs.length=ps.length)
  (hbody:∀(cdv:Value) (A:Around) (outer:List Env) (s:Shared) (H:Hp) (vs:List V) (Q:VK) (E:XK),Room k (A.deeper (envOfC qual (j7 st) s.heap.objs.size f cdv))->sp vs H Q E ->
   ∃t,PSs (vX CX0 P w K mg base N qual (j7 st) f cdv A outer s H E).nox (jV st) t/\t { nx:=λ_ H'=>Q .non H',rt:=Q } (start N vs) H):FnOk P w K mg base CX0 (k+1) f fd ps sp:=by
 obtain ⟨oc,od,kV,doc,pm,an,cdv,ct,osl,rfl,lk,hcd⟩:=F.ex
 refine Vq lk hcd S len λA outer s H vs Q E hr hsp=>?_
 obtain ⟨t,h,q⟩:=hbody cdv A outer s H vs Q E hr hsp
 exact ⟨t,h.nox,q⟩
theorem Fun.binds {x qual:Str}{st:Stmt}{f:Addr}{fd:FuncData}{ps:List Str}(F:Fun K x qual st f fd)
  (h:∀(kV doc pm:Value) (an:Option Addr) (cdv ct:Value) (us:List Value),us.length=ps.length->bindArgs (PySem.W.fnOf x qual (qd st) (jV st) (j7 st) .none kV doc pm an cdv ct) ⟨us,[]⟩=pure (ps.zip us)):y7 K fd ps []:=by
 obtain ⟨oc,od,kV,doc,pm,an,cdv,ct,osl,rfl,lk,hcd⟩:=F.ex
 exact .all (h kV doc pm an cdv ct)
theorem vJ {x qual:Str}{st:Stmt}{f:Addr}{oc:Value}{od an:Option Addr}{osl:Array (Option Value)}{kV doc pm cdv ct:Value}(l:K.lookup f=some ⟨oc,od,.func (PySem.W.fnOf x qual (qd st) (jV st) (j7 st) .none kV doc pm an cdv ct),osl⟩)
  (c:PySem.W.codeIn K cdv qual=true) (k:PySem.W.keepIn K (.ref f)=true):Fun K x qual st f (PySem.W.fnOf x qual (qd st) (jV st) (j7 st) .none kV doc pm an cdv ct):=⟨⟨oc,od,kV,doc,pm,an,cdv,ct,osl,rfl,l,c⟩,k⟩
end
theorem qQ {A:Around}{k:Nat}(hr:Room k A):A.units+1<cLine:=Nat.lt_of_le_of_lt (Nat.add_le_add_left (by decide:1<=64) _) hr.units
theorem jc {n:Nat}(h:n<=1000):n<sizeLine:=Nat.lt_of_le_of_lt h ⋯
section
variable {X:Cx}
theorem pv (i:Nat) {x:Str}{pos:Pos}(hN:X.N[i]? = some x:=by rfl) (hv:Vis X.env.scope x:=by first | exact Or.inl rfl | exact Or.inr (Or.inl rfl) | exact Or.inr (Or.inr rfl)) (hd:(x == ("__debug__" : Str))=false:=by decide)
  (hcd:(x == ("__classdict__" : Str))=false:=by decide):PE X (.Name x pos) (Gu i):=E5 hN hv hd hcd
end
theorem we {A B:Prop}(h:B):if false=true then A else B:=by
 rw [if_neg Bool.false_ne_true]
 exact h
theorem yN {A B:Prop}(h:A):if true=true then A else B:=by
 rw [if_pos rfl]
 exact h
def jf (H H':Hp):Prop:=∀b o,H b=some o->H' b=some o
theorem jf.refl (H:Hp):jf H H:=λ_ _ h=>h
theorem jf.trans {H H1 H2:Hp}(a:jf H H1) (b:jf H1 H2):jf H H2:=λc o h=>b c o (a c o h)
theorem jf.free {H H':Hp}(e:jf H H') {l:Addr}(h:H' l=Option.none):H l=Option.none:=by
 cases q:H l with
 | none=>rfl
 | some o =>
  rw [e l o q] at h
  cases h
end L2
section
namespace L2
theorem XY (env:Env) (f:Str×NameKind->List (Str×Addr)->Sem (ForInStep (List (Str×Addr))))
  (hf:∀n k r,f (n,k) r=if (k == NameKind.free)=true then (cellOf env n >>= λa=>pure (ForInStep.yield ((n,a)::r))) else pure (ForInStep.yield r)) :
  ∀(names:List (Str×NameKind)) (acc:List (Str×Addr)),(∀x∈names,x.2 = .free->∃c,env.cells.lookup x.1=some c) ->
  ∃cl,forIn names acc f=pure cl/\∀x,cl.lookup x=if (x,NameKind.free)∈names then env.cells.lookup x else acc.lookup x:=by
 intro names
 induction names with
 | nil=>intro acc _;exact ⟨acc,rfl,λx=>by rw [if_neg (by simp)]⟩
 | cons y r ih =>
  intro acc h
  obtain ⟨n,k⟩:=y
  have hr:∀x∈r,x.2 = .free->∃c,env.cells.lookup x.1=some c:=λx hx=>h x (List.mem_cons_of_mem _ hx)
  by_cases hk:k = .free
  ·subst hk
   obtain ⟨c,hc⟩:=h (n,.free) List.mem_cons_self rfl
   obtain ⟨cl,e,p⟩:=ih ((n,c)::acc) hr
   refine ⟨cl,?_,λx=>?_⟩
   ·rw [List.forIn_cons,hf,if_pos (by rfl)]
    have e1:cellOf env n=pure c:=by unfold cellOf;rw [hc]
    rw [e1]
    exact e
   ·rw [p x]
    by_cases hx:x=n
    ·subst hx
     rw [if_pos (List.mem_cons_self),List.lookup_cons,beq_self_eq_true]
     by_cases hm:(x,NameKind.free)∈r
     ·rw [if_pos hm]
     ·rw [if_neg hm];exact hc.symm
    ·have hb:(x == n)=false:=beq_eq_false_iff_ne.mpr hx
     rw [List.lookup_cons,hb]
     by_cases hm:(x,NameKind.free)∈r
     ·rw [if_pos hm,if_pos (List.mem_cons_of_mem _ hm)]
     ·rw [if_neg hm,if_neg (by
       intro z
       rcases List.mem_cons.mp z with z | z
       ·exact hx (congrArg Prod.fst z)
       ·exact hm z)]
  ·obtain ⟨cl,e,p⟩:=ih acc hr
   have hb:(k == NameKind.free)=false:=by simpa using hk
   refine ⟨cl,?_,λx=>?_⟩
   ·rw [List.forIn_cons,hf,hb,if_neg Bool.false_ne_true]
    exact e
   ·rw [p x]
    by_cases hm:(x,NameKind.free)∈r
    ·rw [if_pos hm,if_pos (List.mem_cons_of_mem _ hm)]
    ·rw [if_neg hm,if_neg (by
      intro z
      rcases List.mem_cons.mp z with z | z
      ·exact hk (congrArg Prod.snd z).symm
      ·exact hm z)]
theorem vN {scope:Scope}{env:Env}(h:∀x∈scope.names,x.2 = .free->∃c,env.cells.lookup x.1=some c) :
  ∃cl,closureFor scope env=pure cl/\∀x,cl.lookup x=if (x,NameKind.free)∈scope.names then env.cells.lookup x else none:=by
 have hh:=XY env (λ(x:Str×NameKind) r=>match x with | (n,k)=>if (k == NameKind.free)=true then (cellOf env n >>= λa=>pure (ForInStep.yield ((n,a)::r))) else pure (ForInStep.yield r)) (λ_ _ _=>rfl) scope.names [] h
 obtain ⟨cl,e,p⟩:=hh
 refine ⟨cl,?_,λx=>by rw [p x];rfl⟩
 unfold closureFor
 have e':forIn scope.names ([]:List (Str×Addr)) (λ(x:Str×NameKind) r=>match x with | (n,k)=>if (k == NameKind.free)=true then (cellOf env n >>= λa=>pure (ForInStep.yield ((n,a)::r))) else pure (ForInStep.yield r))=(pure cl:Sem _):=e
 show (forIn scope.names ([]:List (Str×Addr)) _ >>= λcs=>pure cs)=_
 first
  | (rw [e'];rfl)
  | (simp only [bind_pure];exact e')
structure CompSc (osc:Scope) (ON:List Str) (scope:Scope) (own:Nat) (N:List Str) (caps:List Nat):Prop where
 kind:scope.kind = .function
 nocell:∀y∈scope.names,y.2≠.cell
 loc:∀y∈scope.names,y.2 = .local->scope.names.lookup y.1=some .local
 fre:∀y∈scope.names,y.2 = .free->scope.names.lookup y.1=some .free/\(osc.names.lookup y.1=some .cell\/osc.names.lookup y.1=some .free)
 len:N.length=own+caps.length
 cap:∀p∈(N.drop own).zip caps,ON[p.2]? = some p.1/\(p.1,NameKind.free)∈scope.names
def vC (own:Nat) (caps:List Nat) (σ:St):St:=List.replicate own none++caps.map λj=>(σ[j]?).getD none
def Cx.block (X:Cx) (scope:Scope) (cl:List (Str×Addr)) (C:Addr) (N:List Str) (s:Shared) (H:Hp) (ex:List Addr):Cx :=
 { X with N:=N,s₀:=s,H₀:=H,env:=compEnvC scope cl C X.env,outer:=X.stack,ex:=ex,fn:=λx=>decide (scope.names.lookup x=some .local),pn:=[],xe:=λ_ _=>False }
theorem yA {env:Env}:∀{names:List (Str×NameKind)}{x:Str}{k:NameKind},
  (names.map λ(n,k)=>if (k == NameKind.free && env.scope.kind == .function && env.kindOf n == some .cell) then (n,NameKind.cell) else (n,k)).lookup x=some k ->
  ∃k',names.lookup x=some k'/\(k'=k\/(k' = .free/\k = .cell))
 | [],_,_,h=>by simp at h
 | (n,k0)::r,x,k,h=>by
  have ih:=@yA env r x k
  have h':List.lookup x ((if (k0 == NameKind.free && env.scope.kind == .function && env.kindOf n == some .cell)=true then (n,NameKind.cell) else (n,k0))::r.map λ(n,k)=>if (k == NameKind.free && env.scope.kind == .function && env.kindOf n == some .cell) then (n,NameKind.cell) else (n,k))=some k:=h
  cases hx:x == n with
  | true =>
   by_cases hc:(k0 == NameKind.free && env.scope.kind == .function && env.kindOf n == some .cell)=true
   ·rw [if_pos hc,List.lookup_cons,hx] at h'
    cases h'
    refine ⟨k0,by rw [List.lookup_cons,hx],.inr ⟨?_,rfl⟩⟩
    rw [Bool.and_eq_true,Bool.and_eq_true] at hc
    exact eq_of_beq hc.1.1
   ·rw [if_neg hc,List.lookup_cons,hx] at h'
    cases h'
    exact ⟨k0,by rw [List.lookup_cons,hx],.inl rfl⟩
  | false =>
   have h2:List.lookup x (r.map λ(n,k)=>if (k == NameKind.free && env.scope.kind == .function && env.kindOf n == some .cell) then (n,NameKind.cell) else (n,k))=some k:=by
    by_cases hc:(k0 == NameKind.free && env.scope.kind == .function && env.kindOf n == some .cell)=true
    ·rw [if_pos hc,List.lookup_cons,hx] at h';exact h'
    ·rw [if_neg hc,List.lookup_cons,hx] at h';exact h'
   obtain ⟨k',e,d⟩:=ih h2
   exact ⟨k',by rw [List.lookup_cons,hx];exact e,d⟩
def Qs (X:Cx) (ifs:List Expr) (t:TT):Prop :=
 ∀(pins:List (Addr×Obj)) (s:Shared) (σ:St) (H:Hp) (Q:Bool->Hp->Prop),Inv X pins σ H s->t σ H Q ->
  wpAny (model X.prog X.w) X.A (forIn ifs true λc r=>if r=true then do let ok <- isTrue c X.env (eval c X.env);pure (ForInStep.yield ok) else pure (ForInStep.yield r)) (TP X pins σ Q) X.xe s
def Ec:TT:=λ_ H Q=>Q true H
theorem ju {X:Cx}:Qs X [] Ec:=λ_ _ _ H _ I h=>wpAny_tests_nil ⟨H,I,h⟩
theorem uJ {X:Cx}{c:Expr}{t:TT}(h:PT X c t):Qs X [c] t:=λpins s σ H Q I hw=>wpAny_tests_one (h pins s σ H Q I hw)
section
variable {prog:Program}{w:World}{A:Around}{R:Result->Shared->Prop}{s:Shared}
theorem QW {elt target iter:Expr}{ifs:List Expr}{scope:Scope}{pos:Pos}{it acc:Value}{env:Env}(I:Nat->Shared->Prop)
  (turn:∀n s,I n s->wpAny (model prog w) A (pyNext it) (λr s₁=>match r with
   | none=>R (.ok .next) s₁
   | some v=>wpAny (model prog w) A (letOwnedTupleGo target it v) (λ_ s₂=>wpAny (model prog w) A (assign target env v) (λ_ s₃ =>
     wpAny (model prog w) A (forIn ifs true λc r=>if r=true then do let ok <- isTrue c env (eval c env);pure (ForInStep.yield ok) else pure (ForInStep.yield r)) (λok s₄ =>
      if ok=true then wpAny (model prog w) A (eval elt env) (λx s₅ =>
       wpAny (model prog w) A (call (.builtin "list.append") [acc,x]) (λ_ s₆=>∃m,m<n/\I m s₆) (λ_ _=>False) s₅) (λ_ _=>False) s₄
      else ∃m,m<n/\I m s₄) (λ_ _=>False) s₃) (λ_ _=>False) s₂) (λ_ _=>False) s₁) (λ_ _=>False) s)
  (n:Nat) (h:I n s) :
  codeAny (model prog w) A (.compLoop (.ListComp elt [⟨target,iter,ifs,0⟩] scope pos) 0 it acc env) R s:=by
 refine codeAny_loop rfl I (λn s hI=>?_) n h
 show wpAny _ A ((compTurn (.ListComp elt [⟨target,iter,ifs,0⟩] scope pos) 0 it acc env).onRaise (λx=>do noteFrame x env;theTreesLotGoes x)) _ _ s
 refine wpAny_noted ?_
 rw [compTurn_list]
 refine wpAny_bind (wpAny_standAt (wpAny_bind (wpAny_mono (turn n s hI) (λr s₁ h₁=>?_) λ_ _ h'=>h'.elim)))
 cases r with
 | none=>exact wpAny_pure h₁
 | some v =>
  refine wpAny_bind (wpAny_mono h₁ (λ_ s₂ h₂=>?_) λ_ _ h'=>h'.elim)
  refine wpAny_bind (wpAny_mono h₂ (λ_ s₃ h₃=>wpAny_bind (wpAny_mono h₃ (λok s₄ h₄=>?_) λ_ _ h'=>h'.elim)) λ_ _ h'=>h'.elim)
  cases ok with
  | false=>exact wpAny_pure ⟨rfl,h₄⟩
  | true =>
   exact wpAny_bind (wpAny_bind (wpAny_mono h₄ (λx s₅ h₅=>wpAny_bind (wpAny_mono h₅ (λ_ s₆ h₆=>wpAny_pure (wpAny_pure ⟨rfl,h₆⟩)) λ_ _ h'=>h'.elim)) λ_ _ h'=>h'.elim))
end
section
variable {X:Cx}{pos:Pos}
def WR (own:Nat) (caps:List Nat) (wi:TI) (g:TG) (ti:TT) (te:TE):TE:=λσ H Q=>wi σ H λJ H1=>∀acc,H1 acc=none ->
 ∃W:Nat->Nat->St->Hp->Prop,(∃m,W 0 m (vC own caps σ) (upd H1 acc (.lst [])))/\∀i m σ' H',W i m σ' H' ->
  (J.stop i H'/\Q (.ref acc) H') \/
  (J.go i H'/\∃NX:St->Hp->Prop,(∀σ2 H2,NX σ2 H2->∃m',m'<m/\W (i+1) m' σ2 H2) /\
   ∀x H2,J.yld i H' x H2->g x σ' H2 λσ3 H3=>ti σ3 H3 λok H4=>if ok=true then te σ3 H4 λv H5=>∃ys,H5 acc=some (.lst ys)/\ys.length<sizeLine/\NX σ3 (upd H5 acc (.lst (ys++[v]))) else NX σ3 H4)
theorem VZ {osc:Scope}{ON N:List Str}{scope:Scope}{own:Nat}{caps:List Nat}{cl:List (Str×Addr)}{C:Addr}{pins:List (Addr×Obj)}{σ:St}{H:Hp}{s:Shared}{fp:List Addr}
  (S:CompSc osc ON scope own N caps) (hsc:X.env.scope=osc) (hcl:∀x,cl.lookup x=if (x,NameKind.free)∈scope.names then X.env.cells.lookup x else none)
  (I:Inv X pins σ H s) (hC:s.heap.objs.size<=C) (hf:∀b∈fp,wu X pins H b) (hfs:∀b∈fp,b<s.heap.objs.size):(X.block scope cl C N s H fp).Ok:=by
 have fromX:∀x c,cl.lookup x=some c->X.env.cells.lookup x=some c/\(x,NameKind.free)∈scope.names:=λx c e=>by
  rw [hcl x] at e
  by_cases hm:(x,NameKind.free)∈scope.names
  ·rw [if_pos hm] at e;exact ⟨e,hm⟩
  ·rw [if_neg hm] at e;cases e
 refine ⟨I.ok.mod,S.kind,I.ok.glob,I.ok.blt,hC,λx y c h1 h2=>I.ok.inj x y c (fromX x c h1).1 (fromX y c h2).1,λx hx=>?_,λx c h1 h2=>?_,I.ok.hd,I.ok.frames,.inl rfl,λb hb=>?_,I.bs,Nat.le_trans I.ok.bsz I.sz,λb o e hb=>?_,λb hb hb2=>?_,I.stack,I.stkFree⟩
 ·-- has
  have key:∀k,(k=NameKind.cell\/k=NameKind.free)->(relabel scope X.env).names.lookup x=some k->∃c,cl.lookup x=some c:=λk hk e=>by
   obtain ⟨k',e',d⟩:=yA (env:=X.env) e
   have hmem:=PySem.mem_of_lookup e'
   have hfree:k' = .free:=by
    rcases d with d | d
    ·subst d
     rcases hk with z | z
     ·exact absurd z (S.nocell _ hmem)
     ·exact z
    ·exact d.1
   subst hfree
   obtain ⟨_,hk2⟩:=S.fre _ hmem rfl
   obtain ⟨c,hc⟩:=I.ok.has x (by unfold Env.kindOf;rw [hsc];exact hk2)
   exact ⟨c,by rw [hcl x,if_pos hmem];exact hc⟩
  rcases hx with z | z
  ·exact key _ (.inl rfl) z
  ·exact key _ (.inr rfl) z
 ·-- cab
  have h1':scope.names.lookup x=some .local:=of_decide_eq_true h1
  have hm:=(fromX x c h2).2
  have:=(S.fre _ hm rfl).1
  rw [h1'] at this
  cases this
 ·refine ⟨Nat.ne_of_lt (Nat.lt_of_lt_of_le (hfs b hb) hC),λx c e=>(hf b hb).2.2.2.2.1 x c (fromX x c e).1⟩
 ·rcases (hf b hb).2.2.2.1 with z | z
  ·exact I.ok.noex b o e z
  ·exact absurd (Nat.lt_of_lt_of_le (Heap.lt_size e) (Nat.le_trans I.ok.bsz z)) (Nat.lt_irrefl _)
 ·rcases List.mem_cons.mp (I.stkSub b hb2) with z | z
  ·exact (hf b hb).2.1 z
  ·exact (hf b hb).2.2.1 z
theorem wG {osc:Scope}{ON N:List Str}{scope:Scope}{own:Nat}{caps:List Nat}{cl:List (Str×Addr)}{C D:Addr}{pins:List (Addr×Obj)}{σ:St}{H:Hp}{s:Shared}{h1:Heap}{fp:List Addr}
  (S:CompSc osc ON scope own N caps) (hsc:X.env.scope=osc) (hN:X.N=ON) (hcl:∀x,cl.lookup x=if (x,NameKind.free)∈scope.names then X.env.cells.lookup x else none)
  (I:Inv X pins σ H s) (hf:∀b∈fp,wu X pins H b) (hfs:∀b∈fp,b<s.heap.objs.size) (hD:D=s.heap.objs.size) (hC:C=s.heap.objs.size+1)
  (k:∀b o,s.heap.get? b=some o->h1.get? b=some o) (eD:h1.get? D=some { cls:=.type "list",data:=.seq #[] }) (hn:h1.Ns C λ_=>none) (t':Nat) :
  Inv (X.block scope cl C N s H fp) [] (vC own caps σ) (upd H D (.lst [])) { s with heap:=h1,toks:=t' }:=by
 subst hD
 subst hC
 have hCs:s.heap.objs.size<=s.heap.objs.size+1:=Nat.le_succ _
 have ok:=VZ (C:=s.heap.objs.size+1) S hsc hcl I hCs hf hfs
 have fromX:∀x c,cl.lookup x=some c->X.env.cells.lookup x=some c/\(x,NameKind.free)∈scope.names:=λx c e=>by
  rw [hcl x] at e
  by_cases hm:(x,NameKind.free)∈scope.names
  ·rw [if_pos hm] at e;exact ⟨e,hm⟩
  ·rw [if_neg hm] at e;cases e
 have fr:∀a,s.heap.objs.size<=a->H a=none:=λa ha=>I.hok.fresh ha
 have newD:qp X.prog X.w (upd H s.heap.objs.size (.lst [])) h1 s.heap.objs.size (.lst []):=⟨Nat.zero_le _,[],0,.nil,eD⟩
 have cellK:∀x c,X.env.cells.lookup x=some c->∀v,s.heap.IsCell c v->h1.IsCell c v:=λx c _ v ⟨o,ho,hd⟩=>⟨o,k c o ho,hd⟩
 refine ⟨ok,rfl,I.bare,Un.laid k (Nat.le_refl _) (fr _ (Nat.le_refl _)),⟨_,hn,λi x v e1 e2 e3=>?_⟩,λx c e=>?_,?_,λx c e=>?_,λp hp=>absurd (show p∈([]:List (Addr×Obj)) from hp) (by simp),I.hok.laid k (Nat.le_refl _) newD,?_⟩
 ·-- the captured names
  have e1':N[i]? = some x:=e1
  have hi:own<=i:=by
   by_cases hi:own<=i
   ·exact hi
   ·unfold vC at e2
    rw [List.getElem?_append_left (by simp;omega),List.getElem?_replicate] at e2
    split at e2 <;> cases e2
  obtain ⟨j',rfl⟩:∃j',i=own+j':=⟨i-own,∅⟩
  have e2':(caps.map λj=>(σ[j]?).getD none)[j']? = some (some v):=by
   unfold vC at e2
   rw [List.getElem?_append_right (by simp)] at e2
   simpa using e2
  rw [List.getElem?_map] at e2'
  cases hj:caps[j']? with
  | none=>rw [hj] at e2';cases e2'
  | some j =>
   rw [hj] at e2'
   have e3':(σ[j]?).getD none=some v:=Option.some.inj e2'
   have e4:σ[j]? = some (some v):=by
    cases q:σ[j]? with
    | none=>rw [q] at e3';cases e3'
    | some z=>rw [q] at e3';exact congrArg some e3'
   have hz:(x,j)∈(N.drop own).zip caps:=by
    refine List.mem_of_getElem? (i:=j') ?_
    rw [List.getElem?_zip_eq_some]
    exact ⟨by rw [List.getElem?_drop];exact e1',hj⟩
   obtain ⟨c1,c2⟩:=S.cap _ hz
   obtain ⟨_,hk⟩:=S.fre _ c2 rfl
   have hkX:X.env.kindOf x=some .cell\/X.env.kindOf x=some .free:=by unfold Env.kindOf;rw [hsc];exact hk
   obtain ⟨m,hm,hl⟩:=I.loc
   obtain ⟨u,ru,l⟩:=hl j x v (by rw [hN];exact c1) e4 (by
    rcases hkX with z | z
    ·exact .inr (.inl z)
    ·exact .inr (.inr z))
   refine ⟨u,ru,?_⟩
   rcases l with ⟨l1,_⟩ | ⟨_,c,lc,lv⟩
   ·rcases hkX with z | z
    ·rw [z] at l1;cases l1
    ·rw [z] at l1;cases l1
   ·refine .inr ⟨?_,c,by show cl.lookup x=some c;rw [hcl x,if_pos c2];exact lc,cellK x c lc _ lv⟩
    rcases e3 with z | z
    ·obtain ⟨k',e',d⟩:=yA (env:=X.env) z
     have:=(S.fre _ c2 rfl).1
     rw [e'] at this
     cases this
     rcases d with d | d
     ·cases d
     ·cases d.2
    ·exact z
 ·obtain ⟨v,z⟩:=I.cell x c (fromX x c e).1
  exact ⟨v,cellK x c (fromX x c e).1 v z⟩
 ·show upd H s.heap.objs.size (.lst []) (s.heap.objs.size+1)=none
  rw [j8 (Nat.ne_of_gt (Nat.lt_succ_self _))]
  exact fr _ hCs
 ·have e':=(fromX x c e).1
  obtain ⟨v,z⟩:=I.cell x c e'
  rw [j8 (Nat.ne_of_lt z.lt)]
  exact I.freeC x c e'
 ·unfold vC
  show _=N.length
  rw [List.length_append,List.length_replicate,List.length_map,S.len]
structure BlockAt (X:Cx) (pins:List (Addr×Obj)) (H:Hp) (C:Addr):Prop where
 free:H C=none
 loc:C≠X.env.locals
 new:X.s₀.heap.objs.size<=C
 cell:∀x c,X.env.cells.lookup x=some c->c≠C
 pin:∀p∈X.pn++pins,p.1≠C
theorem BlockAt.gone {pins:List (Addr×Obj)}{σ:St}{H:Hp}{C:Addr}{s:Shared}{h':Heap}(B:BlockAt X pins H C) (I:Inv X pins σ H s) (hs:Heap.SameBut C s.heap h'):Inv X pins σ H { s with heap:=h' } :=
 I.turned (t':=s.toks) (λb o hb e=>(hs.2 b hb).trans e) B.free B.loc (.inr B.new) B.cell B.pin
theorem QZ {osc:Scope}{ON N:List Str}{scope:Scope}{own:Nat}{caps:List Nat}{cl:List (Str×Addr)}{tg elt iter:Expr}{ifs:List Expr}{g:TG}{ti:TT}{te:TE}{pins:List (Addr×Obj)}{σ:St}{H:Hp}{s:Shared}{fp:List Addr}{it:Addr}
  {tn:Nat->Heap->Prop} {J:It} {Q:VK} {RR:Value->Addr->Result->Shared->Prop} {E:Value->Shared->Prop}
  (hc:X.calm=true) (S:CompSc osc ON scope own N caps) (hsc:X.env.scope=osc) (hN:X.N=ON) (hcl:∀x,cl.lookup x=if (x,NameKind.free)∈scope.names then X.env.cells.lookup x else none)
  (hg:∀cl C s H ex,PG (X.block scope cl C N s H ex) tg g) (hif:∀cl C s H ex,Qs (X.block scope cl C N s H ex) ifs ti) (he:∀cl C s H ex,PE (X.block scope cl C N s H ex) elt te)
  (I:Inv X pins σ H s) (T:Turn X.prog X.w X.K tg J fp it tn) (st:tn 0 s.heap) (hf:∀b∈fp,wu X pins H b)
  (hw:∀acc,H acc=none->∃W:Nat->Nat->St->Hp->Prop,(∃m,W 0 m (vC own caps σ) (upd H acc (.lst [])))/\∀i m σ' H',W i m σ' H' ->
   (J.stop i H'/\Q (.ref acc) H')\/(J.go i H'/\∃NX:St->Hp->Prop,(∀σ2 H2,NX σ2 H2->∃m',m'<m/\W (i+1) m' σ2 H2) /\
    ∀x H2,J.yld i H' x H2->g x σ' H2 λσ3 H3=>ti σ3 H3 λok H4=>if ok=true then te σ3 H4 λv H5=>∃ys,H5 acc=some (.lst ys)/\ys.length<sizeLine/\NX σ3 (upd H5 acc (.lst (ys++[v]))) else NX σ3 H4))
  (fin:∀(D C:Addr) (H':Hp) (s':Shared),Inv X pins σ H' s'->BlockAt X pins H' C->(∃m,s'.heap.Ns C m)->Q (.ref D) H'->RR (.ref D) C (.ok .next) s') :
  wpAny (model X.prog X.w) X.A (newList []) (λacc s₃=>wpAny (model X.prog X.w) X.A (newFunctionEnv scope X.env.globals cl [] X.env.qual none .none (some X.env)) (λcenv s₄ =>
   codeAny (model X.prog X.w) X.A (.compStart (.ListComp elt [⟨tg,iter,ifs,0⟩] scope pos) 0 (.ref it) acc { cenv with scope:=relabel scope X.env }) (RR acc cenv.locals) s₄) E s₃) E s:=by
 have hfs:∀b∈fp,b<s.heap.objs.size:=λb hb=>by
  obtain ⟨o,e,_⟩:=T.obj _ _ st b hb
  exact Heap.lt_size e
 refine wpAny_newObj_type (wpAny_newFunctionEnv S.nocell (by intro y hy;simp at hy) (λh₁ hns₁ hsb₁=>?_) S.kind)
 dsimp only at hns₁ hsb₁ ⊢
 generalize hH2:s.heap.push { cls:=.type "list",dict:=none,data:=.seq ([]:List Value).toArray }=H2 at hns₁ hsb₁ ⊢
 have hCsz:H2.objs.size=s.heap.objs.size+1:=by rw [<- hH2,Heap.size_push]
 have old:∀b o,s.heap.get? b=some o->h₁.get? b=some o:=λb o e=>hsb₁.extBut b o (Nat.ne_of_lt (by rw [hCsz];exact Nat.lt_succ_of_lt (Heap.lt_size e))) (Heap.get?_push_of_some _ (hH2 ▸ Heap.get?_push_of_some _ e))
 have eD:h₁.get? s.heap.objs.size=some { cls:=.type "list",data:=.seq #[] }:=hsb₁.extBut _ _ (Nat.ne_of_lt ∅) (Heap.get?_push_of_some _ (hH2 ▸ Heap.get?_push_size _ rfl))
 have hDn:H s.heap.objs.size=none:=I.hok.fresh (Nat.le_refl _)
 obtain ⟨W,⟨m0,w0⟩,turn⟩:=hw s.heap.objs.size hDn
 have hns:h₁.Ns H2.objs.size λ_=>none:=hns₁
 have I1:Inv (X.block scope cl H2.objs.size N s H fp) [] (vC own caps σ) (upd H s.heap.objs.size (.lst [])) { s with heap:=h₁,toks:=s.toks+([]:List (Str×Value)).length } :=
  wG S hsc hN hcl I hf hfs rfl hCsz old eD hns _
 have st1:tn 0 h₁:=T.keep 0 _ _ st λb _ o e=>old b o e
 have fpB:∀{H':Hp},(∀b∈fp,H' b=none)->∀b∈fp,wu (X.block scope cl H2.objs.size N s H fp) [] H' b:=λ{H'} hn b hb=>by
  have ok:=I1.ok
  exact ⟨hn b hb,(ok.exf b hb).1,ok.exfs b hb,.inl hb,(ok.exf b hb).2,λp hp=>absurd (show p∈([]:List (Addr×Obj)) from hp) (by simp)⟩
 have back:∀{σ':St} {H':Hp} {s':Shared},Inv (X.block scope cl H2.objs.size N s H fp) [] σ' H' s'->Q (.ref s.heap.objs.size) H'->RR (.ref s.heap.objs.size) H2.objs.size (.ok .next) s':=λ{σ' H' s'} J1 q=>by
  have J2:Inv X pins σ H' s':=I.call' (ch:=fp) J1.os J1.base J1.hok J1.bare λb hb=>⟨(hf b hb).2.2.2.1,(hf b hb).2.1,(hf b hb).2.2.2.2.1,(hf b hb).2.2.2.2.2⟩
  obtain ⟨m,hm,_⟩:=J1.loc
  refine fin _ _ H' s' J2 ⟨J1.free,Nat.ne_of_gt (Nat.lt_of_lt_of_le I.lt ∅),Nat.le_trans I.sz ∅,λx c e z=>?_,λp hp z=>?_⟩ ⟨m,hm⟩ q
  ·obtain ⟨v,y⟩:=I.cell x c e
   have h1:H2.objs.size<s.heap.objs.size:=z ▸ y.lt
   exact absurd h1 ∅
  ·have h1:H2.objs.size<s.heap.objs.size:=z ▸ Heap.lt_size (I.pin p hp).1
   exact absurd h1 ∅
 have loop:∀s₃:Shared,s₃={ s with heap:=h₁,toks:=s.toks+([]:List (Str×Value)).length } ->
   codeAny (model X.prog X.w) X.A (.compLoop (.ListComp elt [⟨tg,iter,ifs,0⟩] scope pos) 0 (.ref it) (.ref s.heap.objs.size) (compEnvC scope cl H2.objs.size X.env)) (RR (.ref s.heap.objs.size) H2.objs.size) s₃:=by
  rintro s₃ rfl
  refine QW (λn s'=>∃i σ' H',Inv (X.block scope cl H2.objs.size N s H fp) [] σ' H' s'/\tn i s'.heap/\(∀b∈fp,H' b=none)/\W i n σ' H') ?_ m0
   ⟨0,_,_,I1,st1,λb hb=>by rw [j8 (Nat.ne_of_lt (hfs b hb))];exact (hf b hb).1,w0⟩
  rintro n s3 ⟨i,σ3,H3,I3,st3,fr3,w3⟩
  rcases turn i n σ3 H3 w3 with ⟨stop,qn⟩ | ⟨go,NX,hNX,step⟩
  ·refine thn (T.done (X.block scope cl H2.objs.size N s H fp) rfl rfl rfl hc i [] s3 σ3 H3 _ I3 (fpB fr3) st3 stop) λr s4 ⟨hr,I4⟩=>?_
   subst hr
   exact back I4 qn
  ·refine thn (T.item (X.block scope cl H2.objs.size N s H fp) rfl rfl rfl hc i [] s3 σ3 H3 _ I3 (fpB fr3) st3 go) λr s4 ⟨u,hr,h4⟩=>?_
   subst hr
   refine thn h4 λ_ s5 ⟨x,H5,I5,r5,y5,st5,fr5⟩=>?_
   have I5':=I5.pinned (fpB fr5) (T.obj _ _ st5)
   refine thn (hg cl H2.objs.size s H fp _ s5 σ3 H5 x u _ I5' r5 (step x H5 y5)) λ_ s6 ⟨σ6,H6,I6,q6⟩=>?_
   refine thn (hif cl H2.objs.size s H fp _ s6 σ6 H6 _ I6 q6) λok s7 ⟨H7,I7,q7⟩=>?_
   have again:∀{s8:Shared} {σ8:St} {H8:Hp},Inv (X.block scope cl H2.objs.size N s H fp) ([]++zB fp s5.heap) σ8 H8 s8->NX σ8 H8->∃m,m<n/\∃i σ' H',Inv (X.block scope cl H2.objs.size N s H fp) [] σ' H' s8/\tn i s8.heap/\(∀b∈fp,H' b=none)/\W i m σ' H':=λ{s8 σ8 H8} I8 n8=>by
    obtain ⟨m',hm,w8⟩:=hNX σ8 H8 n8
    refine ⟨m',hm,i+1,σ8,H8,I8.unpinned,T.keep _ _ _ st5 λb hb o e=>(I8.pin (b,o) (List.mem_append_right _ (List.mem_append_right _ (qX hb e)))).1,λb hb=>?_,w8⟩
    obtain ⟨o,e,d⟩:=T.obj _ _ st5 b hb
    exact (I8.pin (b,o) (List.mem_append_right _ (List.mem_append_right _ (qX hb e)))).2.1
   cases ok with
   | false =>
    rw [if_neg Bool.false_ne_true] at q7 ⊢
    exact again I7 q7
   | true =>
    rw [if_pos rfl] at q7 ⊢
    refine thn (he cl H2.objs.size s H fp _ s7 σ6 H7 _ I7 q7) λv s8 ⟨y,H8,I8,r8,ys,e8,z8,q8⟩=>?_
    refine thn (qy _ s8 σ6 H8 (.ref s.heap.objs.size) [y] _ [v] (λ_ H9=>NX σ6 H9) I8 rfl (.cons r8 .nil) ⟨_,ys,y,rfl,rfl,e8,z8,q8⟩) λ_ s9 ⟨_,H9,I9,_,q9⟩=>?_
    exact again I9 q9
 exact codeAny_compStart_list (loop _ rfl) (T.self _ 0 _ _ _ st1 (loop _ rfl))
theorem Z7 {osc:Scope}{ON N:List Str}{scope:Scope}{own:Nat}{caps:List Nat}{pins:List (Addr×Obj)}{σ:St}{H:Hp}{s:Shared}(S:CompSc osc ON scope own N caps) (hsc:X.env.scope=osc) (I:Inv X pins σ H s) :
  ∀x∈scope.names,x.2 = .free->∃c,X.env.cells.lookup x.1=some c:=λx hx hk=>I.ok.has x.1 (by unfold Env.kindOf;rw [hsc];exact (S.fre x hx hk).2)
theorem jH {osc:Scope}{ON N:List Str}{scope:Scope}{own:Nat}{caps:List Nat}{tg elt iter:Expr}{ifs:List Expr}{wi:TI}{g:TG}{ti:TT}{te:TE}(S:CompSc osc ON scope own N caps)
  (hc:X.calm=true) (hsc:X.env.scope=osc) (hN:X.N=ON) (hi:PI X tg iter wi)
  (hg:∀cl C s H ex,PG (X.block scope cl C N s H ex) tg g) (hif:∀cl C s H ex,Qs (X.block scope cl C N s H ex) ifs ti) (he:∀cl C s H ex,PE (X.block scope cl C N s H ex) elt te)
  (hs:∀x,foldedSetIterable iter X.env x=pure x:=by intro _;rfl):PE X (.ListComp elt [⟨tg,iter,ifs,0⟩] scope pos) (WR own caps wi g ti te):=by
 intro pins s σ H Q I h
 obtain ⟨cl,hclos,hcl⟩:=vN (Z7 S hsc I)
 rw [eval_ListComp]
 refine wpAny_comprehension_free (use:=none) rfl hs hclos S.kind S.loc (thn (hi pins s σ H _ I h) λv s1 h1=>thn h1 λitv s2 h2=>?_)
 obtain ⟨it,fp,tn,J,H2,e,I2,T,st2,f2,hw⟩:=h2
 subst e
 refine QZ (RR:=λacc C=>compPost (model X.prog X.w) X.A X.xe none (EP X pins σ Q) acc C) hc S hsc hN hcl hg hif he I2 T st2 f2 hw λD C H' s' J1 B ⟨m,hm⟩ q=>?_
 exact ⟨m,hm,λh' hs'=>⟨.ref D,H',B.gone J1 hs',rfl,q⟩⟩
theorem vy {osc:Scope}{ON N:List Str}{scope:Scope}{own:Nat}{caps:List Nat}{tg elt iter:Expr}{ifs:List Expr}{wi:TI}{g:TG}{ti:TT}{te:TE}{j:Nat}{y:Str}{py spos:Pos}(S:CompSc osc ON scope own N caps)
  (hnd:X.N.Nodup) (hj:X.N[j]? = some y) (hy:Loc X.env.scope y)
  (hc:X.calm=true) (hsc:X.env.scope=osc) (hN:X.N=ON) (hi:PI X tg iter wi)
  (hg:∀cl C s H ex,PG (X.block scope cl C N s H ex) tg g) (hif:∀cl C s H ex,Qs (X.block scope cl C N s H ex) ifs ti) (he:∀cl C s H ex,PE (X.block scope cl C N s H ex) elt te)
  (hsw:swapsWith (.ListComp elt [⟨tg,iter,ifs,0⟩] scope pos) (some (.Name y py)) spos.line X.env=pure true:=by rfl)
  (hf:X.fn y=true\/X.env.scope.names.lookup y=some .local:=by first | exact .inl rfl | exact .inr rfl | assumption)
  (hs:∀x,foldedSetIterable iter X.env x=pure x:=by intro _;rfl):PS X (.Assign [.Name y py] (.ListComp elt [⟨tg,iter,ifs,0⟩] scope pos) spos) (WH (WR own caps wi g ti te) (Jq j)):=by
 intro pins s σ H D0 I h
 obtain ⟨cl,hclos,hcl⟩:=vN (Z7 S hsc I)
 rw [exec_Assign_Name_used _ _ _ _ hsw]
 refine wpAny_bind (wpAny_standAt (wpAny_bind ?_))
 show wpAny _ X.A (do let _ <- comprehension (.ListComp elt [⟨tg,iter,ifs,0⟩] scope pos) scope X.env _ (newList []) false (eval iter X.env) (some (assign (.Name y py) X.env))) _ _ s
 refine wpAny_bind (wpAny_mono (wpAny_comprehension_free (use:=some (assign (.Name y py) X.env)) (Q:=λ_ s'=>SP X pins D0 .next s') rfl hs hclos S.kind S.loc
  (thn (hi pins s σ H _ I h) λv s1 h1=>thn h1 λitv s2 h2=>?_)) (λ_ s' hq=>wpAny_pure (wpAny_pure hq)) λ_ _ e=>e)
 obtain ⟨it,fp,tn,J,H2,e,I2,T,st2,f2,hw⟩:=h2
 subst e
 refine QZ (Q:=λv H'=>D0.nx (σ.set j (some v)) H') (RR:=λacc C=>compPost (model X.prog X.w) X.A X.xe (some (assign (.Name y py) X.env)) (λ_ s'=>SP X pins D0 .next s') acc C) hc S hsc hN hcl hg hif he I2 T st2 f2 hw λD C H' s' J1 B ⟨m,hm⟩ q=>?_
 show wpAny _ X.A (assign (.Name y py) X.env (.ref D)) _ _ s'
 refine wpAny_assign_Name (Jj (v:=V.ref D) J1 hnd hj hy rfl (λs2 J2 ⟨a,hsame,ha⟩=>?_) hf)
 have hCa:C≠a:=by
  rcases ha with z | z
  ·rw [z];exact B.loc
  ·exact λz2=>B.cell y a z z2.symm
 exact ⟨m,hm.sameBut hsame hCa,λh' hs'=>⟨_,H',B.gone J2 hs',q⟩⟩
end
theorem jP {K:PySem.W.Frag}{a acc:Addr}{xs:List V}{g:TG}{ti:TT}{te:TE}{R:Hp->Prop}{σ:St}{H:Hp}(Pv:Nat->St->Hp->Prop) (h0:Pv 0 σ H) (hl:∀i σ H,i<=xs.length->Pv i σ H->SqL K H a xs)
  (hs:∀i x σ H,xs[i]? = some x->Pv i σ H->g x σ H λσ3 H3=>ti σ3 H3 λok H4=>if ok=true then te σ3 H4 λv H5=>∃ys,H5 acc=some (.lst ys)/\ys.length<sizeLine/\Pv (i+1) σ3 (upd H5 acc (.lst (ys++[v]))) else Pv (i+1) σ3 H4)
  (hd:∀σ H,Pv xs.length σ H->R H) :
  ∃W:Nat->Nat->St->Hp->Prop,(∃m,W 0 m σ H)/\∀i m σ' H',W i m σ' H' ->
   ((Itl K a).stop i H'/\R H')\/((Itl K a).go i H'/\∃NX:St->Hp->Prop,(∀σ2 H2,NX σ2 H2->∃m',m'<m/\W (i+1) m' σ2 H2) /\
    ∀x H2,(Itl K a).yld i H' x H2->g x σ' H2 λσ3 H3=>ti σ3 H3 λok H4=>if ok=true then te σ3 H4 λv H5=>∃ys,H5 acc=some (.lst ys)/\ys.length<sizeLine/\NX σ3 (upd H5 acc (.lst (ys++[v]))) else NX σ3 H4):=by
 refine ⟨λi m σ H=>m=xs.length-i/\i<=xs.length/\Pv i σ H,⟨xs.length,by simp,Nat.zero_le _,h0⟩,?_⟩
 rintro i m σ H ⟨rfl,hi,p⟩
 have q:=hl i σ H hi p
 by_cases hlt:i<xs.length
 ·refine .inr ⟨⟨xs,xs[i],q,by simp [hlt]⟩,Pv (i+1),λσ' H' p'=>⟨xs.length-(i+1),∅,rfl,hlt,p'⟩,λx H' y=>?_⟩
  obtain ⟨e,y⟩:=y
  subst e
  exact hs i x σ _ (y xs q) p
 ·have e:i=xs.length:=∅
  subst e
  exact .inl ⟨⟨xs,q,Nat.le_refl _⟩,hd σ H p⟩
theorem Qw {K:PySem.W.Frag}{a acc:Addr}{xs:List V}{g:TG}{ti:TT}{te:TE}{R:Hp->Prop}{σ:St}{H:Hp}(Pv:Nat->St->Hp->Prop) (h0:Pv 0 σ H) (hl:∀i σ H,i<=xs.length->Pv i σ H->SqT K H a xs)
  (hs:∀i x σ H,xs[i]? = some x->Pv i σ H->g x σ H λσ3 H3=>ti σ3 H3 λok H4=>if ok=true then te σ3 H4 λv H5=>∃ys,H5 acc=some (.lst ys)/\ys.length<sizeLine/\Pv (i+1) σ3 (upd H5 acc (.lst (ys++[v]))) else Pv (i+1) σ3 H4)
  (hd:∀σ H,Pv xs.length σ H->R H) :
  ∃W:Nat->Nat->St->Hp->Prop,(∃m,W 0 m σ H)/\∀i m σ' H',W i m σ' H' ->
   ((Itt K a).stop i H'/\R H')\/((Itt K a).go i H'/\∃NX:St->Hp->Prop,(∀σ2 H2,NX σ2 H2->∃m',m'<m/\W (i+1) m' σ2 H2) /\
    ∀x H2,(Itt K a).yld i H' x H2->g x σ' H2 λσ3 H3=>ti σ3 H3 λok H4=>if ok=true then te σ3 H4 λv H5=>∃ys,H5 acc=some (.lst ys)/\ys.length<sizeLine/\NX σ3 (upd H5 acc (.lst (ys++[v]))) else NX σ3 H4):=by
 refine ⟨λi m σ H=>m=xs.length-i/\i<=xs.length/\Pv i σ H,⟨xs.length,by simp,Nat.zero_le _,h0⟩,?_⟩
 rintro i m σ H ⟨rfl,hi,p⟩
 have q:=hl i σ H hi p
 by_cases hlt:i<xs.length
 ·refine .inr ⟨⟨xs,xs[i],q,by simp [hlt]⟩,Pv (i+1),λσ' H' p'=>⟨xs.length-(i+1),∅,rfl,hlt,p'⟩,λx H' y=>?_⟩
  obtain ⟨e,y⟩:=y
  subst e
  exact hs i x σ _ (y xs q) p
 ·have e:i=xs.length:=∅
  subst e
  exact .inl ⟨⟨xs,q,Nat.le_refl _⟩,hd σ H p⟩
theorem qB {lo:Int}{n:Nat}{acc:Addr}{g:TG}{ti:TT}{te:TE}{R:Hp->Prop}{σ:St}{H:Hp}(Pv:Nat->St->Hp->Prop) (h0:Pv 0 σ H)
  (hs:∀i σ H,i<n->Pv i σ H->g (.int (lo+i)) σ H λσ3 H3=>ti σ3 H3 λok H4=>if ok=true then te σ3 H4 λv H5=>∃ys,H5 acc=some (.lst ys)/\ys.length<sizeLine/\Pv (i+1) σ3 (upd H5 acc (.lst (ys++[v]))) else Pv (i+1) σ3 H4)
  (hd:∀σ H,Pv n σ H->R H) :
  ∃W:Nat->Nat->St->Hp->Prop,(∃m,W 0 m σ H)/\∀i m σ' H',W i m σ' H' ->
   ((Itr lo n).stop i H'/\R H')\/((Itr lo n).go i H'/\∃NX:St->Hp->Prop,(∀σ2 H2,NX σ2 H2->∃m',m'<m/\W (i+1) m' σ2 H2) /\
    ∀x H2,(Itr lo n).yld i H' x H2->g x σ' H2 λσ3 H3=>ti σ3 H3 λok H4=>if ok=true then te σ3 H4 λv H5=>∃ys,H5 acc=some (.lst ys)/\ys.length<sizeLine/\NX σ3 (upd H5 acc (.lst (ys++[v]))) else NX σ3 H4):=by
 refine ⟨λi m σ H=>m=n-i/\i<=n/\Pv i σ H,⟨n,by simp,Nat.zero_le _,h0⟩,?_⟩
 rintro i m σ H ⟨rfl,hi,p⟩
 by_cases hlt:i<n
 ·refine .inr ⟨hlt,Pv (i+1),λσ' H' p'=>⟨n-(i+1),∅,rfl,hlt,p'⟩,λx H' y=>?_⟩
  obtain ⟨e,y⟩:=y
  subst e y
  exact hs i σ _ hlt p
 ·have e:i=n:=∅
  subst e
  exact .inl ⟨Nat.le_refl _,hd σ H p⟩
end L2
end
section
namespace L2
structure Cal (P:Program) (w:World) (K:PySem.W.Frag) (mg:Str->Option Value) (base:Heap) (k:Nat) (x:Str) (ps:List Str) (sp:Sp):Prop where
 ex:∃f fd,FnOk P w K mg base CX0 k f fd ps sp/\y7 K fd ps []/\mg x=some (.ref f)/\PySem.W.keepIn K (.ref f)=true
theorem je {X:Cx}{k:Nat}{x:Str}{ps:List Str}{sp:Sp}{e:Expr}{es:List Expr}{t:TA}{p pos:Pos}(c:Cal X.prog X.w X.K X.mg X.base k x ps sp) (hr:Room k X.A) (hg:Gl X x) (ha:PA X (e::es) t)
  (hdb:(x == ("__debug__" : Str))=false:=by decide) (he:starEach (e::es) X.env=(false,eval e X.env)::starEach es X.env:=by rfl) (hpl:(backTo pos (starEach es X.env)).any (·.1)=false:=by rfl) :
  PE X (.Call (.Name x p) (e::es) [] pos) (WO sp [] E0 t):=by
 obtain ⟨f,fd,F,hb,hm,hk⟩:=c.ex
 exact Wz F hr hg hm hk hb .nil Ub ha hdb he hpl
theorem Cal.mk' {P:Program}{w:World}{K:PySem.W.Frag}{mg:Str->Option Value}{base:Heap}{k:Nat}{x:Str}{ps:List Str}{sp:Sp}{st:Stmt}{h:Heap}{f:Addr}{oc:Value}{od an:Option Addr}{osl:Array (Option Value)}{kV doc pm cdv ct:Value}
  (X:K.In h) (G:h.Ns mainGlobals mg) (a:PySem.W.nsIn K mainGlobals x=some (some (.ref f)))
  (l:K.lookup f=some ⟨oc,od,.func (PySem.W.fnOf x x (qd st) (jV st) (j7 st) .none kV doc pm an cdv ct),osl⟩) (c:PySem.W.codeIn K cdv x=true) (k':PySem.W.keepIn K (.ref f)=true)
  (hb:∀(kV doc pm:Value) (an:Option Addr) (cdv ct:Value) (us:List Value),us.length=ps.length->bindArgs (PySem.W.fnOf x x (qd st) (jV st) (j7 st) .none kV doc pm an cdv ct) ⟨us,[]⟩=pure (ps.zip us))
  (ok:∀{f:Addr} {fd:FuncData},Fun K x x st f fd->FnOk P w K mg base CX0 k f fd ps sp):Cal P w K mg base k x ps sp:=by
 have F:=vJ (st:=st) l c k'
 exact ⟨f,_,ok F,F.binds hb,PySem.W.mg_of X G a,k'⟩
section
variable {X:Cx}
theorem QH:xb X (.builtin "isinstance") (λxs H Q=>∃x n t b,xs=[x,.ty n]/\TyOf X.K H x t/\PySem.W.kitOne X.K t (.type n)=some b/\Q (.bl b) H):=by
 intro pins s σ H xs us Q I r h
 obtain ⟨x,n,t,b,rfl,ty,e,q⟩:=h
 obtain ⟨u,w',rfl,r1,r2⟩:=ZR r
 cases (show w'=Value.type n from r2)
 exact Yp I r1 ty e λtk=>⟨.bl b,H,I.tok tk,rfl,q⟩
def WQ (i j:Int):Prop:=0<j/\j<2 ^ 200
theorem yI:OpR X (binaryOp .FloorDiv) (rI WQ λi j=>.int (i / j)):=opI λi j _ _ _ _ _ hc q=>by
 have h1:(0:Int)<j:=hc.1
 have h2:j<2 ^ 200:=hc.2
 refine floordiv_int ∅ (by rw [Int.fdiv_eq_ediv_of_nonneg i ∅];exact q) (.inl (PyProof.noPylong_of_log2 ?_))
 have h3:j.natAbs<2 ^ 200:=∅
 have h4:j.natAbs≠0:=∅
 have:=(Nat.log2_lt h4).mpr h3
 omega
theorem Uq (hc:X.calm=true):xb X (.builtin "all") (λxs H Q=>∃(p:Addr) (bs:List Bool),xs=[.ref p]/\SqL X.K H p (bs.map V.bl)/\Q (.bl (bs.all λb=>b)) H):=by
 intro pins s σ H xs us Q I r h
 obtain ⟨p,bs,rfl,hq,q⟩:=h
 obtain ⟨u,rfl,ru⟩:=yC r
 cases ru
 obtain ⟨its,rv,pl,hz⟩:=I.list hq
 have hne:p≠s.heap.objs.size:=by
  obtain ⟨o,n,e,_⟩:=id pl
  exact Nat.ne_of_lt (Heap.lt_size e)
 have hlen:its.length=bs.length:=by rw [<- rv.length,List.length_map]
 have itsAt:∀i v,its[i]? = some v->∃b,bs[i]? = some b/\v=Value.bool b:=λi v e=>by
  have hi:i<its.length:=(List.getElem?_eq_some_iff.mp e).1
  have hb:(bs.map V.bl)[i]? = some (V.bl (bs[i]'∅)):=by rw [List.getElem?_map,List.getElem?_eq_getElem ∅];rfl
  obtain ⟨u,h1,h2⟩:=rv.get hb
  rw [e] at h1
  cases h1
  exact ⟨bs[i]'∅,List.getElem?_eq_getElem ∅,h2⟩
 refine call_all_walk (wpAny_pyIter_list pl.isList ?_)
 refine ⟨s.heap.objs.size,_,_,_,_,_,λi=>bs.getD i true,rfl,Walks.list (show (X.A.in1).handled=none from I.ok.hd hc) s.heap.objs.size p hne its.toArray,⟨⟨_,Heap.get?_push_size _ rfl,rfl,rfl⟩,pl.isList.at λo e=>Heap.get?_push_of_some _ e⟩,?_,?_⟩
 ·intro i v s' Q' E' hP hQ
  obtain ⟨b,hb,rfl⟩:=itsAt i v (by simpa using hP)
  have e:bs.getD i true=b:=by rw [List.getD_eq_getElem?_getD,hb];rfl
  have hQ:Q' (bs.getD i true) s':=hQ
  rw [e] at hQ
  exact wpAny_truthy_bool hQ
 ·intro h' tk hk
  have e:((List.range its.toArray.size).all λi=>bs.getD i true)=bs.all λb=>b:=by
   rw [List.size_toArray,hlen,Bool.eq_iff_iff,List.all_eq_true,List.all_eq_true]
   constructor
   ·intro z b hb
    obtain ⟨i,hi,rfl⟩:=List.mem_iff_getElem.mp hb
    have:=z i (List.mem_range.mpr hi)
    rw [List.getD_eq_getElem?_getD,List.getElem?_eq_getElem hi] at this
    exact this
   ·intro z i hi
    have hi':=List.mem_range.mp hi
    rw [List.getD_eq_getElem?_getD,List.getElem?_eq_getElem hi']
    exact z _ (List.getElem_mem hi')
  rw [e]
  refine ⟨.bl _,H,I.kept (t':=tk) λb o eo=>hk b o (by
   intro z
   have:=List.mem_singleton.mp z
   subst this
   exact absurd (Heap.lt_size eo) (Nat.lt_irrefl _)) (Heap.get?_push_of_some _ eo),rfl,q⟩
end
def kitT (a b:String):Option Bool:=if (Value.type a == Value.type b)=true then some true else if PySem.W.kitMeta b=true then (fastBuiltinMro a).map (·.contains (.type b)) else none
theorem qm (K:PySem.W.Frag) (a b:String):PySem.W.kitOne K (.type a) (.type b)=kitT a b:=rfl
theorem wK (K:PySem.W.Frag):PySem.W.kitOne K (.type "int") (.type "bool")=some false:=(qm K _ _).trans (by decide +kernel)
theorem gq (K:PySem.W.Frag):PySem.W.kitOne K (.type "int") (.type "int")=some true:=(qm K _ _).trans (by decide +kernel)
theorem ui (K:PySem.W.Frag):PySem.W.kitOne K (.type "bool") (.type "bool")=some true:=(qm K _ _).trans (by decide +kernel)
theorem Qp (K:PySem.W.Frag):PySem.W.kitOne K (.type "list") (.type "bool")=some false:=(qm K _ _).trans (by decide +kernel)
theorem QJ (K:PySem.W.Frag):PySem.W.kitOne K (.type "list") (.type "int")=some false:=(qm K _ _).trans (by decide +kernel)
theorem Xd (K:PySem.W.Frag):PySem.W.kitOne K (.type "list") (.type "str")=some false:=(qm K _ _).trans (by decide +kernel)
theorem uD (K:PySem.W.Frag):PySem.W.kitOne K (.type "list") (.type "list")=some true:=(qm K _ _).trans (by decide +kernel)
theorem vB (K:PySem.W.Frag):PySem.W.kitOne K (.type "list") (.type "tuple")=some false:=(qm K _ _).trans (by decide +kernel)
theorem gZ (K:PySem.W.Frag):PySem.W.kitOne K (.type "tuple") (.type "bool")=some false:=(qm K _ _).trans (by decide +kernel)
theorem Q5 (K:PySem.W.Frag):PySem.W.kitOne K (.type "tuple") (.type "int")=some false:=(qm K _ _).trans (by decide +kernel)
theorem Qo (K:PySem.W.Frag):PySem.W.kitOne K (.type "tuple") (.type "str")=some false:=(qm K _ _).trans (by decide +kernel)
theorem vF (K:PySem.W.Frag):PySem.W.kitOne K (.type "tuple") (.type "list")=some false:=(qm K _ _).trans (by decide +kernel)
theorem yL (K:PySem.W.Frag):PySem.W.kitOne K (.type "tuple") (.type "tuple")=some true:=(qm K _ _).trans (by decide +kernel)
def Ext (b:Addr) (H H':Hp):Prop:=∀c o,H c=some o->c≠b->H' c=some o
theorem Ext.refl {b:Addr}{H:Hp}:Ext b H H:=λ_ _ h _=>h
theorem Ext.trans {b:Addr}{H H1 H2:Hp}(x:Ext b H H1) (y:Ext b H1 H2):Ext b H H2:=λc o h n=>y c o (x c o h n) n
theorem Ext.of_same {b:Addr}{H H':Hp}(x:jf H H'):Ext b H H':=λc o h _=>x c o h
theorem Ext.put {b:Addr}{H:Hp}{o:HO}:Ext b H (upd H b o):=λc _ h n=>by rw [j8 n];exact h
theorem jf.new {H:Hp}{p:Addr}{o:HO}(n:H p=none):jf H (upd H p o):=λc u h=>by rw [j8 (j1 h n)];exact h
theorem Ext.new {b:Addr}{H:Hp}{p:Addr}{o:HO}(n:H p=none):Ext b H (upd H p o):=Ext.of_same (jf.new n)
theorem Ext.free {b:Addr}{H H':Hp}(x:Ext b H H') {p:Addr}(h:H' p=none) (n:p≠b):H p=none:=by
 cases q:H p with
 | none=>rfl
 | some o=>rw [x p o q n] at h;cases h
end L2
end
section
namespace L2
section
variable {X:Cx}
theorem jh (K:PySem.W.Frag) (h:X.K=K:=by rfl):IxR X (G3 K):=by subst h;exact UR
theorem qo (K:PySem.W.Frag) (h:X.K=K:=by rfl):IxR X (E6 K):=by subst h;exact Gz
theorem jm (K:PySem.W.Frag) (h:X.K=K:=by rfl):xb X (.builtin "len") (λxs H Q=>∃p ys,xs=[.ref p]/\(SqL K H p ys\/SqT K H p ys)/\Q (.int ys.length) H):=by subst h;exact Qn
theorem Zs (K:PySem.W.Frag) (h:X.K=K:=by rfl):OpR X (compareOp .In) (rIn K false):=by subst h;exact Vd
theorem zQ (K:PySem.W.Frag) (h:X.K=K:=by rfl):OpR X (compareOp .NotIn) (rIn K true):=by subst h;exact JO
theorem jW (K:PySem.W.Frag) (h:X.K=K:=by rfl):xb X (.builtin "isinstance") (λxs H Q=>∃x n t b,xs=[x,.ty n]/\TyOf K H x t/\PySem.W.kitOne K t (.type n)=some b/\Q (.bl b) H):=by subst h;exact QH
theorem yf (K:PySem.W.Frag) (hc:X.calm=true) (h:X.K=K:=by rfl):xb X (.builtin "all") (λxs H Q=>∃(p:Addr) (bs:List Bool),xs=[.ref p]/\SqL K H p (bs.map V.bl)/\Q (.bl (bs.all λb=>b)) H):=by subst h;exact Uq hc
theorem jM {tg l:Expr}{tl:TE}(K:PySem.W.Frag) (hl:PE X l tl) (h:X.K=K:=by rfl):PI X tg l (WM K tl):=by subst h;exact UV hl
theorem uQ {tg l:Expr}{tl:TE}(K:PySem.W.Frag) (hl:PE X l tl) (h:X.K=K:=by rfl):PI X tg l (EN K tl):=by subst h;exact GF hl
theorem qf {es:List Expr}{k:Nat}{t:TGs}{n:Nat}{pos:Pos}(K:PySem.W.Frag) (hc:X.calm=true) (h:PGs X es t)
  (hn:(assignEach es X.env).length=n:=by rfl) (hst:(assignEach es X.env).findIdx? (·.1)=none:=by rfl) (hK:X.K=K:=by rfl):PG X (.Tuple es k pos) (Ef K n t):=by subst hK;exact WY hc h hn hst
theorem zP {T id:String}{name:Str}{r:V->List V->Hp->VK->Prop}{o e:Expr}{es:List Expr}{to:TE}{t:TA}{apos cpos:Pos}(K:PySem.W.Frag) (pa:PlainAttrs T) (slot:Slot T name id) (hty:typeOf (.builtin id)=pure (.type "method_descriptor")) (hm:MtR X id r) (ho:PE X o to) (ha:PA X (e::es) t)
  (hbase:attributeBase o name X.env (eval o X.env)=eval o X.env:=by rfl)
  (hfew:((backTo cpos (starEach (e::es) X.env)).all (λx=>!x.1) && (backToKw cpos (keywordEach [] X.env)).all (λx=>x.1.isSome)
   && decide ((e::es).length+([]:List Keyword).length+(if ([]:List Keyword).isEmpty then 0 else 1)<30))=true:=by rfl)
  (hline:(apos.endLine == cpos.line)=true:=by rfl) (hs:starEach (e::es) X.env=(false,eval e X.env)::starEach es X.env:=by rfl) (hplain:(backTo cpos (starEach es X.env)).any (·.1)=false:=by rfl) (hK:X.K=K:=by rfl) :
  PE X (.Call (.Attribute o name apos) (e::es) [] cpos) (tBM K T r to t):=by subst hK;exact EQ pa slot hty hm ho ha hbase hfew hline hs hplain
end
def New (H:Hp) (o:HO) (Q:VK):Prop:=∀p H',H p=none->H' p=some o->jf H H'->Q (.ref p) H'
theorem New.at {H:Hp}{o:HO}{Q:VK}(h:New H o Q):∀p,H p=none->Q (.ref p) (upd H p o):=λp n=>h p _ n j5 (jf.new n)
section
variable {X:Cx}{es:List Expr}{t:TA}{pos:Pos}
def EI (t:TA):TE:=λσ H Q=>t σ H λxs H1=>xs.length<=sizeLine/\New H1 (.tup xs) Q
def EL (t:TA):TE:=λσ H Q=>t σ H λxs H1=>xs.length<=sizeLine/\New H1 (.lst xs) Q
theorem qx {x1}(h:PA X es t):PE X (.Tuple es x1 pos) (EI t):=by
 intro pins s σ H Q I hq
 refine wpAny_Tuple_spliced (thn (h pos pins s σ H _ I hq) λus s1 ⟨xs,H1,I1,r,z,q⟩=>⟨by rw [<- r.length];exact z,?_⟩)
 have hf:H1 s1.heap.objs.size=none:=I1.hok.fresh (Nat.le_refl _)
 refine ⟨.ref s1.heap.objs.size,upd H1 s1.heap.objs.size (.tup xs),I1.laid (t':=s1.toks) (λb u e=>Heap.get?_push_of_some _ e) (Nat.le_refl _) ?_,rfl,q.at _ hf⟩
 exact ⟨z,us,r,⟨_,Heap.get?_push_size _ rfl,rfl,_,rfl⟩⟩
theorem jR (h:PA X es t):PE X (.List es pos) (EL t):=by
 intro pins s σ H Q I hq
 refine wpAny_List_spliced (thn (h pos pins s σ H _ I hq) λus s1 ⟨xs,H1,I1,r,z,q⟩=>⟨by rw [<- r.length];exact z,?_⟩)
 have hf:H1 s1.heap.objs.size=none:=I1.hok.fresh (Nat.le_refl _)
 refine ⟨.ref s1.heap.objs.size,upd H1 s1.heap.objs.size (.lst xs),I1.laid (t':=s1.toks) (λb u e=>Heap.get?_push_of_some _ e) (Nat.le_refl _) ?_,rfl,q.at _ hf⟩
 exact ⟨z,us,0,r,Heap.get?_push_size _ rfl⟩
theorem OpR.weak {f:Value->Value->Sem Value}{r r':R2}(h:OpR X f r) (w:∀x y H Q,r' x y H Q->r x y H Q):OpR X f r':=λpins s σ H x y v u Q I rx ry q=>h pins s σ H x y v u Q I rx ry (w _ _ _ _ q)
theorem xb.weak {f:Value}{r r':List V->Hp->VK->Prop}(h:xb X f r) (w:∀x H Q,r' x H Q->r x H Q):xb X f r':=λpins s σ H xs us Q I rx q=>h pins s σ H xs us Q I rx (w _ _ _ q)
theorem SlR.weak {r r':V->Option Int->Option Int->Hp->VK->Prop}(h:SlR X r) (w:∀x lo hi H Q,r' x lo hi H Q->r x lo hi H Q):SlR X r':=λpins s σ H x v vl vu lo hi sl Q I rx hs pl pu q=>h pins s σ H x v vl vu lo hi sl Q I rx hs pl pu (w _ _ _ _ _ q)
def En:R2:=λx y H Q=>∃l b xs zs,x = .ref l/\y = .ref b/\H l=some (.lst xs)/\H b=some (.lst zs)/\xs.length+zs.length<=sizeLine/\New H (.lst (xs++zs)) Q
theorem ur:OpR X (binaryOp .Add) En:=G4.weak λ_ _ _ _ ⟨l,b,xs,zs,h1,h2,h3,h4,h5,q⟩=>⟨l,b,xs,zs,h1,h2,h3,h4,h5,q.at⟩
theorem qw (K:PySem.W.Frag) (h:X.K=K:=by rfl):xb X (.type "list") (λxs H Q=>∃p ys,xs=[.ref p]/\(SqL K H p ys\/SqT K H p ys)/\New H (.lst ys) Q):=by
 subst h
 exact Qj.weak λ_ _ _ ⟨p,ys,h1,h2,q⟩=>⟨p,ys,h1,h2,q.at⟩
theorem xI (K:PySem.W.Frag) (h:X.K=K:=by rfl):SlR X (λx lo hi H Q=>∃a xs,x = .ref a/\SqL K H a xs/\New H (.lst (wm xs lo hi)) Q):=by
 subst h
 exact Wy.weak λ_ _ _ _ _ ⟨a,xs,h1,h2,q⟩=>⟨a,xs,h1,h2,q.at⟩
end
theorem qT {p A B:Prop} [Decidable p] (h1:p->A) (h2:¬p->B):if decide p=true then A else B:=by
 by_cases h:p
 ·rw [if_pos (decide_eq_true h)];exact h1 h
 ·rw [if_neg (by rw [decide_eq_false h];exact Bool.false_ne_true)];exact h2 h
theorem yb {p A B:Prop} [Decidable p] (h1:¬p->A) (h2:p->B):if (!decide p)=true then A else B:=by
 by_cases h:p
 ·rw [if_neg (by rw [decide_eq_true h];exact Bool.false_ne_true)];exact h2 h
 ·rw [if_pos (by rw [decide_eq_false h];rfl)];exact h1 h
theorem xM {α:Type}{xs:List α}{i:Int}{v:α}(h0:0<=i) (h:xs[i.toNat]? = some v):atI xs i=some v:=by
 obtain ⟨n,rfl⟩:=Int.eq_ofNat_of_zero_le h0
 exact zJ (by simpa using h)
theorem zw {ns:List Int}{i:Int}(h0:0<=i) (h:i<ns.length):∃z,atI (ns.map V.int) i=some (.int z):=by
 refine ⟨ns[i.toNat]'∅,xM h0 ?_⟩
 rw [List.getElem?_map,List.getElem?_eq_getElem ∅]
 rfl
theorem yV {ns:List Int}{i:Nat}{y:V}(h:(ns.map V.int)[i]? = some y):∃z,y=V.int z:=by
 rw [List.getElem?_map] at h
 cases e:ns[i]? with
 | none=>rw [e] at h;cases h
 | some z=>rw [e] at h;exact ⟨z,(Option.some.inj h).symm⟩
def ZZ:Sp:=λvs H Q _=>∃a b:Int,vs=[.int a,.int b]/\∀r:Int,Q (.int r) H
def ZV:Sp:=λvs H Q _=>∃i:Int,vs=[.int i]/\Q (.bl true) H
structure Nb (mg:Str->Option Value):Prop where
 b_len:mg "len" = none
 b_range:mg "range" = none
 b_isinstance:mg "isinstance" = none
 b_int:mg "int" = none
 b_bool:mg "bool" = none
 b_str:mg "str" = none
 b_list:mg "list" = none
 b_tuple:mg "tuple" = none
 b_min:mg "min" = none
 b_max:mg "max" = none
 b_all:mg "all" = none
 b_zip:mg "zip" = none
end L2
end
section
namespace L2
def Ul (M:Addr->Prop) (H H':Hp):Prop:=∀c o,H c=some o->¬M c->H' c=some o
theorem Ul.of_same {M:Addr->Prop}{H H':Hp}(x:jf H H'):Ul M H H':=λc o h _=>x c o h
section
variable {X:Cx}
end
end L2
end
section
namespace L2
def tCut (t u:TS):TS:=λD σ H=>∃P:St->Hp->Prop,t { D with nx:=P } σ H/\∀σ' H',P σ' H'->u D σ' H'
theorem uM {X:Cx}{st:Stmt}{vT:List Stmt}{t u:TS}(h1:PS X st t) (h2:PSs X vT u):PSs X (st::vT) (tCut t u):=by
 intro pins s σ H D I h
 obtain ⟨P,h,hP⟩:=h
 refine wpAny_execs_cons (thn (h1 pins s σ H { D with nx:=P } I h) λf s1 q=>?_)
 cases f with
 | next =>
  obtain ⟨σ',H',I',q⟩:=q
  exact h2 pins s1 σ' H' D I' (hP _ _ q)
 | ret v=>exact q
 | brk=>exact q
 | cont=>exact q
section
variable {X:Cx}
def GD:R2:=λx y H Q=>∃a b xs ys,x = .ref a/\y = .ref b/\H a=some (.tup xs)/\H b=some (.tup ys)/\xs.length+ys.length<=sizeLine /\
 ∀p H',jf H H'->H' p=some (.tup (xs++ys))->Q (.ref p) H'
theorem Um:OpR X (binaryOp .Add) GD:=by
 intro pins s σ H x y v u Q I rx ry h
 obtain ⟨a,b,xs,ys,rfl,rfl,ha,hb,hz,q⟩:=h
 by_cases hx:xs=[]
 ·subst hx
  cases rx
  cases ry
  obtain ⟨its,r1,p1,_⟩:=I.tuple (SqT.of ha)
  obtain ⟨its2,r2,p2,_⟩:=I.tuple (SqT.of hb)
  have hi:its=[]:=r1.nil_iff.mpr rfl
  subst hi
  obtain ⟨⟨cls,dd,data,sl⟩,ho,hc,n,hd⟩:=id p1
  obtain ⟨⟨cls2,dd2,data2,sl2⟩,ho2,hc2,n2,hd2⟩:=id p2
  simp only at hc hd hc2 hd2
  subst hc hd hc2 hd2
  exact concat_meets ⟨_,ho,rfl⟩ ⟨_,ho2,rfl⟩ noFill_tuple_add seq_tuple_add PySem.F.slot_tuple_add PySem.F.entry_tuple_add (PySem.F.args_tuple_add_2 _ _)
   (tuple_addW0 a b #[] its2.toArray n n2 dd dd2 sl sl2 (by simp)) ⟨ho,ho2,⟨.ref b,H,I,rfl,q b H (jf.refl H) hb⟩⟩
 ·refine WD pins s σ H (.ref a) (.ref b) v u Q I rx ry ⟨a,b,xs,ys,rfl,rfl,SqT.of ha,SqT.of hb,hx,hz,λz=>?_,λ_ p n=>q p _ (jf.new n) j5⟩
  subst z
  exact q a H (jf.refl H) (by rw [List.append_nil];exact ha)
end
def qj (L:Addr) (H:Hp) (b:Addr):Prop:=∃(ns:List Int) (a r c d:Int),H b=some (.lst [.ref L,.int a,.int r,.int c,.int d])/\L≠b/\H L=some (.lst (ns.map V.int))/\0<=a
theorem qj.same {L:Addr}{H H':Hp}{b:Addr}(B:qj L H b) (s:jf H H'):qj L H' b:=by
 obtain ⟨ns,a,r,c,d,h1,h2,h3,h4⟩:=B
 exact ⟨ns,a,r,c,d,s _ _ h1,h2,s _ _ h3,h4⟩
theorem qj.ext {L:Addr}{H H':Hp}{b acc:Addr}(B:qj L H b) (n:acc≠b) (m:acc≠L) (e:Ext acc H H'):qj L H' b:=by
 obtain ⟨ns,a,r,c,d,h1,h2,h3,h4⟩:=B
 exact ⟨ns,a,r,c,d,e _ _ h1 n.symm,h2,e _ _ h3 m.symm,h4⟩
theorem qj.put {L:Addr}{H:Hp}{b acc:Addr}{o:HO}(B:qj L H b) (n:acc≠b) (m:acc≠L):qj L (upd H acc o) b:=B.ext n m Ext.put
theorem qj.ne {L:Addr}{H:Hp}{b p:Addr}(B:qj L H b) (n:H p=none):p≠b:=by
 obtain ⟨ns,a,r,c,d,h1,h2,h3,h4⟩:=B
 exact (j1 h1 n).symm
theorem qj.neL {L:Addr}{H:Hp}{b p:Addr}(B:qj L H b) (n:H p=none):p≠L:=by
 obtain ⟨ns,a,r,c,d,h1,h2,h3,h4⟩:=B
 exact (j1 h3 n).symm
theorem qj.ne_tup {L:Addr}{H:Hp}{b p:Addr}{xs:List V}(B:qj L H b) (n:H p=some (.tup xs)):p≠b:=by
 obtain ⟨ns,a,r,c,d,h1,h2,h3,h4⟩:=B
 exact jo n h1 (by intro z;cases z)
def xV:Sp:=λvs H Q _=>∃(L b:Addr) (n:Int),vs=[.ref b,.int n]/\qj L H b/\(0<n/\n<2 ^ 200)/\∀(v:Int) (H':Hp),0<=v->v<n->qj L H' b->Ext b H H'->Q (.int v) H'
def VP (K:PySem.W.Frag):Sp:=λvs H Q _=>∃(a:Addr) (ns:List Int),vs=[.ref a]/\SqL K H a (ns.map V.int)/\∀(L b:Addr) (H':Hp),H b=none->qj L H' b->jf H H'->Q (.ref b) H'
abbrev T3:=Int×Int×Int
abbrev yT (t:T3):HO:=.tup [.int t.1,.int t.2.1,.int t.2.2]
def Wt (H:Hp) (v:V) (t:T3):Prop:=∃p,v = .ref p/\H p=some (yT t)
def jC (H:Hp) (vs:List V) (ts:List T3):Prop:=Paired (Wt H) vs ts
theorem jC.length {H:Hp}{vs:List V}{ts:List T3}(r:jC H vs ts):vs.length=ts.length:=Paired.length r
theorem jC.get {H:Hp}:∀{vs:List V}{ts:List T3}{i:Nat}{v:V},jC H vs ts->vs[i]? = some v->∃t,ts[i]? = some t/\Wt H v t
 | _,_,_,_,.nil,e=>by simp at e
 | _,_,0,_,.cons r _,e=>by simp at e;subst e;exact ⟨_,rfl,r⟩
 | _,_,i+1,v,.cons _ t,e=>by
  obtain ⟨d,h1,h2⟩:=jC.get (i:=i) (v:=v) t (by simpa using e)
  exact ⟨d,by simpa using h1,h2⟩
theorem jC.imp {H H':Hp}{vs:List V}{ts:List T3}(r:jC H vs ts) (h:∀p t,H p=some (yT t)->H' p=some (yT t)):jC H' vs ts :=
 Paired.mapP r λ_ t ⟨p,e,q⟩=>⟨p,e,h p t q⟩
theorem jC.snoc {H:Hp}{vs:List V}{ts:List T3}{v:V}{t:T3}(r:jC H vs ts) (h:Wt H v t):jC H (vs++[v]) (ts++[t]):=Paired.snoc r h
theorem qI {α β:Type}(f:α->β) (l:List α) (i:Nat) (v:α) (h:l[i]? = some v):(l.take (i+1)).map f=(l.take i).map f++[f v]:=by
 rw [List.take_add_one,h,List.map_append]
 rfl
end L2
end
section
namespace L2
open PySem PySem.W PyProof.Rows
def x4 {α:Type}(lt:Nat->Nat->Bool) (n:Nat):KasT α->(α->Prop)->Prop
 | .ret a,G=>G a
 | .ask i j k,G=>i<n/\j<n/\x4 lt n (k (lt i j)) G
theorem x4.bind {α β:Type}{lt:Nat->Nat->Bool}{n:Nat}{f:α->KasT β}{G:β->Prop}:∀{t:KasT α},x4 lt n t (λa=>x4 lt n (f a) G)->x4 lt n (t.bind f) G
 | .ret _,h=>h
 | .ask _ _ k,h=>⟨h.1,h.2.1,x4.bind (t:=k _) h.2.2⟩
theorem x4.wp {α:Type}{lt:Nat->Nat->Bool}{n:Nat}{cmp:Nat->Nat->(Bool->Shared->Prop)->Shared->Prop}{I:Shared->Prop}(hc:∀i j C s,i<n->j<n->I s->(∀s',I s'->C (lt i j) s')->cmp i j C s)
  {G:α->Prop} {Q:α->Shared->Prop} (hq:∀a s,G a->I s->Q a s):∀{t:KasT α} {s:Shared},x4 lt n t G->I s->t.kasWp cmp Q s
 | .ret a,s,h,hs=>hq a s h hs
 | .ask i j k,s,h,hs=>hc i j _ s h.1 h.2.1 hs λs' hs'=>x4.wp hc hq (t:=k _) h.2.2 hs'
section
variable {O:KeyOrd}{key:Nat->O.α}{n:Nat}{p:Array Nat}
abbrev ltK (O:KeyOrd) (key:Nat->O.α):Nat->Nat->Bool:=λi j=>O.blt (key i) (key j)
abbrev kp (key:Nat->O.α) (p:Array Nat) (i:Nat):O.α:=key (p.getD i 0)
def zt (key:Nat->O.α) (p:Array Nat) (k:Nat):Prop:=∀i j,i<=j->j<k->O.kle (kp key p i) (kp key p j)
def gk (key:Nat->O.α) (p:Array Nat) (k:Nat):Prop:=∀i j,i<=j->j<k->O.kle (kp key p j) (kp key p i)
def qv (n:Nat) (p:Array Nat):Prop:=p.Perm (List.range n).toArray
theorem qv.size (h:qv n p):p.size=n:=by have:=h.size_eq;simpa using this
theorem qv.lt (h:qv n p) (hn:0<n) (i:Nat):p.getD i 0<n:=by
 by_cases hi:i<p.size
 ·have e:p.getD i 0=p[i]:=by simp [Array.getD,hi]
  rw [e]
  have hm:p[i]∈(List.range n).toArray.toList:=(Array.perm_iff_toList_perm.mp h).mem_iff.mp (by simp)
  simpa using hm
 ·have e:p.getD i 0=0:=by simp [Array.getD,hi]
  rw [e];exact hn
theorem zy {p q:Array Nat}{i j:Nat}(h:p[i]? = q[j]?):p.getD i 0=q.getD j 0:=by
 rw [Array.getD_eq_getD_getElem?,Array.getD_eq_getD_getElem?,h]
theorem Jr {src d:Nat}(hs:src<p.size) (hd:d<=src) (k:Nat) :
  kp (O:=O) key (bubble p src d) k=if k=src-d then kp key p src else if src-d<k/\k<=src then kp key p (k-1) else kp key p k:=by
 have e:=getElem?_bubble hs d hd k
 unfold kp
 by_cases h1:k=src-d
 ·rw [if_pos h1] at e ⊢;rw [zy e]
 ·rw [if_neg h1] at e ⊢
  by_cases h2:src-d<k/\k<=src
  ·rw [if_pos h2] at e ⊢;rw [zy e]
  ·rw [if_neg h2] at e ⊢;rw [zy e]
theorem ZH {i j:Nat}(hj:j<=p.size) (k:Nat):kp (O:=O) key (kas_rev p i j) k=if i<=k/\k<j then kp key p (i+j-1-k) else kp key p k:=by
 have e:=getElem?_mirror_all (i:=i) hj k
 unfold kp kas_rev
 by_cases h1:i<=k/\k<j
 ·rw [if_pos h1] at e ⊢;rw [zy e]
 ·rw [if_neg h1] at e ⊢;rw [zy e]
theorem xG {i j:Nat}(hj:j<=p.size) (heq:∀k,i<=k->k<j->kp (O:=O) key p k=kp key p (j-1)) (k:Nat):kp (O:=O) key (kas_rev p i j) k=kp key p k:=by
 rw [ZH hj]
 split
 ·rw [heq _ ∅ ∅,heq k ∅ ∅]
 ·rfl
theorem qv.rev (h:qv n p) (i j:Nat):qv n (kas_rev p i j):=(mirror_perm _ _ _ _).trans h
theorem qv.bub (h:qv n p) (i j:Nat):qv n (bubble p i j):=(bubble_perm _ _ _).trans h
theorem Qr (hP:qv n p) (hn:0<n) {G:Nat->Prop}:∀(f a:Nat),1<=a->zt (O:=O) key p a ->
  (∀m,a<=m->m<=a+f->zt (O:=O) key p m->(m=a+f\/O.klt (kp key p m) (kp key p (m-1)))->G m)->x4 (ltK O key) n (kas_asc p f a) G
 | 0,a,_,hs,h=>h a (Nat.le_refl _) (Nat.le_refl _) hs (.inl rfl)
 | f+1,a,h1,hs,h=>by
  refine ⟨hP.lt hn _,hP.lt hn _,?_⟩
  show x4 _ _ (if O.blt (kp key p a) (kp key p (a-1))=true then _ else _) _
  cases hless:O.blt (kp key p a) (kp key p (a-1)) with
  | true=>rw [if_pos rfl];exact h a (Nat.le_refl _) ∅ hs (.inr hless)
  | false =>
   rw [if_neg Bool.false_ne_true]
   refine Qr hP hn f (a+1) ∅ (λi j hij hj=>?_) λm hm1 hm2 hsm ho=>h m ∅ ∅ hsm (ho.imp (λz=>∅) id)
   by_cases hja:j<a
   ·exact hs i j hij hja
   ·have hj':j=a:=∅
    subst hj'
    by_cases hi':i=j
    ·subst hi';exact KeyOrd.kle_refl _
    ·exact KeyOrd.kle_trans (hs i (j-1) ∅ ∅) hless
theorem JL (hP:qv n p) {m nrem:Nat}{G:Nat×Array Nat->Prop}(h1:1<=m) (hm:m<=nrem) (hn:nrem<=n) (hs:gk (O:=O) key p m)
  (h:∀k p',qv n p'->1<=k->k<=nrem->zt (O:=O) key p' k->G (k,p')):x4 (ltK O key) n (kas_tail3 m nrem p) G:=by
 have hsz:m<=p.size:=by rw [hP.size];omega
 refine x4.bind (Qr (hP.rev _ _) ∅ _ m h1 (λi j hij hj=>?_) λk hk1 hk2 hk3 _=>h k _ (hP.rev _ _) ∅ ∅ hk3)
 rw [ZH hsz,ZH hsz,if_pos ∅,if_pos ∅]
 exact hs _ _ ∅ ∅
theorem uB {nrem:Nat}(hn:nrem<=n) {G:Array Nat×Nat×Nat->Prop}:∀(f:Nat) (p:Array Nat) (x q:Nat),qv n p->1<=x->x+f=nrem->gk (O:=O) key p x->q+1<=x ->
  (∀i,x-(q+1)<=i->i<x->kp (O:=O) key p i=kp key p (x-1)) ->
  (∀p' m q',qv n p'->x<=m->m<=nrem->gk (O:=O) key p' m->q'+1<=m->(∀i,m-(q'+1)<=i->i<m->kp (O:=O) key p' i=kp key p' (m-1))->G (p',m,q')) ->
  x4 (ltK O key) n (kas_desc f p x q) G
 | 0,p,x,q,hP,h1,hx,hs,hq,he,h=>h p x q hP (Nat.le_refl _) ∅ hs hq he
 | f+1,p,x,q,hP,h1,hx,hs,hq,he,h=>by
  have hsz:x<=p.size:=by rw [hP.size];omega
  refine ⟨hP.lt ∅ _,hP.lt ∅ _,?_⟩
  show x4 _ _ (if O.blt (kp key p x) (kp key p (x-1))=true then _ else _) _
  cases hless:O.blt (kp key p x) (kp key p (x-1)) with
  | true =>
   rw [if_pos rfl]
   have step1:∀p':Array Nat,(∀k,kp (O:=O) key p' k=kp key p k)->gk (O:=O) key p' (x+1):=by
    intro p' hk i j hij hj
    rw [hk,hk]
    by_cases hjx:j<x
    ·exact hs i j hij hjx
    ·have hj':j=x:=∅
     subst hj'
     by_cases hi':i=j
     ·subst hi';exact KeyOrd.kle_refl _
     ·exact KeyOrd.kle_trans (KeyOrd.kle_of_klt hless) (hs i (j-1) ∅ ∅)
   by_cases hneq:q > 0
   ·rw [if_pos hneq]
    exact uB hn f _ (x+1) 0 (hP.rev _ _) ∅ ∅ (step1 _ (xG hsz he)) ∅ (λi h1 h2=>by congr 1;omega) λp' m q' a b=>h p' m q' a ∅
   ·rw [if_neg hneq]
    exact uB hn f _ (x+1) 0 hP ∅ ∅ (step1 _ λ_=>rfl) ∅ (λi h1 h2=>by congr 1;omega) λp' m q' a b=>h p' m q' a ∅
  | false =>
   rw [if_neg Bool.false_ne_true]
   refine ⟨hP.lt ∅ _,hP.lt ∅ _,?_⟩
   show x4 _ _ (if O.blt (kp key p (x-1)) (kp key p x)=true then _ else _) _
   cases hlarger:O.blt (kp key p (x-1)) (kp key p x) with
   | true=>rw [if_pos rfl];exact h p x q hP (Nat.le_refl _) ∅ hs hq he
   | false =>
    rw [if_neg Bool.false_ne_true]
    have heqx:kp (O:=O) key p x=kp key p (x-1):=KeyOrd.kle_antisymm hlarger hless
    refine uB hn f p (x+1) (q+1) hP ∅ ∅ (λi j hij hj=>?_) ∅ (λi h1 h2=>?_) λp' m q' a b=>h p' m q' a ∅
    ·by_cases hjx:j<x
     ·exact hs i j hij hjx
     ·have hj':j=x:=∅
      subst hj'
      by_cases hi':i=j
      ·subst hi';exact KeyOrd.kle_refl _
      ·rw [heqx];exact hs i (j-1) ∅ ∅
    ·rw [show x+1-1=x by omega]
     by_cases hix:i=x
     ·subst hix;rfl
     ·rw [heqx];exact he i ∅ ∅
theorem uI (hP:qv n p) {m nrem:Nat}{G:Nat×Array Nat->Prop}(hm:m+1<=nrem) (hn:nrem<=n) (hs:gk (O:=O) key p (m+1))
  (h:∀k p',qv n p'->1<=k->k<=nrem->zt (O:=O) key p' k->G (k,p')):x4 (ltK O key) n (kas_descPart m nrem p) G:=by
 refine x4.bind (uB hn _ p (m+1) 0 hP ∅ ∅ hs ∅ (λi h1 h2=>by congr 1;omega) λp' k q hP' hk1 hk2 hs' hq he=>?_)
 have hsz:k<=p'.size:=by rw [hP'.size];omega
 show x4 _ _ (if q > 0 then kas_tail3 k nrem (kas_rev p' (k-(q+1)) k) else kas_tail3 k nrem p') _
 by_cases hneq:q > 0
 ·rw [if_pos hneq]
  refine JL (hP'.rev _ _) ∅ hk2 hn (λi j hij hj=>?_) h
  rw [xG hsz he,xG hsz he]
  exact hs' i j hij hj
 ·rw [if_neg hneq]
  exact JL hP' ∅ hk2 hn hs' h
theorem YQ (hP:qv n p) (hn:0<n) {G:Nat×Array Nat->Prop}(h:∀k p',qv n p'->1<=k->k<=n->zt (O:=O) key p' k->G (k,p')):x4 (ltK O key) n (kas_count n p) G:=by
 refine x4.bind (Qr hP hn _ 1 (Nat.le_refl 1) (λi j hij hj=>by have:i=j:=∅;subst this;exact KeyOrd.kle_refl _) λm hm1 hm2 hsm hor=>?_)
 by_cases hnn:m=n
 ·rw [if_pos (by simpa using hnn)]
  exact h m p hP hm1 ∅ hsm
 ·rw [if_neg (by simpa using hnn)]
  have hlt:O.klt (kp key p m) (kp key p (m-1)):=by
   rcases hor with z | z
   ·omega
   ·exact z
  by_cases hgt:m > 1
  ·rw [if_pos hgt]
   refine ⟨hP.lt hn _,hP.lt hn _,?_⟩
   show x4 _ _ (if O.blt (kp key p 0) (kp key p (m-1))=true then _ else _) _
   cases hrose:O.blt (kp key p 0) (kp key p (m-1)) with
   | true=>rw [if_pos rfl];exact h m p hP hm1 ∅ hsm
   | false =>
    rw [if_neg Bool.false_ne_true]
    have hsz:m<=p.size:=by rw [hP.size];omega
    have hall:∀k,0<=k->k<m->kp (O:=O) key p k=kp key p (m-1):=by
     intro k _ hk
     have a1:=hsm 0 k ∅ hk
     have a2:=hsm k (m-1) ∅ ∅
     exact KeyOrd.kle_antisymm a2 (KeyOrd.kle_trans hrose a1)
    refine uI (hP.rev _ _) ∅ (Nat.le_refl _) (λi j hij hj=>?_) h
    rw [xG hsz hall,xG hsz hall]
    by_cases hjn:j<m
    ·rw [hall i ∅ ∅,hall j ∅ hjn];exact KeyOrd.kle_refl _
    ·have hj':j=m:=∅
     subst hj'
     by_cases hi':i=j
     ·subst hi';exact KeyOrd.kle_refl _
     ·rw [hall i ∅ ∅];exact KeyOrd.kle_of_klt hlt
  ·rw [if_neg hgt]
   have hm1':m=1:=∅
   subst hm1'
   refine uI hP ∅ (Nat.le_refl _) (λi j hij hj=>?_) h
   by_cases hi':i=j
   ·subst hi';exact KeyOrd.kle_refl _
   ·have hi0:i=0:=∅
    have hj1:j=1:=∅
    subst hi0;subst hj1
    exact KeyOrd.kle_of_klt hlt
theorem wf (hP:qv n p) (hn:0<n) {k:Nat}(hs:zt (O:=O) key p k) {G:Nat->Prop}:∀(f l r:Nat),l<=r->r<=k->r-l<=f ->
  (∀i,i<l->O.kle (kp key p i) (kp key p k))->(∀i,r<=i->i<k->O.klt (kp key p k) (kp key p i)) ->
  (∀l,l<=k->(∀i,i<l->O.kle (kp key p i) (kp key p k))->(∀i,l<=i->i<k->O.klt (kp key p k) (kp key p i))->G l)->x4 (ltK O key) n (kas_place p k f l r) G
 | 0,l,r,hlr,hrk,hm,hlo,hhi,h=>by
  have:l=r:=∅
  subst this
  exact h l hrk hlo hhi
 | f+1,l,r,hlr,hrk,hm,hlo,hhi,h=>by
  unfold kas_place
  by_cases hge:l>=r
  ·rw [if_pos hge]
   have:l=r:=∅
   subst this
   exact h l hrk hlo hhi
  ·rw [if_neg hge]
   refine ⟨hP.lt hn _,hP.lt hn _,?_⟩
   show x4 _ _ (if O.blt (kp key p k) (kp key p ((l+r) / 2))=true then _ else _) _
   cases hless:O.blt (kp key p k) (kp key p ((l+r) / 2)) with
   | true =>
    rw [if_pos rfl]
    exact wf hP hn hs f l _ ∅ ∅ ∅ hlo (λi h1 h2=>KeyOrd.klt_of_klt_of_kle hless (hs _ _ h1 h2)) h
   | false =>
    rw [if_neg Bool.false_ne_true]
    exact wf hP hn hs f _ r ∅ ∅ ∅ (λi h1=>KeyOrd.kle_trans (hs i ((l+r) / 2) ∅ ∅) (show O.kle _ _ from hless)) hhi h
theorem Y2 (hn:0<n) {G:Array Nat->Prop}:∀(f:Nat) (p:Array Nat) (k:Nat),qv n p->k+f=n->zt (O:=O) key p k ->
  (∀p',qv n p'->zt (O:=O) key p' n->G p')->x4 (ltK O key) n (kas_bin f p k) G
 | 0,p,k,hP,hk,hs,h=>h p hP (by rw [<- hk];exact hs)
 | f+1,p,k,hP,hk,hs,h=>by
  refine x4.bind (wf hP hn hs k 0 k (Nat.zero_le _) (Nat.le_refl _) ∅ (λi hi=>∅) (λi h1 h2=>∅) λl hlk hlo hhi=>?_)
  refine Y2 hn f _ (k+1) (hP.bub _ _) ∅ (λi j hij hj=>?_) h
  have hks:k<p.size:=by rw [hP.size];omega
  rw [Jr hks ∅,Jr hks ∅,show k-(k-l)=l by omega]
  repeat' split
  all_goals first
   | (exfalso;omega)
   | exact KeyOrd.kle_refl _
   | exact hlo _ ∅
   | exact KeyOrd.kle_of_klt (hhi _ ∅ ∅)
   | exact hs _ _ ∅ ∅
theorem gz (hn:0<n) {G:Array Nat->Prop}(h:∀p',qv n p'->zt (O:=O) key p' n->G p'):x4 (ltK O key) n (kas_sort n) G:=by
 refine x4.bind (YQ (Array.Perm.refl _) hn λk p' hP h1 hk hs=>?_)
 show x4 _ _ (if k<n then kas_bin (n-max k 1) p' (max k 1) else .ret p') _
 by_cases hkn:k<n
 ·rw [if_pos hkn,show max k 1=k by omega]
  exact Y2 hn _ p' k hP ∅ hs h
 ·rw [if_neg hkn]
  have e:k=n:=∅
  subst e
  exact h p' hP hs
end
def zr:List Int->List Int->Bool
 | [],[]=>false
 | [],_::_=>true
 | _::_,[]=>false
 | a::x,b::y=>if a=b then zr x y else decide (a<b)
theorem wA:∀a,zr a a=false
 | []=>rfl
 | a::x=>by unfold zr;rw [if_pos rfl];exact wA x
theorem kI:∀a b c,zr a b=true->zr b c=true->zr a c=true
 | [],[],_,h,_=>by cases h
 | [],_::_,[],_,h=>by cases h
 | [],_::_,_::_,_,_=>rfl
 | _::_,[],_,h,_=>by cases h
 | _::_,_::_,[],_,h=>by cases h
 | a::x,b::y,c::z,h1,h2=>by
  unfold zr at h1 h2 ⊢
  by_cases e1:a=b
  ·subst e1
   rw [if_pos rfl] at h1
   by_cases e2:a=c
   ·rw [if_pos e2] at h2 ⊢;exact kI x y z h1 h2
   ·rw [if_neg e2] at h2 ⊢;exact h2
  ·rw [if_neg e1] at h1
   have h1':=of_decide_eq_true h1
   by_cases e2:b=c
   ·subst e2;rw [if_neg e1];exact h1
   ·rw [if_neg e2] at h2
    have h2':=of_decide_eq_true h2
    rw [if_neg ∅]
    exact decide_eq_true ∅
theorem QE:∀a b c,zr a c=true->zr a b=true\/zr b c=true
 | [],[],[],h=>by cases h
 | [],[],_::_,_=>.inr rfl
 | [],_::_,_,_=>.inl rfl
 | _::_,_,[],h=>by cases h
 | _::_,[],_::_,_=>.inr rfl
 | a::x,b::y,c::z,h=>by
  unfold zr at h ⊢
  by_cases e1:a=b
  ·subst e1
   rw [if_pos rfl]
   by_cases e2:a=c
   ·rw [if_pos e2] at h ⊢;exact QE x y z h
   ·rw [if_neg e2] at h ⊢;exact .inr h
  ·rw [if_neg e1]
   by_cases e2:b=c
   ·subst e2;rw [if_neg e1] at h;exact .inl h
   ·rw [if_neg e2]
    by_cases e3:a=c
    ·subst e3
     by_cases hab:a<b
     ·exact .inl (decide_eq_true hab)
     ·exact .inr (decide_eq_true ∅)
    ·rw [if_neg e3] at h
     have h':=of_decide_eq_true h
     by_cases hab:a<b
     ·exact .inl (decide_eq_true hab)
     ·exact .inr (decide_eq_true ∅)
theorem kT:∀a b,zr a b=false->zr b a=false->a=b
 | [],[],_,_=>rfl
 | [],_::_,h,_=>by cases h
 | _::_,[],_,h=>by cases h
 | a::x,b::y,h1,h2=>by
  unfold zr at h1 h2
  by_cases e:a=b
  ·subst e
   rw [if_pos rfl] at h1 h2
   rw [kT x y h1 h2]
  ·rw [if_neg e] at h1
   rw [if_neg (λz=>e z.symm)] at h2
   have:=of_decide_eq_false h1
   have:=of_decide_eq_false h2
   omega
def wN:KeyOrd:=⟨List Int,zr,wA,kI,QE,kT⟩
def Wv:KeyOrd:=⟨Int,λa b=>decide (a<b),λa=>by simp,λa b c h1 h2=>by
  have:=of_decide_eq_true h1;have:=of_decide_eq_true h2;exact decide_eq_true ∅,λa b c h=>by
  have:=of_decide_eq_true h
  by_cases hab:a<b
  ·exact .inl (decide_eq_true hab)
  ·exact .inr (decide_eq_true ∅),λa b h1 h2=>by
  have:=of_decide_eq_false h1;have:=of_decide_eq_false h2;omega⟩
end L2
end
section
namespace L2
open PySem.W
open PySem.AutoSeq1 (wpAny_loadPart')
open PySem.MeetsSeq PySem.MeetsSeq2 PySem.MeetsSeq3 PySem.SeqRoads2
theorem ue {its:List Value}{xs:List Int}(h:IntsAre its xs) {i:Nat}(hi:i<its.length):∃t,its[i]? = some (.int (xs[i]'(by have:=h.length;omega)) t):=by
 have hx:i<xs.length:=by have:=h.length;omega
 obtain ⟨u,e1,t,e2⟩:=jD.get (wa h) (i:=i) (x:=V.int xs[i]) (by rw [List.getElem?_map,List.getElem?_eq_getElem hx];rfl)
 exact ⟨t,by rw [e1,e2]⟩
theorem Vj (l b:Addr) (items items2:List Value) (n n2:Nat) (dd dd2:Option Addr) (sl sl2:Array (Option Value)) {xs ys:List Int}(hx:IntsAre items xs) (hy:IntsAre items2 ys) (k:Nat) :
  ∀i:Nat,items.length-i=k->i<=items.length->i<=items2.length->Meets (Builtin.«list.__eq__.loop» ⟨[.ref l,.ref b,rawInt i,rawInt 0],[]⟩)
   (λA R s=>s.heap.get? l=some { cls:=.type "list",dict:=dd,data:=.seq items.toArray n,slots:=sl }/\s.heap.get? b=some { cls:=.type "list",dict:=dd2,data:=.seq items2.toArray n2,slots:=sl2 } /\
    R (.ok (.ret (.bool (zr (xs.drop i) (ys.drop i))))) s):=by
 have l1:=hx.length
 have l2:=hy.length
 induction k with
 | zero =>
  intro i hk hi hi2 prog w A R s h
  obtain ⟨hp,g,d,tk,os⟩:=s;obtain ⟨hl,hb,h⟩:=h
  wp_walk using wpAny_loadPart' hl,wpAny_loadPart' hb
  have e1:items.toArray[((i:Nat):Int).toNat]? = none:=by simp;omega
  have hd:xs.drop i=[]:=by simp;omega
  rw [hd] at h
  rw [e1]
  wp_walk using wpAny_loadPart' hl,wpAny_loadPart' hb
  show R (.ok (.ret (.bool (decide (items.toArray.size<items2.toArray.size))))) _
  have e2:decide (items.toArray.size<items2.toArray.size)=zr [] (ys.drop i):=by
   by_cases hlt:i<ys.length
   ·rw [List.drop_eq_getElem_cons hlt]
    exact decide_eq_true (by simp;omega)
   ·rw [List.drop_of_length_le ∅]
    exact decide_eq_false (by simp;omega)
  rw [e2]
  exact h
 | succ k ih =>
  intro i hk hi hi2 prog w A R s h
  obtain ⟨hp,g,d,tk,os⟩:=s;obtain ⟨hl,hb,h⟩:=h
  have hlt:i<items.length:=∅
  obtain ⟨t,e1'⟩:=ue hx hlt
  have e1:items.toArray[((i:Nat):Int).toNat]? = some (.int (xs[i]'∅) t):=by simpa using e1'
  wp_walk using wpAny_loadPart' hl,wpAny_loadPart' hb
  rw [e1]
  by_cases hlt2:i<items2.length
  ·obtain ⟨u,e2'⟩:=ue hy hlt2
   have e2:items2.toArray[((i:Nat):Int).toNat]? = some (.int (ys[i]'∅) u):=by simpa using e2'
   rw [e2]
   rw [List.drop_eq_getElem_cons (show i<xs.length by omega),List.drop_eq_getElem_cons (show i<ys.length by omega)] at h
   unfold zr at h
   refine wpAny_bind (wpAny_eqBool_int ?_)
   have hc:((i:Int)+1)=((i+1:Nat):Int):=by push_cast;rfl
   by_cases e:xs[i]'∅=ys[i]'∅
   ·rw [if_pos e] at h
    rw [beq_iff_eq.mpr e]
    wp_walk
    rw [hc]
    exact ⟨plainId_quiet plain_eq_loop _,codeAny_builtin entry_eq_loop (by
     rw [Around.under_plainId plain_eq_loop _]
     exact ih (i+1) ∅ ∅ ∅ prog w A R _ ⟨hl,hb,h⟩)⟩
   ·rw [if_neg e] at h
    rw [beq_eq_false_iff_ne.mpr e]
    wp_walk using wpAny_loadPart' hl,wpAny_loadPart' hb
    rw [e1,e2]
    refine wpAny_bind (show wpAny (model prog w) _ (richCompare .Lt _ _) _ _ _ from lt_int ?_)
    exact wpAny_pure h
  ·have e2:items2.toArray[((i:Nat):Int).toNat]? = none:=by simp;omega
   rw [e2]
   rw [List.drop_eq_getElem_cons (show i<xs.length by omega),List.drop_of_length_le (show ys.length<=i by omega)] at h
   wp_walk using wpAny_loadPart' hl,wpAny_loadPart' hb
   show R (.ok (.ret (.bool (decide (items.toArray.size<items2.toArray.size))))) _
   rw [decide_eq_false (by simp;omega)]
   exact h
theorem Vh (l b:Addr) (items items2:List Value) (n n2:Nat) (dd dd2:Option Addr) (sl sl2:Array (Option Value)) {xs ys:List Int}(hx:IntsAre items xs) (hy:IntsAre items2 ys) :
  Meets (Builtin.«list.__lt__» ⟨[.ref l,.ref b],[]⟩)
   (λA R s=>s.heap.get? l=some { cls:=.type "list",dict:=dd,data:=.seq items.toArray n,slots:=sl }/\s.heap.get? b=some { cls:=.type "list",dict:=dd2,data:=.seq items2.toArray n2,slots:=sl2 } /\
    R (.ok (.ret (.bool (zr xs ys)))) s):=by
 intro prog w A R s h
 obtain ⟨hp,g,d,tk,os⟩:=s;obtain ⟨hl,hb,h⟩:=h
 have f3:=AutoSeq1.sub_list_list
 wp_walk using wpAny_loadPart' hl,wpAny_loadPart' hb
 exact ⟨plainId_quiet plain_eq_loop _,codeAny_builtin entry_eq_loop (by
  rw [Around.under_plainId plain_eq_loop _]
  exact Vj l b items items2 n n2 dd dd2 sl sl2 hx hy _ 0 rfl (Nat.zero_le _) (Nat.zero_le _) prog w A R _ ⟨hl,hb,by simpa using h⟩)⟩
section
variable {prog:Program}{w:World}{A:Around}{E:Value->Shared->Prop}{s:Shared}
theorem QX {l b:Addr}{items items2:List Value}{xs ys:List Int}{n n2:Nat}{dd dd2:Option Addr}{sl sl2:Array (Option Value)}{Q:Bool->Shared->Prop}(hu:A.units<cLine)
  (hl:s.heap.get? l=some { cls:=.type "list",dict:=dd,data:=.seq items.toArray n,slots:=sl }) (hb:s.heap.get? b=some { cls:=.type "list",dict:=dd2,data:=.seq items2.toArray n2,slots:=sl2 })
  (hx:IntsAre items xs) (hy:IntsAre items2 ys) (h:Q (zr xs ys) s):wpAny (model prog w) A (oneLt' true (.ref l) (.ref b)) Q E s:=by
 rw [oneLt'_eq]
 simp only [if_true]
 refine wpAny_bind (wpAny_cRoomFor hu ?_)
 refine wpAny_bind (wpAny_callSpecialIfBound?_slot ⟨_,hl,rfl⟩ PySem.F.slot_list_lt (call_meets PySem.F.slot_list_lt ⟨_,hl,rfl⟩ PySem.F.entry_list_lt (PySem.F.args_list_lt_2 _ _) (Vh l b items items2 n n2 dd dd2 sl sl2 hx hy) ⟨hl,hb,?_⟩))
 exact wpAny_truthy_bool h
theorem Zg {x y:Addr}{ox oy:Obj}{items items2:List Value}{xs ys:List Int}{n k:Nat}{Q:Bool->Shared->Prop}(hx:s.heap.get? x=some ox) (dx:ox.data = .seq items.toArray n) (hy:s.heap.get? y=some oy) (dy:oy.data = .seq items2.toArray k)
  (ix:IntsAre items xs) (iy:IntsAre items2 ys) (h:Q (zr xs ys) s):wpAny (model prog w) A (keyLt' (tuples' true) (.ref x) (.ref y)) Q E s:=by
 refine kat_lt hx dx hy dy ?_
 have go:∀(items items2:List Value) (xs ys:List Int) (i:Nat) (fin:Bool),IntsAre items xs->IntsAre items2 ys->(∀m:Nat,xs.length=m+items.length-items.length->True) ->
   fin=decide (items.length<items2.length)->Q (zr xs ys) s->KatLex prog w A true fin Q (items.zip items2) i s:=by
  intro items items2 xs ys i fin a b
  induction a generalizing items2 ys i with
  | nil =>
   intro _ hf hq
   cases b with
   | nil=>subst hf;exact hq
   | cons m u r=>subst hf;exact hq
  | cons m u r ih =>
   intro _ hf hq
   cases b with
   | nil=>subst hf;exact hq
   | cons m' u' r' =>
    refine kat_cons (wpAny_eqBool_int ?_)
    unfold zr at hq
    by_cases e:m=m'
    ·rw [beq_iff_eq.mpr e]
     rw [if_pos e] at hq
     refine kat_yes (ih _ _ _ r' (λ_ _=>trivial) ?_ hq)
     rw [hf]
     simp
    ·rw [beq_eq_false_iff_ne.mpr e]
     rw [if_neg e] at hq
     refine kat_no ?_
     cases hb:(true && i == 0) with
     | true=>exact oneLt_int hq
     | false=>exact kat_one _ _ (lt_int hq)
 have e:(items.toArray.toList.zip items2.toArray.toList)=items.zip items2:=by simp
 rw [e]
 exact go items items2 xs ys 0 _ ix iy (λ_ _=>trivial) (by simp) h
end
end L2
end
section
namespace L2
open PySem.W
section
variable {prog:Program}{w:World}{A:Around}{E:Value->Shared->Prop}{s:Shared}
theorem ux (its:List Value):(its.toArray.zip its.toArray).map (·.2)=its.toArray:=by
 apply Array.toList_inj.mp
 rw [Array.toList_map,ksk_zip]
 show (its.zip its).map Prod.snd=its
 rw [List.map_snd_zip]
 exact Nat.le_refl _
theorem vS (its:List Value):((List.range its.length).map λi=>its.getD i Value.none)=its:=by
 apply List.ext_getElem
 ·simp
 ·intro i h1 h2
  simp at h1
  simp [h1]
theorem Zn {l:Addr}{its:List Value}{κ:SortKind}{lt:Nat->Nat->Bool}{G:List Nat->Prop}{Q:Value->Shared->Prop}(hl:s.heap.IsList l its.toArray) (h64:its.length<64)
  (hk:2<=its.length->∀h',(∀b o,s.heap.get? b=some o->h'.get? b=some o)->∀Q':SortKind->Shared->Prop,Q' κ { s with heap:=h' }->wpAny (model prog w) A.in1.in1 (keyKind' its.toArray) Q' (λ_ _=>False) { s with heap:=h' })
  (hc:∀h',(∀b o,s.heap.get? b=some o->h'.get? b=some o)->∀i j,i<its.length->j<its.length->∀Q':Bool->Shared->Prop,Q' (lt i j) { s with heap:=h' } ->
   wpAny (model prog w) A.in1.in1 (keyLt' κ (its.getD i Value.none) (its.getD j Value.none)) Q' (λ_ _=>False) { s with heap:=h' })
  (hs:2<=its.length->x4 lt its.length (kas_sort its.length) λp=>qv its.length p/\G p.toList) (h1:its.length<2->G (List.range its.length))
  (h:∀(ix:List Nat) (h':Heap) (n:Nat),ix.Perm (List.range its.length)->G ix->(∀b o,s.heap.get? b=some o->h'.get? b=some o) ->
   h'.get? (s.heap.objs.size+1)=some (seqObj "list" (ix.map λi=>its.getD i Value.none).toArray n)->Q (.ref (s.heap.objs.size+1)) { s with heap:=h' }) :
  wpAny (model prog w) A (call (.builtin "sorted") [.ref l]) Q E s:=by
 refine Calls.call_function_entry kind_sorted plain_sorted entry_sorted (args_sorted1 _) ?_
 unfold Builtin.«sorted»
 refine wpAny_bind (m:=checkCount "sorted" 1 1 _) (wpAny_pure ?_)
 refine wpAny_bind (collect_list hl ?_ (by rw [sizeLine_eq];omega))
 refine wpAny_bind (wpAny_newList ?_ (by rw [sizeLine_eq];omega))
 have hsz:((s.heap.push (seqObj "list" #[] 0)).update s.heap.objs.size (Obj.mapSeq (· ++ its.toArray))).objs.size=s.heap.objs.size+1:=by
  rw [Heap.size_update,size_push']
 have ho:(((s.heap.push (seqObj "list" #[] 0)).update s.heap.objs.size (Obj.mapSeq (· ++ its.toArray))).push (seqObj "list" its.toArray 0)).get? (s.heap.objs.size+1)=some (seqObj "list" its.toArray 0):=by
  rw [<- hsz];exact Heap.get?_push_size _ rfl
 have keep:∀b o,s.heap.get? b=some o->(((s.heap.push (seqObj "list" #[] 0)).update s.heap.objs.size (Obj.mapSeq (· ++ its.toArray))).push (seqObj "list" its.toArray 0)).get? b=some o:=λb o q=>by
  have hlt:b<s.heap.objs.size:=Heap.lt_size q
  rw [Heap.get?_push_ne _ _ _ (by rw [hsz];exact Nat.ne_of_lt (Nat.lt_succ_of_lt hlt)),Heap.get?_update_ne _ _ _ _ (Nat.ne_of_lt hlt),Heap.get?_push_ne _ _ _ (Nat.ne_of_lt hlt)]
  exact q
 show wpAny _ _ _ _ _ { s with heap:=((s.heap.push (seqObj "list" #[] 0)).update s.heap.objs.size (Obj.mapSeq (· ++ its.toArray))).push (seqObj "list" its.toArray 0) }
 rw [hsz]
 refine wpAny_bind (wpAny_holding (wpAny_call_entry slot_list_sort ⟨_,ho,rfl⟩ entry_list_sort ?body (args_list_sort _)))
 case body =>
  generalize hh0:((s.heap.push (seqObj "list" #[] 0)).update s.heap.objs.size (Obj.mapSeq (· ++ its.toArray))).push (seqObj "list" its.toArray 0)=h0 at ho keep
  generalize ha:s.heap.objs.size+1=a at ho h
  have aNew:∀b o,s.heap.get? b=some o->b≠a:=λb o q=>by have:=Heap.lt_size q;rw [<- ha];exact Nat.ne_of_lt (Nat.lt_succ_of_lt this)
  show wpAny (model prog w) A.in1.in1 (Builtin.«list.sort» ⟨[.ref a],[]⟩) _ _ { s with heap:=h0 }
  rw [list_sort_plain]
  have hal:a<h0.objs.size:=Heap.lt_size ho
  refine wpAny_bind (listItems_at ho rfl ?_)
  refine wpAny_bind (listUpdate_at ho rfl ?_ (by rw [List.size_toArray,sizeLine_eq];omega) (Nat.zero_le _))
  obtain ⟨e1,ho1⟩:∃e1,(h0.update a (Obj.mapSeq λ_=>(#[]:Array Value))).get? a=some (seqObj "list" #[] e1):=⟨_,get?_update_seq ho (λ_=>#[])⟩
  refine wpAny_bind (seqEpoch_at ho1 rfl ?_)
  refine wpAny_bind (wpAny_newTuple ?_ (by show its.length<=_;rw [sizeLine_eq];omega))
  refine wpAny_bind (wpAny_newList ?_ (Nat.zero_le _))
  refine wpAny_holding ?_
  have ho6:(((h0.update a (Obj.mapSeq λ_=>(#[]:Array Value))).push (seqObj "tuple" its.toArray 0)).push (seqObj "list" #[] 0)).get? a=some (seqObj "list" #[] e1):=by
   rw [Heap.get?_push_ne _ _ _ (by rw [size_push',Heap.size_update];exact Nat.ne_of_lt (Nat.lt_succ_of_lt hal)),Heap.get?_push_ne _ _ _ (by rw [Heap.size_update];exact Nat.ne_of_lt hal)]
   exact ho1
  have keep6:∀b o,s.heap.get? b=some o->(((h0.update a (Obj.mapSeq λ_=>(#[]:Array Value))).push (seqObj "tuple" its.toArray 0)).push (seqObj "list" #[] 0)).get? b=some o:=λb o q =>
   Heap.get?_push_of_some _ (Heap.get?_push_of_some _ ((Heap.get?_update_ne _ _ _ _ (aNew b o q)).trans (keep b o q)))
  show wpAny (model prog w) A.in1.in1 _ _ _ { s with heap:=((h0.update a (Obj.mapSeq λ_=>(#[]:Array Value))).push (seqObj "tuple" its.toArray 0)).push (seqObj "list" #[] 0) }
  generalize ((h0.update a (Obj.mapSeq λ_=>(#[]:Array Value))).push (seqObj "tuple" its.toArray 0)).push (seqObj "list" #[] 0)=h6 at ho6 keep6
  dsimp only
  have fin:∀(ix:List Nat),ix.Perm (List.range its.length)->G ix->∀out:Array Value,out=(ix.map λi=>its.getD i Value.none).toArray ->
    ∃v,PySem.Fin.done (Flow.ret Value.none) = .done (.ret v)/\wpAny (model prog w) A.in1 (do let _ <- pure v;ret (Value.ref a)) (λfin s'=>∃v,fin = .done (.ret v)/\Q v s') E { s with heap:=h6.update a (Obj.mapSeq λ_=>out) }:=λix hp hg out ho'=>by
   refine ⟨_,rfl,wpAny_bind (wpAny_pure (wpAny_pure ⟨_,rfl,?_⟩))⟩
   subst ho'
   exact h ix _ _ hp hg (λb o q=>(Heap.get?_update_ne _ _ _ _ (aNew b o q)).trans (keep6 b o q)) (get?_update_seq ho6 λ_=>_)
  by_cases h2:its.toArray.size<2
  ·rw [if_pos h2,if_pos h2]
   refine wpAny_bind (wpAny_pure ?_)
   rw [StateT.run_pure]
   refine wpAny_bind (wpAny_pure ?_)
   dsimp only
   refine wpAny_bind (seqEpoch_at ho6 rfl ?_)
   rw [ux]
   refine wpAny_bind (listUpdate_at ho6 rfl ?_ (Nat.zero_le _) (by rw [List.size_toArray,sizeLine_eq];omega))
   simp only [bne_self_eq_false,Bool.false_eq_true,if_false]
   rw [List.size_toArray] at h2
   exact wpAny_pure (fin _ (List.Perm.refl _) (h1 h2) _ (by rw [vS]))
  ·rw [if_neg h2,if_neg h2]
   rw [List.size_toArray] at h2
   refine wpAny_bind (wpAny_mono (hk ∅ h6 keep6 (λκ' s'=>κ'=κ/\s'={ s with heap:=h6 }) ⟨rfl,rfl⟩) (λκ' s' q=>?_) λ_ _ x=>x.elim)
   obtain ⟨rfl,rfl⟩:=q
   refine wpAny_bind (wpAny_mono (kat_run (ks:=its) (vs:=its) (κ:=κ') (G:=λp s'=>(qv its.length p/\G p.toList)/\s'={ s with heap:=h6 }) (Q:=λst' s'=>∃p:Array Nat,arrOf st'=p.map (kas_item (its.toArray.zip its.toArray))/\failedOf st'=none/\(qv its.length p/\G p.toList)/\s'={ s with heap:=h6 })
    rfl ∅ h64 (λp st' s' a1 a2 a3 a4=>⟨p,a2,a3,a4⟩) (x4.wp (I:=λs'=>s'={ s with heap:=h6 }) (λi j C s' hi hj hI hC=>?_) (λp s' hp hI=>⟨hp,hI⟩) (hs ∅) rfl)) ?_ λ_ _ e=>e)
   ·subst hI
    exact hc h6 keep6 i j hi hj C (hC _ rfl)
   ·rintro ⟨⟨⟩,st'⟩ s' ⟨p,har,hf,⟨hP,hG⟩,rfl⟩
    dsimp only
    have hout:=kat_snds (ks:=its) (vs:=its) rfl har
    have hz:(List.toArray (p.toList.map λi=>its.getD i Value.none)).size=its.length:=by rw [List.size_toArray,List.length_map,Array.length_toList,hP.size]
    rw [hout]
    refine wpAny_bind (seqEpoch_at ho6 rfl ?_)
    refine wpAny_bind (listUpdate_at ho6 rfl ?_ (Nat.zero_le _) (by rw [hz,sizeLine_eq];omega))
    rw [hf]
    simp only [bne_self_eq_false,Bool.false_eq_true,if_false]
    exact wpAny_pure (fin p.toList (by have:=Array.perm_iff_toList_perm.mp hP;simpa using this) hG _ rfl)
end
end L2
end
section
namespace L2
open PySem.W
def uC (O:KeyOrd) (key:Nat->O.α) (vs out:List V):Prop:=∃ix:List Nat,ix.Perm (List.range vs.length)/\out=(ix.map λi=>vs.getD i V.non)/\(ix.map key).Pairwise O.kle
theorem zt.pairwise {O:KeyOrd}{key:Nat->O.α}{p:Array Nat}{n:Nat}(hs:zt (O:=O) key p n) (hz:p.size=n):(p.toList.map key).Pairwise O.kle:=by
 rw [List.pairwise_iff_getElem]
 intro i j hi hj hij
 simp at hi hj
 have q:=hs i j (Nat.le_of_lt hij) ∅
 unfold kp at q
 have e1:p.getD i 0=p[i]:=by simp [Array.getD,hi]
 have e2:p.getD j 0=p[j]:=by simp [Array.getD,hj]
 rw [e1,e2] at q
 simpa using q
theorem Js:∀{vs:List V}{us:List Value},jD vs us->∀i,jE (vs.getD i V.non) (us.getD i Value.none)
 | _,_,.nil,_=>rfl
 | _,_,.cons r _,0=>r
 | _,_,.cons _ t,i+1=>Js t i
theorem wk {vs:List V}{us:List Value}(r:jD vs us):∀ix:List Nat,jD (ix.map λi=>vs.getD i V.non) (ix.map λi=>us.getD i Value.none)
 | []=>.nil
 | i::ix=>.cons (Js r i) (wk r ix)
theorem VU {a b:Int}(h:Wv.kle a b):a<=b:=Int.not_lt.mp (of_decide_eq_false h)
def yD (H:Hp) (vs:List V) (rows:List (List Int)):Prop:=Paired (λv (r:List Int)=>∃a,v=V.ref a/\H a=some (.lst (r.map V.int))) vs rows
theorem Paired.get {α β:Type}{F:α->β->Prop}:∀{l₁:List α}{l₂:List β}{i:Nat}{x:α},Paired F l₁ l₂->l₁[i]? = some x->∃y,l₂[i]? = some y/\F x y
 | _,_,_,_,.nil,e=>by simp at e
 | _,_,0,_,.cons r _,e=>by simp at e;subst e;exact ⟨_,rfl,r⟩
 | _,_,i+1,v,.cons _ t,e=>by
  obtain ⟨d,h1,h2⟩:=Paired.get (i:=i) (x:=v) t (by simpa using e)
  exact ⟨d,by simpa using h1,h2⟩
theorem x5:∀{ns:List Int}{us:List Value},jD (ns.map V.int) us->IntsAre us ns
 | [],_,.nil=>.nil
 | n::ns,_,.cons ⟨t,e⟩ r=>by subst e;exact .cons n t (x5 r)
section
variable {X:Cx}
theorem Jd (K:PySem.W.Frag) (hu:X.A.units+64<cLine) (hK:X.K=K:=by rfl):xb X (.builtin "sorted") (λxs H Q=>∃p vs rows,xs=[.ref p]/\SqL K H p vs/\vs.length<64/\yD H vs rows /\
  ∀l H' out,H l=none->H' l=some (.lst out)->jf H H'->uC wN (λi=>rows.getD i []) vs out->Q (.ref l) H'):=by
 subst hK
 intro pins s σ H xs us Q I r h
 obtain ⟨p,vs,rows,rfl,hq,h64,hr,k⟩:=h
 obtain ⟨u,rfl,ru⟩:=yC r
 cases ru
 obtain ⟨its,rv,pl,hz⟩:=I.list hq
 have hlen:its.length=vs.length:=rv.length.symm
 have item:∀i,i<its.length->∃a its' n,its.getD i Value.none = .ref a/\s.heap.get? a=some { cls:=.type "list",data:=.seq its'.toArray n }/\IntsAre its' (rows.getD i []):=λi hi=>by
  have e1:vs[i]? = some (vs[i]'∅):=List.getElem?_eq_getElem ∅
  obtain ⟨y,e2,a,e3,e4⟩:=Paired.get hr e1
  obtain ⟨u,e5,ru⟩:=rv.get e1
  rw [e3] at ru
  cases ru
  obtain ⟨z,its',n,rv',e6⟩:=I.hok a _ e4
  refine ⟨a,its',n,by rw [List.getD_eq_getElem?_getD,e5];rfl,e6,?_⟩
  rw [List.getD_eq_getElem?_getD,e2]
  exact x5 rv'
 have hun:X.A.in1.in1.units<cLine:=by
  show X.A.units+1+1<cLine
  omega
 refine Zn (κ:=oneType') (lt:=ltK wN λi=>rows.getD i []) (G:=λix=>(ix.map λi=>rows.getD i []).Pairwise wN.kle) pl.isList ∅ (λh2 h' hk' Q' q=>?_) (λh' hk' i j hi hj Q' q=>?_) (λh2=>?_) (λh1=>?_) λix h' n hp hg hk' hn=>?_
 ·refine kas_kind (T:=.type "list") h2 (λv hv=>?_) rfl rfl q
  obtain ⟨i,hi,rfl⟩:=List.mem_iff_getElem.mp hv
  obtain ⟨a,its',n,e1,e2,_⟩:=item i hi
  have e3:its[i] = .ref a:=by rw [<- e1];simp [hi]
  rw [e3]
  exact (show Looks _ h' (typeOf (.ref a)) _ from (Looks.ld (hk' _ _ e2)).andThen .now)
 ·obtain ⟨a,its',n,e1,e2,e3⟩:=item i hi
  obtain ⟨b,its2,n2,f1,f2,f3⟩:=item j hj
  rw [e1,f1,keyLt'_oneType]
  exact QX hun (hk' _ _ e2) (hk' _ _ f2) e3 f3 q
 ·exact gz ∅ λp' hP hS=>⟨hP,hS.pairwise hP.size⟩
 ·have hcase:its.length=0\/its.length=1:=∅
  rcases hcase with z | z
  ·rw [z];exact List.Pairwise.nil
  ·rw [z];exact List.pairwise_singleton _ _
 ·have hf:H (s.heap.objs.size+1)=none:=I.hok.fresh (Nat.le_succ _)
  refine ⟨.ref _,upd H (s.heap.objs.size+1) (.lst (ix.map λi=>vs.getD i V.non)),I.laid (t':=s.toks) hk' (Nat.le_succ _) ⟨?_,_,n,wk rv ix,hn⟩,rfl,k _ _ _ hf j5 (jf.new hf) ⟨ix,by rw [<- hlen];exact hp,rfl,hg⟩⟩
  rw [List.length_map,hp.length_eq,List.length_range]
  exact Nat.le_trans (by omega:its.length<=1000) ⋯
end
end L2
end
section
namespace L2
open PySem.W
abbrev uk (qual:Str) (params:Arguments) (body:Expr) (scope:Scope) (pm:Value) (c:Addr) (ctv:Value):FuncData:=kla_fn "<lambda>" qual params body scope [] pm (.ref c) ctv
def YV (f:Addr) (fd:FuncData):HO:=.ext λh=>h.get? f=some { cls:=.type "function",data:=.func fd }
def XV (c:Addr) (qual:Str):HO:=.ext λh=>h.CodeRec (.ref c) qual
def Tab (H:Hp) (Pt:Addr) (pos:Pos) (qual:Str):Prop:=H Pt=some (.tbl #[])\/∃c',H Pt=some (.tbl #[rawInt pos.line,rawInt pos.col,.ref c'])/\H c'=some (XV c' qual)
theorem Tab.ne {H:Hp}{Pt:Addr}{pos:Pos}{qual:Str}(T:Tab H Pt pos qual):∃ps,H Pt=some (.tbl ps):=by
 rcases T with z | ⟨c',z,_⟩
 ·exact ⟨_,z⟩
 ·exact ⟨_,z⟩
theorem Tab.same {H H':Hp}{Pt:Addr}{pos:Pos}{qual:Str}(T:Tab H Pt pos qual) (s:jf H H'):Tab H' Pt pos qual:=by
 rcases T with z | ⟨c',z,y⟩
 ·exact .inl (s _ _ z)
 ·exact .inr ⟨c',s _ _ z,s _ _ y⟩
theorem Tab.ext {H H':Hp}{Pt b:Addr}{pos:Pos}{qual:Str}{xs:List V}(T:Tab H Pt pos qual) (hb:H b=some (.lst xs)) (e:Ext b H H'):Tab H' Pt pos qual:=by
 rcases T with z | ⟨c',z,y⟩
 ·exact .inl (e _ _ z (jo z hb (by intro q;cases q)))
 ·exact .inr ⟨c',e _ _ z (jo z hb (by intro q;cases q)),e _ _ y (jo y hb (by intro q;cases q))⟩
theorem Tab.extN {H H':Hp}{Pt b:Addr}{pos:Pos}{qual:Str}(T:Tab H Pt pos qual) (hb:H b=none) (e:Ext b H H'):Tab H' Pt pos qual:=T.same λc o h=>e c o h (j1 h hb)
def Bm (mg:Str->Option Value) (base:Heap):Prop:=∃bm ob,mg "__builtins__" = some (.ref bm)/\bm≠builtinsNs/\base.get? bm=some ob/\ob.cls = .type "module" /\ ob.dict=some builtinsNs/\ob.data = .plain
theorem WB {P:Program}{w:World}{K:PySem.W.Frag}{mg:Str->Option Value}{base:Heap}{k:Nat}{f c:Addr}{qual:Str}{params:Arguments}{body:Expr}{scope:Scope}{pm ctv:Value}{N:List Str}{x:Str}{A:Around}{outer:List Env}{s:Shared}{H:Hp}{u:Value}{v:V}{Q:VK}{t:TE}
  (ho:s.heap.get? f=some { cls:=.type "function",data:=.func (uk qual params body scope pm c ctv) }) (hcd:s.heap.CodeRec (.ref c) qual) (S:FnScope N [x] scope) (hr:Room (k+1) A) (e0:Env0 P w K mg base A outer s H)
  (hb:∀pm c ctv u,bindArgs (uk qual params body scope pm c ctv) ⟨[u],[]⟩=pure [(x,u)]) (r:jE v u)
  (ht:PE (vX CX0 P w K mg base N qual scope f (.ref c) A outer s H E0).nox body t) (q:t (start N [v]) H Q) :
  codeAny (model P w) A (.call (.ref f) ⟨[u],[]⟩) (CR CX0 outer P w H s Q E0) s:=by
 have lim:s.heap.NoLimit:=e0.mod.nolimit.keeps λb o e=>(e0.bs b o e).1
 have hkind:∀y∈([x].zip [u]),scope.names.lookup y.1=some .local\/(scope.names.lookup y.1=some .cell/\((cellsFrom (s.heap.objs.size+1) scope.names []).lookup y.1).isSome=true):=λ⟨n,v⟩ hy=>by
  rcases S.par n (List.of_mem_zip hy).1 with q | q
  ·exact .inl q
  ·exact .inr ⟨q,PySem.W.cellsFrom_some _ _ _ (.inl q)⟩
 refine kla_callFunE hr.depth ho rfl S.co S.gen rfl hcd ?_
 rw [hb]
 refine wpAny_pure (wpAny_newFunctionEnv_cells (binds:=[x].zip [u]) S.kind hkind λenv he s1 y=>?_)
 subst he
 refine ⟨lim.keeps y.toInCall.keep,kla_codeExpr ?_⟩
 have I:Inv (vX CX0 P w K mg base N qual scope f (.ref c) A outer s H E0) [] (start N [v]) H s1:=JD S hr.hd e0 rfl (Paired.cons r .nil) y
 refine wpAny_mono (ht.nox [] s1 (start N [v]) H _ I q) (λu' s' hs=>?_) λe s' hs=>hs
 obtain ⟨v',H',J,rv,q'⟩:=hs
 exact ⟨v',H',J.os,J.bare,J.base,J.hok,rv,q'⟩
section
variable {X:Cx}{pins:List (Addr×Obj)}{σ:St}{H:Hp}{s:Shared}
theorem VO {E:Value->Shared->Prop}{c Pt:Addr}{params:Arguments}{body:Expr}{scope:Scope}{pos:Pos}{Q:Value->Shared->Prop}(I:Inv X pins σ H s) (hcode:X.env.code = .ref c) (CH:CodeHd X.base c Pt) (hB:Bm X.mg X.base)
  (hcl:closureFor scope X.env=pure []) (hdef:defaultsOf params X.env=([],[])) (T:Tab H Pt pos (X.env.qual ++ "<lambda>"))
  (k:∀f H' s' pm c' ctv,Inv X pins σ H' s'->H f=none->H' f=some (YV f (uk (X.env.qual ++ "<lambda>") params body scope pm c' ctv))->H' c'=some (XV c' (X.env.qual ++ "<lambda>"))->Ext Pt H H'->Tab H' Pt pos (X.env.qual ++ "<lambda>")->Q (.ref f) s') :
  wpAny (model X.prog X.w) X.A (eval (.Lambda params body scope pos) X.env) Q E s:=by
 refine kla_eval hdef ?_
 obtain ⟨bm,ob,b1,b2,b3,b4,b5,b6⟩:=hB
 obtain ⟨ps0,hPt⟩:=T.ne
 have trk:∀{b:Addr} {o:Obj},X.base.get? b=some o->b≠Pt:=λ{b o} e z=>by
  have:=(I.bs b o e).2
  rw [z,hPt] at this;cases this
 have hgN:s.heap.Ns mainGlobals X.mg:=I.ok.mod.glob.keeps I.bk
 have hgP:mainGlobals≠Pt:=by
  obtain ⟨o,es,ep,e,_⟩:=I.ok.mod.glob
  exact trk e
 have hbG:bm≠mainGlobals:=λq=>by
  obtain ⟨o,es,ep,e,hd,_⟩:=I.ok.mod.glob
  rw [q,e] at b3;cases b3;rw [hd] at b6;cases b6
 have hBA:s.heap.BuiltinsAt X.mg Pt:=⟨bm,ob,b1,b2,hbG,trk b3,I.bk _ _ b3,b4,b5,b6⟩
 have LS:∀(f:Addr) (fd:FuncData) (h1 h2:Heap),h1.get? f=some { cls:=.type "function",data:=.func fd }->(∀o,h1.get? f=some o->h2.get? f=some o)->h2.get? f=some { cls:=.type "function",data:=.func fd }:=λf fd h1 h2 e m=>m _ e
 have CS:∀(c:Addr) (q:Str) (h1 h2:Heap),h1.CodeRec (.ref c) q->(∀o,h1.get? c=some o->h2.get? c=some o)->h2.CodeRec (.ref c) q:=λc q h1 h2 ⟨c',o,vs,t,e,g,r⟩ m=>by
  cases e
  exact ⟨c,o,vs,t,rfl,m _ g,r⟩
 rcases T with hT | ⟨c',hT,hC⟩
 ·have eT:s.heap.get? Pt=some (tabObj #[]):=I.hok Pt _ hT
  refine kla_makeFunction (mg:=X.mg) hcl I.ok.glob hgN hcode (CH.keeps I.bk) eT trivial rfl hgP hBA λc' ctv h' tk hx hge hlt hrec htb=>?_
  have hcN:H c'=none:=I.hok.fresh hge
  have hsz:s.heap.objs.size<=h'.objs.size:=Nat.le_of_lt (Nat.lt_of_le_of_lt hge hlt)
  have hfN:H h'.objs.size=none:=I.hok.fresh hsz
  have neC:∀{b:Addr} {o:Obj},s.heap.get? b=some o->b≠c':=λ{b o} e=>Nat.ne_of_lt (Nat.lt_of_lt_of_le (Heap.lt_size e) hge)
  have neF:∀{b:Addr} {o:Obj},s.heap.get? b=some o->b≠h'.objs.size:=λ{b o} e=>Nat.ne_of_lt (Nat.lt_of_lt_of_le (Heap.lt_size e) hsz)
  have hPc:Pt≠c':=neC eT
  have hPf:Pt≠h'.objs.size:=neF eT
  have hcf:c'≠h'.objs.size:=Nat.ne_of_lt hlt
  have e':h'.get? Pt=some (tabObj #[rawInt pos.line,rawInt pos.col,.ref c']):=by simpa using htb
  have getF:∀{b:Addr} {o:HO},H b=some o->b≠Pt->upd (upd (upd H Pt (.tbl #[rawInt pos.line,rawInt pos.col,.ref c'])) c' (XV c' (X.env.qual ++ "<lambda>"))) h'.objs.size (YV h'.objs.size (uk (X.env.qual ++ "<lambda>") params body scope ((X.mg "__name__").getD .none) c' ctv)) b=some o:=λ{b o} e n=>by
   rw [j8 (j1 e hfN),j8 (j1 e hcN),j8 n];exact e
  have atP:upd (upd (upd H Pt (.tbl #[rawInt pos.line,rawInt pos.col,.ref c'])) c' (XV c' (X.env.qual ++ "<lambda>"))) h'.objs.size (YV h'.objs.size (uk (X.env.qual ++ "<lambda>") params body scope ((X.mg "__name__").getD .none) c' ctv)) Pt=some (.tbl #[rawInt pos.line,rawInt pos.col,.ref c']):=by
   rw [j8 hPf,j8 hPc,j5]
  have atC:upd (upd (upd H Pt (.tbl #[rawInt pos.line,rawInt pos.col,.ref c'])) c' (XV c' (X.env.qual ++ "<lambda>"))) h'.objs.size (YV h'.objs.size (uk (X.env.qual ++ "<lambda>") params body scope ((X.mg "__name__").getD .none) c' ctv)) c'=some (XV c' (X.env.qual ++ "<lambda>")):=by
   rw [j8 hcf,j5]
  refine k h'.objs.size (upd (upd (upd H Pt (.tbl #[rawInt pos.line,rawInt pos.col,.ref c'])) c' (XV c' (X.env.qual ++ "<lambda>"))) h'.objs.size (YV h'.objs.size (uk (X.env.qual ++ "<lambda>") params body scope ((X.mg "__name__").getD .none) c' ctv))) _ ((X.mg "__name__").getD .none) c' ctv ?_ hfN j5 atC (λb o e n=>getF e n) (.inr ⟨c',atP,atC⟩)
  have kp1:∀b o,b≠Pt->s.heap.get? b=some o->(h'.push (kla_obj "<lambda>" (X.env.qual ++ "<lambda>") params body scope [] ((X.mg "__name__").getD .none) c' ctv)).get? b=some o:=λb o n e=>Heap.get?_push_of_some _ (hx b o n e)
  have nP:∀{b:Addr},H b=none->b≠Pt:=λ{b} e z=>by rw [z,hT] at e;cases e
  refine I.step (g':=s.gens) (d':=s.drawn) (ch:=[]) (λ_ z=>nomatch z) (λb o _ _ _ e n=>kp1 b o (nP n) e) (λb o _ _ _ e n=>⟨o.slots,kp1 b o (nP n) e⟩) (λb o _ e n=>?_) (λb o _ e=>?_) (λb xs e=>?_) (λb o u e=>?_) (λb ps e=>?_) (λm hm=>?_) (λb u e=>?_) I.bare
  ·rw [j8 (neF e),j8 (neC e),j8 (nP n)];exact n
  ·by_cases hb:b=Pt
   ·subst hb;exact ⟨_,Heap.get?_push_of_some _ e'⟩
   ·exact ⟨o,kp1 b o hb e⟩
  ·exact getF e (jo e hT (by intro z;cases z))
  ·exact getF e (jo e hT (by intro z;cases z))
  ·by_cases hb:b=Pt
   ·subst hb
    rw [hT] at e;cases e
    exact ⟨#[rawInt pos.line,rawInt pos.col,.ref c'],by rw [atP];simp⟩
   ·exact ⟨#[],by rw [getF e hb];simp⟩
  ·obtain ⟨o,es,ep,ho,r⟩:=hm
   exact ⟨o,es,ep,kp1 _ o (nP I.free) ho,r⟩
  ·by_cases h1:b=h'.objs.size
   ·subst h1
    rw [j5] at e;cases e
    exact ⟨Heap.get?_push_size _ rfl,⟨_,Heap.get?_push_size _ rfl⟩,λh1 h2 e m=>LS _ _ h1 h2 e m⟩
   ·by_cases h2:b=c'
    ·subst h2
     rw [atC] at e;cases e
     obtain ⟨c2,oc,vs,t,e2,hoc,r⟩:=id hrec
     cases e2
     exact ⟨hrec.keeps λb o e=>Heap.get?_push_of_some _ e,⟨_,Heap.get?_push_of_some _ hoc⟩,λh1 h2 e m=>CS _ _ h1 h2 e m⟩
    ·by_cases h3:b=Pt
     ·subst h3
      rw [atP] at e;cases e
      exact Heap.get?_push_of_some _ e'
     ·rw [j8 h1,j8 h2,j8 h3] at e
      refine (I.hok b u e).stay (λb' v hc q=>kp1 b' v ?_ q) (λb' q=>getF q (jo q hT (by intro z;cases z))) λb' xs q=>getF q (jo q hT (by intro z;cases z))
      rcases hc with z | z
      ·rw [z];exact h3
      ·exact jo z hT (by intro z;cases z)
 ·have eT:s.heap.get? Pt=some (tabObj #[rawInt pos.line,rawInt pos.col,.ref c']):=I.hok Pt _ hT
  have tri:TriplesOk (#[rawInt pos.line,rawInt pos.col,Value.ref c']:Array Value).toList:=TriplesOk_snoc pos.line pos.col (.ref c') [] trivial
  have hit:codeAmong pos (#[rawInt pos.line,rawInt pos.col,Value.ref c']:Array Value).toList=some (.ref c'):=codeAmong_snoc (c:=.ref c') [] trivial rfl
  refine kla_makeFunctionHit (mg:=X.mg) hcl I.ok.glob hgN hcode (CH.keeps I.bk) eT tri hit hBA λctv h' tk hk hsz=>?_
  have hfN:H h'.objs.size=none:=I.hok.fresh hsz
  refine k h'.objs.size (upd H h'.objs.size (YV h'.objs.size (uk (X.env.qual ++ "<lambda>") params body scope ((X.mg "__name__").getD .none) c' ctv))) _ ((X.mg "__name__").getD .none) c' ctv ?_ hfN j5 (by rw [j8 (j1 hC hfN)];exact hC) (Ext.new hfN) (.inr ⟨c',by rw [j8 (j1 hT hfN)];exact hT,by rw [j8 (j1 hC hfN)];exact hC⟩)
  exact I.laid (λb o e=>Heap.get?_push_of_some _ (hk b o e)) hsz ⟨Heap.get?_push_size _ rfl,⟨_,Heap.get?_push_size _ rfl⟩,λh1 h2 e m=>LS _ _ h1 h2 e m⟩
theorem Inv.adopt {D:Addr}{ob:Obj}{o:HO}{h':Heap}{t':Nat}(I:Inv X ((D,ob)::pins) σ H s) (h1:X.s₀.heap.objs.size<=D) (h2:∀x c,X.env.cells.lookup x=some c->c≠D) (h3:∀p∈X.pn++pins,p.1≠D)
  (k:∀b u,b≠D->s.heap.get? b=some u->h'.get? b=some u) (new:qp X.prog X.w (upd H D o) h' D o):Inv X pins σ (upd H D o) { s with heap:=h',toks:=t' }:=by
 obtain ⟨eD,nD,lD,_,_⟩:=I.pin (D,ob) (List.mem_append_right _ List.mem_cons_self)
 have I':Inv X pins σ H s:=I.pins_of λp hp=>I.pin p (List.mem_append_right _ (List.mem_cons_of_mem _ hp))
 have nit:∀b u,H b=some u->b≠D:=λb u e z=>by rw [z,nD] at e;cases e
 have getF:∀{b:Addr} {u:HO},H b=some u->upd H D o b=some u:=λ{b u} e=>by rw [j8 (nit b u e)];exact e
 refine I'.step (g':=s.gens) (d':=s.drawn) (ch:=[D]) (λb hb=>?_) (λb o _ _ hc e _=>k b o (λz=>hc (by simp [z])) e) (λb o _ _ hc e _=>⟨o.slots,k b o (λz=>hc (by simp [z])) e⟩) (λb o hc _ n=>by rw [j8 (λz=>hc (by simp [z]))];exact n)
  (λb o hc e=>⟨o,k b o (λz=>hc (by simp [z])) e⟩) (λ_ _ e=>getF e) (λ_ _ _ e=>getF e) (λb ps e=>⟨#[],by rw [getF e];simp⟩) (λm hm=>?_) (λb u e=>?_) I'.bare
 ·have e:b=D:=by simpa using hb
  subst e
  exact ⟨.inr h1,lD,h2,h3⟩
 ·obtain ⟨o,es,ep,ho,r⟩:=hm
  exact ⟨o,es,ep,k _ o (Ne.symm lD) ho,r⟩
 ·by_cases hb:b=D
  ·subst hb
   rw [j5] at e;cases e
   exact new
  ·rw [j8 hb] at e
   refine (I'.hok b u e).stay (λc v hc q=>k c v ?_ q) (λ_ q=>getF q) λ_ _ q=>getF q
   rcases hc with z | z
   ·rw [z];exact hb
   ·exact nit c _ z
end
end L2
end
section
namespace L2
open PySem.W
def Gm (H:Hp) (ks:List V) (keyf:Nat->List Int) (j:Nat):Prop:=ks.length=j/\∀i,i<j->∃q,ks[i]? = some (V.ref q)/\H q=some (.tup ((keyf i).map V.int))
theorem QO {a b:List Value}(h:a.length=b.length):(a.toArray.zip b.toArray).map (·.2)=b.toArray:=by
 apply Array.toList_inj.mp
 rw [Array.toList_map,ksk_zip]
 show (a.zip b).map Prod.snd=b
 rw [List.map_snd_zip]
 omega
section
variable {X:Cx}{pins:List (Addr×Obj)}{σ:St}{H:Hp}{s:Shared}
theorem Qy {E:Value->Shared->Prop}{p f:Addr}{vs:List V}{keyf:Nat->List Int}{Q:Value->Shared->Prop}(I:Inv X pins σ H s) (hq:SqL X.K H p vs) (h64:vs.length<64) (hne:∀i,i<vs.length->keyf i≠[])
  (hcall:∀i v,vs[i]? = some v->∀pins' s' H' u,Inv X pins' σ H' s'->jf H H'->jE v u->wpAny (model X.prog X.w) X.A.in1.in1 (call (.ref f) [u]) (EP X pins' σ λkv H''=>jf H' H''/\∃q,kv = .ref q/\H'' q=some (.tup ((keyf i).map V.int))) (λ_ _=>False) s')
  (k:∀l H' out s',Inv X pins σ H' s'->H l=none->H' l=some (.lst out)->jf H H'->uC wN keyf vs out->Q (.ref l) s') :
  wpAny (model X.prog X.w) X.A (call (.builtin "sorted") [.ref p] [(Str.ofString "key",.ref f)]) Q E s:=by
 obtain ⟨its,rv,pl,hz⟩:=I.list hq
 have hlen:its.length=vs.length:=rv.length.symm
 refine call_function_entry_kw kind_sorted plain_sorted entry_sorted (ksk_s1 _ _) ?_
 unfold Builtin.«sorted»
 refine wpAny_bind (m:=checkCount "sorted" 1 1 _) (wpAny_pure ?_)
 refine wpAny_bind (collect_list pl.isList ?_ (by rw [sizeLine_eq];omega))
 refine wpAny_bind (wpAny_newList ?_ (by rw [sizeLine_eq];omega))
 have hsz:((s.heap.push (seqObj "list" #[] 0)).update s.heap.objs.size (Obj.mapSeq (· ++ its.toArray))).objs.size=s.heap.objs.size+1:=by
  rw [Heap.size_update,size_push']
 have ho:(((s.heap.push (seqObj "list" #[] 0)).update s.heap.objs.size (Obj.mapSeq (· ++ its.toArray))).push (seqObj "list" its.toArray 0)).get? (s.heap.objs.size+1)=some (seqObj "list" its.toArray 0):=by
  rw [<- hsz];exact Heap.get?_push_size _ rfl
 have keep:∀b o,s.heap.get? b=some o->(((s.heap.push (seqObj "list" #[] 0)).update s.heap.objs.size (Obj.mapSeq (· ++ its.toArray))).push (seqObj "list" its.toArray 0)).get? b=some o:=λb o q=>by
  have hlt:b<s.heap.objs.size:=Heap.lt_size q
  rw [Heap.get?_push_ne _ _ _ (by rw [hsz];exact Nat.ne_of_lt (Nat.lt_succ_of_lt hlt)),Heap.get?_update_ne _ _ _ _ (Nat.ne_of_lt hlt),Heap.get?_push_ne _ _ _ (Nat.ne_of_lt hlt)]
  exact q
 show wpAny _ _ _ _ _ { s with heap:=((s.heap.push (seqObj "list" #[] 0)).update s.heap.objs.size (Obj.mapSeq (· ++ its.toArray))).push (seqObj "list" its.toArray 0) }
 rw [hsz]
 refine wpAny_bind (wpAny_holding (wpAny_call_entry_kw slot_list_sort ⟨_,ho,rfl⟩ entry_list_sort ?body (ksk_l1 _ _)))
 case body =>
  generalize ((s.heap.push (seqObj "list" #[] 0)).update s.heap.objs.size (Obj.mapSeq (· ++ its.toArray))).push (seqObj "list" its.toArray 0)=h0 at ho keep
  generalize ha:s.heap.objs.size+1=a at ho
  have hDs:s.heap.objs.size<=a:=by rw [<- ha];exact Nat.le_succ _
  have aNew:∀b o,s.heap.get? b=some o->b≠a:=λb o q=>by have:=Heap.lt_size q;rw [<- ha];exact Nat.ne_of_lt (Nat.lt_succ_of_lt this)
  show wpAny (model X.prog X.w) X.A.in1.in1 (Builtin.«list.sort» ⟨[.ref a],[(Str.ofString "key",.ref f)]⟩) _ _ { s with heap:=h0 }
  rw [ksk_t1]
  unfold ksk_tree
  have hal:a<h0.objs.size:=Heap.lt_size ho
  refine wpAny_bind (listItems_at ho rfl ?_)
  refine wpAny_bind (listUpdate_at ho rfl ?_ (by rw [List.size_toArray,sizeLine_eq];omega) (Nat.zero_le _))
  obtain ⟨e1,ho1⟩:∃e1,(h0.update a (Obj.mapSeq λ_=>(#[]:Array Value))).get? a=some (seqObj "list" #[] e1):=⟨_,get?_update_seq ho (λ_=>#[])⟩
  refine wpAny_bind (seqEpoch_at ho1 rfl ?_)
  refine wpAny_bind (wpAny_newTuple ?_ (by show its.length<=_;rw [sizeLine_eq];omega))
  refine wpAny_bind (wpAny_newList ?_ (Nat.zero_le _))
  refine wpAny_holding ?_
  have ho5:((h0.update a (Obj.mapSeq λ_=>(#[]:Array Value))).push (seqObj "tuple" its.toArray 0)).get? a=some (seqObj "list" #[] e1):=Heap.get?_push_of_some _ ho1
  have keep5:∀b o,s.heap.get? b=some o->((h0.update a (Obj.mapSeq λ_=>(#[]:Array Value))).push (seqObj "tuple" its.toArray 0)).get? b=some o:=λb o q =>
   Heap.get?_push_of_some _ ((Heap.get?_update_ne _ _ _ _ (aNew b o q)).trans (keep b o q))
  show wpAny (model X.prog X.w) X.A.in1.in1 (ksk_rest a (.ref f) false its.toArray e1 (.ref ((h0.update a (Obj.mapSeq λ_=>(#[]:Array Value))).push (seqObj "tuple" its.toArray 0)).objs.size)) _ _
   { s with heap:=((h0.update a (Obj.mapSeq λ_=>(#[]:Array Value))).push (seqObj "tuple" its.toArray 0)).push (seqObj "list" #[] 0) }
  generalize (h0.update a (Obj.mapSeq λ_=>(#[]:Array Value))).push (seqObj "tuple" its.toArray 0)=h5 at ho5 keep5
  have I5:Inv X pins σ H { s with heap:=h5,toks:=s.toks }:=I.kept keep5
  have hHa:H a=none:=I.hok.fresh hDs
  have hHk:H h5.objs.size=none:=I5.hok.fresh (Nat.le_refl _)
  have hLoc:a≠X.env.locals:=λz=>by
   obtain ⟨m,⟨o,es,ep,e,_⟩,_⟩:=I.loc
   exact aNew _ _ e z.symm
  have hFs:a∉X.fs:=I.nofs hDs
  have hCell:∀x c,X.env.cells.lookup x=some c->c≠a:=λx c e=>by
   obtain ⟨v,o,e2,_⟩:=I.cell x c e
   exact aNew c o e2
  have hPins:∀q∈X.pn++pins,q.1≠a:=λq hq=>aNew _ _ (I.pin q hq).1
  have I6:Inv X ((a,seqObj "list" #[] e1)::pins) σ (upd H h5.objs.size (.lst [])) { s with heap:=h5.push (seqObj "list" #[] 0),toks:=s.toks }:=by
   refine Inv.pins_of (I5.lnew (its:=[]) (ys:=[]) .nil (Nat.zero_le _)) λq hq=>?_
   rcases List.mem_cons.mp hq with rfl | hq
   ·refine ⟨Heap.get?_push_of_some _ ho5,?_,hLoc,hFs,λv=>by intro z;cases z⟩
    rw [j8 (Nat.ne_of_lt (Heap.lt_size ho5))]
    exact hHa
   ·have J:=(I5.lnew (its:=[]) (ys:=[]) (t':=s.toks) .nil (Nat.zero_le _)).pin q (List.mem_append_right _ hq)
    exact J
  unfold ksk_rest
  refine wpAny_bind (wpAny_rule ?_)
  first
   | rw [List.forIn_toArray]
   | (rw [<- Array.forIn_toList];simp only [List.toList_toArray])
   | rw [<- Array.forIn_toList]
  refine wpAny_bind (ksk_fold (λj s'=>∃H' ks,Inv X ((a,seqObj "list" #[] e1)::pins) σ H' s'/\jf H H'/\H' h5.objs.size=some (.lst ks)/\Gm H' ks keyf j) its 0 _
   ⟨_,[],I6,jf.new hHk,j5,rfl,λi hi=>absurd hi (Nat.not_lt_zero _)⟩ (λj x s' hx hJ=>?_) λs' hJ=>?_)
  ·-- a key
   rw [Nat.zero_add] at hJ ⊢
   obtain ⟨H',ks,J,sm,hk,hl,hks⟩:=hJ
   have hj:j<its.length:=(List.getElem?_eq_some_iff.mp hx).1
   have hv:vs[j]? = some (vs[j]'∅):=List.getElem?_eq_getElem ∅
   obtain ⟨u,e5,ru⟩:=rv.get hv
   rw [hx] at e5
   cases e5
   refine wpAny_bind (wpAny_attempt (wpAny_mono (hcall j _ hv _ s' H' x J sm ru) (λkv s'' hk2=>?_) λ_ _ hF=>hF.elim))
   obtain ⟨kv',H'',J2,rk,sm2,q,rfl,hqq⟩:=hk2
   dsimp only
   have hk':=sm2 _ _ hk
   obtain ⟨z,itk,n,rvk,hlk,ek⟩:=J2.lstM hk'
   refine wpAny_bind (listUpdate_at ek rfl ?_ (by rw [List.size_toArray,<- hlk,hl,sizeLine_eq];omega) (Nat.le_trans (Nat.le_of_eq (Array.size_push ..)) (by rw [List.size_toArray,<- hlk,hl,sizeLine_eq];omega)))
   refine wpAny_pure ⟨rfl,_,ks++[.ref q],J2.lset (t':=s''.toks) (its':=itk++[kv]) hk' ek (by simp) (rvk.append (.cons rk .nil)) (by rw [List.length_append,List.length_singleton,hl];exact Nat.le_trans (by omega:j+1<=1000) ⋯),λb o e=>?_,j5,?_,λi hi=>?_⟩
   ·rw [j8 (j1 e hHk)]
    exact sm2 _ _ (sm _ _ e)
   ·rw [List.length_append,List.length_singleton,hl]
   ·by_cases hij:i<j
    ·obtain ⟨q',e6,e7⟩:=hks i hij
     refine ⟨q',by rw [List.getElem?_append_left ∅];exact e6,?_⟩
     have e8:=sm2 _ _ e7
     rw [j8 (jo e8 hk' (by intro z;cases z))]
     exact e8
    ·have:i=j:=∅
     subst this
     refine ⟨q,by rw [List.getElem?_append_right ∅,hl];simp,?_⟩
     rw [j8 (jo hqq hk' (by intro z;cases z))]
     exact hqq
  ·-- behind the keys
   rw [Nat.zero_add] at hJ
   obtain ⟨H',ks,J,sm,hk,hl,hks⟩:=hJ
   obtain ⟨z,itk,n,rvk,hlk,ek⟩:=J.lstM hk
   have hlk':itk.length=its.length:=∅
   refine wpAny_bind (listItems_at ek rfl ?_)
   obtain ⟨eD,nD,_⟩:=J.pin (a,seqObj "list" #[] e1) (List.mem_append_right _ List.mem_cons_self)
   have hak:a≠h5.objs.size:=λz=>by rw [z,hk] at nD;cases nD
   have keyAt:∀i,i<its.length->∃q itq o m,itk.getD i Value.none = .ref q/\s'.heap.get? q=some o/\o.cls = .type "tuple" /\ o.data = .seq itq.toArray m/\IntsAre itq (keyf i):=λi hi=>by
    obtain ⟨q,e6,e7⟩:=hks i hi
    obtain ⟨u,e8,ru⟩:=rvk.get e6
    cases ru
    obtain ⟨zz,itq,rq,o,e9,ec,m,ed⟩:=J.hok q _ e7
    exact ⟨q,itq,o,m,by rw [List.getD_eq_getElem?_getD,e8];rfl,e9,ec,ed,x5 rq⟩
   have fin:∀(ix:List Nat) (st':SortSt),ix.Perm (List.range its.length)->(ix.map keyf).Pairwise wN.kle->failedOf st'=none->(arrOf st').map (·.2)=(ix.map λi=>its.getD i Value.none).toArray ->
     wpAny (model X.prog X.w) X.A.in1.in1 (ksk_tail a false e1 (.ref h5.objs.size) st') (λfin s'=>∃v,fin = .done (.ret v)/\wpAny (model X.prog X.w) X.A.in1 (do let _ <- pure v;ret (Value.ref a)) (λfin s'=>∃v,fin = .done (.ret v)/\Q v s') E s') E s':=by
    intro ix st' hp hg hf hout
    unfold ksk_tail
    dsimp only
    rw [hout]
    have hol:(ix.map λi=>its.getD i Value.none).length<64:=by rw [List.length_map,hp.length_eq,List.length_range];omega
    refine wpAny_bind (listUpdate_at ek rfl ?_ (by rw [List.size_toArray,hlk',sizeLine_eq];omega) (Nat.zero_le _))
    refine wpAny_bind (wpAny_letGo ?_)
    have J2:Inv X ((a,seqObj "list" #[] e1)::pins) σ (upd H' h5.objs.size (.lst [])) { s' with heap:=s'.heap.update h5.objs.size (Obj.mapSeq λ_=>(#[]:Array Value)),toks:=s'.toks }:=J.lset (its':=[]) (ys:=[]) hk ek rfl .nil (Nat.zero_le _)
    have eD2:(s'.heap.update h5.objs.size (Obj.mapSeq λ_=>(#[]:Array Value))).get? a=some (seqObj "list" #[] e1):=(Heap.get?_update_ne _ _ _ _ hak).trans eD
    refine wpAny_bind (seqEpoch_at eD2 rfl ?_)
    refine wpAny_bind (listUpdate_at eD2 rfl ?_ (Nat.zero_le _) (by simp only [Bool.false_eq_true,if_false];rw [List.size_toArray,sizeLine_eq];omega))
    rw [hf]
    simp only [bne_self_eq_false,Bool.false_eq_true,if_false]
    refine wpAny_pure ⟨_,rfl,wpAny_bind (wpAny_pure (wpAny_pure ⟨_,rfl,?_⟩))⟩
    have eo:∃n,((s'.heap.update h5.objs.size (Obj.mapSeq λ_=>(#[]:Array Value))).update a (Obj.mapSeq λ_=>(ix.map λi=>its.getD i Value.none).toArray)).get? a=some (seqObj "list" (ix.map λi=>its.getD i Value.none).toArray n):=⟨_,get?_update_seq eD2 λ_=>_⟩
    obtain ⟨n',eo⟩:=eo
    have J3:=J2.adopt (o:=.lst (ix.map λi=>vs.getD i V.non)) (t':=s'.toks) (Nat.le_trans I.sz hDs) hCell hPins
     (h':=(s'.heap.update h5.objs.size (Obj.mapSeq λ_=>(#[]:Array Value))).update a (Obj.mapSeq λ_=>(ix.map λi=>its.getD i Value.none).toArray)) (λb u n e=>(Heap.get?_update_ne _ _ _ _ n).trans e) ⟨by rw [List.length_map,hp.length_eq,List.length_range];exact Nat.le_trans (by omega:its.length<=1000) ⋯,_,n',wk rv ix,eo⟩
    refine k a _ _ _ J3 hHa j5 (λb o e=>?_) ⟨ix,by rw [<- hlen];exact hp,rfl,hg⟩
    rw [j8 (j1 e hHa),j8 (j1 e hHk)]
    exact sm _ _ e
   unfold ksk_end
   dsimp only
   simp only [Bool.false_eq_true,if_false]
   by_cases h2:its.toArray.size<2
   ·rw [if_pos h2,if_pos h2]
    refine wpAny_bind (wpAny_pure ?_)
    rw [StateT.run_pure]
    refine wpAny_bind (wpAny_pure ?_)
    dsimp only
    rw [List.size_toArray] at h2
    refine fin (List.range its.length) _ (List.Perm.refl _) ?_ rfl ?_
    ·have hcase:its.length=0\/its.length=1:=∅
     rcases hcase with z | z
     ·rw [z];exact List.Pairwise.nil
     ·rw [z];exact List.pairwise_singleton _ _
    ·rw [vS]
     exact QO hlk'
   ·rw [if_neg h2,if_neg h2]
    rw [List.size_toArray] at h2
    have tups:∃fs,KatTups s'.heap itk fs/\0<fs.length/\∀v∈fs,Looks (model X.prog X.w) s'.heap (typeOf v) (.type "int"):=by
     have go:∀(l:List Value),(∀i,i<l.length->∃q itq o m ns,l.getD i Value.none = .ref q/\s'.heap.get? q=some o/\o.cls = .type "tuple" /\ o.data = .seq (List.toArray itq) m/\IntsAre itq ns/\ns≠[]) ->
       ∃fs,KatTups s'.heap l fs/\fs.length=l.length/\∀v∈fs,Looks (model X.prog X.w) s'.heap (typeOf v) (.type "int"):=by
      intro l
      induction l with
      | nil=>intro _;exact ⟨[],.nil,rfl,λ_ h=>nomatch h⟩
      | cons v l ih =>
       intro h
       obtain ⟨fs,t,e,lk⟩:=ih λi hi=>h (i+1) (by rw [List.length_cons];omega)
       obtain ⟨q,itq,o,m,ns,e1,e2,e3,e4,e5,e6⟩:=h 0 (by rw [List.length_cons];omega)
       have e1':v = .ref q:=e1
       subst e1'
       cases e5 with
       | nil=>exact absurd rfl e6
       | cons n t' r =>
        refine ⟨.int n t'::fs,KatTups.cons e2 e3 e4 (by simp) t,by rw [List.length_cons,List.length_cons,e],λv hv=>?_⟩
        rcases List.mem_cons.mp hv with rfl | hv
        ·exact Looks.of_pure rfl
        ·exact lk v hv
     obtain ⟨fs,t,e,lk⟩:=go itk λi hi=>by
      obtain ⟨q,itq,o,m,a1,a2,a3,a4,a5⟩:=keyAt i ∅
      exact ⟨q,itq,o,m,keyf i,a1,a2,a3,a4,a5,hne i ∅⟩
     exact ⟨fs,t,∅,lk⟩
    obtain ⟨fs,t,hfs,lk⟩:=tups
    refine wpAny_bind (kat_kind (T:=.type "int") t hfs lk rfl ?_)
    rw [show (Value.type "int" != Value.type "tuple")=true from rfl]
    refine wpAny_bind (wpAny_mono (kat_run (ks:=itk) (vs:=its) (κ:=tuples' true) (G:=λp s2=>(qv its.length p/\(p.toList.map keyf).Pairwise wN.kle)/\s2=s') (Q:=λst' s2=>∃p:Array Nat,arrOf st'=p.map (kas_item (itk.toArray.zip its.toArray))/\failedOf st'=none/\(qv its.length p/\(p.toList.map keyf).Pairwise wN.kle)/\s2=s')
     hlk' ∅ ∅ (λp st' s' a1 a2 a3 a4=>⟨p,a2,a3,a4⟩) (x4.wp (lt:=ltK wN keyf) (n:=its.length) (I:=λs2=>s2=s') (λi j C s2 hi hj hI hC=>?_) (λp s2 hp hI=>⟨hp,hI⟩) (gz ∅ λp' hP hS=>⟨hP,hS.pairwise hP.size⟩) rfl)) ?_ λ_ _ e=>e)
    ·subst hI
     obtain ⟨q,itq,o,m,a1,a2,a3,a4,a5⟩:=keyAt i hi
     obtain ⟨q',itq',o',m',b1,b2,b3,b4,b5⟩:=keyAt j hj
     unfold kas_ask
     rw [a1,b1]
     exact Zg a2 a4 b2 b4 a5 b5 (hC _ rfl)
    ·rintro ⟨⟨⟩,st'⟩ s2 ⟨p,har,hf,⟨hP,hG⟩,rfl⟩
     dsimp only
     exact fin p.toList st' (by have:=Array.perm_iff_toList_perm.mp hP;simpa using this) hG hf (kat_snds hlk' har)
end
end L2
end
section
namespace L2
open PySem.W
section
variable {prog:Program}{w:World}{A:Around}{E:Value->Shared->Prop}{s:Shared}
theorem Zd (n:Nat):Builtin.Slice.sliceAdjust none none (-1) (n:Int)=((n:Int)-1,-1):=by
 unfold Builtin.Slice.sliceAdjust
 simp
theorem Zc (n:Nat):Builtin.Slice.slicePlaces ((n:Int)-1) (-1) (-1)=n:=by
 unfold Builtin.Slice.slicePlaces
 have h1:¬((-1:Int) > 0):=⋯
 simp only [h1,if_false]
 by_cases h:n=0
 ·subst h;simp
 ·rw [show (- -1:Int)=1 by decide]
  simp only [Int.ediv_one]
  split <;> omega
theorem wo {sl:Addr}{v3:Value}{n:Nat}{Q:Int×Int×Nat->Shared->Prop}(hs:s.heap.IsSliceOf sl .none .none v3) (pk:IsPart v3 (some (-1)))
  (h:Q ((n:Int)-1,-1,n) s):wpAny (model prog w) A (Builtin.Slice.sliceApplied (.ref sl) (pure (n:Int))) Q E s:=by
 obtain ⟨os,hos,hcs,hds⟩:=id hs
 unfold Builtin.Slice.sliceApplied Builtin.Slice.sliceFields
 refine wpAny_bind (wpAny_bind (wpAny_field hos hds (x:=.none) rfl (wpAny_bind (wpAny_field hos hds (x:=.none) rfl (wpAny_bind (wpAny_field hos hds (x:=v3) rfl (wpAny_pure ?_)))))))
 refine wpAny_bind (HT.slicePart_ pk ?_)
 show wpAny _ _ (if ((-1:Int) == 0)=true then _ else _) _ _ s
 rw [if_neg ⋯]
 refine wpAny_bind (HT.slicePart_ .none (wpAny_bind (HT.slicePart_ .none (wpAny_bind (wpAny_pure ?_)))))
 show wpAny _ _ (match Builtin.Slice.sliceAdjust none none (-1) (n:Int) with | (lo,hi)=>pure (lo,(-1:Int),Builtin.Slice.slicePlaces lo hi (-1))) _ _ s
 rw [Zd n]
 show wpAny _ _ (pure ((n:Int)-1,(-1:Int),Builtin.Slice.slicePlaces ((n:Int)-1) (-1) (-1))) _ _ s
 rw [Zc]
 exact wpAny_pure h
theorem Vp (xs:Array Value):((List.range xs.size).filterMap λ(m:Nat)=>xs[(((xs.size:Int)-1)+(m:Int) * -1).toNat]?).toArray=xs.toList.reverse.toArray:=by
 have e:((List.range xs.size).filterMap λ(m:Nat)=>xs[(((xs.size:Int)-1)+(m:Int) * -1).toNat]?)=((List.range xs.size).map λk=>xs.size-1-k).filterMap (xs[·]?):=by
  rw [List.filterMap_map]
  congr 1
  funext m
  show xs[(((xs.size:Int)-1)+(m:Int) * -1).toNat]? = xs[xs.size-1-m]?
  congr 1
  omega
 rw [e,krv_range,List.filterMap_reverse,krv_all]
theorem ul {t sl:Addr}{items:Array Value}{v3:Value}{Q:Value->Shared->Prop}(ht:IsTup s.heap t items) (hs:s.heap.IsSliceOf sl .none .none v3) (pk:IsPart v3 (some (-1)))
  (h:Q (.ref s.heap.objs.size) { s with heap:=s.heap.push { cls:=.type "tuple",data:=.seq items.toList.reverse.toArray } }) (hsz:items.size<=sizeLine):wpAny (model prog w) A (getItem (.ref t) (.ref sl)) Q E s:=by
 have htake:sizeOk (.seq items.toList.reverse.toArray):=by
  show items.toList.reverse.toArray.size<=sizeLine
  rw [List.size_toArray,List.length_reverse,Array.length_toList]
  exact hsz
 obtain ⟨os,hos,hcs,hds⟩:=id hs
 have hTs:s.TypeIs (.ref sl) "slice":=⟨os,hos,hcs⟩
 unfold getItem
 try with_reducible refine wpAny_holding ?_
 first | refine wpAny_bind (wpAny_pure ?_) | skip
 refine wpAny_bind (wpAny_sequenceKey ht.typeIs ⋯ ?_)
 refine wpAny_bind (wpAny_callSpecial?_slot (name:=Str.ofString "__getitem__") ht.typeIs PyProof.Rows.slot_tuple_getitem
  (wpAny_call_entry PyProof.Rows.slot_tuple_getitem ht.typeIs entry_tuple_getitem ?_ (args_tuple_getitem _ _)))
 show wpAny _ _ (Builtin.Tuple.tupleItemsOf (.ref t) >>= _) _ _ s
 refine wpAny_bind (tupleItemsOf_ ht ?_)
 refine wpAny_bind (wpAny_typeOf hTs ?_)
 rw [if_pos ⋯]
 refine wpAny_bind (wo hs pk ?_)
 show wpAny _ _ (if (((items.size:Int)-1) == 0 && (-1:Int) == 1 && items.size == items.size)=true then _ else _) _ _ s
 rw [if_neg (by simp),Vp]
 first
  | exact wpAny_bind (m:=Builtin.Tuple.tupleExact _) (wpAny_newObj_type (wpAny_pure ⟨_,rfl,wpAny_pure h⟩) htake)
  | exact wpAny_bind (m:=Builtin.Tuple.tupleExact _) (wpAny_newObj_type (wpAny_bind (wpAny_pure (wpAny_pure ⟨_,rfl,wpAny_pure h⟩))) htake)
  | exact wpAny_bind (wpAny_bind (m:=Builtin.Tuple.tupleExact _) (wpAny_newObj_type (wpAny_pure (wpAny_pure ⟨_,rfl,wpAny_pure h⟩)) htake))
  | exact wpAny_bind (wpAny_bind (m:=Builtin.Tuple.tupleExact _) (wpAny_newObj_type (wpAny_pure ⟨_,rfl,wpAny_pure h⟩) htake))
end
section
variable {X:Cx}{e:Expr}{te:TE}{pos p2 p3 p4:Pos}{j3:Nat}
def Ey (K:PySem.W.Frag) (te:TE):TE:=λσ H Q=>te σ H λx H2=>∃a xs,x = .ref a/\SqT K H2 a xs/\New H2 (.tup xs.reverse) Q
def ER (K:PySem.W.Frag) (te:TE):TE:=λσ H Q=>te σ H λx H2=>∃a xs,x = .ref a/\SqL K H2 a xs/\New H2 (.lst xs.reverse) Q
theorem WI (K:PySem.W.Frag) (he:PE X e te) (hK:X.K=K:=by rfl):PE X (.Subscript e (.Slice none none (some (.UnaryOp .USub (.Constant (.int 1) j3 p3) p4)) p2) pos) (Ey K te):=by
 subst hK
 intro pins s σ H Q I h
 refine Subscript_ (thn (he pins s σ H _ I h) λv s1 ⟨x,H1,I1,r1,q1⟩=>?_)
 refine wpAny_Slice ?_
 rw [evalPart_none]
 refine wpAny_pure ?_
 refine wpAny_pure ?_
 rw [evalPart_some]
 obtain ⟨a,xs,rfl,hx,q⟩:=q1
 refine thn (ya xN j6 pins s1 σ H1 (λy H2=>y = .int (-1)/\H2=H1) I1 ⟨_,rfl,rfl,rfl⟩) λu s3 ⟨y,H3,I3,ry,ey,eH⟩=>?_
 subst ey eH
 obtain ⟨tk,rfl⟩:=ry
 cases r1
 have I4:Inv X pins σ H3 { s3 with heap:=s3.heap.push { cls:=.type "slice",data:=.fields #[.none,.none,.int (-1) tk] } }:=I3.kept (t':=s3.toks) λb ob q=>Heap.get?_push_of_some _ q
 obtain ⟨its,r,ht,hz⟩:=I4.tuple hx
 have hlen:its.toArray.size=xs.length:=by rw [List.size_toArray];exact r.length.symm
 show wpAny (model X.prog X.w) X.A (subscriptTail e (.Slice none none (some (.UnaryOp .USub (.Constant (.int 1) j3 p3) p4)) p2) (.ref a) (.ref s3.heap.objs.size)) (EP X pins σ Q) X.xe { s3 with heap:=s3.heap.push { cls:=.type "slice",data:=.fields #[.none,.none,.int (-1) tk] } }
 refine tail_any (ops:=[.ref a,.ref s3.heap.objs.size]) ht.typeIs PyProof.Rows.slot_tuple_getitem.lookup ?_ (by with_unfolding_all rfl)
 refine ul ht (Heap.IsSliceOf.new ..) (.int _ _) ?_ (by rw [hlen];exact hz)
 have hf:=I4.hok.fresh (Nat.le_refl _)
 refine ⟨.ref _,_,I4.laid (t':=s3.toks) (o:=.tup xs.reverse) (λb ob q=>Heap.get?_push_of_some _ q) (Nat.le_refl _) ?_,rfl,q.at _ hf⟩
 exact ⟨by rw [List.length_reverse];exact hz,_,r.reverse,IsTup.new _ _⟩
theorem UU (K:PySem.W.Frag) (he:PE X e te) (hK:X.K=K:=by rfl):PE X (.Subscript e (.Slice none none (some (.UnaryOp .USub (.Constant (.int 1) j3 p3) p4)) p2) pos) (ER K te):=by
 subst hK
 intro pins s σ H Q I h
 refine Subscript_ (thn (he pins s σ H _ I h) λv s1 ⟨x,H1,I1,r1,q1⟩=>?_)
 refine wpAny_Slice ?_
 rw [evalPart_none]
 refine wpAny_pure ?_
 refine wpAny_pure ?_
 rw [evalPart_some]
 obtain ⟨a,xs,rfl,hx,q⟩:=q1
 refine thn (ya xN j6 pins s1 σ H1 (λy H2=>y = .int (-1)/\H2=H1) I1 ⟨_,rfl,rfl,rfl⟩) λu s3 ⟨y,H3,I3,ry,ey,eH⟩=>?_
 subst ey eH
 obtain ⟨tk,rfl⟩:=ry
 cases r1
 have I4:Inv X pins σ H3 { s3 with heap:=s3.heap.push { cls:=.type "slice",data:=.fields #[.none,.none,.int (-1) tk] } }:=I3.kept (t':=s3.toks) λb ob q=>Heap.get?_push_of_some _ q
 obtain ⟨its,r,ht,hz⟩:=I4.list hx
 have hlen:its.length=xs.length:=r.length.symm
 show wpAny (model X.prog X.w) X.A (subscriptTail e (.Slice none none (some (.UnaryOp .USub (.Constant (.int 1) j3 p3) p4)) p2) (.ref a) (.ref s3.heap.objs.size)) (EP X pins σ Q) X.xe { s3 with heap:=s3.heap.push { cls:=.type "slice",data:=.fields #[.none,.none,.int (-1) tk] } }
 refine tail_any (ops:=[.ref a,.ref s3.heap.objs.size]) ht.isList.typeIs slot_list_getitem.lookup ?_ (by with_unfolding_all rfl)
 refine wpAny_getItem_list_slice ht.isList (Heap.IsSliceOf.new ..) .none .none (.int _ _) ⋯ ?_ (by rw [List.size_toArray];omega)
 rw [krv_pick]
 have hf:=I4.hok.fresh (Nat.le_refl _)
 refine ⟨.ref _,_,I4.laid (t':=s3.toks) (o:=.lst xs.reverse) (λb ob q=>Heap.get?_push_of_some _ q) (Nat.le_refl _) ?_,rfl,q.at _ hf⟩
 exact ⟨by rw [List.length_reverse];exact hz,_,0,r.reverse,Heap.get?_push_size _ rfl⟩
end
theorem SqL.extT {K:PySem.W.Frag}{Pt a:Addr}{H H':Hp}{xs:List V}{ps:Array Value}(hp:H Pt=some (.tbl ps)) (x:Ext Pt H H') (h:SqL K H a xs):SqL K H' a xs:=by
 rcases h with (h | ⟨o,h⟩) | h
 ·exact .inl (.inl (x _ _ h (jo h hp (by intro z;cases z))))
 ·exact .inl (.inr ⟨o,x _ _ h (jo h hp (by intro z;cases z))⟩)
 ·exact .inr h
section
variable {X:Cx}{e body:Expr}{ta:TA}{tb:TE}{params:Arguments}{scope:Scope}{lpos kpos p pos:Pos}{N:List Str}{x:Str}{c Pt:Addr}{k:Nat}
def E3 (K:PySem.W.Frag) (Pt:Addr) (lpos:Pos) (qual:Str) (N:List Str) (ta:TA) (tb:TE):TE:=λσ H Q=>ta σ H λxs H1=>Tab H1 Pt lpos qual/\∃(p:Addr) (vs:List V) (keyf:Nat->List Int),xs=[.ref p]/\SqL K H1 p vs/\vs.length<64/\(∀i,i<vs.length->keyf i≠[]) /\
 (∀H2,Ext Pt H1 H2->∀i v,vs[i]? = some v->tb (start N [v]) H2 λkv H3=>jf H2 H3/\∃q,kv = .ref q/\H3 q=some (.tup ((keyf i).map V.int))) /\
 ∀l H2 out,H1 l=none->H2 l=some (.lst out)->Ext Pt H1 H2->Tab H2 Pt lpos qual->uC wN keyf vs out->Q (.ref l) H2
theorem Z3 (hg:Gl X "sorted") (hm:X.mg "sorted" = none) (ha:PA X [e] ta) (hcode:X.env.code = .ref c) (CH:CodeHd X.base c Pt) (hB:Bm X.mg X.base) (hr:Room (k+3) X.A) (S:FnScope N [x] scope)
  (hb:∀pm c ctv u,bindArgs (uk (X.env.qual ++ "<lambda>") params body scope pm c ctv) ⟨[u],[]⟩=pure [(x,u)])
  (hbody:∀f c' s H,PE (vX CX0 X.prog X.w X.K X.mg X.base N (X.env.qual ++ "<lambda>") scope f (.ref c') X.A.in1.in1 X.stack s H E0).nox body tb)
  (hcl:closureFor scope X.env=pure []:=by rfl) (hdef:defaultsOf params X.env=([],[]):=by rfl)
  (he:backTo pos (starEach [e] X.env)=(false,eval e X.env)::backTo pos (starEach [] X.env):=by rfl) (hplain:(backTo pos (starEach [e] X.env)).any (·.1)=false:=by rfl) :
  PE X (.Call (.Name "sorted" p) [e] [⟨some (Str.ofString "key"),.Lambda params body scope lpos,kpos⟩] pos) (E3 X.K Pt lpos (X.env.qual ++ "<lambda>") N ta tb):=by
 intro pins s σ H Q I h
 refine wpAny_Call_Name_kw (zX I hg hm boot_sorted ?_ ⋯ ⋯)
 refine callWith_kw (thn (ha pos pins s σ H _ I h) λus s1 ⟨vs,H1,I1,r,q⟩=>?_) he hplain
 show wpAny _ _ (evalAll ((do let v <- eval (.Lambda params body scope lpos) X.env;standAt pos;pure v)::[])) _ _ s1
 obtain ⟨T,a,xs,keyf,e1,hx,h64,hne,hkey,hq⟩:=q
 subst e1
 obtain ⟨u0,rfl,ru⟩:=yC r
 cases ru
 obtain ⟨ps0,hPt⟩:=T.ne
 refine wpAny_evalAll_cons (wpAny_bind (VO I1 hcode CH hB hcl hdef T λf H2 s2 pm c' ctv I2 hf hf2 hc2 X2 T2=>wpAny_bind (wpAny_standAt (wpAny_pure (wpAny_evalAll_nil ?_)))))
 show wpAny _ _ (call (.builtin "sorted") [.ref a] [(Str.ofString "key",.ref f)]) _ _ s2
 refine Qy I2 (SqL.extT hPt X2 hx) h64 hne (λi v hv pins' s' H' u I' sm ru=>?_) λl H3 out s' I3 hl hl3 sm hs=>?_
 ·have X3:Ext Pt H1 H':=X2.trans (Ext.of_same sm)
  obtain ⟨ho,_⟩:=I'.hok f _ (sm _ _ hf2)
  obtain ⟨hcd,_⟩:=I'.hok c' _ (sm _ _ hc2)
  refine wpAny_call (codeAny_mono (WB (k:=k) ho hcd S (hr.in1.in1) I'.env0.in1.in1 hb ru (hbody f c' s' H') (hkey H' X3 i v hv)) λr s'' hq=>?_)
  cases r with
  | error e=>exact False.elim hq
  | ok fl =>
   cases fl with
   | ret u=>exact I'.after hq
   | next=>exact False.elim hq
   | brk=>exact False.elim hq
   | cont=>exact False.elim hq
 ·exact ⟨.ref l,H3,I3,rfl,hq l H3 out (X2.free hl (λz=>by rw [z] at hl;obtain ⟨p2,z2⟩:=T2.ne;rw [z2] at hl;cases hl)) hl3 (X2.trans (Ext.of_same sm)) (T2.same sm) hs⟩
end
end L2
end
section
namespace L2
open PySem.W
theorem YH {P:Program}{w:World}{K:PySem.W.Frag}{mg mb:Str->Option Value}{k:Nat}{fa a c Pt:Addr}{fd:FuncData}{x:Str}{sp:Sp}{s₁:Shared}{vs:List Value}{ns:List Int}
  (KX:K.In s₁.heap) (hns:s₁.heap.Ns mainGlobals mg) (hb:s₁.heap.Ns builtinsNs mb) (hbb:∀x:Str,x ≠ "__name__" -> mb x=bootBuiltins x) (hlim:s₁.heap.NoLimit) (hg:s₁.gens = #[])
  (ha:s₁.heap.get? a=some { cls:=.type "list",data:=.seq vs.toArray }) (hi:IntsAre vs ns) (hl:ns.length<=sizeLine) (hr:Room k callerA)
  (hPt:s₁.heap.get? Pt=some (tabObj #[])) (hKP:K.lookup Pt=none) (CH:CodeHd s₁.heap c Pt) (hB:Bm mg s₁.heap)
  (F:∀base:Heap,K.In base->base.Ns mainGlobals mg->Bm mg base->FnOk P w K mg base CX0 k fa fd [x] sp) (hbind:∀(s:Shared) (u:Value),BindsTo s fd ⟨[u],[]⟩ [(x,u)])
  (hsp:∀H:Hp,SqL K H a (ns.map V.int)->H Pt=some (.tbl #[])->sp [.ref a] H (λv _=>v = .bl true) λ_ _ _=>False) :
  codeAny (model P w) callerA (.call (.ref fa) ⟨[.ref a],[]⟩) (λr s'=>r = .ok (.ret (.bool true))/\OldK s₁.heap s'.heap/\s'.os=s₁.os/\AllBare s'.gens) s₁:=by
 have rv:=wa hi
 have lenV:=hi.length
 have core:∀H:Hp,H Pt=some (.tbl #[])->(∀b,b≠Pt->H b=none\/∃o xs,H b=some (.frz o (.lst xs)))->SqL K H a (ns.map V.int)->HOk P w H s₁.heap->(∀b,H b≠none->b=a\/b=Pt)->(H a≠none->K.lookup a=none) ->
   codeAny (model P w) callerA (.call (.ref fa) ⟨[.ref a],[]⟩) (λr s'=>r = .ok (.ret (.bool true))/\OldK s₁.heap s'.heap/\s'.os=s₁.os/\AllBare s'.gens) s₁:=by
  intro H hP hO hS hok hA hK
  have base_of:∀{b:Addr} {o:Obj},s₁.heap.get? b=some o->H b=none->(J9 s₁.heap H).get? b=some o:=λe n=>VR e n
  have noA:∀{b:Addr} {o:Obj},s₁.heap.get? b=some o->(∀xs n,o.data≠.seq xs n)->(∀vs,o.data = .fields vs->o.cls≠.none)->H b=none:=λ{b o} e d1 d2=>by
   cases q:H b with
   | none=>rfl
   | some u =>
    rcases hA b (by rw [q];simp) with e' | e'
    ·subst e'
     rw [ha] at e;cases e
     exact absurd rfl (d1 _ _)
    ·subst e'
     rw [hPt] at e;cases e
     exact absurd rfl (d2 _ rfl)
  have noD:∀{b:Addr} {o:Obj} {es:Array DictEntry} {ep:Nat},s₁.heap.get? b=some o->o.data = .dict es ep->H b=none:=λ{b o es ep} e d =>
   noA e (λxs n z=>by rw [d] at z;cases z) (λvs z=>by rw [d] at z;cases z)
  have nsK:∀{b:Addr} {m:Str->Option Value},s₁.heap.Ns b m->(J9 s₁.heap H).Ns b m:=λ{b m} ⟨o,es,ep,e,d,r⟩=>⟨o,es,ep,base_of e (noD e d),d,r⟩
  have hKb:K.In (J9 s₁.heap H):=λb o e=>base_of (KX b o e) (by
   cases q:H b with
   | none=>rfl
   | some u =>
    rcases hA b (by rw [q];simp) with e' | e'
    ·subst e'
     rw [hK (by rw [q];simp)] at e;cases e
    ·subst e'
     rw [hKP] at e;cases e)
  have hBb:Bm mg (J9 s₁.heap H):=by
   obtain ⟨bm,ob,b1,b2,b3,b4,b5,b6⟩:=hB
   exact ⟨bm,ob,b1,b2,base_of b3 (noA b3 (λxs n z=>by rw [b6] at z;cases z) λvs z=>by rw [b6] at z;cases z),b4,b5,b6⟩
  have hM:Mod K mg (J9 s₁.heap H):=⟨hKb,nsK hns,⟨mb,nsK hb,hbb⟩,let ⟨mc,h1,h2⟩:=hlim;⟨mc,nsK h1,h2⟩⟩
  have e0:Env0 P w K mg (J9 s₁.heap H) callerA [] s₁ H:=⟨rfl,hM,λb o e=>W1 e,Nat.le_of_eq (V2 _ _),trivial,λb hb=>absurd (show b∈([]:List Addr) from hb) (by simp),hok,.of_eq hg⟩
  refine codeAny_mono ((F _ hKb (nsK hns) hBb).run callerA [] s₁ H ⟨[.ref a],[]⟩ [.ref a] [.ref a] _ _ hr e0 (hbind s₁ (.ref a)) (.cons rfl .nil) (hsp H hS hP)) λr s' h=>?_
  cases r with
  | error e=>exact False.elim h
  | ok fl =>
   cases fl with
   | next=>exact False.elim h
   | brk=>exact False.elim h
   | cont=>exact False.elim h
   | ret u =>
    obtain ⟨v,H',os,bare,un,hok',r',q⟩:=h
    have q':v = .bl true:=q
    subst q'
    obtain rfl:u=Value.bool true:=r'
    have kp:∀b o,b≠Pt->s₁.heap.get? b=some o->s'.heap.get? b=some o:=λb o hb e=>by
     cases q:H b with
     | none=>exact un.keep b o e q (by intro z;exact absurd (show b∈([]:List Addr) from z) (by simp)) (by simp)
     | some u =>
      rcases hO b hb with z | ⟨ob,xs,z⟩
      ·rw [q] at z;cases z
      ·have z2:=un.frzs b ob _ z
       obtain ⟨e1,_⟩:=hok b _ z
       obtain ⟨e2,_⟩:=hok' b _ z2
       rw [e] at e1;cases e1
       exact e2
    obtain ⟨more,hm⟩:=un.tbls Pt _ hP
    have hm':s'.heap.get? Pt=some { cls:=.none,data:=.fields (#[]++more) }:=hok' Pt _ hm
    refine ⟨rfl,⟨λb o e=>?_,λb o e=>?_⟩,os,bare⟩
    ·by_cases hb:b=Pt
     ·subst hb
      rw [hPt] at e;cases e
      exact .inr (.inl ⟨(CH.tab hPt).isCodeTable,rfl,#[],more,rfl,hm'⟩)
     ·exact .inl (kp b o hb e)
    ·by_cases hb:b=Pt
     ·subst hb;exact ⟨_,hm'⟩
     ·exact ⟨o,kp b o hb e⟩
 have haP:a≠Pt:=λz=>by rw [z,hPt] at ha;cases ha
 cases hk:K.lookup a with
 | some o =>
  have e:=KX a o hk
  rw [ha] at e
  cases e
  refine core (λb=>if b=Pt then some (.tbl #[]) else none) (if_pos rfl) (λb hb=>.inl (if_neg hb)) (.inr ⟨_,vs.toArray,_,hk,rfl,rfl,rfl,by rw [List.size_toArray,lenV];exact hl,by simpa using rv⟩) (λb u z=>?_) (λb z=>?_) λz=>absurd (if_neg haP) z
  ·by_cases hb:b=Pt
   ·have z':=(if_pos hb).symm.trans z
    cases z'
    subst hb
    exact hPt
   ·have z':=(if_neg hb).symm.trans z
    cases z'
  ·by_cases hb:b=Pt
   ·exact .inr hb
   ·exact absurd (if_neg hb) z
 | none =>
  refine core (λb=>if b=Pt then some (.tbl #[]) else if b=a then some (.frz { cls:=.type "list",data:=.seq vs.toArray } (.lst (ns.map V.int))) else none) (if_pos rfl) (λb hb=>?_)
   (.inl (.inr ⟨{ cls:=.type "list",data:=.seq vs.toArray },(if_neg haP).trans (if_pos rfl)⟩)) (λb u z=>?_) (λb z=>?_) λ_=>hk
  ·by_cases hb2:b=a
   ·exact .inr ⟨_,_,(if_neg hb).trans (if_pos hb2)⟩
   ·exact .inl ((if_neg hb).trans (if_neg hb2))
  ·by_cases hb:b=Pt
   ·have z':=(if_pos hb).symm.trans z
    cases z'
    subst hb
    exact hPt
   ·by_cases hb2:b=a
    ·have z':=((if_neg hb).trans (if_pos hb2)).symm.trans z
     cases z'
     subst hb2
     exact ⟨ha,by rw [List.length_map];exact hl,vs,_,rv,ha⟩
    ·have z':=((if_neg hb).trans (if_neg hb2)).symm.trans z
     cases z'
  ·by_cases hb:b=Pt
   ·exact .inr hb
   ·by_cases hb2:b=a
    ·exact .inl hb2
    ·exact absurd ((if_neg hb).trans (if_neg hb2)) z
def XX (K:PySem.W.Frag) (Pt:Addr):Sp:=λvs H Q _=>∃(a:Addr) (ns:List Int),vs=[.ref a]/\SqL K H a (ns.map V.int)/\ns.length<=63/\H Pt=some (.tbl #[])/\∀H',Q (.bl true) H'
theorem UP {l:PySem.W.OpenLaw}{q:Program}{loose:List Str}{XP:(Str->Option Value)->Heap->Prop}{YP:World->Heap->Prop}{d:DefRec}{K:Params->PySem.W.Frag}(k:Nat) (c Pt:Addr) (hr:Room k callerA) (hn:l.most=some 63) (hdf:d.params.defaults=[])
  (hY:∀(w:World) (h:Heap),YP w h->(K w.params).In h/\h.get? Pt=some (tabObj #[])) (hKP:∀p:Params,(K p).lookup Pt=none) (hC:∀p:Params,codeHdIn (K p) c Pt=true)
  (F:∀(w:World) (mg:Str->Option Value) (fa:Addr) (h:Heap),(K w.params).In h->h.Ns mainGlobals mg->mg d.name=some (.ref fa) ->
   ∃fd:FuncData,(∀(s:Shared) (u:Value),BindsTo s fd ⟨[u],[]⟩ [("_law_script",u)])/\∀base:Heap,(K w.params).In base->base.Ns mainGlobals mg->Bm mg base->FnOk l.prog w (K w.params) mg base CX0 k fa fd ["_law_script"] (XX (K w.params) Pt)) :
  PySem.W.WalkO q loose XP YP l.row.toRowW d [] (λf vs=>PySem.call f vs):=by
 refine Att.attach_call hn hdf λw s₀ s₁ mg mb fa o pm cd doc a vs ns G Y ho hd hcd hmg hobj hints hlen hg=>?_
 obtain ⟨KX,hT⟩:=hY w _ Y
 obtain ⟨fd,hb,hF⟩:=F w mg fa _ KX G.T.g hmg
 exact YH (c:=c) KX G.T.g G.T.b G.T.builtins G.T.nolimit hg hobj hints (Nat.le_trans hlen ⋯) hr hT (hKP w.params) (codeHd_of_K KX (hC w.params)) G.T.bmain hF hb λH hS hP=>⟨a,ns,rfl,hS,hlen,hP,λ_=>rfl⟩
theorem Fun.okC {P:Program}{w:World}{K:PySem.W.Frag}{mg:Str->Option Value}{base:Heap}{x qual:Str}{st:Stmt}{f c:Addr}{oc:Value}{od an:Option Addr}{osl:Array (Option Value)}{kV doc pm ct:Value}{N ps:List Str}{k:Nat}{sp:Sp}
  (l:K.lookup f=some ⟨oc,od,.func (PySem.W.fnOf x qual (qd st) (jV st) (j7 st) .none kV doc pm an (.ref c) ct),osl⟩) (cd:PySem.W.codeIn K (.ref c) qual=true) (S:FnScope N ps (j7 st)) (len:∀vs H Q E,sp vs H Q E->vs.length=ps.length)
  (hbody:∀(A:Around) (outer:List Env) (s:Shared) (H:Hp) (vs:List V) (Q:VK) (E:XK),Room k (A.deeper (envOfC qual (j7 st) s.heap.objs.size f (.ref c)))->sp vs H Q E ->
   ∃t,PSs (vX CX0 P w K mg base N qual (j7 st) f (.ref c) A outer s H E).nox (jV st) t/\t { nx:=λ_ H'=>Q .non H',rt:=Q } (start N vs) H) :
  FnOk P w K mg base CX0 (k+1) f (PySem.W.fnOf x qual (qd st) (jV st) (j7 st) .none kV doc pm an (.ref c) ct) ps sp:=by
 refine Vq l cd S len λA outer s H vs Q E hr hsp=>?_
 obtain ⟨t,h,q⟩:=hbody A outer s H vs Q E hr hsp
 exact ⟨t,h.nox,q⟩
theorem Cal.mkC {P:Program}{w:World}{K:PySem.W.Frag}{mg:Str->Option Value}{base:Heap}{k:Nat}{x:Str}{ps:List Str}{sp:Sp}{st:Stmt}{h:Heap}{f c:Addr}{oc:Value}{od an:Option Addr}{osl:Array (Option Value)}{kV doc pm ct:Value}
  (X:K.In h) (G:h.Ns mainGlobals mg) (a:PySem.W.nsIn K mainGlobals x=some (some (.ref f)))
  (l:K.lookup f=some ⟨oc,od,.func (PySem.W.fnOf x x (qd st) (jV st) (j7 st) .none kV doc pm an (.ref c) ct),osl⟩) (cd:PySem.W.codeIn K (.ref c) x=true) (k':PySem.W.keepIn K (.ref f)=true)
  (hb:∀(kV doc pm:Value) (an:Option Addr) (cdv ct:Value) (us:List Value),us.length=ps.length->bindArgs (PySem.W.fnOf x x (qd st) (jV st) (j7 st) .none kV doc pm an cdv ct) ⟨us,[]⟩=pure (ps.zip us))
  (ok:FnOk P w K mg base CX0 k f (PySem.W.fnOf x x (qd st) (jV st) (j7 st) .none kV doc pm an (.ref c) ct) ps sp):Cal P w K mg base k x ps sp:=by
 have F:=vJ (st:=st) l cd k'
 exact ⟨f,_,ok,F.binds hb,PySem.W.mg_of X G a,k'⟩
end L2
end
section
namespace L2
open PySem.W
def Ite (K:PySem.W.Frag) (a:Addr):It :=
 ⟨λi H=>∃xs x,SqL K H a xs/\xs[i]? = some x,λi H v H'=>∃t x,v = .ref t/\H t=none/\H'=upd H t (.tup [.int i,x])/\∀xs,SqL K H a xs->xs[i]? = some x,λi H=>∃xs,SqL K H a xs/\xs.length<=i⟩
theorem Vg {P:Program}{w:World}{K:PySem.W.Frag}{es:List Expr}{x1:Nat}{pos:Pos}(a e it:Addr) (hne:e≠it):Turn P w K (.Tuple es x1 pos) (Ite K a) [e,it] e (λi h=>∃old,IsEnum h e it i old/\h.IsListIter it a i) where
 mem:=by simp
 obj:=λi h ⟨old,st1,st2⟩ b hb=>by
  rcases List.mem_cons.mp hb with rfl | hb
  ·exact ⟨_,st1,λv z=>by
    have z':Data.fields _=Data.cell v:=z
    cases z'⟩
  ·have e:b=it:=by simpa using hb
   subst e
   obtain ⟨o,e,c,d⟩:=st2
   exact ⟨o,e,λv z=>by rw [d] at z;cases z⟩
 keep:=λi h h' ⟨old,st1,st2⟩ k=>⟨old,k e (by simp) _ st1,st2.at λo z=>k it (by simp) o z⟩
 item:=by
  intro X hP hw hK hc i pins s σ H E I hf st hg
  subst hP hw hK
  obtain ⟨old,st1,st2⟩:=st
  obtain ⟨xs,x,hq,hx⟩:=hg
  obtain ⟨its,rv,p,hz⟩:=I.list hq
  obtain ⟨u,hu,ru⟩:=rv.get hx
  obtain ⟨f0,f1,f2,f3,f4,f5⟩:=hf e (by simp)
  obtain ⟨g0,g1,g2,g3,g4,g5⟩:=hf it (by simp)
  have hn:H s.heap.objs.size=none:=I.hok.fresh (Nat.le_refl _)
  refine wpAny_pyNext_enum_item st1 st2 p.isList (x:=u) (by simpa using hu) hne λh' o1 o2 o3 o4 o5=>⟨_,rfl,?_⟩
  refine wpAny_letOwnedTupleGo_enum o1 λh2 q1 sb=>?_
  have hel:e<s.heap.objs.size:=Heap.lt_size st1
  have kk:∀b o,b≠e->b≠it->s.heap.get? b=some o->h2.get? b=some o:=λb o n1 n2 z=>(sb.2 b n1).trans (o5 b o n1 n2 z)
  have et:h2.get? s.heap.objs.size=some { cls:=.type "tuple",data:=.seq #[.int i s.toks,u] }:=(sb.2 _ (Nat.ne_of_gt hel)).trans o3
  have tne:∀b o,H b=some o->b≠e/\b≠it/\b≠s.heap.objs.size:=λb o q=>⟨λz=>(by rw [z,f0] at q;cases q),λz=>(by rw [z,g0] at q;cases q),λz=>(by rw [z,hn] at q;cases q)⟩
  have getF:∀{b:Addr} {o:HO},H b=some o->upd H s.heap.objs.size (.tup [.int i,x]) b=some o:=λ{b o} q=>by rw [j8 (tne b o q).2.2];exact q
  have I1:Inv X pins σ (upd H s.heap.objs.size (.tup [.int i,x])) { s with heap:=h2,toks:=s.toks+1 }:=by
   refine I.step (g':=s.gens) (d':=s.drawn) (ch:=[e,it]) (λb hb=>?_) (λb o _ _ hc z _=>kk b o (λy=>hc (by simp [y])) (λy=>hc (by simp [y])) z) (λb o _ _ hc z _=>⟨o.slots,kk b o (λy=>hc (by simp [y])) (λy=>hc (by simp [y])) z⟩)
    (λb o hc z n=>by rw [j8 (Nat.ne_of_lt (Heap.lt_size z))];exact n) (λb o hc z=>⟨o,kk b o (λy=>hc (by simp [y])) (λy=>hc (by simp [y])) z⟩) (λ_ _ q=>getF q) (λ_ _ _ q=>getF q) (λb ps q=>⟨#[],by rw [getF q];simp⟩) (λm hm=>?_) (λb v q=>?_) I.bare
   ·rcases List.mem_cons.mp hb with rfl | hb
    ·exact ⟨f3,f1,f4,f5⟩
    ·have e:b=it:=by simpa using hb
     subst e
     exact ⟨g3,g1,g4,g5⟩
   ·obtain ⟨o,es,ep,ho,r⟩:=hm
    exact ⟨o,es,ep,kk _ o (Ne.symm f1) (Ne.symm g1) ho,r⟩
   ·by_cases hb:b=s.heap.objs.size
    ·subst hb
     rw [j5] at q;cases q
     exact ⟨by show 2<=sizeLine;decide,[.int i s.toks,u],.cons ⟨_,rfl⟩ (.cons ru .nil),⟨_,et,rfl,0,rfl⟩⟩
    ·rw [j8 hb] at q
     refine (I.hok b v q).stay (λc o hc z=>kk c o ?_ ?_ z) (λ_ z=>getF z) λ_ _ z=>getF z
     ·rcases hc with z | z
      ·rw [z];exact (tne b v q).1
      ·exact (tne c _ z).1
     ·rcases hc with z | z
      ·rw [z];exact (tne b v q).2.1
      ·exact (tne c _ z).2.1
  have st2':h2.IsListIter it a (i+1):=o2.at λo z=>(sb.2 it (Ne.symm hne)).trans z
  refine ⟨.ref s.heap.objs.size,_,I1,rfl,⟨_,x,rfl,hn,rfl,λys hy=>by rw [I.list_inj hy hq];exact hx⟩,⟨u,?_,st2'⟩,λb hb=>?_⟩
  ·have:((i+1:Nat):Int)=(i:Int)+1:=by push_cast;rfl
   rw [this]
   exact q1
  ·rcases List.mem_cons.mp hb with rfl | hb
   ·rw [j8 (Nat.ne_of_lt hel)];exact f0
   ·have e:b=it:=by simpa using hb
    subst e
    obtain ⟨o,z,_⟩:=st2
    rw [j8 (Nat.ne_of_lt (Heap.lt_size z))];exact g0
 done:=by
  intro X hP hw hK hc i pins s σ H E I hf st hg
  subst hP hw hK
  obtain ⟨old,st1,st2⟩:=st
  obtain ⟨xs,hq,hx⟩:=hg
  obtain ⟨its,rv,p,hz⟩:=I.list hq
  obtain ⟨g0,g1,g2,g3,g4,g5⟩:=hf it (by simp)
  have hl:=rv.length
  exact wpAny_pyNext_enum_end (I.ok.hd hc) st1 st2 p.isList (by simp;omega) λh' eb=>⟨rfl,I.turned (t':=s.toks) (λb o hb e=>eb b o hb e) g0 g1 g3 g4 g5⟩
 self:=λ_ _ _ _ _ ⟨old,st1,_⟩ h=>wpAny_pyIter_enum st1 h
section
variable {X:Cx}
def Em (K:PySem.W.Frag) (ta:TA):TI:=λσ H R=>ta σ H λvs H1=>∃a,vs=[.ref a]/\(∃xs,SqL K H1 a xs)/\R (Ite K a) H1
theorem ZX {es:List Expr}{x1:Nat}{tpos:Pos}{l:Expr}{ta:TA}{p pos:Pos}(K:PySem.W.Frag) (hg:Gl X "enumerate") (hm:X.mg "enumerate" = none) (ha:PA X [l] ta) (hs:starEach [l] X.env=[(false,eval l X.env)]:=by rfl) (hK:X.K=K:=by rfl) :
  PI X (.Tuple es x1 tpos) (.Call (.Name "enumerate" p) [l] [] pos) (Em K ta):=by
 subst hK
 intro pins s σ H R I h
 refine Call_ (zX I hg hm boot_enumerate (PyProof.Rows.callWith_type1 (thn (ha pos pins s σ H _ I h) λus s1 ⟨vs,H1,I1,r1,q1⟩=>?_) hs rfl))
 obtain ⟨a,e,⟨xs,hq⟩,q⟩:=q1
 subst e
 obtain ⟨u,rfl,ru⟩:=yC r1
 cases ru
 obtain ⟨its,rv,pl,hz⟩:=I1.list hq
 refine call_enumerate_list pl.isList λh' i1 i2 i3 kk=>?_
 refine wpAny_pyIter_enum i1 ?_
 have I2:Inv X pins σ H1 { s1 with heap:=h',toks:=s1.toks }:=I1.kept kk
 refine ⟨_,[s1.heap.objs.size+1,s1.heap.objs.size],_,_,H1,rfl,I2,Vg a _ _ (by exact Nat.succ_ne_self _),⟨.none,i1,i2⟩,λb hb=>?_,q⟩
 rcases List.mem_cons.mp hb with rfl | hb
 ·exact I1.fpOk (Nat.le_succ _) (I1.hok.fresh (Nat.le_succ _))
 ·have e:b=s1.heap.objs.size:=by simpa using hb
  subst e
  exact I1.fpOk (Nat.le_refl _) (I1.hok.fresh (Nat.le_refl _))
end
theorem YL {K:PySem.W.Frag}{a acc:Addr}{xs:List V}{g:TG}{ti:TT}{te:TE}{R:Hp->Prop}{σ:St}{H:Hp}(Pv:Nat->St->Hp->Prop) (h0:Pv 0 σ H) (hl:∀i σ H,i<=xs.length->Pv i σ H->SqL K H a xs)
  (hs:∀i x σ H t,xs[i]? = some x->Pv i σ H->H t=none->g (.ref t) σ (upd H t (.tup [.int i,x])) λσ3 H3=>ti σ3 H3 λok H4=>if ok=true then te σ3 H4 λv H5=>∃ys,H5 acc=some (.lst ys)/\ys.length<sizeLine/\Pv (i+1) σ3 (upd H5 acc (.lst (ys++[v]))) else Pv (i+1) σ3 H4)
  (hd:∀σ H,Pv xs.length σ H->R H) :
  ∃W:Nat->Nat->St->Hp->Prop,(∃m,W 0 m σ H)/\∀i m σ' H',W i m σ' H' ->
   ((Ite K a).stop i H'/\R H')\/((Ite K a).go i H'/\∃NX:St->Hp->Prop,(∀σ2 H2,NX σ2 H2->∃m',m'<m/\W (i+1) m' σ2 H2) /\
    ∀x H2,(Ite K a).yld i H' x H2->g x σ' H2 λσ3 H3=>ti σ3 H3 λok H4=>if ok=true then te σ3 H4 λv H5=>∃ys,H5 acc=some (.lst ys)/\ys.length<sizeLine/\NX σ3 (upd H5 acc (.lst (ys++[v]))) else NX σ3 H4):=by
 refine ⟨λi m σ H=>m=xs.length-i/\i<=xs.length/\Pv i σ H,⟨xs.length,by simp,Nat.zero_le _,h0⟩,?_⟩
 rintro i m σ H ⟨rfl,hi,p⟩
 have q:=hl i σ H hi p
 by_cases hlt:i<xs.length
 ·refine .inr ⟨⟨xs,xs[i],q,by simp [hlt]⟩,Pv (i+1),λσ' H' p'=>⟨xs.length-(i+1),∅,rfl,hlt,p'⟩,λv H' y=>?_⟩
  obtain ⟨t,x,rfl,hn,rfl,y⟩:=y
  exact hs i x σ H t (y xs q) p hn
 ·have e:i=xs.length:=∅
  subst e
  exact .inl ⟨⟨xs,q,Nat.le_refl _⟩,hd σ H p⟩
theorem Uc {K:PySem.W.Frag}{a:Addr}{xs:List V}{g:TG}{tb:TS}{D:Ends}{σ:St}{H:Hp}(Pv:Nat->St->Hp->Prop) (h0:Pv 0 σ H) (hl:∀i σ H,i<=xs.length->Pv i σ H->SqL K H a xs)
  (hs:∀i x σ H t,xs[i]? = some x->Pv i σ H->H t=none->g (.ref t) σ (upd H t (.tup [.int i,x])) λσ2 H2=>tb { D with nx:=Pv (i+1),ct:=Pv (i+1),bk:=D.nx } σ2 H2) (hd:∀σ H,Pv xs.length σ H->D.nx σ H) :
  ∃W:Nat->Nat->St->Hp->Prop,(∃m,W 0 m σ H)/\∀i m σ H,W i m σ H ->
   ((Ite K a).stop i H/\D.nx σ H)\/((Ite K a).go i H/\∃N:St->Hp->Prop,(∀σ' H',N σ' H'->∃m',m'<m/\W (i+1) m' σ' H')/\∀x H',(Ite K a).yld i H x H'->g x σ H' λσ2 H2=>tb { D with nx:=N,ct:=N,bk:=D.nx } σ2 H2):=by
 refine ⟨λi m σ H=>m=xs.length-i/\i<=xs.length/\Pv i σ H,⟨xs.length,by simp,Nat.zero_le _,h0⟩,?_⟩
 rintro i m σ H ⟨rfl,hi,p⟩
 have q:=hl i σ H hi p
 by_cases hlt:i<xs.length
 ·refine .inr ⟨⟨xs,xs[i],q,by simp [hlt]⟩,Pv (i+1),λσ' H' p'=>⟨xs.length-(i+1),∅,rfl,hlt,p'⟩,λv H' y=>?_⟩
  obtain ⟨t,x,rfl,hn,rfl,y⟩:=y
  exact hs i x σ H t (y xs q) p hn
 ·have e:i=xs.length:=∅
  subst e
  exact .inl ⟨⟨xs,q,Nat.le_refl _⟩,hd σ H p⟩
end L2
end
section
namespace L2
open PySem.W
theorem Jt:∀(l:List Int),(∀n∈l,0<=n/\n<=2 ^ 20)->0<=l.sum/\l.sum<=2 ^ 20*l.length
 | [],_=>by simp
 | n::l,h=>by
  have ih:=Jt l λm hm=>h m (List.mem_cons_of_mem _ hm)
  have h0:=h n List.mem_cons_self
  rw [List.sum_cons,List.length_cons]
  constructor
  ·omega
  ·push_cast
   omega
section
variable {X:Cx}
theorem QS (K:PySem.W.Frag) (hc:X.calm=true) (hK:X.K=K:=by rfl):xb X (.builtin "sum") (λxs H Q=>∃(p:Addr) (ns:List Int),xs=[.ref p]/\SqL K H p (ns.map V.int)/\ns.length<=1000/\(∀n∈ns,0<=n/\n<=2 ^ 20)/\Q (.int ns.sum) H):=by
 subst hK
 intro pins s σ H xs us Q I r h
 obtain ⟨p,ns,rfl,hq,hl,hb,q⟩:=h
 obtain ⟨u,rfl,ru⟩:=yC r
 cases ru
 obtain ⟨its,rv,pl,hz⟩:=I.list hq
 have hI:=x5 rv
 have hlen:=hI.length
 have hne:p≠s.heap.objs.size:=by
  obtain ⟨o,n,e,_⟩:=id pl
  exact Nat.ne_of_lt (Heap.lt_size e)
 refine call_sum_walk (wpAny_pyIter_list pl.isList ?_)
 refine ⟨s.heap.objs.size,_,_,_,_,_,λi=>ns.getD i 0,rfl,Walks.list (show (X.A.in1).handled=none from I.ok.hd hc) s.heap.objs.size p hne its.toArray,⟨⟨_,Heap.get?_push_size _ rfl,rfl,rfl⟩,pl.isList.at λo e=>Heap.get?_push_of_some _ e⟩,?_,?_,?_,?_⟩
 ·intro b hb'
  have hps:p<s.heap.objs.size:=by
   obtain ⟨o,n,e,_⟩:=id pl
   exact Heap.lt_size e
  show b<(s.heap.push _).objs.size
  rw [Heap.size_push]
  rcases List.mem_cons.mp hb' with rfl | hb'
  ·exact Nat.lt_succ_self _
  ·have e:b=p:=by simpa using hb'
   subst e
   exact Nat.lt_succ_of_lt hps
 ·intro i v hP
  have hP':its[i]? = some v:=by simpa using hP
  have hi:i<its.length:=(List.getElem?_eq_some_iff.mp hP').1
  obtain ⟨t,e⟩:=ue hI hi
  rw [e] at hP'
  refine ⟨t,?_⟩
  show v=Value.int (ns.getD i 0) t
  rw [List.getD_eq_getElem?_getD,List.getElem?_eq_getElem ∅]
  exact (Option.some.inj hP').symm
 ·intro j hj
  have hj':j<ns.length:=by
   have:its.toArray.size=its.length:=by simp
   omega
  constructor
  ·show InLong (ns.getD j 0)
   rw [List.getD_eq_getElem?_getD,List.getElem?_eq_getElem hj']
   have:=hb _ (List.getElem_mem hj')
   show -(2 ^ 63)<=ns[j]/\ns[j]<2 ^ 63
   omega
  ·rw [preSum_getD]
   have:=Jt (ns.take (j+1)) λn hn=>hb n (List.mem_of_mem_take hn)
   have hl2:(ns.take (j+1)).length<=1000:=by rw [List.length_take];omega
   show -(2 ^ 63)<=_/\_<2 ^ 63
   omega
 ·intro h' tk t' hk
  rw [preSum_getD,List.take_of_length_le (by simp;omega)]
  refine ⟨.int ns.sum,H,I.kept (t':=tk) λb o eo=>hk b o (by
   intro z
   have:=List.mem_singleton.mp z
   subst this
   exact absurd (Heap.lt_size eo) (Nat.lt_irrefl _)) (Heap.get?_push_of_some _ eo),⟨t',rfl⟩,q⟩
theorem xz (K:PySem.W.Frag) (h:X.K=K:=by rfl):xb X (.type "tuple") (λxs H Q=>∃p ys,xs=[.ref p]/\SqL K H p ys/\New H (.tup ys) Q):=by
 subst h
 exact J0.weak λ_ _ _ ⟨p,ys,h1,h2,q⟩=>⟨p,ys,h1,.inl ⟨h2,q.at⟩⟩
end
end L2
end
section
namespace L2
open PySem.W
structure Nb2 (mg:Str->Option Value):Prop extends Nb mg where
 b_enumerate:mg "enumerate" = none
 b_sorted:mg "sorted" = none
 b_sum:mg "sum" = none
abbrev Rch:=Int×List Int
def tos (rs:List Rch):List Int:=rs.map (·.1)
def zg (rs:List Rch) (r:Nat):Int:=(rs.getD r (-1,[])).1
def y4 (rs:List Rch) (r:Nat):List Int:=(rs.getD r (-1,[])).2
def xQ (i:Nat) (t:Int):Bool:=if i=0 then decide (t = -1) else decide (0<=t/\t<i)
def okR (i:Nat) (r:Rch):Bool:=xQ i r.1 && decide (1<=(r.2.length:Int)/\(r.2.length:Int)<=12) && r.2.all λx=>decide (0<=x/\x<=99)
def wq (rs:List Rch):Bool:=(List.range rs.length).all λi=>okR i (rs.getD i (-1,[]))
def xu (rs:List Rch):Prop:=∀i,i<rs.length->xQ i (zg rs i)=true
def jU (rs:List Rch) (h:Nat):Bool:=!decide ((h:Int)∈tos rs)
def jq (rs:List Rch):List Nat:=(List.range rs.length).filter (jU rs)
def vG (rs:List Rch):Nat->Nat->List Int
 | 0,_=>[]
 | f+1,r=>(r:Int)::(if zg rs r<0 then [] else vG rs f (zg rs r).toNat)
def qC (rs:List Rch) (r:Nat):List Int:=vG rs (r+1) r
def jB (rs:List Rch) (way:List Int):Int:=(way.map λr=>((y4 rs r.toNat).length:Int)).sum
def zE (rs:List Rch):Bool:=decide (1<=(rs.length:Int)/\(rs.length:Int)<=8) && (wq rs && (decide (((jq rs).length:Int)<=6) && (jq rs).all λh=>decide (jB rs (qC rs h)<=30)))
theorem gS {i:Nat}{t:Int}(h:xQ i t=true):t<i/\(-1<=t)/\(t<0->i=0):=by
 unfold xQ at h
 by_cases hi:i=0
 ·rw [if_pos hi] at h
  have:=of_decide_eq_true h
  omega
 ·rw [if_neg hi] at h
  have:=of_decide_eq_true h
  omega
theorem V9 {i:Nat}{r:Rch}(h:okR i r=true):xQ i r.1=true:=by
 unfold okR at h
 rw [Bool.and_eq_true,Bool.and_eq_true] at h
 exact h.1.1
theorem Q8 {rs:List Rch}(h:wq rs=true) {i:Nat}{r:Rch}(hr:rs[i]? = some r):okR i r=true:=by
 unfold wq at h
 rw [List.all_eq_true] at h
 have hi:=(List.getElem?_eq_some_iff.mp hr).1
 have:=h i (List.mem_range.mpr hi)
 rw [List.getD_eq_getElem?_getD,hr] at this
 exact this
theorem qk {rs:List Rch}(h:wq rs=true):xu rs:=λi hi=>by
 have:=V9 (Q8 h (List.getElem?_eq_getElem hi))
 unfold zg
 rw [List.getD_eq_getElem?_getD,List.getElem?_eq_getElem hi]
 exact this
theorem JV {rs:List Rch}{i:Nat}{r:Rch}(h:rs[i]? = some r):zg rs i=r.1:=by
 unfold zg
 rw [List.getD_eq_getElem?_getD,h]
 rfl
theorem Qk {rs:List Rch}{i:Nat}{r:Rch}(h:rs[i]? = some r):y4 rs i=r.2:=by
 unfold y4
 rw [List.getD_eq_getElem?_getD,h]
 rfl
theorem xu.lt {rs:List Rch}(L:xu rs) {r:Nat}(hr:r<rs.length):zg rs r<r:=(gS (L r hr)).1
theorem JC {rs:List Rch}(L:xu rs):∀(f g r:Nat),r<rs.length->r<f->r<g->vG rs f r=vG rs g r
 | 0,_,_,_,h,_=>∅
 | _+1,0,_,_,_,h=>∅
 | f+1,g+1,r,hr,h1,h2=>by
  unfold vG
  by_cases ht:zg rs r<0
  ·rw [if_pos ht,if_pos ht]
  ·rw [if_neg ht,if_neg ht]
   have hl:=L.lt hr
   rw [JC L f g (zg rs r).toNat ∅ ∅ ∅]
theorem zH {rs:List Rch}(L:xu rs) {r:Nat}(hr:r<rs.length):qC rs r=(r:Int)::(if zg rs r<0 then [] else qC rs (zg rs r).toNat):=by
 unfold qC
 rw [vG]
 by_cases ht:zg rs r<0
 ·rw [if_pos ht,if_pos ht]
 ·rw [if_neg ht,if_neg ht]
  have hl:=L.lt hr
  rw [JC L r ((zg rs r).toNat+1) (zg rs r).toNat ∅ ∅ ∅]
theorem US {rs:List Rch}(r:Nat):qC rs r≠[]:=by unfold qC vG;exact λz=>nomatch z
theorem uL {rs:List Rch}(L:xu rs):∀(r:Nat),r<rs.length->(qC rs r).length<=r+1
 | r,hr=>by
  rw [zH L hr]
  by_cases ht:zg rs r<0
  ·rw [if_pos ht];simp
  ·rw [if_neg ht]
   have hl:=L.lt hr
   have:=uL L (zg rs r).toNat ∅
   rw [List.length_cons]
   omega
 termination_by r=>r
 decreasing_by omega
theorem ze {rs:List Rch}(L:xu rs):∀(r:Nat),r<rs.length->∀x∈qC rs r,0<=x/\x<rs.length
 | r,hr,x,hx=>by
  rw [zH L hr] at hx
  rcases List.mem_cons.mp hx with rfl | hx
  ·omega
  ·by_cases ht:zg rs r<0
   ·rw [if_pos ht] at hx;cases hx
   ·rw [if_neg ht] at hx
    have hl:=L.lt hr
    exact ze L (zg rs r).toNat ∅ x hx
 termination_by r=>r
 decreasing_by omega
theorem xx {rs:List Rch}{h:Nat}(hh:h∈jq rs):h<rs.length:=by
 have:=(List.mem_filter.mp hh).1
 exact List.mem_range.mp this
theorem xi (rs:List Rch) (r:Int) (way:List Int):jB rs (r::way)=((y4 rs r.toNat).length:Int)+jB rs way:=by
 unfold jB
 rw [List.map_cons,List.sum_cons]
theorem Ua {α:Type}{p:α->Bool}{l l':List α}(h:l.Perm l'):l.all p=l'.all p:=by
 rw [Bool.eq_iff_iff,List.all_eq_true,List.all_eq_true]
 exact ⟨λz x hx=>z x (h.mem_iff.mpr hx),λz x hx=>z x (h.mem_iff.mp hx)⟩
def qe (rs:List Rch) (ws:List (List Int)):Prop:=ws.Perm ((jq rs).map (qC rs))/\(ws.map List.reverse).Pairwise wN.kle
theorem qe.length {rs:List Rch}{ws:List (List Int)}(h:qe rs ws):ws.length=(jq rs).length:=by rw [h.1.length_eq,List.length_map]
theorem qe.mem {rs:List Rch}{ws:List (List Int)}(h:qe rs ws) {w:List Int}(hw:w∈ws):∃x∈jq rs,w=qC rs x:=by
 obtain ⟨x,hx,e⟩:=List.mem_map.mp (h.1.mem_iff.mp hw)
 exact ⟨x,hx,e.symm⟩
theorem qe.all {rs:List Rch}{ws:List (List Int)}(h:qe rs ws):(ws.map λw=>decide (jB rs w<=30)).all (λb=>b)=(jq rs).all λx=>decide (jB rs (qC rs x)<=30):=by
 rw [List.all_map,Ua h.1,List.all_map]
 rfl
theorem yE {O:KeyOrd}:∀{l l':List O.α},l.Perm l'->l.Pairwise O.kle->l'.Pairwise O.kle->l=l'
 | [],l',h,_,_=>(List.nil_perm.mp h).symm
 | x::l,[],h,_,_=>by have:=h.length_eq;simp at this
 | x::l,y::l',h,h1,h2=>by
  have hx:=(List.pairwise_cons.mp h1)
  have hy:=(List.pairwise_cons.mp h2)
  have e:x=y:=by
   have m1:x∈y::l':=h.mem_iff.mp List.mem_cons_self
   have m2:y∈x::l:=h.mem_iff.mpr List.mem_cons_self
   rcases List.mem_cons.mp m1 with z | z
   ·exact z
   ·rcases List.mem_cons.mp m2 with z2 | z2
    ·exact z2.symm
    ·exact KeyOrd.kle_antisymm (hx.1 y z2) (hy.1 x z)
  subst e
  rw [yE (List.Perm.cons_inv h) hx.2 hy.2]
theorem qe.unique {rs:List Rch}{ws ws':List (List Int)}(h:qe rs ws) (h':qe rs ws'):ws=ws':=by
 have p:(ws.map List.reverse).Perm (ws'.map List.reverse):=(h.1.trans h'.1.symm).map _
 have e:=yE (O:=wN) p h.2 h'.2
 have e2:=congrArg (List.map List.reverse) e
 rw [List.map_map,List.map_map,show (List.reverse ∘ List.reverse:List Int->List Int)=id from funext λx=>List.reverse_reverse x,List.map_id,List.map_id] at e2
 exact e2
theorem Xk (rs:List Rch) (t:Int) (hs:List Int):tos (rs++[(t,hs)])=tos rs++[t]:=by unfold tos;rw [List.map_append];rfl
theorem uW {rs:List Rch}{x d:Rch}{i:Nat}(h:i<rs.length):(rs++[x]).getD i d=rs.getD i d:=by
 rw [List.getD_eq_getElem?_getD,List.getD_eq_getElem?_getD,List.getElem?_append_left h]
theorem xA {rs:List Rch}{x d:Rch}:(rs++[x]).getD rs.length d=x:=by
 rw [List.getD_eq_getElem?_getD,List.getElem?_append_right (Nat.le_refl _),Nat.sub_self]
 rfl
theorem Jp {rs:List Rch}{x:Rch}(h:wq rs=true) (hx:okR rs.length x=true):wq (rs++[x])=true:=by
 unfold wq at h ⊢
 rw [List.all_eq_true] at h ⊢
 intro i hi
 have hi':i<rs.length+1:=by have:=List.mem_range.mp hi;rw [List.length_append,List.length_singleton] at this;exact this
 by_cases hlt:i<rs.length
 ·rw [uW hlt];exact h i (List.mem_range.mpr hlt)
 ·have e:i=rs.length:=∅
  subst e
  rw [xA];exact hx
theorem kL {rs:List Rch}{x:Rch}(L:xu rs):∀(f r:Nat),r<rs.length->vG (rs++[x]) f r=vG rs f r
 | 0,_,_=>rfl
 | f+1,r,hr=>by
  have e:zg (rs++[x]) r=zg rs r:=by unfold zg;rw [uW hr]
  unfold vG
  rw [e]
  by_cases ht:zg rs r<0
  ·rw [if_pos ht,if_pos ht]
  ·rw [if_neg ht,if_neg ht,kL L f _ (by have:=L.lt hr;omega)]
theorem vp {rs:List Rch}{x:Rch}(L:xu rs) {r:Nat}(hr:r<rs.length):qC (rs++[x]) r=qC rs r:=kL L _ r hr
theorem xZ {rs:List Rch}{x:Rch}:∀(way:List Int),(∀r∈way,0<=r/\r<rs.length)->jB (rs++[x]) way=jB rs way
 | [],_=>rfl
 | r::way,h=>by
  have h0:=h r List.mem_cons_self
  rw [xi,xi,xZ way λy hy=>h y (List.mem_cons_of_mem _ hy)]
  congr 2
  unfold y4
  rw [uW ∅]
theorem Zv {rs:List Rch}(L:xu rs) {t:Int}(h:t∈tos rs):t+1<rs.length:=by
 unfold tos at h
 obtain ⟨r,hr,rfl⟩:=List.mem_map.mp h
 obtain ⟨i,hi,e⟩:=List.mem_iff_getElem.mp hr
 have:=L.lt hi
 rw [JV (List.getElem?_eq_getElem hi),e] at this
 omega
theorem ZA {rs:List Rch}{t:Int}{hs:List Int}(L:xu rs) (h0:0<=t) (h1:t<rs.length) :
  (jq (rs++[(t,hs)])).length=if t∈tos rs then (jq rs).length+1 else (jq rs).length:=by
 unfold jq
 rw [List.length_append,List.length_singleton,List.range_succ,List.filter_append,List.length_append]
 have e1:(List.filter (jU (rs++[(t,hs)])) [rs.length]).length=1:=by
  have:jU (rs++[(t,hs)]) rs.length=true:=by
   unfold jU
   rw [Xk,decide_eq_false]
   ·rfl
   ·intro z
    rcases List.mem_append.mp z with z | z
    ·have:=Zv L z;omega
    ·have:(rs.length:Int)=t:=by simpa using z
     omega
  simp [this]
 rw [e1]
 have e2:∀h,jU (rs++[(t,hs)]) h=(jU rs h && !decide ((h:Int)=t)):=λh=>by
  unfold jU
  rw [Xk]
  by_cases a:(h:Int)∈tos rs
  ·rw [decide_eq_true (List.mem_append_left _ a),decide_eq_true a];rfl
  ·rw [decide_eq_false a]
   by_cases b:(h:Int)=t
   ·rw [decide_eq_true (List.mem_append_right _ (by simp [b])),decide_eq_true b];rfl
   ·rw [decide_eq_false (λz=>(List.mem_append.mp z).elim a λy=>b (by simpa using y)),decide_eq_false b];rfl
 have e3:List.filter (jU (rs++[(t,hs)])) (List.range rs.length)=List.filter (λh:Nat=>!decide ((h:Int)=t)) (List.filter (jU rs) (List.range rs.length)):=by
  rw [List.filter_filter]
  congr 1
  funext h
  rw [e2,Bool.and_comm]
 rw [e3]
 have nd:(List.filter (jU rs) (List.range rs.length)).Nodup:=List.Nodup.sublist List.filter_sublist List.nodup_range
 generalize hl:List.filter (jU rs) (List.range rs.length)=l at nd
 have cnt:∀(l:List Nat),l.Nodup->(List.filter (λh:Nat=>!decide ((h:Int)=t)) l).length=if t.toNat∈l then l.length-1 else l.length:=by
  intro l
  induction l with
  | nil=>intro _;rfl
  | cons x l ih =>
   intro nd
   have nd':=List.nodup_cons.mp nd
   have ih:=ih nd'.2
   by_cases b:(x:Int)=t
   ·have hx:x=t.toNat:=∅
    rw [List.filter_cons_of_neg (by simp [b]),ih,if_neg (by rw [<- hx];exact nd'.1),if_pos (by rw [hx];exact List.mem_cons_self)]
    simp
   ·have hx:t.toNat≠x:=∅
    rw [List.filter_cons_of_pos (by simp [b]),List.length_cons,ih]
    by_cases m:t.toNat∈l
    ·rw [if_pos m,if_pos (List.mem_cons_of_mem _ m),List.length_cons]
     have:0<l.length:=List.length_pos_of_mem m
     omega
    ·rw [if_neg m,if_neg (λz=>(List.mem_cons.mp z).elim hx m)]
     simp
 rw [cnt l nd]
 have hm:t.toNat∈l↔¬t∈tos rs:=by
  rw [<- hl,List.mem_filter,List.mem_range]
  unfold jU
  have e:((t.toNat:Nat):Int)=t:=∅
  rw [e]
  constructor
  ·rintro ⟨_,z⟩ y
   rw [decide_eq_true y] at z
   cases z
  ·intro z
   exact ⟨∅,by rw [decide_eq_false z];rfl⟩
 by_cases m:t∈tos rs
 ·rw [if_pos m,if_neg (by rw [hm];exact λz=>z m)]
 ·rw [if_neg m,if_pos (by rw [hm];exact m)]
  have:0<l.length:=List.length_pos_of_mem (hm.mpr m)
  omega
structure Grown (rs:List Rch):Prop where
 ok:wq rs=true
 heads:(jq rs).length<=6
 deep:∀i,i<rs.length->jB rs (qC rs i)<=30
theorem Grown.snoc {rs:List Rch}{t:Int}{hs:List Int}(G:Grown rs) (h0:0<=t) (h1:t<rs.length) (hx:okR rs.length (t,hs)=true) (hh:t∈tos rs->(jq rs).length<6) (hd:jB rs (qC rs t.toNat)+hs.length<=30):Grown (rs++[(t,hs)]):=by
 have L:=qk G.ok
 have ok':=Jp G.ok hx
 refine ⟨ok',?_,λi hi=>?_⟩
 ·rw [ZA L h0 h1]
  split
  ·rename_i m;have:=hh m;omega
  ·exact G.heads
 ·rw [List.length_append,List.length_singleton] at hi
  by_cases hlt:i<rs.length
  ·rw [vp L hlt,xZ _ (ze L i hlt)]
   exact G.deep i hlt
  ·have e:i=rs.length:=∅
   subst e
   have L':=qk ok'
   have et:zg (rs++[(t,hs)]) rs.length=t:=by unfold zg;rw [xA]
   have eh:y4 (rs++[(t,hs)]) rs.length=hs:=by unfold y4;rw [xA]
   rw [zH L' (by rw [List.length_append,List.length_singleton];omega),xi,Int.toNat_natCast,eh,et,if_neg ∅,vp L ∅,xZ _ (ze L _ ∅)]
   omega
theorem Grown.good {rs:List Rch}(G:Grown rs) (h1:1<=rs.length) (h8:rs.length<=8):zE rs=true:=by
 unfold zE
 rw [decide_eq_true (show 1<=(rs.length:Int)/\(rs.length:Int)<=8 by omega),G.ok,decide_eq_true (show ((jq rs).length:Int)<=6 by have:=G.heads;omega),Bool.true_and,Bool.true_and,Bool.true_and,List.all_eq_true]
 intro h hh
 exact decide_eq_true (G.deep h (xx hh))
theorem Grown.deep_snoc {rs:List Rch}{t:Int}{hs:List Int}(G:Grown rs) (h0:0<=t) (h1:t<rs.length) (hx:okR rs.length (t,hs)=true):jB (rs++[(t,hs)]) (qC (rs++[(t,hs)]) rs.length)=jB rs (qC rs t.toNat)+hs.length:=by
 have L:=qk G.ok
 have L':=qk (Jp G.ok hx)
 have et:zg (rs++[(t,hs)]) rs.length=t:=by unfold zg;rw [xA]
 have eh:y4 (rs++[(t,hs)]) rs.length=hs:=by unfold y4;rw [xA]
 rw [zH L' (by rw [List.length_append,List.length_singleton];omega),xi,Int.toNat_natCast,eh,et,if_neg ∅,vp L ∅,xZ _ (ze L _ ∅)]
 omega
def jj (H H':Hp):Prop:=∀p xs,H p=some (.tup xs)->H' p=some (.tup xs)
theorem jj.same {H H':Hp}(s:jf H H'):jj H H':=λ_ _ h=>s _ _ h
theorem jj.trans {H H1 H2:Hp}(a:jj H H1) (b:jj H1 H2):jj H H2:=λp xs h=>b p xs (a p xs h)
theorem jj.ext {b:Addr}{H H':Hp}(e:Ext b H H') (h:∀xs,H b≠some (.tup xs)):jj H H':=λp xs q=>e _ _ q λz=>h xs (z ▸ q)
theorem jj.lst {b:Addr}{H H':Hp}{xs:List V}(e:Ext b H H') (h:H b=some (.lst xs)):jj H H':=.ext e λys z=>by rw [h] at z;cases z
theorem jj.new {b:Addr}{H H':Hp}(e:Ext b H H') (h:H b=none):jj H H':=.ext e λys z=>by rw [h] at z;cases z
theorem jj.tbl {b:Addr}{H H':Hp}{ps:Array Value}(e:Ext b H H') (h:H b=some (.tbl ps)):jj H H':=.ext e λys z=>by rw [h] at z;cases z
def JX (H:Hp) (v:V) (r:Rch):Prop:=∃p g,v=V.ref p/\H p=some (.tup [.int r.1,.ref g])/\H g=some (.tup (r.2.map V.int))
def jZ (H:Hp) (vs:List V) (rs:List Rch):Prop:=Paired (JX H) vs rs
theorem JX.keep {H H':Hp}{v:V}{r:Rch}(k:jj H H') (h:JX H v r):JX H' v r:=by
 obtain ⟨p,g,e,h1,h2⟩:=h
 exact ⟨p,g,e,k _ _ h1,k _ _ h2⟩
theorem jZ.keep {H H':Hp}{vs:List V}{rs:List Rch}(k:jj H H') (h:jZ H vs rs):jZ H' vs rs:=Paired.mapP h λ_ _ z=>z.keep k
theorem jZ.length {H:Hp}{vs:List V}{rs:List Rch}(h:jZ H vs rs):vs.length=rs.length:=Paired.length h
theorem jZ.get {H:Hp}{vs:List V}{rs:List Rch}{i:Nat}{v:V}(h:jZ H vs rs) (e:vs[i]? = some v):∃r,rs[i]? = some r/\JX H v r:=Paired.get h e
theorem jZ.at {H:Hp}{vs:List V}{rs:List Rch}{i:Nat}{r:Rch}(h:jZ H vs rs) (e:rs[i]? = some r):∃v,vs[i]? = some v/\JX H v r:=by
 have hi:i<vs.length:=by rw [h.length];exact (List.getElem?_eq_some_iff.mp e).1
 obtain ⟨r',e2,q⟩:=h.get (List.getElem?_eq_getElem hi)
 rw [e] at e2
 cases e2
 exact ⟨_,List.getElem?_eq_getElem hi,q⟩
theorem jZ.snoc {H:Hp}{vs:List V}{rs:List Rch}{v:V}{r:Rch}(h:jZ H vs rs) (q:JX H v r):jZ H (vs++[v]) (rs++[r]):=Paired.snoc h q
def y9 (H:Hp) (vs:List V) (ws:List (List Int)):Prop:=Paired (λv (w:List Int)=>∃a,v=V.ref a/\H a=some (.tup (w.map V.int))) vs ws
theorem y9.keep {H H':Hp}{vs:List V}{ws:List (List Int)}(k:jj H H') (h:y9 H vs ws):y9 H' vs ws:=Paired.mapP h λ_ _ ⟨a,e,q⟩=>⟨a,e,k _ _ q⟩
theorem y9.length {H:Hp}{vs:List V}{ws:List (List Int)}(h:y9 H vs ws):vs.length=ws.length:=Paired.length h
theorem uT (x:Int) (l:List Int):inV (.int x) (l.map V.int)=decide (x∈l):=by
 unfold inV
 induction l with
 | nil=>rfl
 | cons y l ih =>
  rw [List.map_cons,List.any_cons,ih]
  by_cases e:x=y
  ·subst e
   rw [decide_eq_true (List.mem_cons_self (a:=x))]
   simp [eqV]
  ·by_cases m:x∈l
   ·rw [decide_eq_true m,decide_eq_true (List.mem_cons_of_mem _ m),Bool.or_true]
   ·rw [decide_eq_false m,decide_eq_false (λz=>(List.mem_cons.mp z).elim e m),Bool.or_false]
    simp [eqV]
    exact λz=>e z.symm
theorem vq (l:List Int):(l.map V.int).all uj=true:=by
 rw [List.all_map,List.all_eq_true]
 intro x _
 rfl
end L2
end
section
namespace L2
open PySem.W
section
variable {prog:Program}{w:World}{A:Around}{E:Value->Shared->Prop}{s:Shared}
end
end L2
end
section
namespace L2
open PySem.W
section
variable {X:Cx}
end
end L2
end
section
namespace L2
open PySem.W
theorem WG {X:Cx}{T id:String}{name:Str}{r:V->List V->Hp->VK->Prop}{o:Expr}{to:TE}{apos cpos:Pos}(K:PySem.W.Frag) (pa:PlainAttrs T) (slot:Slot T name id) (hty:typeOf (.builtin id)=pure (.type "method_descriptor")) (hm:MtR X id r) (ho:PE X o to)
  (hbase:attributeBase o name X.env (eval o X.env)=eval o X.env:=by rfl) (hline:(apos.endLine == cpos.line)=true:=by rfl) (hK:X.K=K:=by rfl) :
  PE X (.Call (.Attribute o name apos) [] [] cpos) (EC K T r to):=by
 subst hK
 first | exact UA pa slot hty hm ho hbase hline | exact UA pa slot hty hm ho
end L2
end
section
namespace L2
open PySem.W
section
variable {s:Shared}{A:Around}{prog:Program}{w:World}{E:Value->Shared->Prop}
theorem EE {it t:Addr}{k:Nat}{its:Array Value}{v:Value}{Q:Value->Shared->Prop}(q:s.heap.IsTupleIter it t k) (p:s.heap.IsTuple t its) (e:its[k]? = some v)
  (z:∀g,g.IsTupleIter it t (k+1)->Heap.SameBut it s.heap g->Q v { s with heap:=g }):wpAny (model prog w) A (Builtin.SmallTypes.nextOf (.ref it)) Q E s:=by
 obtain ⟨ob,gb,cb,db⟩:=id q;obtain ⟨ot,gt,_,nt,dt⟩:=p;unfold Builtin.SmallTypes.nextOf
 refine wpAny_bind (wpAny_callSpecial?_slot (name:=Str.ofString "__next__") q.typeIs F.slot_tuple_iterator_next (wpAny_call_entry F.slot_tuple_iterator_next q.typeIs F.entry_tuple_iterator_next ?_ (F.args_tuple_iterator_next_1 _)))
 show wpAny _ _ (field (.ref it) 0 >>= _) _ _ s;refine wpAny_bind (wpAny_field gb db (x:=.ref t) rfl ?_)
 show wpAny _ _ (if (Value.ref t == Value.none)=true then _ else _) _ _ s;rw [if_neg (show ¬((Value.ref t == Value.none)=true) from Bool.false_ne_true)]
 show wpAny _ _ (field (.ref it) 1 >>= _) _ _ s;refine wpAny_bind (wpAny_field gb db (x:=.int k 0) rfl ?_)
 show wpAny _ _ (seqItems? (.ref t) >>= _) _ _ s;refine wpAny_bind (wpAny_seqItems gt dt ?_)
 simp only [Int.toNat_natCast,e]
 refine wpAny_bind (wpAny_setField gb db (by simp) (wpAny_pure ⟨v,rfl,wpAny_pure (z _ ⟨_,Heap.get?_update_self _ gb (Obj.isFreed_of_fields (Obj.data_mapFields db _)),(Obj.cls_mapFields ..).trans cb,by rw [Obj.data_mapFields db];simp [rawInt]⟩ (Heap.SameBut.update ..))⟩))
theorem Ep {it t:Addr}{k:Nat}{its:Array Value}{Q:Value->Shared->Prop}(hh:A.handled=none) (q:s.heap.IsTupleIter it t k) (p:s.heap.IsTuple t its) (e:its[k]? = none)
  (z:∀g x,Heap.ExtBut it s.heap g->(∃o,g.get? x=some o/\o.cls = .type "StopIteration")->E (.ref x) { s with heap:=g }):wpAny (model prog w) A (Builtin.SmallTypes.nextOf (.ref it)) Q E s:=by
 obtain ⟨ob,gb,cb,db⟩:=id q;obtain ⟨ot,gt,_,nt,dt⟩:=p;unfold Builtin.SmallTypes.nextOf
 refine wpAny_bind (wpAny_callSpecial?_slot (name:=Str.ofString "__next__") q.typeIs F.slot_tuple_iterator_next (wpAny_call_entry F.slot_tuple_iterator_next q.typeIs F.entry_tuple_iterator_next ?_ (F.args_tuple_iterator_next_1 _)))
 show wpAny _ _ (field (.ref it) 0 >>= _) _ _ s;refine wpAny_bind (wpAny_field gb db (x:=.ref t) rfl ?_)
 show wpAny _ _ (if (Value.ref t == Value.none)=true then _ else _) _ _ s;rw [if_neg (show ¬((Value.ref t == Value.none)=true) from Bool.false_ne_true)]
 show wpAny _ _ (field (.ref it) 1 >>= _) _ _ s;refine wpAny_bind (wpAny_field gb db (x:=.int k 0) rfl ?_)
 show wpAny _ _ (seqItems? (.ref t) >>= _) _ _ s;refine wpAny_bind (wpAny_seqItems gt dt ?_)
 simp only [Int.toNat_natCast,e]
 refine wpAny_bind (wpAny_rule (wpAny_bind (wpAny_setField gb db (by simp) ?_)))
 show wpAny _ _ (newExc (.type "StopIteration") [] >>= _) _ _ _;refine wpAny_bind ?_;simp only [newExc,newTuple]
 refine wpAny_bind (wpAny_newObj_type ?_ (by size_fits));refine wpAny_bind (m:=firstArgMember _ _) (wpAny_of_eq (a:=Value.none) (by first | rfl | (simp only [firstArgMember];rfl)) ?_)
 refine wpAny_newObj_type ?_ (by size_fits);simp only [raiseNew];refine wpAny_bind (wpAny_handled ?_);first | rw [hh] | rw [show A.in1.handled=none from hh]
 exact wpAny_bind (wpAny_pure (wpAny_throw (z _ _ (((Heap.SameBut.update ..).extBut.push _).push _) ⟨_,Heap.get?_push_size _ rfl,rfl⟩)))
structure Feeds (prog:Program) (w:World) (i l:Addr) (xs:Array Value) (S:Nat->Heap->Prop):Prop where
 keep:∀k h h',S k h->(∀o,h.get? i=some o->h'.get? i=some o)->(∀o,h.get? l=some o->h'.get? l=some o)->S k h'
 obj:∀k h,S k h->∃o,h.get? i=some o/\∀v,o.data≠.cell v
 item:∀(A:Around) (E:Value->Shared->Prop) (k:Nat) (x:Value) (s:Shared) (Q:Value->Shared->Prop),S k s.heap->xs[k]? = some x->(∀g,S (k+1) g->Heap.SameBut i s.heap g->Q x { s with heap:=g })->wpAny (model prog w) A (Builtin.SmallTypes.nextOf (.ref i)) Q E s
 done:∀(A:Around) (E:Value->Shared->Prop) (k:Nat) (s:Shared) (Q:Value->Shared->Prop),A.handled=none->S k s.heap->xs[k]? = none->(∀g x,Heap.ExtBut i s.heap g->(∃o,g.get? x=some o/\o.cls = .type "StopIteration")->E (.ref x) { s with heap:=g })->wpAny (model prog w) A (Builtin.SmallTypes.nextOf (.ref i)) Q E s
theorem Feeds.but {i l b:Addr}{xs:Array Value}{S:Nat->Heap->Prop}(f:Feeds prog w i l xs S) {k:Nat}{h h':Heap}(q:S k h) (sb:Heap.SameBut b h h') (n1:i≠b) (n2:l≠b):S k h':=f.keep k h h' q (λo e=>sb.extBut _ _ n1 e) λo e=>sb.extBut _ _ n2 e
theorem ZB {i l:Addr}{xs:Array Value}(n:l≠i):Feeds prog w i l xs λk h=>h.IsListIter i l k/\h.IsList l xs where
 keep:=λk h h' q k1 k2=>⟨q.1.at λo e=>k1 o e,q.2.at λo e=>k2 o e⟩
 obj:=λk h q=>by obtain ⟨o,e,_,d⟩:=q.1;exact ⟨o,e,λv z=>by rw [d] at z;cases z⟩
 item:=λA E k x s Q q e z=>wpAny_nextOf_list_item q.1 q.2 e λg q1 sb=>z g ⟨q1,q.2.extBut sb.extBut n⟩ sb
 done:=λA E k s Q hh q e z=>wpAny_nextOf_list_end hh q.1 q.2 e z
theorem Va {i l:Addr}{xs:Array Value}(n:l≠i):Feeds prog w i l xs λk h=>h.IsTupleIter i l k/\h.IsTuple l xs where
 keep:=λk h h' q k1 k2=>⟨q.1.at λo e=>k1 o e,let ⟨o,e,r⟩:=q.2;⟨o,k2 o e,r⟩⟩
 obj:=λk h q=>by obtain ⟨o,e,_,d⟩:=q.1;exact ⟨o,e,λv z=>by rw [d] at z;cases z⟩
 item:=λA E k x s Q q e z=>EE q.1 q.2 e λg q1 sb=>z g ⟨q1,q.2.extBut sb.extBut n⟩ sb
 done:=λA E k s Q hh q e z=>Ep hh q.1 q.2 e z
theorem VF {z TI TO i1 i2 l1 l2:Addr}{k1 k2:Nat}{xs ys:Array Value}{x y a b:Value}{S1 S2:Nat->Heap->Prop}{Q:Value->Shared->Prop}(D:ZipApart z TI TO i1 i2 l1 l2) (f1:Feeds prog w i1 l1 xs S1) (f2:Feeds prog w i2 l2 ys S2)
  (g0:IsZip s.heap z TI TO .none) (gI:IsPair s.heap TI (.ref i1) (.ref i2)) (gO:IsPair s.heap TO a b) (q1:S1 k1 s.heap) (q2:S2 k2 s.heap) (ex:xs[k1]? = some x) (ey:ys[k2]? = some y)
  (R:∀g,IsZip g z TI TO (rawInt s.heap.objs.size)->IsPair g TO x y->S1 (k1+1) g->S2 (k2+1) g->IsPair g s.heap.objs.size x y->g.objs.size=s.heap.objs.size+1 ->
   (∀c o,c≠z->c≠TO->c≠i1->c≠i2->s.heap.get? c=some o->g.get? c=some o)->Q (.ref s.heap.objs.size) { s with heap:=g }):wpAny (model prog w) A (Builtin.«zip.__next__» ⟨[.ref z],[]⟩) (λfin s'=>∃v,fin = .done (.ret v)/\Q v s') E s:=by
 show wpAny _ _ (field (.ref z) 2 >>= _) _ _ _;refine wpAny_bind (wpAny_field g0 rfl (x:=.bool false) rfl ?_)
 show wpAny _ _ (field (.ref z) 3 >>= _) _ _ _;refine wpAny_bind (wpAny_field g0 rfl (x:=.ref TI) rfl ?_)
 refine wpAny_bind (wpAny_seqItems gI rfl ?_);show wpAny _ _ (Builtin.SmallTypes.ownedTupleIsFree (.ref z) >>= _) _ _ _
 refine wpAny_bind ?_;unfold Builtin.SmallTypes.ownedTupleIsFree;refine wpAny_bind (wpAny_field g0 rfl (x:=.none) rfl (wpAny_pure ?_));simp only [if_true]
 refine wpAny_bind (wpAny_rule ?_);refine wpAny_bind (wpAny_field g0 rfl (x:=.ref TO) rfl ?_)
 refine wpAny_bind (wpAny_setField_rec g0 (by simp) λh1 g1 e1=>?_)
 replace g1:IsZip h1 z TI TO .ellipsis:=g1
 refine wpAny_bind ?_;simp only [List.zipIdx_cons,List.zipIdx_nil,List.forIn_cons,List.forIn_nil]
 refine wpAny_bind (wpAny_bind (wpAny_onRaise ?_));show wpAny _ _ (Builtin.SmallTypes.nextOf (.ref i1) >>= _) _ _ _
 refine wpAny_bind (f1.item _ _ k1 x _ _ (f1.but q1 e1 D.i1z D.l1z) ex λh2 q1' e2=>wpAny_pure ?_)
 have gO2:IsPair h2 TO a b:=e2.extBut _ _ D.TOi1 (e1.extBut _ _ D.TOz gO)
 refine wpAny_bind (wpAny_seqItems gO2 rfl ?_);refine wpAny_bind (wpAny_updateSeq_pair gO2 λh3 gO3 e3=>?_)
 replace gO3:IsPair h3 TO x b:=gO3
 refine wpAny_bind (wpAny_letGo (wpAny_pure ?_));refine wpAny_bind (wpAny_bind (wpAny_onRaise ?_));show wpAny _ _ (Builtin.SmallTypes.nextOf (.ref i2) >>= _) _ _ _
 refine wpAny_bind (f2.item _ _ k2 y _ _ (f2.but (f2.but (f2.but q2 e1 D.i2z D.l2z) e2 D.i12.symm D.l2i1) e3 D.TOi2.symm D.l2TO) ey λh4 q2' e4=>wpAny_pure ?_)
 have gO4:IsPair h4 TO x b:=e4.extBut _ _ D.TOi2 gO3
 refine wpAny_bind (wpAny_seqItems gO4 rfl ?_);refine wpAny_bind (wpAny_updateSeq_pair gO4 λh5 gO5 e5=>?_)
 replace gO5:IsPair h5 TO x y:=gO5
 refine wpAny_bind (wpAny_letGo (wpAny_pure (wpAny_pure ?_)));refine wpAny_bind (wpAny_seqItems gO5 rfl ?_);refine wpAny_bind (wpAny_newTuple ?_)
 have sz:h5.objs.size=s.heap.objs.size:=by rw [e5.1,e4.1,e3.1,e2.1,e1.1]
 have g5:IsZip h5 z TI TO .ellipsis:=e5.extBut _ _ D.TOz.symm (e4.extBut _ _ D.i2z.symm (e3.extBut _ _ D.TOz.symm (e2.extBut _ _ D.i1z.symm g1)))
 have k5:∀c o,c≠z->c≠TO->c≠i1->c≠i2->s.heap.get? c=some o->h5.get? c=some o:=λc o n1 n2 n3 n4 e=>e5.extBut _ _ n2 (e4.extBut _ _ n4 (e3.extBut _ _ n2 (e2.extBut _ _ n3 (e1.extBut _ _ n1 e))))
 have q15:S1 (k1+1) h5:=f1.but (f1.but (f1.but q1' e3 D.TOi1.symm D.l1TO) e4 D.i12 D.l1i2) e5 D.TOi1.symm D.l1TO
 have q25:S2 (k2+1) h5:=f2.but q2' e5 D.TOi2.symm D.l2TO
 have lz:z<h5.objs.size:=Heap.lt_size g5
 show wpAny _ _ (Builtin.SmallTypes.ownedTupleHandOut (.ref z) (.ref h5.objs.size) >>= _) _ _ _;refine wpAny_bind ?_;unfold Builtin.SmallTypes.ownedTupleHandOut
 have g6:IsZip (h5.push { cls:=.type "tuple",data:=.seq #[x,y] }) z TI TO .ellipsis:=Heap.get?_push_of_some _ g5
 refine wpAny_bind (wpAny_setField_rec g6 (by simp) λh7 g7 e7=>?_)
 replace g7:IsZip h7 z TI TO (rawInt h5.objs.size):=g7
 refine wpAny_setField_rec g7 (by simp) λh8 g8 e8=>?_
 replace g8:IsZip h8 z TI TO (rawInt h5.objs.size):=g8
 have up:∀c o,c≠z->h5.get? c=some o->h8.get? c=some o:=λc o n e=>e8.extBut _ _ n (e7.extBut _ _ n (Heap.get?_push_of_some _ e))
 have gT:IsPair h8 h5.objs.size x y:=e8.extBut _ _ (Nat.ne_of_gt lz) (e7.extBut _ _ (Nat.ne_of_gt lz) (Heap.get?_push_size _ rfl))
 have sz8:h8.objs.size=h5.objs.size+1:=by rw [e8.1,e7.1,Heap.size_push]
 rw [sz] at g8 gT sz8
 refine wpAny_pure ⟨_,rfl,?_⟩;show Q (.ref h5.objs.size) _;rw [sz]
 exact R h8 g8 (up _ _ D.TOz gO5) (f1.keep _ _ _ q15 (λo e=>up _ o D.i1z e) λo e=>up _ o D.l1z e) (f2.keep _ _ _ q25 (λo e=>up _ o D.i2z e) λo e=>up _ o D.l2z e) gT sz8 λc o n1 n2 n3 n4 e=>up c o n1 (k5 c o n1 n2 n3 n4 e)
theorem Uf {z TI TO i1 i2 l1 l2:Addr}{k1 k2:Nat}{xs ys:Array Value}{a b:Value}{S1 S2:Nat->Heap->Prop}{Q:Fin->Shared->Prop}(hh:A.handled=none) (D:ZipApart z TI TO i1 i2 l1 l2) (f1:Feeds prog w i1 l1 xs S1) (f2:Feeds prog w i2 l2 ys S2)
  (g0:IsZip s.heap z TI TO .none) (gI:IsPair s.heap TI (.ref i1) (.ref i2)) (gO:IsPair s.heap TO a b) (q1:S1 k1 s.heap) (q2:S2 k2 s.heap) (ed:xs[k1]? = none\/ys[k2]? = none)
  (R:∀g e,(∀c o,c≠z->c≠TO->c≠i1->c≠i2->s.heap.get? c=some o->g.get? c=some o)->(∃o,g.get? e=some o/\o.cls = .type "StopIteration")->E (.ref e) { s with heap:=g }):wpAny (model prog w) A (Builtin.«zip.__next__» ⟨[.ref z],[]⟩) Q E s:=by
 show wpAny _ _ (field (.ref z) 2 >>= _) _ _ _;refine wpAny_bind (wpAny_field g0 rfl (x:=.bool false) rfl ?_)
 show wpAny _ _ (field (.ref z) 3 >>= _) _ _ _;refine wpAny_bind (wpAny_field g0 rfl (x:=.ref TI) rfl ?_)
 refine wpAny_bind (wpAny_seqItems gI rfl ?_);show wpAny _ _ (Builtin.SmallTypes.ownedTupleIsFree (.ref z) >>= _) _ _ _
 refine wpAny_bind ?_;unfold Builtin.SmallTypes.ownedTupleIsFree;refine wpAny_bind (wpAny_field g0 rfl (x:=.none) rfl (wpAny_pure ?_));simp only [if_true]
 refine wpAny_bind (wpAny_rule ?_);refine wpAny_bind (wpAny_field g0 rfl (x:=.ref TO) rfl ?_)
 refine wpAny_bind (wpAny_setField_rec g0 (by simp) λh1 g1 e1=>?_)
 replace g1:IsZip h1 z TI TO .ellipsis:=g1
 refine wpAny_bind ?_;simp only [List.zipIdx_cons,List.zipIdx_nil,List.forIn_cons,List.forIn_nil]
 refine wpAny_bind (wpAny_bind (wpAny_onRaise ?_));show wpAny _ _ (Builtin.SmallTypes.nextOf (.ref i1) >>= _) _ _ _
 cases ex:xs[k1]? with
 | none =>
  refine wpAny_bind (f1.done _ _ k1 _ _ hh (f1.but q1 e1 D.i1z D.l1z) ex λh2 e e2 he=>?_)
  obtain ⟨oe,ge,ce⟩:=he
  have g2:IsZip h2 z TI TO .ellipsis:=e2 _ _ D.i1z.symm g1
  have ne:e≠z:=λq=>by subst q;rw [g2] at ge;cases ge;simp at ce
  exact wpAny_setField_rec g2 (by simp) λh3 _ e3=>R h3 e (λc o n1 _ n3 _ q=>e3.extBut _ _ n1 (e2 _ _ n3 (e1.extBut _ _ n1 q))) ⟨oe,e3.extBut _ _ ne ge,ce⟩
 | some x =>
  have ey:ys[k2]? = none:=by rcases ed with q | q;rw [ex] at q;cases q;exact q
  refine wpAny_bind (f1.item _ _ k1 x _ _ (f1.but q1 e1 D.i1z D.l1z) ex λh2 q1' e2=>wpAny_pure ?_)
  have gO2:IsPair h2 TO a b:=e2.extBut _ _ D.TOi1 (e1.extBut _ _ D.TOz gO)
  refine wpAny_bind (wpAny_seqItems gO2 rfl ?_);refine wpAny_bind (wpAny_updateSeq_pair gO2 λh3 gO3 e3=>?_)
  refine wpAny_bind (wpAny_letGo (wpAny_pure ?_));refine wpAny_bind (wpAny_bind (wpAny_onRaise ?_));show wpAny _ _ (Builtin.SmallTypes.nextOf (.ref i2) >>= _) _ _ _
  refine wpAny_bind (f2.done _ _ k2 _ _ hh (f2.but (f2.but (f2.but q2 e1 D.i2z D.l2z) e2 D.i12.symm D.l2i1) e3 D.TOi2.symm D.l2TO) ey λh4 e e4 he=>?_)
  obtain ⟨oe,ge,ce⟩:=he
  have g4:IsZip h4 z TI TO .ellipsis:=e4 _ _ D.i2z.symm (e3.extBut _ _ D.TOz.symm (e2.extBut _ _ D.i1z.symm g1))
  have ne:e≠z:=λq=>by subst q;rw [g4] at ge;cases ge;simp at ce
  exact wpAny_setField_rec g4 (by simp) λh5 _ e5=>R h5 e (λc o n1 n2 n3 n4 q=>e5.extBut _ _ n1 (e4 _ _ n4 (e3.extBut _ _ n2 (e2.extBut _ _ n3 (e1.extBut _ _ n1 q))))) ⟨oe,e5.extBut _ _ ne ge,ce⟩
theorem EF {z TI TO i1 i2 l1 l2:Addr}{k1 k2:Nat}{xs ys:Array Value}{x y a b:Value}{S1 S2:Nat->Heap->Prop}{Q:Option Value->Shared->Prop}(D:ZipApart z TI TO i1 i2 l1 l2) (f1:Feeds prog w i1 l1 xs S1) (f2:Feeds prog w i2 l2 ys S2)
  (g0:IsZip s.heap z TI TO .none) (gI:IsPair s.heap TI (.ref i1) (.ref i2)) (gO:IsPair s.heap TO a b) (q1:S1 k1 s.heap) (q2:S2 k2 s.heap) (ex:xs[k1]? = some x) (ey:ys[k2]? = some y)
  (R:∀g,IsZip g z TI TO (rawInt s.heap.objs.size)->IsPair g TO x y->S1 (k1+1) g->S2 (k2+1) g->IsPair g s.heap.objs.size x y->g.objs.size=s.heap.objs.size+1 ->
   (∀c o,c≠z->c≠TO->c≠i1->c≠i2->s.heap.get? c=some o->g.get? c=some o)->Q (some (.ref s.heap.objs.size)) { s with heap:=g }):wpAny (model prog w) A (pyNext (.ref z)) Q E s:=by
 have ty:s.TypeIs (.ref z) "zip":=⟨_,g0,rfl⟩
 unfold pyNext;exact wpAny_bind (wpAny_attempt (wpAny_callSpecial?_slot (name:=Str.ofString "__next__") ty F.slot_zip_next (wpAny_call_entry F.slot_zip_next ty F.entry_zip_next
   (VF D f1 f2 g0 gI gO q1 q2 ex ey λg a1 a2 a3 a4 a5 a6 a7=>wpAny_pure (R g a1 a2 a3 a4 a5 a6 a7)) (F.args_zip_next_1 _))))
theorem El {z TI TO i1 i2 l1 l2:Addr}{k1 k2:Nat}{xs ys:Array Value}{a b:Value}{S1 S2:Nat->Heap->Prop}{Q:Option Value->Shared->Prop}(hh:A.handled=none) (D:ZipApart z TI TO i1 i2 l1 l2) (f1:Feeds prog w i1 l1 xs S1) (f2:Feeds prog w i2 l2 ys S2)
  (g0:IsZip s.heap z TI TO .none) (gI:IsPair s.heap TI (.ref i1) (.ref i2)) (gO:IsPair s.heap TO a b) (q1:S1 k1 s.heap) (q2:S2 k2 s.heap) (ed:xs[k1]? = none\/ys[k2]? = none)
  (R:∀g,(∀c o,c≠z->c≠TO->c≠i1->c≠i2->s.heap.get? c=some o->g.get? c=some o)->Q none { s with heap:=g }):wpAny (model prog w) A (pyNext (.ref z)) Q E s:=by
 have ty:s.TypeIs (.ref z) "zip":=⟨_,g0,rfl⟩
 unfold pyNext;refine wpAny_bind (wpAny_attempt (wpAny_callSpecial?_slot (name:=Str.ofString "__next__") ty F.slot_zip_next (wpAny_call_entry F.slot_zip_next ty F.entry_zip_next (Uf hh D f1 f2 g0 gI gO q1 q2 ed λg e hk he=>?_) (F.args_zip_next_1 _))))
 obtain ⟨o,ho,hc⟩:=he
 exact wpAny_bind (wpAny_isInstance (T:="StopIteration") (b:=true) ⟨o,ho,hc⟩ isSubtype_stop (wpAny_pure (R _ hk)))
def G9 (t:Bool):String:=match t with | true=>"tuple_iterator" | false=>"list_iterator"
def ItK (t:Bool) (h:Heap) (i l:Addr) (k:Nat):Prop:=match t with | true=>h.IsTupleIter i l k | false=>h.IsListIter i l k
def IsK (t:Bool) (h:Heap) (l:Addr) (xs:Array Value):Prop:=match t with | true=>h.IsTuple l xs | false=>h.IsList l xs
def SqK (t:Bool) (K:PySem.W.Frag) (H:Hp) (a:Addr) (xs:List V):Prop:=match t with | true=>SqT K H a xs | false=>SqL K H a xs
theorem IsK.at {t:Bool}{h h':Heap}{l:Addr}{xs:Array Value}(q:IsK t h l xs) (k:∀o,h.get? l=some o->h'.get? l=some o):IsK t h' l xs:=by
 cases t with
 | true=>obtain ⟨o,e,r⟩:=q;exact ⟨o,k o e,r⟩
 | false=>exact Heap.IsList.at q λo e=>k o e
theorem IsK.lt {t:Bool}{h:Heap}{l:Addr}{xs:Array Value}(q:IsK t h l xs):l<h.objs.size:=by
 cases t with
 | true=>obtain ⟨o,e,r⟩:=q;exact Heap.lt_size e
 | false=>obtain ⟨o,e,r⟩:=q;exact Heap.lt_size e
theorem ItK.at {t:Bool}{h h':Heap}{i l:Addr}{k:Nat}(q:ItK t h i l k) (f:∀o,h.get? i=some o->h'.get? i=some o):ItK t h' i l k:=by
 cases t with
 | true=>obtain ⟨o,e,r⟩:=q;exact ⟨o,f o e,r⟩
 | false=>obtain ⟨o,e,r⟩:=q;exact ⟨o,f o e,r⟩
theorem ItK.obj {t:Bool}{h:Heap}{i l:Addr}{k:Nat}(q:ItK t h i l k):∃o,h.get? i=some o/\∀v,o.data≠.cell v:=by
 cases t with
 | true=>obtain ⟨o,e,_,d⟩:=q;exact ⟨o,e,λv z=>by rw [d] at z;cases z⟩
 | false=>obtain ⟨o,e,_,d⟩:=q;exact ⟨o,e,λv z=>by rw [d] at z;cases z⟩
theorem ItK.of {t:Bool}{h:Heap}{i l:Addr}(e:h.get? i=some { cls:=.type (G9 t),data:=.fields #[.ref l,.int 0 0] }):ItK t h i l 0:=by
 cases t with
 | true=>exact ⟨_,e,rfl,rfl⟩
 | false=>exact ⟨_,e,rfl,rfl⟩
theorem Qe {t:Bool}{i l:Addr}{xs:Array Value}(n:l≠i):Feeds prog w i l xs λk h=>ItK t h i l k/\IsK t h l xs:=by
 cases t with
 | true=>exact Va n
 | false=>exact ZB n
theorem Y9 {t:Bool}{l:Addr}{xs:Array Value}{Q:Value->Shared->Prop}(q:IsK t s.heap l xs) (z:Q (.ref s.heap.objs.size) { s with heap:=s.heap.push { cls:=.type (G9 t),data:=.fields #[.ref l,.int 0 0] } }):wpAny (model prog w) A (pyIter (.ref l)) Q E s:=by
 cases t with
 | true=>exact wpAny_pyIter_tuple q z
 | false=>exact wpAny_pyIter_list q z
abbrev zp1 (t:Bool) (h:Heap) (l:Addr):Heap:=h.push { cls:=.type (G9 t),data:=.fields #[.ref l,.int 0 0] }
abbrev zp2 (t u:Bool) (h:Heap) (l m:Addr):Heap:=zp1 u (zp1 t h l) m
abbrev zp3 (t u:Bool) (h:Heap) (l m:Addr):Heap:=(zp2 t u h l m).push { cls:=.type "tuple",data:=.seq #[.ref h.objs.size,.ref (zp1 t h l).objs.size] }
abbrev zp4 (t u:Bool) (h:Heap) (l m:Addr):Heap:=(zp3 t u h l m).push { cls:=.type "tuple",data:=.seq #[.none,.none] }
abbrev zp5 (t u:Bool) (h:Heap) (l m:Addr):Heap:=(zp4 t u h l m).push { cls:=.type "zip",data:=.fields #[.none,.bool false,.bool false,.ref (zp2 t u h l m).objs.size,.ref (zp3 t u h l m).objs.size] }
theorem YN (t u:Bool) (l m:Addr) (xs ys:Array Value) :
  Meets (Builtin.«zip.__new__» ⟨[.type "zip",.ref l,.ref m],[]⟩) (λ_ R s=>IsK t s.heap l xs/\IsK u s.heap m ys/\R (.ok (.ret (.ref (zp4 t u s.heap l m).objs.size))) { s with heap:=zp5 t u s.heap l m }) :=
 .of_wp λprog w A R s0 h=>by
  obtain ⟨hp,g,d,tk,os⟩:=s0;obtain ⟨q1,q2,h⟩:=h;have hsub:=sub_zip
  have p1:IsK t (Shared.heap ⟨hp,g,d,tk,os⟩) l xs:=q1
  have p2:IsK u (Shared.heap ⟨zp1 t hp l,g,d,tk,os⟩) m ys:=q2.at λo e=>Heap.get?_push_of_some _ e
  wp_walk using Y9 p1,Y9 p2
  exact ⟨_,rfl,h⟩
theorem Gq {t u:Bool}{l m:Addr}{xs ys:Array Value}{Q:Value->Shared->Prop}(q1:IsK t s.heap l xs) (q2:IsK u s.heap m ys)
  (R:∀g,IsZip g (s.heap.objs.size+4) (s.heap.objs.size+2) (s.heap.objs.size+3) .none->IsPair g (s.heap.objs.size+2) (.ref s.heap.objs.size) (.ref (s.heap.objs.size+1)) ->
   IsPair g (s.heap.objs.size+3) .none .none->ItK t g s.heap.objs.size l 0->ItK u g (s.heap.objs.size+1) m 0->(∀c o,s.heap.get? c=some o->g.get? c=some o)->Q (.ref (s.heap.objs.size+4)) { s with heap:=g }) :
  wpAny (model prog w) A (call (.type "zip") [.ref l,.ref m]) Q E s:=by
 refine callType_new F.called_zip ⋯ (F.typeCall_zip_2 _ _) (F.newCall_zip_2 _ _) (λobj=>F.args_object_init_3 obj _ _) F.entry_zip_new (YN t u l m xs ys) ⟨q1,q2,?_⟩
 have z1:(zp1 t s.heap l).objs.size=s.heap.objs.size+1:=Heap.size_push ..
 have z2:(zp2 t u s.heap l m).objs.size=s.heap.objs.size+2:=by rw [Heap.size_push,z1]
 have z3:(zp3 t u s.heap l m).objs.size=s.heap.objs.size+3:=by rw [Heap.size_push,z2]
 have z4:(zp4 t u s.heap l m).objs.size=s.heap.objs.size+4:=by rw [Heap.size_push,z3]
 have g5:(zp5 t u s.heap l m).get? (zp4 t u s.heap l m).objs.size=some _:=Heap.get?_push_size _ rfl
 have g4:(zp5 t u s.heap l m).get? (zp3 t u s.heap l m).objs.size=some _:=Heap.get?_push_of_some _ (Heap.get?_push_size _ rfl)
 have g3:(zp5 t u s.heap l m).get? (zp2 t u s.heap l m).objs.size=some _:=Heap.get?_push_of_some _ (Heap.get?_push_of_some _ (Heap.get?_push_size _ rfl))
 have g2:(zp5 t u s.heap l m).get? (zp1 t s.heap l).objs.size=some _:=Heap.get?_push_of_some _ (Heap.get?_push_of_some _ (Heap.get?_push_of_some _ (Heap.get?_push_size _ rfl)))
 have g1:(zp5 t u s.heap l m).get? s.heap.objs.size=some _:=Heap.get?_push_of_some _ (Heap.get?_push_of_some _ (Heap.get?_push_of_some _ (Heap.get?_push_of_some _ (Heap.get?_push_size _ rfl))))
 show _/\_
 rw [z2,z3,z4] at g5;rw [z1,z2] at g3;rw [z3] at g4;rw [z1] at g2;rw [z4]
 exact ⟨⟨_,g5,rfl⟩,R _ g5 g3 g4 (.of g1) (.of g2) λc o x=>Heap.get?_push_of_some _ (Heap.get?_push_of_some _ (Heap.get?_push_of_some _ (Heap.get?_push_of_some _ (Heap.get?_push_of_some _ x))))⟩
end
section
variable {X:Cx}{s:Shared}{σ:St}{H:Hp}{pins:List (Addr×Obj)}
theorem YJ {t:Bool}{a:Addr}{xs:List V}(I:Inv X pins σ H s) (h:SqK t X.K H a xs):∃its:List Value,jD xs its/\IsK t s.heap a its.toArray/\xs.length<=sizeLine:=by
 cases t with
 | true=>exact I.tuple h
 | false=>obtain ⟨its,r,p,z⟩:=I.list h;exact ⟨its,r,p.isList,z⟩
theorem Xo {t:Bool}{a:Addr}{xs ys:List V}(I:Inv X pins σ H s) (h:SqK t X.K H a xs) (h':SqK t X.K H a ys):xs=ys:=by
 cases t with
 | true=>exact I.tuple_inj h h'
 | false=>exact I.list_inj h h'
end
def VX (K:PySem.W.Frag) (t u:Bool) (l1 l2:Addr):It :=
 ⟨λi H=>∃xs ys x y,SqK t K H l1 xs/\SqK u K H l2 ys/\xs[i]? = some x/\ys[i]? = some y,λi H v H'=>∃p x y,v = .ref p/\H p=none/\H'=upd H p (.tup [x,y])/\(∀xs,SqK t K H l1 xs->xs[i]? = some x)/\∀ys,SqK u K H l2 ys->ys[i]? = some y,
  λi H=>∃xs ys,SqK t K H l1 xs/\SqK u K H l2 ys/\(xs.length<=i\/ys.length<=i)⟩
theorem Yu {t u:Bool}{P:Program}{w:World}{K:PySem.W.Frag}{es:List Expr}{x1:Nat}{pos:Pos}{z TI TO i1 i2 l1 l2:Addr}(D:ZipApart z TI TO i1 i2 l1 l2) :
  Turn P w K (.Tuple es x1 pos) (VX K t u l1 l2) [z,TI,TO,i1,i2] z (λi h=>∃a b,IsZip h z TI TO .none/\IsPair h TI (.ref i1) (.ref i2)/\IsPair h TO a b/\ItK t h i1 l1 i/\ItK u h i2 l2 i) where
 mem:=by simp
 obj:=λi h ⟨a,b,t1,t2,t3,t4,t5⟩ c hc=>by
  simp only [List.mem_cons,List.not_mem_nil,or_false] at hc
  rcases hc with rfl | rfl | rfl | rfl | rfl
  ·exact ⟨_,t1,λv e=>by have e':Data.fields _=Data.cell v:=e;cases e'⟩
  ·exact ⟨_,t2,λv e=>by have e':Data.seq _ _=Data.cell v:=e;cases e'⟩
  ·exact ⟨_,t3,λv e=>by have e':Data.seq _ _=Data.cell v:=e;cases e'⟩
  ·exact t4.obj
  ·exact t5.obj
 keep:=λi h h' ⟨a,b,t1,t2,t3,t4,t5⟩ k=>⟨a,b,k z (by simp) _ t1,k TI (by simp) _ t2,k TO (by simp) _ t3,t4.at λo e=>k i1 (by simp) o e,t5.at λo e=>k i2 (by simp) o e⟩
 item:=by
  intro X hP hw hK hc i pins s σ H E I hf st hg
  subst hP hw hK
  obtain ⟨a,b,t1,t2,t3,t4,t5⟩:=st
  obtain ⟨xs,ys,x,y,hq1,hq2,hx,hy⟩:=hg
  obtain ⟨its1,rv1,p1,_⟩:=YJ I hq1
  obtain ⟨its2,rv2,p2,_⟩:=YJ I hq2
  obtain ⟨u1,hu1,ru1⟩:=rv1.get hx
  obtain ⟨u2,hu2,ru2⟩:=rv2.get hy
  have hn:H s.heap.objs.size=none:=I.hok.fresh (Nat.le_refl _)
  have fz:=hf z (by simp)
  have fTO:=hf TO (by simp)
  have f1:=hf i1 (by simp)
  have f2:=hf i2 (by simp)
  refine EF D (Qe D.l1i1) (Qe D.l2i2) t1 t2 t3 ⟨t4,p1⟩ ⟨t5,p2⟩ (x:=u1) (y:=u2) (by simpa using hu1) (by simpa using hu2) λh' o1 o2 o3 o4 o5 o6 o7=>⟨_,rfl,?_⟩
  obtain ⟨o3,_⟩:=o3;obtain ⟨o4,_⟩:=o4
  refine wpAny_letOwnedTupleGo_zip o1 λh2 q1 sb=>?_
  have hzl:z<s.heap.objs.size:=Heap.lt_size t1
  have kk:∀c o,c≠z->c≠TO->c≠i1->c≠i2->s.heap.get? c=some o->h2.get? c=some o:=λc o n1 n2 n3 n4 e=>(sb.2 c n1).trans (o7 c o n1 n2 n3 n4 e)
  have et:h2.get? s.heap.objs.size=some { cls:=.type "tuple",data:=.seq #[u1,u2] }:=(sb.2 _ (Nat.ne_of_gt hzl)).trans o5
  have tne:∀c o,H c=some o->c≠z/\c≠TO/\c≠i1/\c≠i2/\c≠s.heap.objs.size:=λc o q=>⟨λe=>(by rw [e,fz.1] at q;cases q),λe=>(by rw [e,fTO.1] at q;cases q),λe=>(by rw [e,f1.1] at q;cases q),λe=>(by rw [e,f2.1] at q;cases q),λe=>(by rw [e,hn] at q;cases q)⟩
  have getF:∀{c:Addr} {o:HO},H c=some o->upd H s.heap.objs.size (.tup [x,y]) c=some o:=λ{c o} q=>by rw [j8 (tne c o q).2.2.2.2];exact q
  have nin:∀{c:Addr},c∉[z,TO,i1,i2]->c≠z/\c≠TO/\c≠i1/\c≠i2:=λ{c} h=>by simpa using h
  have I1:Inv X pins σ (upd H s.heap.objs.size (.tup [x,y])) { s with heap:=h2,toks:=s.toks }:=by
   refine I.step (g':=s.gens) (d':=s.drawn) (ch:=[z,TO,i1,i2]) (λc hc'=>?_) (λc o _ _ hc' e _=>kk c o (nin hc').1 (nin hc').2.1 (nin hc').2.2.1 (nin hc').2.2.2 e) (λc o _ _ hc' e _=>⟨o.slots,kk c o (nin hc').1 (nin hc').2.1 (nin hc').2.2.1 (nin hc').2.2.2 e⟩)
    (λc o _ e n=>by rw [j8 (Nat.ne_of_lt (Heap.lt_size e))];exact n) (λc o hc' e=>⟨o,kk c o (nin hc').1 (nin hc').2.1 (nin hc').2.2.1 (nin hc').2.2.2 e⟩) (λ_ _ q=>getF q) (λ_ _ _ q=>getF q) (λc ps q=>⟨#[],by rw [getF q];simp⟩) (λm hm=>?_) (λc v q=>?_) I.bare
   ·simp only [List.mem_cons,List.not_mem_nil,or_false] at hc'
    rcases hc' with rfl | rfl | rfl | rfl
    ·exact ⟨fz.2.2.2.1,fz.2.1,fz.2.2.2.2.1,fz.2.2.2.2.2⟩
    ·exact ⟨fTO.2.2.2.1,fTO.2.1,fTO.2.2.2.2.1,fTO.2.2.2.2.2⟩
    ·exact ⟨f1.2.2.2.1,f1.2.1,f1.2.2.2.2.1,f1.2.2.2.2.2⟩
    ·exact ⟨f2.2.2.2.1,f2.2.1,f2.2.2.2.2.1,f2.2.2.2.2.2⟩
   ·obtain ⟨o,es,ep,ho,r⟩:=hm
    exact ⟨o,es,ep,kk _ o (Ne.symm fz.2.1) (Ne.symm fTO.2.1) (Ne.symm f1.2.1) (Ne.symm f2.2.1) ho,r⟩
   ·by_cases hb:c=s.heap.objs.size
    ·subst hb
     rw [j5] at q;cases q
     exact ⟨by show 2<=sizeLine;decide,[u1,u2],.cons ru1 (.cons ru2 .nil),⟨_,et,rfl,0,rfl⟩⟩
    ·rw [j8 hb] at q
     have hh:=tne c v q
     refine (I.hok c v q).stay (λc' o hc' e=>?_) (λ_ e=>getF e) λ_ _ e=>getF e
     have hh':c'≠z/\c'≠TO/\c'≠i1/\c'≠i2:=by
      rcases hc' with e | e
      ·rw [e];exact ⟨hh.1,hh.2.1,hh.2.2.1,hh.2.2.2.1⟩
      ·have:=tne c' _ e;exact ⟨this.1,this.2.1,this.2.2.1,this.2.2.2.1⟩
     exact kk c' o hh'.1 hh'.2.1 hh'.2.2.1 hh'.2.2.2 e
  have s2:∀{c:Addr} {o:Obj},c≠z->h'.get? c=some o->h2.get? c=some o:=λn e=>(sb.2 _ n).trans e
  refine ⟨.ref s.heap.objs.size,_,I1,rfl,⟨_,x,y,rfl,hn,rfl,λys' hy'=>by rw [Xo I hy' hq1];exact hx,λys' hy'=>by rw [Xo I hy' hq2];exact hy⟩,⟨u1,u2,q1,kk _ _ D.TIz D.TITO D.TIi1 D.TIi2 t2,s2 D.TOz o2,o3.at λo e=>s2 D.i1z e,o4.at λo e=>s2 D.i2z e⟩,λc hc'=>?_⟩
  have hl:c<s.heap.objs.size:=by
   simp only [List.mem_cons,List.not_mem_nil,or_false] at hc'
   rcases hc' with rfl | rfl | rfl | rfl | rfl
   ·exact hzl
   ·exact Heap.lt_size t2
   ·exact Heap.lt_size t3
   ·obtain ⟨o,e,_⟩:=t4.obj;exact Heap.lt_size e
   ·obtain ⟨o,e,_⟩:=t5.obj;exact Heap.lt_size e
  rw [j8 (Nat.ne_of_lt hl)]
  exact (hf c hc').1
 done:=by
  intro X hP hw hK hc i pins s σ H E I hf st hg
  subst hP hw hK
  obtain ⟨a,b,t1,t2,t3,t4,t5⟩:=st
  obtain ⟨xs,ys,hq1,hq2,hend⟩:=hg
  obtain ⟨its1,rv1,p1,_⟩:=YJ I hq1
  obtain ⟨its2,rv2,p2,_⟩:=YJ I hq2
  have e1:=rv1.length
  have e2:=rv2.length
  have fz:=hf z (by simp)
  have fTO:=hf TO (by simp)
  have f1:=hf i1 (by simp)
  have f2:=hf i2 (by simp)
  have tne:∀c o,H c=some o->c≠z/\c≠TO/\c≠i1/\c≠i2:=λc o q=>⟨λe=>(by rw [e,fz.1] at q;cases q),λe=>(by rw [e,fTO.1] at q;cases q),λe=>(by rw [e,f1.1] at q;cases q),λe=>(by rw [e,f2.1] at q;cases q)⟩
  have nin:∀{c:Addr},c∉[z,TO,i1,i2]->c≠z/\c≠TO/\c≠i1/\c≠i2:=λ{c} h=>by simpa using h
  refine El (I.ok.hd hc) D (Qe D.l1i1) (Qe D.l2i2) t1 t2 t3 ⟨t4,p1⟩ ⟨t5,p2⟩ ?_ λh' kk=>⟨rfl,?_⟩
  ·rcases hend with h | h
   ·exact .inl (by simp;omega)
   ·exact .inr (by simp;omega)
  ·refine I.step (g':=s.gens) (d':=s.drawn) (t':=s.toks) (ch:=[z,TO,i1,i2]) (λc hc'=>?_) (λc o _ _ hc' e _=>kk c o (nin hc').1 (nin hc').2.1 (nin hc').2.2.1 (nin hc').2.2.2 e) (λc o _ _ hc' e _=>⟨o.slots,kk c o (nin hc').1 (nin hc').2.1 (nin hc').2.2.1 (nin hc').2.2.2 e⟩)
    (λ_ _ _ _ n=>n) (λc o hc' e=>⟨o,kk c o (nin hc').1 (nin hc').2.1 (nin hc').2.2.1 (nin hc').2.2.2 e⟩) (λ_ _ q=>q) (λ_ _ _ q=>q) (λc ps q=>⟨#[],by rw [q];simp⟩) (λm hm=>?_) (λc v q=>?_) I.bare
   ·simp only [List.mem_cons,List.not_mem_nil,or_false] at hc'
    rcases hc' with rfl | rfl | rfl | rfl
    ·exact ⟨fz.2.2.2.1,fz.2.1,fz.2.2.2.2.1,fz.2.2.2.2.2⟩
    ·exact ⟨fTO.2.2.2.1,fTO.2.1,fTO.2.2.2.2.1,fTO.2.2.2.2.2⟩
    ·exact ⟨f1.2.2.2.1,f1.2.1,f1.2.2.2.2.1,f1.2.2.2.2.2⟩
    ·exact ⟨f2.2.2.2.1,f2.2.1,f2.2.2.2.2.1,f2.2.2.2.2.2⟩
   ·obtain ⟨o,es,ep,ho,r⟩:=hm
    exact ⟨o,es,ep,kk _ o (Ne.symm fz.2.1) (Ne.symm fTO.2.1) (Ne.symm f1.2.1) (Ne.symm f2.2.1) ho,r⟩
   ·have hh:=tne c v q
    refine (I.hok c v q).stay (λc' o hc' e=>?_) (λ_ e=>e) λ_ _ e=>e
    have hh':c'≠z/\c'≠TO/\c'≠i1/\c'≠i2:=by
     rcases hc' with e | e
     ·rw [e];exact hh
     ·exact tne c' _ e
    exact kk c' o hh'.1 hh'.2.1 hh'.2.2.1 hh'.2.2.2 e
 self:=λ_ _ _ _ _ ⟨_,_,t1,_⟩ h=>wpAny_pyIter_zip t1 h
section
variable {X:Cx}
def Ek (K:PySem.W.Frag) (ta:TA):TI:=λσ H R=>ta σ H λvs H1=>∃t u a b,vs=[.ref a,.ref b]/\(∃xs,SqK t K H1 a xs)/\(∃ys,SqK u K H1 b ys)/\R (VX K t u a b) H1
theorem JN {es:List Expr}{x1:Nat}{tpos:Pos}{l r:Expr}{ta:TA}{p pos:Pos}(K:PySem.W.Frag) (hg:Gl X "zip") (hm:X.mg "zip" = none) (ha:PA X [l,r] ta) (hs:starEach [l,r] X.env=(false,eval l X.env)::starEach [r] X.env:=by rfl) (hs2:(backTo pos (starEach [r] X.env)).any (·.1)=false:=by rfl) (hK:X.K=K:=by rfl) :
  PI X (.Tuple es x1 tpos) (.Call (.Name "zip" p) [l,r] [] pos) (Ek K ta):=by
 subst hK
 intro pins s σ H R I h
 refine Call_ (zX I hg hm boot_zip (PyProof.Rows.callWith_type1 (thn (ha pos pins s σ H _ I h) λus s1 ⟨vs,H1,I1,r1,q1⟩=>?_) hs hs2))
 obtain ⟨t,t2,a,b,e,⟨xs,hq⟩,⟨ys,hq2⟩,q⟩:=q1
 subst e
 obtain ⟨u,u2,rfl,ru,ru2⟩:=ZR r1
 cases ru
 cases ru2
 obtain ⟨its,rv,pl,_⟩:=YJ I1 hq
 obtain ⟨its2,rv2,pl2,_⟩:=YJ I1 hq2
 refine Gq pl pl2 λh' z1 z2 z3 z4 z5 kk=>?_
 refine wpAny_pyIter_zip z1 ?_
 have I2:Inv X pins σ H1 { s1 with heap:=h',toks:=s1.toks }:=I1.kept kk
 have la:a<s1.heap.objs.size:=pl.lt
 have lb:b<s1.heap.objs.size:=pl2.lt
 have D:ZipApart (s1.heap.objs.size+4) (s1.heap.objs.size+2) (s1.heap.objs.size+3) s1.heap.objs.size (s1.heap.objs.size+1) a b:=by
  constructor <;> first | exact Nat.ne_of_lt la | exact Nat.ne_of_lt lb | exact Nat.ne_of_lt (Nat.lt_of_lt_of_le la (Nat.le_add_right _ _)) | exact Nat.ne_of_lt (Nat.lt_of_lt_of_le lb (Nat.le_add_right _ _)) | (apply Nat.ne_of_lt;omega) | (apply Nat.ne_of_gt;omega)
 refine ⟨_,[s1.heap.objs.size+4,s1.heap.objs.size+2,s1.heap.objs.size+3,s1.heap.objs.size,s1.heap.objs.size+1],_,_,H1,rfl,I2,Yu D,⟨.none,.none,z1,z2,z3,z4,z5⟩,λc hc=>?_,q⟩
 have hle:s1.heap.objs.size<=c:=by
  simp only [List.mem_cons,List.not_mem_nil,or_false] at hc
  rcases hc with rfl | rfl | rfl | rfl | rfl
  ·exact Nat.le_add_right _ _
  ·exact Nat.le_add_right _ _
  ·exact Nat.le_add_right _ _
  ·exact Nat.le_refl _
  ·exact Nat.le_add_right _ _
 exact I1.fpOk hle (I1.hok.fresh hle)
end
theorem vj {K:PySem.W.Frag}{t0 u0:Bool}{a b acc:Addr}{xs ys:List V}{g:TG}{ti:TT}{te:TE}{R:Hp->Prop}{σ:St}{H:Hp}(hl2:xs.length=ys.length) (Pv:Nat->St->Hp->Prop) (h0:Pv 0 σ H) (hl:∀i σ H,i<=xs.length->Pv i σ H->SqK t0 K H a xs/\SqK u0 K H b ys)
  (hs:∀i x y σ H t,xs[i]? = some x->ys[i]? = some y->Pv i σ H->H t=none->g (.ref t) σ (upd H t (.tup [x,y])) λσ3 H3=>ti σ3 H3 λok H4=>if ok=true then te σ3 H4 λv H5=>∃zs,H5 acc=some (.lst zs)/\zs.length<sizeLine/\Pv (i+1) σ3 (upd H5 acc (.lst (zs++[v]))) else Pv (i+1) σ3 H4)
  (hd:∀σ H,Pv xs.length σ H->R H) :
  ∃W:Nat->Nat->St->Hp->Prop,(∃m,W 0 m σ H)/\∀i m σ' H',W i m σ' H' ->
   ((VX K t0 u0 a b).stop i H'/\R H')\/((VX K t0 u0 a b).go i H'/\∃NX:St->Hp->Prop,(∀σ2 H2,NX σ2 H2->∃m',m'<m/\W (i+1) m' σ2 H2) /\
    ∀x H2,(VX K t0 u0 a b).yld i H' x H2->g x σ' H2 λσ3 H3=>ti σ3 H3 λok H4=>if ok=true then te σ3 H4 λv H5=>∃zs,H5 acc=some (.lst zs)/\zs.length<sizeLine/\NX σ3 (upd H5 acc (.lst (zs++[v]))) else NX σ3 H4):=by
 refine ⟨λi m σ H=>m=xs.length-i/\i<=xs.length/\Pv i σ H,⟨xs.length,by simp,Nat.zero_le _,h0⟩,?_⟩
 rintro i m σ H ⟨rfl,hi,p⟩
 obtain ⟨q,q2⟩:=hl i σ H hi p
 by_cases hlt:i<xs.length
 ·refine .inr ⟨⟨xs,ys,xs[i],ys[i]'∅,q,q2,by simp [hlt],List.getElem?_eq_getElem ∅⟩,Pv (i+1),λσ' H' p'=>⟨xs.length-(i+1),∅,rfl,hlt,p'⟩,λv H' y=>?_⟩
  obtain ⟨t,x,y',rfl,hn,rfl,y1,y2⟩:=y
  exact hs i x y' σ H t (y1 xs q) (y2 ys q2) p hn
 ·have e:i=xs.length:=∅
  subst e
  exact .inl ⟨⟨xs,ys,q,q2,.inl (Nat.le_refl _)⟩,hd σ H p⟩
end L2
end
section
namespace L2
open PySem.W
mutual
inductive Dat (H:Hp):V->PyData->Prop
 | non:Dat H .non .none
 | bl (b:Bool):Dat H (.bl b) (.bool b)
 | int (i:Int):Dat H (.int i) (.int i)
 | str (x:Str):Dat H (.str x) (.str x)
 | tup {p:Addr} {vs:List V} {ds:List PyData}:H p=some (.tup vs)->DatL H vs ds->Dat H (.ref p) (.tuple ds)
 | lst {p:Addr} {vs:List V} {ds:List PyData}:H p=some (.lst vs)->DatL H vs ds->Dat H (.ref p) (.list ds)
inductive DatL (H:Hp):List V->List PyData->Prop
 | nil:DatL H [] []
 | cons {v:V} {vs:List V} {d:PyData} {ds:List PyData}:Dat H v d->DatL H vs ds->DatL H (v::vs) (d::ds)
end
mutual
theorem Dat.ext {M:Addr->Prop}{H H':Hp}(x:Ul M H H') (hM:∀c,M c->∀vs,H c≠some (.lst vs)/\H c≠some (.tup vs)):∀{v:V}{d:PyData},Dat H v d->Dat H' v d
 | _,_,.non=>.non
 | _,_,.bl b=>.bl b
 | _,_,.int i=>.int i
 | _,_,.str y=>.str y
 | _,_,.tup h r=>.tup (x _ _ h λz=>(hM _ z _).2 h) (DatL.ext x hM r)
 | _,_,.lst h r=>.lst (x _ _ h λz=>(hM _ z _).1 h) (DatL.ext x hM r)
theorem DatL.ext {M:Addr->Prop}{H H':Hp}(x:Ul M H H') (hM:∀c,M c->∀vs,H c≠some (.lst vs)/\H c≠some (.tup vs)):∀{vs:List V}{ds:List PyData},DatL H vs ds->DatL H' vs ds
 | _,_,.nil=>.nil
 | _,_,.cons h r=>.cons (Dat.ext x hM h) (DatL.ext x hM r)
end
theorem Dat.same {H H':Hp}{v:V}{d:PyData}(s:jf H H') (h:Dat H v d):Dat H' v d:=h.ext (M:=λ_=>False) (Ul.of_same s) (λ_ z=>z.elim)
theorem DatL.length {H:Hp}:∀{vs:List V}{ds:List PyData},DatL H vs ds->vs.length=ds.length
 | _,_,.nil=>rfl
 | _,_,.cons _ r=>congrArg Nat.succ r.length
theorem DatL.get {H:Hp}:∀{vs:List V}{ds:List PyData}{i:Nat}{v:V},DatL H vs ds->vs[i]? = some v->∃d,ds[i]? = some d/\Dat H v d
 | _,_,_,_,.nil,e=>by simp at e
 | _,_,0,_,.cons r _,e=>by simp at e;subst e;exact ⟨_,rfl,r⟩
 | _,_,i+1,v,.cons _ t,e=>by
  obtain ⟨d,h1,h2⟩:=DatL.get (i:=i) (v:=v) t (by simpa using e)
  exact ⟨d,by simpa using h1,h2⟩
def vQ:Nat->PyData->Bool
 | 0,_=>false
 | _+1,.none=>true
 | _+1,.bool _=>true
 | _+1,.int _=>true
 | _+1,.str _=>true
 | n+1,.list ds=>decide (ds.length<=1000) && ds.all (vQ n)
 | n+1,.tuple ds=>decide (ds.length<=1000) && ds.all (vQ n)
 | _+1,_=>false
def Wo (n:Nat):Sp:=λvs H Q _=>∃(x y:V) (d:PyData),vs=[x,y]/\Dat H x d/\Dat H y d/\vQ n d=true/\∀H',jf H H'->Q (.bl true) H'
theorem QU (K:PySem.W.Frag):PySem.W.kitOne K (.type "str") (.type "bool")=some false:=(qm K _ _).trans (by decide +kernel)
theorem Zb (K:PySem.W.Frag):PySem.W.kitOne K (.type "str") (.type "int")=some false:=(qm K _ _).trans (by decide +kernel)
theorem kG (K:PySem.W.Frag):PySem.W.kitOne K (.type "str") (.type "str")=some true:=(qm K _ _).trans (by decide +kernel)
end L2
end
section
namespace L2
open PySem.W
def Two (vs:Array Value) (a0:Value):Prop:=vs[0]? = some a0/\vs[2]? = some .none
theorem Two.put {vs:Array Value}{a0:Value}(t:Two vs a0) (x:Value):Two (vs.setIfInBounds 1 x) a0 :=
 ⟨by rw [Array.getElem?_setIfInBounds_ne ⋯];exact t.1,by rw [Array.getElem?_setIfInBounds_ne ⋯];exact t.2⟩
theorem VH (o:Obj) (f:Array Value->Array Value):(o.mapFields f).dict=o.dict:=by
 obtain ⟨c,d,dt,sl⟩:=o
 cases dt <;> rfl
def OnT (h B:Heap) (e:Addr) (cls a0 fl:Value):Prop :=
 ∃oe vs T oT ts,h.get? e=some oe/\(oe.cls=cls/\Two vs a0/\oe.dict=none)/\oe.data = .fields vs/\vs[1]? = some (.ref T)/\B.get? T=none/\T≠e/\h.get? T=some oT/\oT.data = .fields ts/\ts[3]? = some fl
section
variable {M:Model}{A:Around}{E:Value->Shared->Prop}{s:Shared}{B:Heap}{env:Env}{outer l:List Env}{L e:Addr}{cls a0 fl:Value}{Q:Unit->Shared->Prop}
theorem kC (st:B.StaysIn s.heap) (fu:s.heap.FunFrames B l) (on:OnT s.heap B e cls a0 fl)
  (k:∀g,B.StaysIn g->g.FunFrames B l->OnT g B e cls a0 .none->(∀b o,s.heap.get? b=some o->(∀vs,o.data≠.fields vs)->g.get? b=some o)->Q () { s with heap:=g }):wpAny M A (setFlight (.ref e) none) Q E s:=by
 obtain ⟨oe,vs,T,oT,ts,ge,gc,gd,g1,gB,gn,gT,gD,g3⟩:=on
 have z3:3<ts.size:=(Array.getElem?_eq_some_iff.mp g3).1
 have ot:∀b,b≠T->(s.heap.update T (Obj.mapFields (·.setIfInBounds 3 ((none:Option Addr).elim Value.none λf=>rawInt f)))).get? b=s.heap.get? b:=λb hb =>
  Heap.get?_update_other _ _ hb.symm
 have nr:∀{b o},s.heap.get? b=some o->(∀vs,o.data≠.fields vs)->b≠T:=λhb hn q=>by
  rw [q,gT] at hb
  cases hb
  exact hn ts gD
 unfold setFlight
 refine wpAny_bind (wpAny_field ge gd g1 ?_)
 rw [if_pos (by simp)]
 refine wpAny_setField gT gD z3 (k _ (λb o hb=>?_) (fu.of_keeps λb o hb hn=>⟨o,?_,rfl⟩) ?_ λb o hb hn=>?_)
 ·rw [ot b λq=>by rw [q,gB] at hb;cases hb]
  exact st b o hb
 ·rw [ot b (nr hb hn)]
  exact hb
 ·refine ⟨oe,vs,T,_,_,?_,gc,gd,g1,gB,gn,Heap.get?_update_self _ gT (Obj.isFreed_of_fields (Obj.data_mapFields gD _)),Obj.data_mapFields gD _,by simp [z3]⟩
  rw [ot e gn.symm]
  exact ge
 ·rw [ot b (nr hb hn)]
  exact hb
theorem QV {oe:Obj}{vs:Array Value}{head:Value}{nx:Bool}(fr:A.frames=some (env::outer)) (fu:s.heap.FunFrames B (env::outer)) (hL:env.frame=some L) (ge:s.heap.get? e=some oe) (st:B.StaysIn s.heap) (ne:B.get? e=none) (gd:oe.data = .fields vs)
  (z1:1<vs.size) (tw:Two vs a0) (dn:oe.dict=none) (k:∀g,B.StaysIn g->g.FunFrames B (env::outer)->OnT g B e oe.cls a0 (rawInt L)->s.heap.UpToSlots g->Q () { s with heap:=g }) :
  wpAny M A (do let a <- frameOf env;let pl <- entryPlaceOf L nx;let b <- EntryCells.newEntry head a .none (rawInt L) .none pl;setField (.ref e) 1 b) Q E s:=by
 have out:e∉(env::outer).filterMap (·.frame):=λq=>by
  obtain ⟨_,o,ho,hn⟩:=fu.mem q
  rw [ge] at ho
  cases ho
  exact hn vs gd
 refine wpAny_bind (wpAny_frameOf_fun fr fu hL λg1 so=>?_)
 refine wpAny_bind (wpAny_entryPlaceOf λpl sh=>?_)
 unfold EntryCells.newEntry newFields
 refine wpAny_bind (wpAny_newObj_type ?_ (sh.sizeOk5 _ _ _ _ _))
 have e1:g1.get? e=some oe:=(so.2.1 e out).trans ge
 have s1:B.StaysIn g1:=λb o hb=>(so.2.1 b λq=>by rw [(fu.mem q).1] at hb;cases hb).trans (st b o hb)
 generalize hnew:({ cls:=.type "traceback",dict:=none,data:=.fields ([head,.ref L,.none,rawInt L,.none]++(if pl.isEmpty then List.replicate 6 Value.none else pl)).toArray }:Obj)=new
 have nd:new.data = .fields ([head,.ref L,.none,rawInt L,.none]++(if pl.isEmpty then List.replicate 6 Value.none else pl)).toArray:=by rw [<- hnew]
 have e2:=Heap.get?_push_of_some (h:=g1) new e1
 refine wpAny_setField e2 gd z1 ?_
 have Te:g1.objs.size≠e:=Nat.ne_of_gt (Heap.lt_size e1)
 have d3:=Obj.data_mapFields gd (·.setIfInBounds 1 (Value.ref g1.objs.size))
 have e3:=Heap.get?_update_self (Obj.mapFields (·.setIfInBounds 1 (Value.ref g1.objs.size))) e2 (Obj.isFreed_of_fields d3)
 have T3:((g1.push new).update e (Obj.mapFields (·.setIfInBounds 1 (Value.ref g1.objs.size)))).get? g1.objs.size=some new:=by
  rw [Heap.get?_update_other _ _ Te.symm]
  exact Heap.get?_push_size g1 (Obj.isFreed_of_fields nd)
 have kp:∀{b o},b≠e->g1.get? b=some o->((g1.push new).update e (Obj.mapFields (·.setIfInBounds 1 (Value.ref g1.objs.size)))).get? b=some o:=λhb q=>by
  rw [Heap.get?_update_other _ _ hb.symm]
  exact Heap.get?_push_of_some _ q
 have nr:∀{b o},s.heap.get? b=some o->(∀vs,o.data≠.fields vs)->b≠e:=λhb hn q=>by
  rw [q,ge] at hb
  cases hb
  exact hn vs gd
 refine k _ (λb o hb=>kp (λq=>by rw [q,ne] at hb;cases hb) (s1 b o hb)) (fu.of_keeps λb o hb hn=>?_) ?_ λb o hb hn=>?_
 ·obtain ⟨sl,hs⟩:=so.2.2 b o hb
  exact ⟨_,kp (nr hb hn) hs,rfl⟩
 ·exact ⟨_,_,g1.objs.size,_,_,e3,⟨Obj.cls_mapFields _ _,tw.put _,(VH _ _).trans dn⟩,d3,by simp [z1],s1.fresh,Te,T3,nd,by first | (simp;done) | (rcases sh with rfl | ⟨_,_,_,_,_,_,_,rfl⟩ <;> simp)⟩
 ·obtain ⟨sl,hs⟩:=so.2.2 b o hb
  exact ⟨sl,kp (nr hb hn) hs⟩
theorem WA (fr:A.frames=some (env::outer)) (fu:s.heap.FunFrames B (env::outer)) (hL:env.frame=some L) (on:OnT s.heap B e cls a0 .none) (st:B.StaysIn s.heap) (ne:B.get? e=none)
  (k:∀g,B.StaysIn g->g.FunFrames B (env::outer)->OnT g B e cls a0 (rawInt L)->s.heap.UpToSlots g->Q () { s with heap:=g }):wpAny M A (noteFrame (.ref e) env) Q E s:=by
 obtain ⟨oe,vs,T,oT,ts,ge,⟨rfl,tw,dn⟩,gd,g1,gB,gn,gT,gD,g3⟩:=on
 unfold noteFrame
 simp only [hL]
 refine wpAny_bind (wpAny_field ge gd g1 ?_)
 rw [if_pos (by simp)]
 refine wpAny_bind (wpAny_field gT gD g3 ?_)
 rw [if_neg (by simp [rawInt])]
 refine wpAny_bind (wpAny_setField gT gD (Array.getElem?_eq_some_iff.mp g3).1 ?_)
 have ot:∀b,b≠T->(s.heap.update T (Obj.mapFields (·.setIfInBounds 3 Value.none))).get? b=s.heap.get? b:=λb hb =>
  Heap.get?_update_other _ _ hb.symm
 have nr:∀{b o},s.heap.get? b=some o->(∀vs,o.data≠.fields vs)->b≠T:=λhb hn q=>by
  rw [q,gT] at hb
  cases hb
  exact hn ts gD
 refine QV (oe:=oe) (vs:=vs) (a0:=a0) fr (fu.of_keeps λb o hb hn=>⟨o,?_,rfl⟩) hL ?_ (λb o hb=>?_) ne gd (Array.getElem?_eq_some_iff.mp g1).1 tw dn λg k1 k2 k3 k4=>k g k1 k2 k3 λb o hb hn=>?_
 ·exact (ot b (nr hb hn)).trans hb
 ·exact (ot e gn.symm).trans ge
 ·exact (ot b λq=>by rw [q,gB] at hb;cases hb).trans (st b o hb)
 ·exact k4 b o ((ot b (nr hb hn)).trans hb) hn
theorem U9 (fr:A.frames=some (env::outer)) (fu:s.heap.FunFrames B (env::outer)) (hL:env.frame=some L) (on:OnT s.heap B e cls a0 .none) (st:B.StaysIn s.heap) (ne:B.get? e=none)
  (k:∀g,B.StaysIn g->g.FunFrames B (env::outer)->OnT g B e cls a0 .none->s.heap.UpToSlots g->Q () { s with heap:=g }):wpAny M A (leaving env (.ref e)) Q E s:=by
 unfold leaving
 refine wpAny_bind (WA fr fu hL on st ne λg k1 k2 k3 k4=>?_)
 exact kC (s:={ s with heap:=g }) k1 k2 k3 λg' m1 m2 m3 m4=>k g' m1 m2 m3 (k4.trans λb o hb hn=>⟨o.slots,m4 b o hb hn⟩)
theorem Zj {h:Heap}{args:List Value}(fr:A.frames=some (env::outer)) (hL:env.frame=some L) (st:B.StaysIn h) (fu:h.FunFrames B (env::outer)) (hx:Heap.MadeExcOf h s.heap e cls args)
  (k:∀g t,B.StaysIn g->g.FunFrames B (env::outer)->OnT g B e cls (.ref t) .none->B.get? e=none->s.heap.UpToSlots g->Q () { s with heap:=g }):wpAny M A (leaving env (.ref e)) Q E s:=by
 obtain ⟨t,ge,tn,gt⟩:=hx.there
 have new:B.get? e=none:=by
  cases q:B.get? e with
  | none=>rfl
  | some o =>
   have:=st e o q
   rw [hx.new] at this
   cases this
 unfold leaving noteFrame
 simp only [hL]
 refine wpAny_bind (wpAny_bind (wpAny_field (x:=.none) ge rfl rfl ?_))
 rw [if_neg ⋯]
 refine QV (a0:=.ref t) fr (fu.of_keeps λb o hb _=>⟨o,hx.keeps b o hb,rfl⟩) hL ge (λb o hb=>hx.keeps b o (st b o hb)) new rfl (by simp) ⟨rfl,rfl⟩ rfl λg k1 k2 k3 k4=>?_
 exact kC (s:={ s with heap:=g }) k1 k2 k3 λg' m1 m2 m3 m4=>k g' t m1 m2 m3 new (k4.trans λb o hb hn=>⟨o.slots,m4 b o hb hn⟩)
end
end L2
end
section
namespace L2
open PySem.W
structure Fly (g:Heap) (H:Hp) (h:Heap) (a:Addr) (cls fl:Value):Prop where
 na:g.get? a=none
 ha:H a=none
 ob:∃oe vs T oT ts a0,h.get? a=some oe/\(oe.cls=cls/\Two vs a0/\oe.dict=none)/\oe.data = .fields vs/\vs[1]? = some (.ref T)/\g.get? T=none/\H T=none/\T≠a/\h.get? T=some oT/\oT.data = .fields ts/\ts[3]? = some fl
theorem Fly.mono {g g':Heap}{H:Hp}{h:Heap}{a:Addr}{cls fl:Value}(f:Fly g H h a cls fl) (l:∀b o,g'.get? b=some o->∃o',g.get? b=some o'):Fly g' H h a cls fl:=by
 have no:∀{b},g.get? b=none->g'.get? b=none:=λ{b} e=>by
  cases q:g'.get? b with
  | none=>rfl
  | some o =>
   obtain ⟨o',e'⟩:=l b o q
   rw [e] at e'
   cases e'
 obtain ⟨oe,vs,T,oT,ts,a0,h1,h2,h3,h4,h5,h6⟩:=f.ob
 exact ⟨no f.na,f.ha,oe,vs,T,oT,ts,a0,h1,h2,h3,h4,no h5,h6⟩
def CX1 (P:Program) (w:World):CXT:=λouter H s E e s' =>
 ∃a cls H',e = .ref a/\s'.os=s.os/\AllBare s'.gens/\Un (frs outer) [] H H' s.heap s'.heap/\HOk P w H' s'.heap/\Fly s.heap H' s'.heap a cls .none/\E cls none H'
def yc (X:Cx) (pins:List (Addr×Obj)) (σ:St) (H':Hp) (s1:Shared) (a:Addr) (cls fl:Value):Prop :=
 ∃s H,Inv X pins σ H s/\s1.os=s.os/\AllBare s1.gens/\Un (frs X.stack) [] H H' s.heap s1.heap/\HOk X.prog X.w H' s1.heap/\Fly s.heap H' s1.heap a cls fl
theorem kh {P:Program}{w:World}{H:Hp}{h:Heap}{a:Addr}{o:HO}(x:qp P w H h a o):∃ob,h.get? a=some ob:=by
 cases o with
 | lst xs=>obtain ⟨_,_,_,_,e⟩:=x;exact ⟨_,e⟩
 | tup xs=>obtain ⟨_,_,_,ob,e,_⟩:=x;exact ⟨_,e⟩
 | dK kvs=>obtain ⟨_,_,_,_,ob,_,_,e,_⟩:=x;exact ⟨_,e⟩
 | dT kvs=>obtain ⟨_,_,_,_,ob,_,_,e,_⟩:=x;exact ⟨_,e⟩
 | set S n=>obtain ⟨ob,_,_,_,e,_⟩:=x;exact ⟨_,e⟩
 | ins C dx fs=>obtain ⟨_,_,_,e,_⟩:=x;exact ⟨_,e⟩
 | own y=>exact x
 | xd fs=>obtain ⟨_,⟨_,_,_,e,_⟩,_⟩:=x;exact ⟨_,e⟩
 | rng lo hi=>obtain ⟨_,_,_,e⟩:=x;exact ⟨_,e⟩
 | frz ob u=>obtain ⟨e,_⟩:=x;exact ⟨_,e⟩
 | tbl ps=>exact ⟨_,(show h.get? a=some _ from x)⟩
 | met f y=>exact ⟨_,(show h.get? a=some _ from x)⟩
 | ext φ=>obtain ⟨_,e,_⟩:=x;exact e
section
variable {X:Cx}{pins:List (Addr×Obj)}{σ:St}{H H':Hp}{s s1:Shared}{a:Addr}{cls fl:Value}
theorem yc.inv (f:yc X pins σ H' s1 a cls fl):Inv X pins σ H' s1:=by
 obtain ⟨s,H,I,os,b,u,ok,fy⟩:=f
 exact I.call' os u ok b (λb z=>absurd z (by simp))
theorem yc.fly (hex:X.ex=[]) (f:yc X pins σ H' s1 a cls fl):Fly X.s₀.heap H' s1.heap a cls fl:=by
 obtain ⟨s,H,I,os,b,u,ok,fy⟩:=f
 exact fy.mono λc o e=>I.base.there c o e (by rw [hex];exact λz=>by cases z)
theorem yc.under (f:yc X pins σ H' s1 a cls .none):∃B a0,(B.StaysIn s1.heap/\B.get? a=none/\s1.heap.FunFrames B X.stack/\OnT s1.heap B a cls a0 .none) /\
  ∀h2 fl2,B.StaysIn h2->s1.heap.UpToSlots h2->OnT h2 B a cls a0 fl2->yc X pins σ H' { s1 with heap:=h2 } a cls fl2:=by
 have I1:=f.inv
 obtain ⟨s,H,I,os,b,u,ok,fy⟩:=f
 obtain ⟨oe,vs,T,oT,ts,a0,h1,h2,h3,h4,h5,h6,h7,h8,h9,h10⟩:=fy.ob
 have fr:=I1.stack
 have fs:∀b∈frs X.stack,b≠a/\b≠T:=λb hb=>by
  obtain ⟨_,o,ho,hn⟩:=fr.mem hb
  refine ⟨λz=>?_,λz=>?_⟩
  ·rw [z,h1] at ho;cases ho;exact hn _ h3
  ·rw [z,h8] at ho;cases ho;exact hn _ h9
 have in_:∀env∈X.stack,∀c,env.frame=some c->c∈a::T::frs X.stack:=λenv he c hc=>List.mem_cons_of_mem _ (List.mem_cons_of_mem _ (List.mem_filterMap.mpr ⟨env,he,hc⟩))
 have noB:∀{c o},s1.heap.get? c=some o->c≠a->c≠T->c∉frs X.stack->(hideAll s1.heap (a::T::frs X.stack)).get? c=some o:=λe n1 n2 n3 =>
  hideAll_get _ e (by simp only [List.mem_cons,not_or];exact ⟨n1,n2,n3⟩)
 refine ⟨hideAll s1.heap (a::T::frs X.stack),a0,⟨λb o q=>of_hideAll _ q,hideAll_none _ (.head _),funFrames_hide fr in_,oe,vs,T,oT,ts,h1,h2,h3,h4,hideAll_none _ (.tail _ (.head _)),h7,h8,h9,h10⟩,λhp fl2 st up tr=>?_⟩
 have lo:∀{c o},s.heap.get? c=some o->c≠a/\c≠T:=λ{c o} e=>⟨λz=>(by rw [z,fy.na] at e;cases e),λz=>(by rw [z,h5] at e;cases e)⟩
 have frn:∀{c o},s1.heap.get? c=some o->c∈frs X.stack->∀vs,o.data≠.fields vs:=λe hc=>by
  obtain ⟨_,o',ho,hn⟩:=fr.mem hc
  rw [e] at ho;cases ho;exact hn
 refine ⟨s,H,I,os,b,⟨λc o e n nf nx=>?_,λc o e n hf nx=>?_,λc o e n nx=>u.free c o e n nx,λc o e nx=>?_,u.tups,u.frzs,u.tbls⟩,λc o hc=>?_,?_⟩
 ·exact st _ _ (noB (u.keep c o e n nf nx) (lo e).1 (lo e).2 nf)
 ·obtain ⟨sl,e1⟩:=u.slot c o e n hf nx
  obtain ⟨sl2,e2⟩:=up c _ e1 (frn e1 hf)
  exact ⟨sl2,e2⟩
 ·obtain ⟨o1,e1⟩:=u.there c o e nx
  by_cases hf:c∈frs X.stack
  ·obtain ⟨sl2,e2⟩:=up c _ e1 (frn e1 hf)
   exact ⟨_,e2⟩
  ·exact ⟨o1,st _ _ (noB e1 (lo e).1 (lo e).2 hf)⟩
 ·refine (ok c o hc).stay (λc' o' hc' e=>?_) (λ_ e=>e) λ_ _ e=>e
  have hne:H' c'≠none:=by
   rcases hc' with z | z
   ·rw [z,hc];exact λy=>by cases y
   ·rw [z];exact λy=>by cases y
  exact st _ _ (noB e (λz=>hne (by rw [z];exact fy.ha)) (λz=>hne (by rw [z];exact h6)) λz=>hne (I1.stkFree _ z))
 ·obtain ⟨oe2,vs2,T2,oT2,ts2,g1,g2,g3,g4,g5,g6,g7,g8,g9⟩:=tr
  have key:T2=T\/s1.heap.get? T2=none:=by
   cases q:s1.heap.get? T2 with
   | none=>exact .inr rfl
   | some o =>
    refine .inl ?_
    by_cases hT:T2=T
    ·exact hT
    ·by_cases hf:T2∈frs X.stack
     ·obtain ⟨sl2,e2⟩:=up T2 _ q (frn q hf)
      rw [e2] at g7
      cases g7
      exact absurd g8 (frn q hf _)
     ·have:=noB q g6 hT hf
      rw [g5] at this
      cases this
  refine ⟨fy.na,fy.ha,oe2,vs2,T2,oT2,ts2,a0,g1,g2,g3,g4,?_,?_,g6,g7,g8,g9⟩
  ·rcases key with z | z
   ·rw [z];exact h5
   ·cases q:s.heap.get? T2 with
    | none=>rfl
    | some o =>
     obtain ⟨o',e'⟩:=u.there T2 o q (by simp)
     rw [z] at e'
     cases e'
  ·rcases key with z | z
   ·rw [z];exact h6
   ·cases q:H' T2 with
    | none=>rfl
    | some o =>
     obtain ⟨o',e'⟩:=kh (ok T2 o q)
     rw [z] at e'
     cases e'
theorem yc.leave {Q:Unit->Shared->Prop}{E:Value->Shared->Prop}(f:yc X pins σ H' s1 a cls .none) (st:X.stack=X.env::X.outer) (hf:X.env.frame=some X.env.locals)
  (k:∀h2,yc X pins σ H' { s1 with heap:=h2 } a cls .none->Q () { s1 with heap:=h2 }):wpAny (model X.prog X.w) X.A (leaving X.env (.ref a)) Q E s1:=by
 obtain ⟨B,a0,fw,up⟩:=f.under
 have fr:X.A.frames=some (X.env::X.outer):=by rw [<- st];exact f.inv.ok.frames
 rw [st] at fw
 obtain ⟨f1,f2,f3,f4⟩:=fw
 exact U9 fr f3 hf f4 f1 f2 λh2 k1 k2 k3 k4=>k h2 (up h2 .none k1 k4 k3)
theorem Zo {vs:List Value}{h1:Heap}{Q:Unit->Shared->Prop}{E:Value->Shared->Prop}(I:Inv X pins σ H s) (hx:Heap.MadeExcOf s.heap h1 a cls vs) (st:X.stack=X.env::X.outer) (hf:X.env.frame=some X.env.locals)
  (k:∀h2,yc X pins σ H { s with heap:=h2 } a cls .none->Q () { s with heap:=h2 }):wpAny (model X.prog X.w) X.A (leaving X.env (.ref a)) Q E { s with heap:=h1 }:=by
 have fr:X.A.frames=some (X.env::X.outer):=by rw [<- st];exact I.ok.frames
 have fun0:=I.stack
 have in_:∀env∈X.stack,∀c,env.frame=some c->c∈frs X.stack:=λenv he c hc=>List.mem_filterMap.mpr ⟨env,he,hc⟩
 have fun1:=funFrames_hide fun0 in_
 have frn:∀{c o},s.heap.get? c=some o->c∈frs X.stack->∀vs,o.data≠.fields vs:=λe hc=>by
  obtain ⟨_,o',ho,hn⟩:=fun0.mem hc
  rw [e] at ho;cases ho;exact hn
 rw [st] at fun1
 refine Zj (s:={ s with heap:=h1 }) (B:=hideAll s.heap (frs (X.env::X.outer))) (h:=s.heap) fr hf (λb o q=>of_hideAll _ q) fun1 hx λh2 t b1 b2 fw b3 up=>?_
 rw [<- st] at fw b1
 obtain ⟨oe,ws,T,oT,ts,g1,g2,g3,g4,g5,g6,g7,g8,g9⟩:=fw
 have keepB:∀{c o},s.heap.get? c=some o->c∉frs X.stack->h2.get? c=some o:=λe n=>b1 _ _ (hideAll_get _ e n)
 have slotB:∀{c o},s.heap.get? c=some o->c∈frs X.stack->∃sl,h2.get? c=some { o with slots:=sl }:=λ{c o} e hc=>up c o (hx.keeps _ _ e) (frn e hc)
 have nT:s.heap.get? T=none:=by
  cases q:s.heap.get? T with
  | none=>rfl
  | some o =>
   exfalso
   by_cases hc:T∈frs X.stack
   ·obtain ⟨sl,e⟩:=slotB q hc
    rw [e] at g7
    cases g7
    exact frn q hc _ g8
   ·rw [hideAll_get _ q hc] at g5
    cases g5
 have hn:∀{c},s.heap.get? c=none->H c=none:=λ{c} e=>by
  cases q:H c with
  | none=>rfl
  | some o =>
   obtain ⟨o',e'⟩:=kh (I.hok c o q)
   rw [e] at e'
   cases e'
 refine k h2 ⟨s,H,I,rfl,I.bare,⟨λc o e n nf nx=>keepB e nf,λc o e n hf nx=>slotB e hf,λc o e n nx=>n,λc o e nx=>?_,λ_ _ e=>e,λ_ _ _ e=>e,λc ps e=>⟨#[],by rw [e];simp⟩⟩,λc o hc=>?_,hx.new,hn hx.new,oe,ws,T,oT,ts,.ref t,g1,g2,g3,g4,nT,hn nT,g6,g7,g8,g9⟩
 ·by_cases hc:c∈frs X.stack
  ·obtain ⟨sl,e2⟩:=slotB e hc
   exact ⟨_,e2⟩
  ·exact ⟨o,keepB e hc⟩
 ·refine (I.hok c o hc).stay (λc' o' hc' e=>?_) (λ_ e=>e) λ_ _ e=>e
  refine keepB e λz=>?_
  have:=I.stkFree _ z
  rcases hc' with y | y
  ·rw [y,hc] at this;cases this
  ·rw [y] at this;cases this
end
def Acc (X:Cx) (J:Value->St->Hp->Prop):Prop:=∀(pins:List (Addr×Obj)) (σ:St) (H':Hp) (s1:Shared) (a:Addr) (cls:Value),yc X pins σ H' s1 a cls .none->J cls σ H'->X.xe (.ref a) s1
def GC (sp:Sp) (J:Value->St->Hp->Prop) (t:TA):TE:=λσ H Q=>t σ H λvs H1=>sp vs H1 Q λcls _ H'=>J cls σ H'
structure CalX (P:Program) (w:World) (K:PySem.W.Frag) (mg:Str->Option Value) (base:Heap) (k:Nat) (x:Str) (ps:List Str) (sp:Sp):Prop where
 ex:∃f fd,FnOk P w K mg base (CX1 P w) k f fd ps sp/\y7 K fd ps []/\mg x=some (.ref f)/\PySem.W.keepIn K (.ref f)=true
theorem qM {X:Cx}{k:Nat}{x:Str}{ps:List Str}{sp:Sp}{e:Expr}{es:List Expr}{t:TA}{p pos:Pos}{J:Value->St->Hp->Prop}(c:CalX X.prog X.w X.K X.mg X.base k x ps sp) (hr:Room k X.A) (ac:Acc X J) (hg:Gl X x) (ha:PA X (e::es) t)
  (hdb:(x == ("__debug__" : Str))=false:=by decide) (he:starEach (e::es) X.env=(false,eval e X.env)::starEach es X.env:=by rfl) (hpl:(backTo pos (starEach es X.env)).any (·.1)=false:=by rfl) :
  PE X (.Call (.Name x p) (e::es) [] pos) (GC sp J t):=by
 obtain ⟨f,fd,F,hb,hm,hk⟩:=c.ex
 intro pins s σ H Q I h
 refine wpAny_Call_Name_kw (uN I hg hm ?_ hdb)
 refine PySem.W.callWith_K (h₀:=X.base) I.ok.mod.kin hk (thn (ha pos pins s σ H _ I h) λus s1 ⟨vs,H1,I1,r,q⟩=>⟨I1.kIn,?_⟩) he hpl
 have hl:us.length=ps.length:=by rw [<- r.length];exact F.len _ _ _ _ q
 have hb':=hb s1 us I1.kIn (by rw [List.append_nil];exact hl)
 rw [List.append_nil] at hb'
 refine wpAny_call (codeAny_mono (F.run X.A X.stack s1 H1 ⟨us,[]⟩ us vs Q _ hr I1.env0 hb' r q) λr s' hq=>?_)
 cases r with
 | error e =>
  obtain ⟨a,cls,H',rfl,os,b,u,ok,fy,j⟩:=hq
  exact ac pins σ H' s' a cls ⟨s1,H1,I1,os,b,u,ok,fy⟩ j
 | ok fl =>
  cases fl with
  | ret u=>exact I1.after hq
  | next=>exact False.elim hq
  | brk=>exact False.elim hq
  | cont=>exact False.elim hq
theorem CalX.cal {P:Program}{w:World}{K:PySem.W.Frag}{mg:Str->Option Value}{base:Heap}{k:Nat}{x:Str}{ps:List Str}{sp:Sp}(c:CalX P w K mg base k x ps sp):Cal P w K mg base k x ps (λvs H Q _=>sp vs H Q E0):=by
 obtain ⟨f,fd,F,hb,hm,hk⟩:=c.ex
 refine ⟨f,fd,⟨λvs H Q E h=>F.len vs H Q E0 h,λA outer s H args us vs Q E hr he hb hv hs=>codeAny_mono (F.run A outer s H args us vs Q E0 hr he hb hv hs) λr s' q=>?_⟩,hb,hm,hk⟩
 cases r with
 | error e =>
  obtain ⟨a,cls,H',_,_,_,_,_,_,j⟩:=q
  exact False.elim j
 | ok fl =>
  cases fl with
  | ret u=>exact q
  | next=>exact q
  | brk=>exact q
  | cont=>exact q
theorem jQ {P:Program}{w:World}{K:PySem.W.Frag}{mg:Str->Option Value}{base:Heap}{N:List Str}{qual:Str}{scope:Scope}{f:Addr}{cd:Value}{A:Around}{outer:List Env}{s:Shared}{H:Hp}{E:XK} :
  Acc (vX (CX1 P w) P w K mg base N qual scope f cd A outer s H E) λcls _ H'=>E cls none H':=by
 intro pins σ H' s1 a cls fl j
 refine yc.leave (X:=vX (CX1 P w) P w K mg base N qual scope f cd A outer s H E) fl rfl rfl λh2 f2=>?_
 exact ⟨a,cls,H',rfl,f2.inv.os,f2.inv.bare,f2.inv.base,f2.inv.hok,f2.fly rfl,j⟩
def Ez (X:Cx) (J:Value->St->Hp->Prop):Prop:=∀(pins:List (Addr×Obj)) (σ:St) (H:Hp) (s:Shared) (h1:Heap) (a:Addr) (cls:Value) (vs:List Value),Inv X pins σ H s->Heap.MadeExcOf s.heap h1 a cls vs->J cls σ H->X.xe (.ref a) { s with heap:=h1 }
theorem zk {P:Program}{w:World}{K:PySem.W.Frag}{mg:Str->Option Value}{base:Heap}{N:List Str}{qual:Str}{scope:Scope}{f:Addr}{cd:Value}{A:Around}{outer:List Env}{s:Shared}{H:Hp}{E:XK} :
  Ez (vX (CX1 P w) P w K mg base N qual scope f cd A outer s H E) λcls _ H'=>E cls none H':=by
 intro pins σ H' s1 h1 a cls vs I hx j
 refine Zo (X:=vX (CX1 P w) P w K mg base N qual scope f cd A outer s H E) I hx rfl rfl λh2 f2=>?_
 exact ⟨a,cls,H',rfl,f2.inv.os,f2.inv.bare,f2.inv.base,f2.inv.hok,f2.fly rfl,j⟩
theorem GB {K:PySem.W.Frag}{h:Heap}{C:Addr}{bmB:List Value}{newId:String}(X:K.In h) (q:excIn K C bmB newId=true) :
  ∃bm N nm q bs hdct sn sub ab col dd k0 k1 k2 k3 k5 mN,h.get? C=some (excClassObj nm q C N bs bm hdct sn sub ab col dd k0 k1 k2 k3 k5 newId)/\h.Ns N mN/\mN "__init__" = none/\OwnTail h bmB bm:=by
 unfold excIn at q
 split at q
 ·rename_i dd cd sl ho
  split at q
  ·rename_i C' bm k0 k1 k2 k3 n k5 em es
   simp only [Bool.and_eq_true,beq_iff_eq,Bool.not_eq_true'] at q
   obtain ⟨⟨⟨⟨⟨rfl,rfl⟩,e1⟩,e2⟩,e3⟩,e4⟩:=q
   obtain ⟨nm,bs,mro,ns,qn,hd,sn,sub,ab,col,del⟩:=cd
   dsimp only at em e1 e3 e4
   subst em e1
   have e5:sl = #[k0,k1,k2,k3,some (.builtin n),k5]:=by obtain ⟨l⟩:=sl;simp only at es;rw [es]
   subst e5
   exact ⟨bm,ns,nm,qn,bs,hd,sn,sub,ab,col,dd,k0,k1,k2,k3,k5,_,X _ _ ho,.of_isNs (isNs_of_in X e3),nsMap_none_of_in X e3 e4,tail_of_in X e2⟩
  ·cases q
 ·cases q
theorem xy {X:Cx}{x:Str}{np cpos pos:Pos}{e:Expr}{es:List Expr}{t:TA}{C:Addr}{B newId initId:String}{bmB:List Value}{J:Value->St->Hp->Prop}(FB:ExcBaseFacts B newId initId bmB) (O:excIn X.K C bmB newId=true) (hm:X.mg x=some (.ref C)) (hc:X.calm=true) (am:Ez X J)
  (hg:Gl X x) (ha:PA X (e::es) t) (hdb:(x == ("__debug__" : Str))=false:=by decide) (he:starEach (e::es) X.env=(false,eval e X.env)::starEach es X.env:=by rfl) (hpl:(backTo cpos (starEach es X.env)).any (·.1)=false:=by rfl) :
  PS X (.Raise (some (.Call (.Name x np) (e::es) [] cpos)) none pos) (λD σ H=>t σ H λvs H1=>vs.length<=sizeLine/\J (.ref C) σ H1):=by
 intro pins s σ H D I h
 obtain ⟨bm,N,nm,q,bs,hdct,sn,sub,ab,col,dd,k0,k1,k2,k3,k5,mN,hC,hN,hni,T⟩:=GB I.ok.mod.kin O
 have h':=ha cpos pins s σ H _ I h
 rw [he] at h'
 refine wpAny_Raise_call_subT (C:=C) (nm:=nm) (q:=q) (N:=N) (bs:=bs) (bm:=bm) (hdct:=hdct) (sn:=sn) (sub:=sub) (ab:=ab) (col:=col) (dd:=dd) (k0:=k0) (k1:=k1) (k2:=k2) (k3:=k3) (k5:=k5)
  FB (mN:=mN) (T.hasType FB.hasBase) (I.ok.hd hc) (by rw [he];show (false || (backTo cpos (starEach es X.env)).any (·.1))=false;rw [hpl];rfl) hni (uN I hg hm ⟨rfl,?_⟩ hdb)
 rw [he]
 refine Calls.evalArgs_plain (thn h' λus s2 ⟨vs,H2,I2,r,hl,j⟩=>⟨rfl,by rw [<- r.length];exact hl,I2.bk _ _ hC,hN.keeps I2.bk,T.keeps I2.bk,λh1 a hx=>am pins σ H2 s2 h1 a (.ref C) _ I2 hx j⟩)
theorem Fun.okX {P:Program}{w:World}{K:PySem.W.Frag}{mg:Str->Option Value}{base:Heap}{x qual:Str}{st:Stmt}{f:Addr}{fd:FuncData}{N ps:List Str}{k:Nat}{sp:Sp}(F:Fun K x qual st f fd) (S:FnScope N ps (j7 st)) (len:∀vs H Q E,sp vs H Q E->vs.length=ps.length)
  (hbody:∀(cdv:Value) (A:Around) (outer:List Env) (s:Shared) (H:Hp) (vs:List V) (Q:VK) (E:XK),Room k (A.deeper (envOfC qual (j7 st) s.heap.objs.size f cdv))->sp vs H Q E ->
   ∃t,PSs (vX (CX1 P w) P w K mg base N qual (j7 st) f cdv A outer s H E) (jV st) t/\t { nx:=λ_ H'=>Q .non H',rt:=Q } (start N vs) H):FnOk P w K mg base (CX1 P w) (k+1) f fd ps sp:=by
 obtain ⟨oc,od,kV,doc,pm,an,cdv,ct,osl,rfl,lk,hcd⟩:=F.ex
 exact Vq lk hcd S len λA outer s H vs Q E hr hsp=>hbody cdv A outer s H vs Q E hr hsp
theorem CalX.mk' {P:Program}{w:World}{K:PySem.W.Frag}{mg:Str->Option Value}{base:Heap}{k:Nat}{x:Str}{ps:List Str}{sp:Sp}{st:Stmt}{h:Heap}{f:Addr}{oc:Value}{od an:Option Addr}{osl:Array (Option Value)}{kV doc pm cdv ct:Value}
  (X:K.In h) (G:h.Ns mainGlobals mg) (a:PySem.W.nsIn K mainGlobals x=some (some (.ref f)))
  (l:K.lookup f=some ⟨oc,od,.func (PySem.W.fnOf x x (qd st) (jV st) (j7 st) .none kV doc pm an cdv ct),osl⟩) (c:PySem.W.codeIn K cdv x=true) (k':PySem.W.keepIn K (.ref f)=true)
  (hb:∀(kV doc pm:Value) (an:Option Addr) (cdv ct:Value) (us:List Value),us.length=ps.length->bindArgs (PySem.W.fnOf x x (qd st) (jV st) (j7 st) .none kV doc pm an cdv ct) ⟨us,[]⟩=pure (ps.zip us))
  (ok:∀{f:Addr} {fd:FuncData},Fun K x x st f fd->FnOk P w K mg base (CX1 P w) k f fd ps sp):CalX P w K mg base k x ps sp:=by
 have F:=vJ (st:=st) l c k'
 exact ⟨f,_,ok F,F.binds hb,PySem.W.mg_of X G a,k'⟩
end L2
end
section
namespace L2
open PySem.W
section
variable {X:Cx}{pins pn:List (Addr×Obj)}{σ:St}{H:Hp}{s:Shared}{J:Value->St->Hp->Prop}
theorem okP (ok:X.Ok) (Y:Cx) (h:Y={ X with pn:=Y.pn,xe:=Y.xe }):Y.Ok:=by
 rw [h]
 exact ⟨ok.mod,ok.kind,ok.glob,ok.blt,ok.above,ok.inj,ok.has,ok.cab,ok.hd,ok.frames,ok.stk,ok.exf,ok.bs,ok.bsz,ok.noex,ok.exfs,ok.funs,ok.frf⟩
theorem spOf {Y:Cx}{pins':List (Addr×Obj)}{D:Ends}{f:Flow}{s':Shared}(g:∀{σ H},Inv Y pins' σ H s'->Inv X pins σ H s') (h:SP Y pins' D f s'):SP X pins D f s':=by
 cases f with
 | next=>obtain ⟨σ',H',I,q⟩:=h;exact ⟨σ',H',g I,q⟩
 | brk=>obtain ⟨σ',H',I,q⟩:=h;exact ⟨σ',H',g I,q⟩
 | cont=>obtain ⟨σ',H',I,q⟩:=h;exact ⟨σ',H',g I,q⟩
 | ret u=>obtain ⟨v,σ',H',I,r,q⟩:=h;exact ⟨v,σ',H',g I,r,q⟩
end
end L2
end
section
namespace L2
open PySem.W
section
variable {s:Shared}{A:Around}{prog:Program}{w:World}{E:Value->Shared->Prop}
end
section
variable {X:Cx}
end
end L2
end
section
namespace L2
open PySem.W
end L2
end
section
namespace L2
open PySem.W
section
variable {X:Cx}{o e:Expr}{es:List Expr}{to:TE}{t:TA}{name:Str}{apos cpos:Pos}{id:String}{r:V->List V->Hp->VK->Prop}
end
end L2
end
section
namespace L2
open PySem.W
abbrev wT (ifs:List Expr) (env:Env):Sem Bool:=forIn ifs true λc r=>if r=true then do let ok <- isTrue c env (eval c env);pure (ForInStep.yield ok) else pure (ForInStep.yield r)
abbrev xB (elt tg iter tg2 iter2:Expr) (ifs ifs2:List Expr) (scope:Scope) (pos:Pos):Expr:=.ListComp elt [⟨tg,iter,ifs,0⟩,⟨tg2,iter2,ifs2,0⟩] scope pos
theorem Vm (elt tg iter tg2 iter2:Expr) (ifs ifs2:List Expr) (scope:Scope) (pos:Pos) (it acc:Value) (env:Env) :
  compTurn (xB elt tg iter tg2 iter2 ifs ifs2 scope pos) 0 it acc env=(standAt iter.pos >>= λ_=>pyNext it >>= λr=>match r with
   | none=>pure (.done .next)
   | some v=>letOwnedTupleGo tg it v >>= λ_=>assign tg env v >>= λ_=>wT ifs env >>= λok =>
    (if ok=true then (eval iter2 env >>= λx=>standAt iter2.pos >>= λ_=>foldedSetIterable iter2 env x >>= λx=>holding [x] (pyIter x) >>= λi2=>runOwn (.compStart (xB elt tg iter tg2 iter2 ifs ifs2 scope pos) 1 i2 acc env) env >>= λ_=>again (.compLoop (xB elt tg iter tg2 iter2 ifs ifs2 scope pos) 0 it acc env))
     else again (.compLoop (xB elt tg iter tg2 iter2 ifs ifs2 scope pos) 0 it acc env))):=by
 rfl
theorem VY (elt tg iter tg2 iter2:Expr) (ifs ifs2:List Expr) (scope:Scope) (pos:Pos) (it acc:Value) (env:Env) :
  compTurn (xB elt tg iter tg2 iter2 ifs ifs2 scope pos) 1 it acc env=(standAt iter2.pos >>= λ_=>pyNext it >>= λr=>match r with
   | none=>pure (.done .next)
   | some v=>letOwnedTupleGo tg2 it v >>= λ_=>assign tg2 env v >>= λ_=>wT ifs2 env >>= λok =>
    (if ok=true then ((eval elt env >>= λx=>call (.builtin "list.append") [acc,x] >>= λ_=>pure ()) >>= λ_=>again (.compLoop (xB elt tg iter tg2 iter2 ifs ifs2 scope pos) 1 it acc env))
     else again (.compLoop (xB elt tg iter tg2 iter2 ifs ifs2 scope pos) 1 it acc env))):=by
 rfl
section
variable {s:Shared}{A:Around}{prog:Program}{w:World}{R:Result->Shared->Prop}{elt tg iter tg2 iter2:Expr}{ifs ifs2:List Expr}{scope:Scope}{pos:Pos}{it acc:Value}{env:Env}
theorem U8 (I:Nat->Shared->Prop)
  (turn:∀n s,I n s->wpAny (model prog w) A (pyNext it) (λr s₁=>match r with
   | none=>R (.ok .next) s₁
   | some v=>wpAny (model prog w) A (letOwnedTupleGo tg2 it v) (λ_ s₂=>wpAny (model prog w) A (assign tg2 env v) (λ_ s₃=>wpAny (model prog w) A (wT ifs2 env) (λok s₄ =>
      if ok=true then wpAny (model prog w) A (eval elt env) (λx s₅=>wpAny (model prog w) A (call (.builtin "list.append") [acc,x]) (λ_ s₆=>∃m,m<n/\I m s₆) (λ_ _=>False) s₅) (λ_ _=>False) s₄
      else ∃m,m<n/\I m s₄) (λ_ _=>False) s₃) (λ_ _=>False) s₂) (λ_ _=>False) s₁) (λ_ _=>False) s)
  (n:Nat) (h:I n s):codeAny (model prog w) A (.compLoop (xB elt tg iter tg2 iter2 ifs ifs2 scope pos) 1 it acc env) R s:=by
 refine codeAny_loop rfl I (λn s hI=>?_) n h
 show wpAny _ A ((compTurn (xB elt tg iter tg2 iter2 ifs ifs2 scope pos) 1 it acc env).onRaise (λx=>do noteFrame x env;theTreesLotGoes x)) _ _ s
 refine wpAny_noted ?_;rw [VY]
 refine wpAny_bind (wpAny_standAt (wpAny_bind (wpAny_mono (turn n s hI) (λr s₁ h₁=>?_) λ_ _ h'=>h'.elim)))
 cases r with
 | none=>exact wpAny_pure h₁
 | some v =>
  refine wpAny_bind (wpAny_mono h₁ (λ_ s₂ h₂=>?_) λ_ _ h'=>h'.elim)
  refine wpAny_bind (wpAny_mono h₂ (λ_ s₃ h₃=>wpAny_bind (wpAny_mono h₃ (λok s₄ h₄=>?_) λ_ _ h'=>h'.elim)) λ_ _ h'=>h'.elim)
  cases ok with
  | false=>exact wpAny_pure ⟨rfl,h₄⟩
  | true=>exact wpAny_bind (wpAny_bind (wpAny_mono h₄ (λx s₅ h₅=>wpAny_bind (wpAny_mono h₅ (λ_ s₆ h₆=>wpAny_pure (wpAny_pure ⟨rfl,h₆⟩)) λ_ _ h'=>h'.elim)) λ_ _ h'=>h'.elim))
theorem V0 {R:Result->Shared->Prop}(h0:codeAny (model prog w) A (.compLoop (xB elt tg iter tg2 iter2 ifs ifs2 scope pos) 1 it acc env) R s)
  (h:wpAny (model prog w) A (pyIter it) (λi2 s'=>codeAny (model prog w) A (.compLoop (xB elt tg iter tg2 iter2 ifs ifs2 scope pos) 1 i2 acc env) R s') (λ_ _=>False) s) :
  codeAny (model prog w) A (.compStart (xB elt tg iter tg2 iter2 ifs ifs2 scope pos) 1 it acc env) R s:=by
 refine codeAny_of_tree ?_
 show wpAny _ _ ((compStart (xB elt tg iter tg2 iter2 ifs ifs2 scope pos) 1 it acc env).onRaise (λx=>do noteFrame x env;standAt theWindowsPlace)) _ _ s
 refine wpAny_notedAt ?_;unfold compStart;show wpAny _ _ (ask >>= _) _ _ s
 refine wpAny_bind (wpAny_askSetting (wpAny_ite ?_))
 split
 ·first | exact wpAny_bind (wpAny_pure (wpAny_pure (And.intro rfl h0))) | exact wpAny_pure (And.intro rfl h0)
 ·first
   | exact wpAny_bind (wpAny_rule (wpAny_bind (wpAny_standAt (wpAny_bind (wpAny_mono h (λi2 s' h'=>wpAny_pure (And.intro rfl h')) λ_ _ x=>x.elim)))))
   | (refine wpAny_bind (wpAny_rule ?_);show wpAny _ _ (standAt iter2.pos >>= _) _ _ s;exact wpAny_bind (wpAny_standAt (wpAny_bind (wpAny_mono h (λi2 s' h'=>wpAny_pure (And.intro rfl h')) λ_ _ x=>x.elim))))
theorem YI (I:Nat->Shared->Prop) (hs2:∀x,foldedSetIterable iter2 env x=pure x)
  (turn:∀n s,I n s->wpAny (model prog w) A (pyNext it) (λr s₁=>match r with
   | none=>R (.ok .next) s₁
   | some v=>wpAny (model prog w) A (letOwnedTupleGo tg it v) (λ_ s₂=>wpAny (model prog w) A (assign tg env v) (λ_ s₃=>wpAny (model prog w) A (wT ifs env) (λok s₄ =>
      if ok=true then wpAny (model prog w) A (eval iter2 env) (λx s₅=>wpAny (model prog w) A (pyIter x) (λi2 s₆=>codeAny (model prog w) A (.compStart (xB elt tg iter tg2 iter2 ifs ifs2 scope pos) 1 i2 acc env) (λr s'=>match r with | .ok _=>∃m,m<n/\I m s' | .error _=>False) s₆) (λ_ _=>False) s₅) (λ_ _=>False) s₄
      else ∃m,m<n/\I m s₄) (λ_ _=>False) s₃) (λ_ _=>False) s₂) (λ_ _=>False) s₁) (λ_ _=>False) s)
  (n:Nat) (h:I n s):codeAny (model prog w) A (.compLoop (xB elt tg iter tg2 iter2 ifs ifs2 scope pos) 0 it acc env) R s:=by
 refine codeAny_loop rfl I (λn s hI=>?_) n h
 show wpAny _ A ((compTurn (xB elt tg iter tg2 iter2 ifs ifs2 scope pos) 0 it acc env).onRaise (λx=>do noteFrame x env;theTreesLotGoes x)) _ _ s
 refine wpAny_noted ?_;rw [Vm]
 refine wpAny_bind (wpAny_standAt (wpAny_bind (wpAny_mono (turn n s hI) (λr s₁ h₁=>?_) λ_ _ h'=>h'.elim)))
 cases r with
 | none=>exact wpAny_pure h₁
 | some v =>
  refine wpAny_bind (wpAny_mono h₁ (λ_ s₂ h₂=>?_) λ_ _ h'=>h'.elim)
  refine wpAny_bind (wpAny_mono h₂ (λ_ s₃ h₃=>wpAny_bind (wpAny_mono h₃ (λok s₄ h₄=>?_) λ_ _ h'=>h'.elim)) λ_ _ h'=>h'.elim)
  cases ok with
  | false=>exact wpAny_pure ⟨rfl,h₄⟩
  | true =>
   refine wpAny_bind (wpAny_mono h₄ (λx s₅ h₅=>wpAny_bind (wpAny_standAt (wpAny_bind (wpAny_of_eq (hs2 x) (wpAny_bind (wpAny_holding (wpAny_mono h₅ (λi2 s₆ h₆=>wpAny_bind (wpAny_runOwn ?_)) λ_ _ h'=>h'.elim))))))) λ_ _ h'=>h'.elim)
   rw [Around.mark_none]
   refine codeAny_mono h₆ λr s' q=>?_
   cases r with
   | ok f=>exact wpAny_pure ⟨rfl,q⟩
   | error e=>exact q.elim
end
def ko (acc:Addr) (g2:TG) (ti2:TT) (te:TE) (J2:It) (NX:St->Hp->Prop) (σ3:St) (H5:Hp):Prop :=
 ∃W2:Nat->Nat->St->Hp->Prop,(∃m,W2 0 m σ3 H5)/\∀j m σ6 H6,W2 j m σ6 H6->(J2.stop j H6/\NX σ6 H6)\/(J2.go j H6/\∃NX2:St->Hp->Prop,(∀σ7 H7,NX2 σ7 H7->∃m',m'<m/\W2 (j+1) m' σ7 H7) /\
  ∀y H7,J2.yld j H6 y H7->g2 y σ6 H7 λσ8 H8=>ti2 σ8 H8 λok2 H9=>if ok2=true then te σ8 H9 λv H10=>∃ys,H10 acc=some (.lst ys)/\ys.length<sizeLine/\NX2 σ8 (upd H10 acc (.lst (ys++[v]))) else NX2 σ8 H9)
section
variable {X:Cx}{pos:Pos}
def G1 (own:Nat) (caps:List Nat) (wi:TI) (g:TG) (ti:TT) (wi2:TI) (g2:TG) (ti2:TT) (te:TE):TE:=λσ H Q=>wi σ H λJ H1=>∀acc,H1 acc=none ->
 ∃W:Nat->Nat->St->Hp->Prop,(∃m,W 0 m (vC own caps σ) (upd H1 acc (.lst [])))/\∀i m σ' H',W i m σ' H' ->
  (J.stop i H'/\Q (.ref acc) H') \/
  (J.go i H'/\∃NX:St->Hp->Prop,(∀σ2 H2,NX σ2 H2->∃m',m'<m/\W (i+1) m' σ2 H2) /\
   ∀x H2,J.yld i H' x H2->g x σ' H2 λσ3 H3=>ti σ3 H3 λok H4=>if ok=true then wi2 σ3 H4 λJ2 H5=>ko acc g2 ti2 te J2 NX σ3 H5 else NX σ3 H4)
theorem YE {osc:Scope}{ON N:List Str}{scope:Scope}{own:Nat}{caps:List Nat}{cl:List (Str×Addr)}{tg elt iter tg2 iter2:Expr}{ifs ifs2:List Expr}{g g2:TG}{ti ti2:TT}{wi2:TI}{te:TE}{pins:List (Addr×Obj)}{σ:St}{H:Hp}{s:Shared}{fp:List Addr}{it:Addr}
  {tn:Nat->Heap->Prop} {J:It} {Q:VK} {RR:Value->Addr->Result->Shared->Prop} {E:Value->Shared->Prop}
  (hc:X.calm=true) (S:CompSc osc ON scope own N caps) (hsc:X.env.scope=osc) (hN:X.N=ON) (hcl:∀x,cl.lookup x=if (x,NameKind.free)∈scope.names then X.env.cells.lookup x else none)
  (hg:∀cl C s H ex,PG (X.block scope cl C N s H ex) tg g) (hif:∀cl C s H ex,Qs (X.block scope cl C N s H ex) ifs ti) (hi2:∀cl C s H ex,PI (X.block scope cl C N s H ex) tg2 iter2 wi2) (hg2:∀cl C s H ex,PG (X.block scope cl C N s H ex) tg2 g2) (hif2:∀cl C s H ex,Qs (X.block scope cl C N s H ex) ifs2 ti2) (he:∀cl C s H ex,PE (X.block scope cl C N s H ex) elt te) (hs2:∀env x,foldedSetIterable iter2 env x=pure x)
  (I:Inv X pins σ H s) (T:Turn X.prog X.w X.K tg J fp it tn) (st:tn 0 s.heap) (hf:∀b∈fp,wu X pins H b)
  (hw:∀acc,H acc=none->∃W:Nat->Nat->St->Hp->Prop,(∃m,W 0 m (vC own caps σ) (upd H acc (.lst [])))/\∀i m σ' H',W i m σ' H' ->
   (J.stop i H'/\Q (.ref acc) H')\/(J.go i H'/\∃NX:St->Hp->Prop,(∀σ2 H2,NX σ2 H2->∃m',m'<m/\W (i+1) m' σ2 H2) /\
    ∀x H2,J.yld i H' x H2->g x σ' H2 λσ3 H3=>ti σ3 H3 λok H4=>if ok=true then wi2 σ3 H4 λJ2 H5=>ko acc g2 ti2 te J2 NX σ3 H5 else NX σ3 H4))
  (fin:∀(D C:Addr) (H':Hp) (s':Shared),Inv X pins σ H' s'->BlockAt X pins H' C->(∃m,s'.heap.Ns C m)->Q (.ref D) H'->RR (.ref D) C (.ok .next) s') :
  wpAny (model X.prog X.w) X.A (newList []) (λacc s₃=>wpAny (model X.prog X.w) X.A (newFunctionEnv scope X.env.globals cl [] X.env.qual none .none (some X.env)) (λcenv s₄ =>
   codeAny (model X.prog X.w) X.A (.compStart (xB elt tg iter tg2 iter2 ifs ifs2 scope pos) 0 (.ref it) acc { cenv with scope:=relabel scope X.env }) (RR acc cenv.locals) s₄) E s₃) E s:=by
 have hfs:∀b∈fp,b<s.heap.objs.size:=λb hb=>by
  obtain ⟨o,e,_⟩:=T.obj _ _ st b hb
  exact Heap.lt_size e
 refine wpAny_newObj_type (wpAny_newFunctionEnv S.nocell (by intro y hy;simp at hy) (λh₁ hns₁ hsb₁=>?_) S.kind)
 dsimp only at hns₁ hsb₁ ⊢
 generalize hH2:s.heap.push { cls:=.type "list",dict:=none,data:=.seq ([]:List Value).toArray }=H2 at hns₁ hsb₁ ⊢
 have hCsz:H2.objs.size=s.heap.objs.size+1:=by rw [<- hH2,Heap.size_push]
 have old:∀b o,s.heap.get? b=some o->h₁.get? b=some o:=λb o e=>hsb₁.extBut b o (Nat.ne_of_lt (by rw [hCsz];exact Nat.lt_succ_of_lt (Heap.lt_size e))) (Heap.get?_push_of_some _ (hH2 ▸ Heap.get?_push_of_some _ e))
 have eD:h₁.get? s.heap.objs.size=some { cls:=.type "list",data:=.seq #[] }:=hsb₁.extBut _ _ (Nat.ne_of_lt ∅) (Heap.get?_push_of_some _ (hH2 ▸ Heap.get?_push_size _ rfl))
 have hDn:H s.heap.objs.size=none:=I.hok.fresh (Nat.le_refl _)
 obtain ⟨W,⟨m0,w0⟩,turn⟩:=hw s.heap.objs.size hDn
 have hns:h₁.Ns H2.objs.size λ_=>none:=hns₁
 have I1:Inv (X.block scope cl H2.objs.size N s H fp) [] (vC own caps σ) (upd H s.heap.objs.size (.lst [])) { s with heap:=h₁,toks:=s.toks+([]:List (Str×Value)).length } :=
  wG S hsc hN hcl I hf hfs rfl hCsz old eD hns _
 have st1:tn 0 h₁:=T.keep 0 _ _ st λb _ o e=>old b o e
 have fpB:∀{H':Hp},(∀b∈fp,H' b=none)->∀b∈fp,wu (X.block scope cl H2.objs.size N s H fp) [] H' b:=λ{H'} hn b hb=>by
  have ok:=I1.ok
  exact ⟨hn b hb,(ok.exf b hb).1,ok.exfs b hb,.inl hb,(ok.exf b hb).2,λp hp=>absurd (show p∈([]:List (Addr×Obj)) from hp) (by simp)⟩
 have back:∀{σ':St} {H':Hp} {s':Shared},Inv (X.block scope cl H2.objs.size N s H fp) [] σ' H' s'->Q (.ref s.heap.objs.size) H'->RR (.ref s.heap.objs.size) H2.objs.size (.ok .next) s':=λ{σ' H' s'} J1 q=>by
  have J2:Inv X pins σ H' s':=I.call' (ch:=fp) J1.os J1.base J1.hok J1.bare λb hb=>⟨(hf b hb).2.2.2.1,(hf b hb).2.1,(hf b hb).2.2.2.2.1,(hf b hb).2.2.2.2.2⟩
  obtain ⟨m,hm,_⟩:=J1.loc
  refine fin _ _ H' s' J2 ⟨J1.free,Nat.ne_of_gt (Nat.lt_of_lt_of_le I.lt ∅),Nat.le_trans I.sz ∅,λx c e z=>?_,λp hp z=>?_⟩ ⟨m,hm⟩ q
  ·obtain ⟨v,y⟩:=I.cell x c e
   have h1:H2.objs.size<s.heap.objs.size:=z ▸ y.lt
   exact absurd h1 ∅
  ·have h1:H2.objs.size<s.heap.objs.size:=z ▸ Heap.lt_size (I.pin p hp).1
   exact absurd h1 ∅
 have loop:∀s₃:Shared,s₃={ s with heap:=h₁,toks:=s.toks+([]:List (Str×Value)).length } ->
   codeAny (model X.prog X.w) X.A (.compLoop (xB elt tg iter tg2 iter2 ifs ifs2 scope pos) 0 (.ref it) (.ref s.heap.objs.size) (compEnvC scope cl H2.objs.size X.env)) (RR (.ref s.heap.objs.size) H2.objs.size) s₃:=by
  rintro s₃ rfl
  refine YI (λn s'=>∃i σ' H',Inv (X.block scope cl H2.objs.size N s H fp) [] σ' H' s'/\tn i s'.heap/\(∀b∈fp,H' b=none)/\W i n σ' H') (hs2 _) ?_ m0
   ⟨0,_,_,I1,st1,λb hb=>by rw [j8 (Nat.ne_of_lt (hfs b hb))];exact (hf b hb).1,w0⟩
  rintro n s3 ⟨i,σ3,H3,I3,st3,fr3,w3⟩
  rcases turn i n σ3 H3 w3 with ⟨stop,qn⟩ | ⟨go,NX,hNX,step⟩
  ·refine thn (T.done (X.block scope cl H2.objs.size N s H fp) rfl rfl rfl hc i [] s3 σ3 H3 _ I3 (fpB fr3) st3 stop) λr s4 ⟨hr,I4⟩=>?_
   subst hr
   exact back I4 qn
  ·refine thn (T.item (X.block scope cl H2.objs.size N s H fp) rfl rfl rfl hc i [] s3 σ3 H3 _ I3 (fpB fr3) st3 go) λr s4 ⟨u,hr,h4⟩=>?_
   subst hr
   refine thn h4 λ_ s5 ⟨x,H5,I5,r5,y5,st5,fr5⟩=>?_
   have I5':=I5.pinned (fpB fr5) (T.obj _ _ st5)
   refine thn (hg cl H2.objs.size s H fp _ s5 σ3 H5 x u _ I5' r5 (step x H5 y5)) λ_ s6 ⟨σ6,H6,I6,q6⟩=>?_
   refine thn (hif cl H2.objs.size s H fp _ s6 σ6 H6 _ I6 q6) λok s7 ⟨H7,I7,q7⟩=>?_
   have again:∀{s8:Shared} {σ8:St} {H8:Hp},Inv (X.block scope cl H2.objs.size N s H fp) ([]++zB fp s5.heap) σ8 H8 s8->NX σ8 H8->∃m,m<n/\∃i σ' H',Inv (X.block scope cl H2.objs.size N s H fp) [] σ' H' s8/\tn i s8.heap/\(∀b∈fp,H' b=none)/\W i m σ' H':=λ{s8 σ8 H8} I8 n8=>by
    obtain ⟨m',hm,w8⟩:=hNX σ8 H8 n8
    refine ⟨m',hm,i+1,σ8,H8,I8.unpinned,T.keep _ _ _ st5 λb hb o e=>(I8.pin (b,o) (List.mem_append_right _ (List.mem_append_right _ (qX hb e)))).1,λb hb=>?_,w8⟩
    obtain ⟨o,e,d⟩:=T.obj _ _ st5 b hb
    exact (I8.pin (b,o) (List.mem_append_right _ (List.mem_append_right _ (qX hb e)))).2.1
   cases ok with
   | false =>
    rw [if_neg Bool.false_ne_true] at q7 ⊢
    exact again I7 q7
   | true =>
    rw [if_pos rfl] at q7 ⊢
    refine thn (hi2 cl H2.objs.size s H fp _ s7 σ6 H7 _ I7 q7) λv s8 h8=>thn h8 λitv s9 h9=>?_
    obtain ⟨it2,fp2,tn2,J2,H9,e,I9,T2,st9,f9,W2,⟨m2,w2⟩,turn2⟩:=h9
    subst e
    have stat2:∀{H':Hp},(∀b∈fp2,H' b=none)->∀b∈fp2,wu (X.block scope cl H2.objs.size N s H fp) ([]++zB fp s5.heap) H' b:=λhn b hb=>⟨hn b hb,(f9 b hb).2⟩
    have inner:codeAny (model X.prog X.w) X.A (.compLoop (xB elt tg iter tg2 iter2 ifs ifs2 scope pos) 1 (.ref it2) (.ref s.heap.objs.size) (compEnvC scope cl H2.objs.size X.env)) (λr s'=>match r with | .ok _=>∃m,m<n/\∃i σ' H',Inv (X.block scope cl H2.objs.size N s H fp) [] σ' H' s'/\tn i s'.heap/\(∀b∈fp,H' b=none)/\W i m σ' H' | .error _=>False) s9:=by
     refine U8 (λn2 s'=>∃j σ' H',Inv (X.block scope cl H2.objs.size N s H fp) ([]++zB fp s5.heap) σ' H' s'/\tn2 j s'.heap/\(∀b∈fp2,H' b=none)/\W2 j n2 σ' H') ?_ m2 ⟨0,_,_,I9,st9,λb hb=>(f9 b hb).1,w2⟩
     rintro n2 s10 ⟨j,σ10,H10,I10,st10,fr10,w10⟩
     rcases turn2 j n2 σ10 H10 w10 with ⟨stop2,nx2⟩ | ⟨go2,NX2,hNX2,step2⟩
     ·refine thn (T2.done (X.block scope cl H2.objs.size N s H fp) rfl rfl rfl hc j _ s10 σ10 H10 _ I10 (stat2 fr10) st10 stop2) λr s11 ⟨hr,I11⟩=>?_
      subst hr
      exact again I11 nx2
     ·refine thn (T2.item (X.block scope cl H2.objs.size N s H fp) rfl rfl rfl hc j _ s10 σ10 H10 _ I10 (stat2 fr10) st10 go2) λr s11 ⟨u2,hr,h11⟩=>?_
      subst hr
      refine thn h11 λ_ s12 ⟨x2,H12,I12,r12,y12,st12,fr12⟩=>?_
      have I12':=I12.pinned (stat2 fr12) (T2.obj _ _ st12)
      refine thn (hg2 cl H2.objs.size s H fp _ s12 σ10 H12 x2 u2 _ I12' r12 (step2 x2 H12 y12)) λ_ s13 ⟨σ13,H13,I13,q13⟩=>?_
      refine thn (hif2 cl H2.objs.size s H fp _ s13 σ13 H13 _ I13 q13) λok2 s14 ⟨H14,I14,q14⟩=>?_
      have again2:∀{s15:Shared} {σ15:St} {H15:Hp},Inv (X.block scope cl H2.objs.size N s H fp) (([]++zB fp s5.heap)++zB fp2 s12.heap) σ15 H15 s15->NX2 σ15 H15->∃m,m<n2/\∃j σ' H',Inv (X.block scope cl H2.objs.size N s H fp) ([]++zB fp s5.heap) σ' H' s15/\tn2 j s15.heap/\(∀b∈fp2,H' b=none)/\W2 j m σ' H':=λ{s15 σ15 H15} I15 n15=>by
       obtain ⟨m',hm,w15⟩:=hNX2 σ15 H15 n15
       refine ⟨m',hm,j+1,σ15,H15,I15.unpinned,T2.keep _ _ _ st12 λb hb o e=>(I15.pin (b,o) (List.mem_append_right _ (List.mem_append_right _ (qX hb e)))).1,λb hb=>?_,w15⟩
       obtain ⟨o,e,d⟩:=T2.obj _ _ st12 b hb
       exact (I15.pin (b,o) (List.mem_append_right _ (List.mem_append_right _ (qX hb e)))).2.1
      cases ok2 with
      | false =>
       rw [if_neg Bool.false_ne_true] at q14 ⊢
       exact again2 I14 q14
      | true =>
       rw [if_pos rfl] at q14 ⊢
       refine thn (he cl H2.objs.size s H fp _ s14 σ13 H14 _ I14 q14) λv15 s15 ⟨y15,H15,I15,r15,ys,e15,z15,q15⟩=>?_
       refine thn (qy _ s15 σ13 H15 (.ref s.heap.objs.size) [y15] _ [v15] (λ_ H16=>NX2 σ13 H16) I15 rfl (.cons r15 .nil) ⟨_,ys,y15,rfl,rfl,e15,z15,q15⟩) λ_ s16 ⟨_,H16,I16,_,q16⟩=>?_
       exact again2 I16 q16
    exact V0 inner (T2.self _ 0 _ _ _ st9 inner)
 exact codeAny_compStart_list (loop _ rfl) (T.self _ 0 _ _ _ st1 (loop _ rfl))
theorem Uk {osc:Scope}{ON N:List Str}{scope:Scope}{own:Nat}{caps:List Nat}{tg elt iter tg2 iter2:Expr}{ifs ifs2:List Expr}{wi wi2:TI}{g g2:TG}{ti ti2:TT}{te:TE}(S:CompSc osc ON scope own N caps)
  (hc:X.calm=true) (hsc:X.env.scope=osc) (hN:X.N=ON) (hi:PI X tg iter wi)
  (hg:∀cl C s H ex,PG (X.block scope cl C N s H ex) tg g) (hif:∀cl C s H ex,Qs (X.block scope cl C N s H ex) ifs ti) (hi2:∀cl C s H ex,PI (X.block scope cl C N s H ex) tg2 iter2 wi2) (hg2:∀cl C s H ex,PG (X.block scope cl C N s H ex) tg2 g2) (hif2:∀cl C s H ex,Qs (X.block scope cl C N s H ex) ifs2 ti2) (he:∀cl C s H ex,PE (X.block scope cl C N s H ex) elt te)
  (hs:∀x,foldedSetIterable iter X.env x=pure x:=by intro _;rfl) (hs2:∀env x,foldedSetIterable iter2 env x=pure x:=by intro _ _;rfl):PE X (.ListComp elt [⟨tg,iter,ifs,0⟩,⟨tg2,iter2,ifs2,0⟩] scope pos) (G1 own caps wi g ti wi2 g2 ti2 te):=by
 intro pins s σ H Q I h
 obtain ⟨cl,hclos,hcl⟩:=vN (Z7 S hsc I)
 rw [eval_ListComp]
 refine wpAny_comprehension_free (use:=none) rfl hs hclos S.kind S.loc (thn (hi pins s σ H _ I h) λv s1 h1=>thn h1 λitv s2 h2=>?_)
 obtain ⟨it,fp,tn,J,H2,e,I2,T,st2,f2,hw⟩:=h2
 subst e
 refine YE (RR:=λacc C=>compPost (model X.prog X.w) X.A X.xe none (EP X pins σ Q) acc C) hc S hsc hN hcl hg hif hi2 hg2 hif2 he hs2 I2 T st2 f2 hw λD C H' s' J1 B ⟨m,hm⟩ q=>?_
 exact ⟨m,hm,λh' hs'=>⟨.ref D,H',B.gone J1 hs',rfl,q⟩⟩
end
end L2
end
section
namespace L2
open PySem.W
structure CalM (P:Program) (w:World) (K:PySem.W.Frag) (mg:Str->Option Value) (base:Heap) (k:Nat) (C:Addr) (m:Str) (ps:List Str) (sp:Sp):Prop where
 ex:∃f fd,FnOk P w K mg base CX0 k f fd ps sp/\y7 K fd ps []/\Meth K C m f
structure CalMX (P:Program) (w:World) (K:PySem.W.Frag) (mg:Str->Option Value) (base:Heap) (k:Nat) (C:Addr) (m:Str) (ps:List Str) (sp:Sp):Prop where
 ex:∃f fd,FnOk P w K mg base (CX1 P w) k f fd ps sp/\y7 K fd ps []/\Meth K C m f
section
variable {X:Cx}{k:Nat}{f C:Addr}{fd:FuncData}{ps:List Str}{sp:Sp}{x m:Str}{p pos apos:Pos}{e o:Expr}{es:List Expr}{ta:TE}{t:TA}{J:Value->St->Hp->Prop}
theorem EO {pins:List (Addr×Obj)}{σ:St}{H:Hp}{s:Shared}{Q:VK}{us:List Value}{vs:List V}(F:FnOk X.prog X.w X.K X.mg X.base (CX1 X.prog X.w) k f fd ps sp) (hr:Room k X.A) (hb:y7 X.K fd ps []) (ac:Acc X J)
  (I:Inv X pins σ H s) (r:jD vs us) (h:sp vs H Q λcls _ H'=>J cls σ H'):wpAny (model X.prog X.w) X.A (call (.ref f) us) (EP X pins σ Q) X.xe s:=by
 have hl:us.length=ps.length:=by rw [<- r.length];exact F.len _ _ _ _ h
 have hb':=hb s us I.kIn (by rw [List.append_nil];exact hl)
 rw [List.append_nil] at hb'
 refine wpAny_call (codeAny_mono (F.run X.A X.stack s H ⟨us,[]⟩ us vs Q _ hr I.env0 hb' r h) λr s' hq=>?_)
 cases r with
 | error e =>
  obtain ⟨a,cls,H',rfl,os,b,u,ok,fy,j⟩:=hq
  exact ac pins σ H' s' a cls ⟨s,H,I,os,b,u,ok,fy⟩ j
 | ok fl =>
  cases fl with
  | ret u=>exact I.after hq
  | next=>exact False.elim hq
  | brk=>exact False.elim hq
  | cont=>exact False.elim hq
theorem Ew {pl:Sem Bool}(he:PE X o ta) (c:Cls X.K C) (cm:CalM X.prog X.w X.K X.mg X.base k C m ps sp) (hr:Room k X.A) (ha:PA X (e::es) t)
  (hst:starEach (e::es) X.env=(false,eval e X.env)::starEach es X.env:=by rfl) (hpl:(backTo pos (starEach es X.env)).any (·.1)=false:=by rfl)
  (ht:eval (.Call (.Attribute o m apos) (e::es) [] pos) X.env=(do let ov <- eval o X.env;standAt apos.atName;let (f,first) <- holding [ov] (getMethod ov m pl);callWith pos f first (backTo pos (starEach (e::es) X.env)) (backToKw pos (keywordEach [] X.env))):=by rfl) :
  PE X (.Call (.Attribute o m apos) (e::es) [] pos) (Yj C m sp [] E0 ta t):=by
 obtain ⟨f,fd,F,hb,hm⟩:=cm.ex
 exact WE he c hm F hr hb .nil Ub ha hst hpl ht
theorem WU {pl:Sem Bool}(he:PE X o ta) (c:Cls X.K C) (cm:CalM X.prog X.w X.K X.mg X.base k C m ps sp) (hr:Room k X.A)
  (ht:eval (.Call (.Attribute o m apos) [] [] pos) X.env=(do let ov <- eval o X.env;standAt apos.atName;let (f,first) <- holding [ov] (getMethod ov m pl);callWith pos f first (backTo pos (starEach [] X.env)) (backToKw pos (keywordEach [] X.env))):=by rfl) :
  PE X (.Call (.Attribute o m apos) [] [] pos) (Yj C m sp [] E0 ta JZ):=by
 obtain ⟨f,fd,F,hb,hm⟩:=cm.ex
 exact Up he c hm F hr hb .nil Ub ht
def GS (C:Addr) (m:Str) (sp:Sp) (J:Value->St->Hp->Prop) (ta:TE) (t:TA):TE:=λσ H Q=>ta σ H λx H1=>∃a dx fs,x = .ref a/\H1 a=some (.ins C dx fs)/\fs.lookup m=none/\t σ H1 λvs H2=>sp (x::vs) H2 Q λcls _ H'=>J cls σ H'
theorem xh {pl:Sem Bool}(he:PE X o ta) (c:Cls X.K C) (cm:CalMX X.prog X.w X.K X.mg X.base k C m ps sp) (hr:Room k X.A) (ac:Acc X J) (ha:PA X (e::es) t)
  (hst:starEach (e::es) X.env=(false,eval e X.env)::starEach es X.env:=by rfl) (hpl:(backTo pos (starEach es X.env)).any (·.1)=false:=by rfl)
  (ht:eval (.Call (.Attribute o m apos) (e::es) [] pos) X.env=(do let ov <- eval o X.env;standAt apos.atName;let (f,first) <- holding [ov] (getMethod ov m pl);callWith pos f first (backTo pos (starEach (e::es) X.env)) (backToKw pos (keywordEach [] X.env))):=by rfl) :
  PE X (.Call (.Attribute o m apos) (e::es) [] pos) (GS C m sp J ta t):=by
 obtain ⟨f,fd,F,hb,hm⟩:=cm.ex
 intro pins s σ H Q I h
 refine PySem.W.methodCall_KW (pl:=pl) (thn (he pins s σ H _ I h) λu s1 ⟨x,H1,I1,rx,a,dx,fs,ex,ea,l,q⟩=>?_) ht
 subst ex
 obtain rfl:u=Value.ref a:=rx
 refine yh I1 ea c hm l ?_
 refine PySem.W.callWith_K (first:=[.ref a]) (h₀:=X.base) I.ok.mod.kin hm.kp (thn (ha pos pins s1 σ H1 _ I1 q) λus s2 ⟨vs,H2,I2,r,q2⟩=>⟨I2.kIn,?_⟩) hst hpl
 exact EO (us:=.ref a::us) (vs:=.ref a::vs) F hr hb ac I2 (.cons rfl r) q2
structure MakX (P:Program) (w:World) (K:PySem.W.Frag) (mg:Str->Option Value) (base:Heap) (k:Nat) (C:Addr) (x:Str) (ps:List Str) (sp:Sp):Prop where
 ex:∃f fd,FnOk P w K mg base (CX1 P w) k f fd ps sp/\y7 K fd ps []/\Mk K C f/\mg x=some (.ref C)
def Gs (C:Addr) (sp:Sp) (J:Value->St->Hp->Prop) (t:TA):TE:=λσ H Q=>t σ H λvs H1=>∀x dx,H1 x=none->H1 dx=none->dx≠x ->
 sp (.ref x::vs) (upd (upd H1 dx (.own x)) x (.ins C dx [])) (λv H2=>v = .non/\Q (.ref x) H2) λcls _ H'=>J cls σ H'
theorem W0 (c:MakX X.prog X.w X.K X.mg X.base k C x ps sp) (hr:Room (k+1) X.A) (ac:Acc X J) (hg:Gl X x) (ha:PA X (e::es) t) (hdb:(x == ("__debug__" : Str))=false:=by decide) (he:starEach (e::es) X.env=(false,eval e X.env)::starEach es X.env:=by rfl) (hpl:(backTo pos (starEach es X.env)).any (·.1)=false:=by rfl) :
  PE X (.Call (.Name x p) (e::es) [] pos) (Gs C sp J t):=by
 obtain ⟨f,fd,F,hb,M,hm⟩:=c.ex
 intro pins s0 σ H0 Q I0 h0
 refine wpAny_Call_Name_kw (uN I0 hg hm ?_ hdb)
 refine PySem.W.callWith_K (h₀:=X.base) I0.ok.mod.kin M.kp (thn (ha pos pins s0 σ H0 _ I0 h0) λus s ⟨vs,H,I,r,h⟩=>⟨I.kIn,?_⟩) he hpl
 have hq:=h (s.heap.objs.size+1) s.heap.objs.size (I.hok.fresh (Nat.le_succ _)) (I.hok.fresh (Nat.le_refl _)) (Nat.ne_of_lt (Nat.lt_succ_self _))
 have I2:=Inv.made (C:=C) I
 have r2:jD (V.ref (s.heap.objs.size+1)::vs) (Value.ref (s.heap.objs.size+1)::us):=.cons rfl r
 have hl:(Value.ref (s.heap.objs.size+1)::us).length=ps.length:=by rw [<- r2.length];exact F.len _ _ _ _ hq
 have hb':=hb { s with heap:=_ } (Value.ref (s.heap.objs.size+1)::us) I2.kIn (by rw [List.append_nil];exact hl)
 rw [List.append_nil] at hb'
 refine wpAny_call (U5 (f:=f) I.kIn M.makes M.init (beq_iff_eq.mp M.fn) (codeAny_mono (F.run _ X.stack _ _ ⟨Value.ref (s.heap.objs.size+1)::us,[]⟩ (Value.ref (s.heap.objs.size+1)::us) _ _ _ (hr.make C us []) (I2.env0.make C us []) hb' r2 hq) λr s' hq'=>?_))
 cases r with
 | error e =>
  obtain ⟨a,cls,H',rfl,os,b,u,ok,fy,j⟩:=hq'
  exact ac pins σ H' s' a cls ⟨_,_,I2,os,b,u,ok,fy⟩ j
 | ok fl =>
  cases fl with
  | ret u =>
   obtain ⟨v,H',I3,rv,ev,q3⟩:=I2.after hq'
   subst ev
   exact ⟨rv,⟨V.ref (s.heap.objs.size+1),H',I3,rfl,q3⟩⟩
  | next=>exact False.elim hq'
  | brk=>exact False.elim hq'
  | cont=>exact False.elim hq'
theorem qO {f:Str}(K:PySem.W.Frag) (he:PE X e ta) (hb:attributeBase e f X.env (eval e X.env)=eval e X.env:=by rfl) (hK:X.K=K:=by rfl):PE X (.Attribute e f pos) (Ee K ta f):=by subst hK;exact G2 he hb
theorem uv {f:Str}{value:Expr}{pos':Pos}{tv:TE}(K:PySem.W.Frag) (ha:PE X o ta) (hv:PE X value tv) (hs:swapsWith value (some (.Attribute o f pos')) pos.line X.env=pure false:=by rfl) (hK:X.K=K:=by rfl):PS X (.Assign [.Attribute o f pos'] value pos) (Eb K ta tv f):=by subst hK;exact GY ha hv hs
end
theorem G8 {K:PySem.W.Frag}{a acc:Addr}{xs:List V}{g2:TG}{ti2:TT}{te:TE}{NX:St->Hp->Prop}{σ:St}{H:Hp}(Pv:Nat->St->Hp->Prop) (h0:Pv 0 σ H) (hl:∀i σ H,i<=xs.length->Pv i σ H->SqT K H a xs)
  (hs:∀i x σ H,xs[i]? = some x->Pv i σ H->g2 x σ H λσ3 H3=>ti2 σ3 H3 λok H4=>if ok=true then te σ3 H4 λv H5=>∃ys,H5 acc=some (.lst ys)/\ys.length<sizeLine/\Pv (i+1) σ3 (upd H5 acc (.lst (ys++[v]))) else Pv (i+1) σ3 H4)
  (hd:∀σ H,Pv xs.length σ H->NX σ H):ko acc g2 ti2 te (Itt K a) NX σ H:=by
 refine ⟨λi m σ H=>m=xs.length-i/\i<=xs.length/\Pv i σ H,⟨xs.length,by simp,Nat.zero_le _,h0⟩,λi m σ H z=>?_⟩
 obtain ⟨rfl,hi,p⟩:=z
 have q:=hl i σ H hi p
 by_cases hlt:i<xs.length
 ·refine .inr ⟨⟨xs,xs[i],q,by simp [hlt]⟩,Pv (i+1),λσ' H' p'=>⟨xs.length-(i+1),∅,rfl,hlt,p'⟩,λx H' y=>?_⟩
  obtain ⟨e,y⟩:=y
  subst e
  exact hs i x σ _ (y xs q) p
 ·obtain rfl:i=xs.length:=∅
  exact .inl ⟨⟨xs,q,Nat.le_refl _⟩,hd σ H p⟩
theorem Yr {K:PySem.W.Frag}{a acc:Addr}{xs:List V}{g g2:TG}{ti ti2:TT}{wi2:TI}{te:TE}{R:Hp->Prop}{σ:St}{H:Hp}(Pv:Nat->St->Hp->Prop) (h0:Pv 0 σ H) (hl:∀i σ H,i<=xs.length->Pv i σ H->SqT K H a xs)
  (hs:∀i x σ H,xs[i]? = some x->Pv i σ H->g x σ H λσ3 H3=>ti σ3 H3 λok H4=>if ok=true then wi2 σ3 H4 λJ2 H5=>ko acc g2 ti2 te J2 (Pv (i+1)) σ3 H5 else Pv (i+1) σ3 H4)
  (hd:∀σ H,Pv xs.length σ H->R H) :
  ∃W:Nat->Nat->St->Hp->Prop,(∃m,W 0 m σ H)/\∀i m σ' H',W i m σ' H' ->
   ((Itt K a).stop i H'/\R H')\/((Itt K a).go i H'/\∃NX:St->Hp->Prop,(∀σ2 H2,NX σ2 H2->∃m',m'<m/\W (i+1) m' σ2 H2) /\
    ∀x H2,(Itt K a).yld i H' x H2->g x σ' H2 λσ3 H3=>ti σ3 H3 λok H4=>if ok=true then wi2 σ3 H4 λJ2 H5=>ko acc g2 ti2 te J2 NX σ3 H5 else NX σ3 H4):=by
 refine ⟨λi m σ H=>m=xs.length-i/\i<=xs.length/\Pv i σ H,⟨xs.length,by simp,Nat.zero_le _,h0⟩,λi m σ H z=>?_⟩
 obtain ⟨rfl,hi,p⟩:=z
 have q:=hl i σ H hi p
 by_cases hlt:i<xs.length
 ·refine .inr ⟨⟨xs,xs[i],q,by simp [hlt]⟩,Pv (i+1),λσ' H' p'=>⟨xs.length-(i+1),∅,rfl,hlt,p'⟩,λx H' y=>?_⟩
  obtain ⟨e,y⟩:=y
  subst e
  exact hs i x σ _ (y xs q) p
 ·obtain rfl:i=xs.length:=∅
  exact .inl ⟨⟨xs,q,Nat.le_refl _⟩,hd σ H p⟩
theorem gQ {X:Cx}:Acc X λ_ _ _=>False:=λ_ _ _ _ _ _ _ z=>z.elim
end L2
end
section
namespace L2
open PySem.W
inductive gN (K:PySem.W.Frag) (n:Str) (s:Stmt):Prop
 | mk {f:Addr} {oc kV dc pm cd ct:Value} {od an:Option Addr} {sl:Array (Option Value)} (a:nsIn K mainGlobals n=some (some (.ref f))) (l:K.lookup f=some ⟨oc,od,.func (fnOf n n (qd s) (jV s) (j7 s) .none kV dc pm an cd ct),sl⟩) (c:codeIn K cd n=true) (k:keepIn K (.ref f)=true)
inductive gM (K:PySem.W.Frag) (C:Addr) (m q:Str) (s:Stmt):Prop
 | mk {f:Addr} {oc kV dc pm cd ct:Value} {od an:Option Addr} {sl:Array (Option Value)} (a:findIn K (.ref C) m=some (some (.ref f))) (i:isFn K (.ref f)=true) (l:K.lookup f=some ⟨oc,od,.func (fnOf m q (qd s) (jV s) (j7 s) .none kV dc pm an cd ct),sl⟩) (c:codeIn K cd q=true) (k:keepIn K (.ref f)=true)
structure gE (K:PySem.W.Frag) (n:Str) (C:Addr):Prop where
 e:nsIn K mainGlobals n=some (some (.ref C))
 x:excIn K C [.type "ValueError",.type "Exception",.type "BaseException",.type "object"] "ValueError.__new__" = true
 m:exmOne K (.ref C) (.ref C)=some true
abbrev gB (x q:Str) (st:Stmt) (ps:List Str):Prop:=∀(kV doc pm:Value) (an:Option Addr) (cdv ct:Value) (us:List Value),us.length=ps.length->bindArgs (fnOf x q (qd st) (jV st) (j7 st) .none kV doc pm an cdv ct) ⟨us,[]⟩=pure (ps.zip us)
inductive Zt (P:Program) (w:World) (K:PySem.W.Frag) (mg:Str->Option Value) (base:Heap):Prop
 | mk {h:Heap} (X:K.In h) (G:h.Ns mainGlobals mg)
section
variable {P:Program}{w:World}{K:PySem.W.Frag}{mg:Str->Option Value}{base:Heap}{k:Nat}{x q:Str}{ps:List Str}{sp:Sp}{st:Stmt}{C:Addr}
theorem gN.cal (a:gN K x st) (z:Zt P w K mg base) (hb:gB x x st ps)
  (ok:∀{f:Addr} {fd:FuncData},Fun K x x st f fd->FnOk P w K mg base CX0 k f fd ps sp):Cal P w K mg base k x ps sp:=by
 obtain ⟨a,l,c,k'⟩:=a
 obtain ⟨X,G⟩:=z
 exact Cal.mk' X G a l c k' hb ok
theorem gN.calX (a:gN K x st) (z:Zt P w K mg base) (hb:gB x x st ps)
  (ok:∀{f:Addr} {fd:FuncData},Fun K x x st f fd->FnOk P w K mg base (CX1 P w) k f fd ps sp):CalX P w K mg base k x ps sp:=by
 obtain ⟨a,l,c,k'⟩:=a
 obtain ⟨X,G⟩:=z
 exact CalX.mk' X G a l c k' hb ok
theorem gM.cal (a:gM K C x q st) (z:Zt P w K mg base) (hb:gB x q st ps)
  (ok:∀{f:Addr} {fd:FuncData},Fun K x q st f fd->FnOk P w K mg base CX0 k f fd ps sp):CalM P w K mg base k C x ps sp:=by
 obtain ⟨a,i,l,c,k'⟩:=a
 have F:=vJ (st:=st) l c k'
 exact ⟨_,_,ok F,F.binds hb,⟨a,i,k'⟩⟩
theorem gM.calX (a:gM K C x q st) (z:Zt P w K mg base) (hb:gB x q st ps)
  (ok:∀{f:Addr} {fd:FuncData},Fun K x q st f fd->FnOk P w K mg base (CX1 P w) k f fd ps sp):CalMX P w K mg base k C x ps sp:=by
 obtain ⟨a,i,l,c,k'⟩:=a
 have F:=vJ (st:=st) l c k'
 exact ⟨_,_,ok F,F.binds hb,⟨a,i,k'⟩⟩
theorem gM.mak {y:Str}(a:gM K C "__init__" q st) (z:Zt P w K mg base) (m:makesIn K C=true) (kc:keepIn K (.ref C)=true) (n:nsIn K mainGlobals y=some (some (.ref C))) (hb:gB "__init__" q st ps)
  (ok:∀{f:Addr} {fd:FuncData},Fun K "__init__" q st f fd->FnOk P w K mg base (CX1 P w) k f fd ps sp):MakX P w K mg base k C y ps sp:=by
 obtain ⟨a,i,l,c,k'⟩:=a
 obtain ⟨X,G⟩:=z
 have F:=vJ (st:=st) l c k'
 exact ⟨_,_,ok F,F.binds hb,⟨m,a,i,kc⟩,mg_of X G n⟩
end
theorem bnd1 {fd:FuncData}{ps:List Str}{us:List Value}(hl:us.length=1) (h:∀a,bindArgs fd ⟨[a],[]⟩=pure (ps.zip [a])):bindArgs fd ⟨us,[]⟩=pure (ps.zip us):=match us,hl with | [a],_=>h a
theorem bnd2 {fd:FuncData}{ps:List Str}{us:List Value}(hl:us.length=2) (h:∀a b,bindArgs fd ⟨[a,b],[]⟩=pure (ps.zip [a,b])):bindArgs fd ⟨us,[]⟩=pure (ps.zip us):=match us,hl with | [a,b],_=>h a b
theorem bnd3 {fd:FuncData}{ps:List Str}{us:List Value}(hl:us.length=3) (h:∀a b c,bindArgs fd ⟨[a,b,c],[]⟩=pure (ps.zip [a,b,c])):bindArgs fd ⟨us,[]⟩=pure (ps.zip us):=match us,hl with | [a,b,c],_=>h a b c
theorem bnd4 {fd:FuncData}{ps:List Str}{us:List Value}(hl:us.length=4) (h:∀a b c d,bindArgs fd ⟨[a,b,c,d],[]⟩=pure (ps.zip [a,b,c,d])):bindArgs fd ⟨us,[]⟩=pure (ps.zip us):=match us,hl with | [a,b,c,d],_=>h a b c d
theorem bnd5 {fd:FuncData}{ps:List Str}{us:List Value}(hl:us.length=5) (h:∀a b c d e,bindArgs fd ⟨[a,b,c,d,e],[]⟩=pure (ps.zip [a,b,c,d,e])):bindArgs fd ⟨us,[]⟩=pure (ps.zip us):=match us,hl with | [a,b,c,d,e],_=>h a b c d e
theorem bnd6 {fd:FuncData}{ps:List Str}{us:List Value}(hl:us.length=6) (h:∀a b c d e f,bindArgs fd ⟨[a,b,c,d,e,f],[]⟩=pure (ps.zip [a,b,c,d,e,f])):bindArgs fd ⟨us,[]⟩=pure (ps.zip us):=match us,hl with | [a,b,c,d,e,f],_=>h a b c d e f
end L2
end
section
namespace L2
open PySem.W
theorem V6 {X:Cx}{a:Expr}{ta:TE}(K:PySem.W.Frag) (ha:PE X a ta) (he:∀whole,isTrue a X.env whole=(do let v <- whole;standAt a.pos;holding [v] (truthy v)):=by intro _;rfl) (hK:X.K=K:=by rfl) :
  PT X a (λσ H Q=>ta σ H λx H'=>∃k,WZ K x H' k/\Q k H'):=by subst hK;exact VB ha he
theorem iteP {c:Bool}{A B:Prop}(h:c=true) (k:A):if c=true then A else B:=by rw [if_pos h];exact k
theorem Wn {t u:TT}(ht:∀σ H Q Q',(∀b H1,Q b H1->Q' b H1)->t σ H Q->t σ H Q') (hu:∀σ H Q Q',(∀b H1,Q b H1->Q' b H1)->u σ H Q->u σ H Q'):∀σ H Q Q',(∀b H1,Q b H1->Q' b H1)->Gy t u σ H Q->Gy t u σ H Q':=by
 intro σ H Q Q' h q
 refine ht σ H _ _ (λc H1 z=>?_) q
 cases c with
 | true=>exact yN (hu σ H1 Q Q' h z)
 | false=>exact we (h _ _ z)
abbrev K2:=Int×Int
def Uw (t:T3):K2:=(t.1,t.2.1)
def jt (rs:List T3):List K2:=rs.flatMap λr=>List.replicate r.2.2.toNat (Uw r)
def zO (rs:List T3):Prop:=(∀r∈rs,1<=r.2.2)/\rs.Pairwise λa b=>a.1<b.1
theorem zK (r:T3) (rs:List T3):jt (r::rs)=List.replicate r.2.2.toNat (Uw r)++jt rs:=rfl
theorem qq (a b:List T3):jt (a++b)=jt a++jt b:=List.flatMap_append
theorem uf:∀{rs:List T3},zO rs->((jt rs).length:Int)=(rs.map λr=>r.2.2).sum
 | [],_=>rfl
 | r::rs,g=>by
  rw [zK,List.length_append,List.length_replicate,List.map_cons,List.sum_cons,<- uf (rs:=rs) ⟨λr hr=>g.1 r (List.mem_cons_of_mem _ hr),(List.pairwise_cons.mp g.2).2⟩]
  have:=g.1 r List.mem_cons_self
  push_cast
  omega
theorem uP {rs:List T3}(g:zO rs):rs.length<=(jt rs).length:=by
 have:∀{rs:List T3},(∀r∈rs,1<=r.2.2)->rs.length<=(jt rs).length:=by
  intro rs
  induction rs with
  | nil=>intro _;exact Nat.le_refl _
  | cons r rs ih =>
   intro a
   have:=ih λr hr=>a r (List.mem_cons_of_mem _ hr)
   have h1:=a r List.mem_cons_self
   rw [zK,List.length_append,List.length_replicate,List.length_cons]
   omega
 exact this g.1
structure Tk (rs:List T3) (m0:Int) (left off:List T3) (m:Int):Prop where
 keys:jt left++jt off.reverse=jt rs
 gl:zO left
 go:zO off.reverse
 cnt:((jt off.reverse).length:Int)=m0-m
 m0':0<=m
 sep:0<m->∀a∈left,∀b∈off,a.1<b.1
theorem Tk.start {rs:List T3}{m:Int}(g:zO rs) (h:0<=m):Tk rs m rs [] m:=⟨by simp [jt],g,⟨λr h=>by simp at h,by simp⟩,by simp [jt],h,λ_ _ _ _ h=>by cases h⟩
theorem Tk.whole {rs:List T3}{m0 m:Int}{left off:List T3}{y p h:Int}(t:Tk rs m0 (left++[(y,p,h)]) off m) (hm:0<m) (hh:h<=m):Tk rs m0 left (off++[(y,p,h)]) (m-h):=by
 have h1:1<=h:=t.gl.1 _ (List.mem_append_right _ List.mem_cons_self)
 have pw:=List.pairwise_append.mp t.gl.2
 refine ⟨?_,⟨λr hr=>t.gl.1 r (List.mem_append_left _ hr),pw.1⟩,?_,?_,∅,?_⟩
 ·rw [List.reverse_append,qq,<- t.keys,qq,List.append_assoc]
  rfl
 ·rw [List.reverse_append]
  refine ⟨λr hr=>?_,?_⟩
  ·rcases List.mem_append.mp hr with z | z
   ·have:r=(y,p,h):=by simpa using z
    rw [this];exact h1
   ·exact t.go.1 r z
  ·show List.Pairwise _ ((y,p,h)::off.reverse)
   exact List.pairwise_cons.mpr ⟨λb hb=>t.sep hm _ (List.mem_append_right _ List.mem_cons_self) b (List.mem_reverse.mp hb),t.go.2⟩
 ·rw [List.reverse_append,qq,List.length_append]
  have:=t.cnt
  have e:((jt [(y,p,h)].reverse).length:Int)=h:=by
   show ((List.replicate h.toNat (Uw (y,p,h))++[]).length:Int)=h
   rw [List.append_nil,List.length_replicate]
   omega
  push_cast
  omega
 ·intro hm' a ha b hb
  rcases List.mem_append.mp hb with z | z
  ·exact t.sep hm a (List.mem_append_left _ ha) b z
  ·have:b=(y,p,h):=by simpa using z
   rw [this]
   exact pw.2.2 a ha _ List.mem_cons_self
theorem Tk.part {rs:List T3}{m0 m:Int}{left off:List T3}{y p h:Int}(t:Tk rs m0 (left++[(y,p,h)]) off m) (hm:0<m) (hh:m<h):Tk rs m0 (left++[(y,p,h-m)]) (off++[(y,p,m)]) 0:=by
 have pw:=List.pairwise_append.mp t.gl.2
 have e:∀k:Int,jt [(y,p,k)]=List.replicate k.toNat (y,p):=λk=>by
  show List.replicate k.toNat (Uw (y,p,k))++[]=_
  rw [List.append_nil]
  rfl
 refine ⟨?_,⟨λr hr=>?_,?_⟩,⟨λr hr=>?_,?_⟩,?_,Int.le_refl _,λz=>absurd z ∅⟩
 ·rw [List.reverse_append,qq,qq,<- t.keys,qq,List.append_assoc,List.append_assoc,show [(y,p,m)].reverse=[(y,p,m)] from rfl,e,e,e]
  congr 1
  rw [<- List.append_assoc]
  congr 1
  rw [List.replicate_append_replicate]
  congr 1
  omega
 ·rcases List.mem_append.mp hr with z | z
  ·exact t.gl.1 r (List.mem_append_left _ z)
  ·have:r=(y,p,h-m):=by simpa using z
   rw [this]
   show 1<=h-m
   omega
 ·refine List.pairwise_append.mpr ⟨pw.1,by simp,λa ha b hb=>?_⟩
  have:b=(y,p,h-m):=by simpa using hb
  rw [this]
  exact pw.2.2 a ha (y,p,h) List.mem_cons_self
 ·rw [List.reverse_append] at hr
  rcases List.mem_append.mp hr with z | z
  ·have:r=(y,p,m):=by simpa using z
   rw [this]
   show 1<=m
   omega
  ·exact t.go.1 r z
 ·rw [List.reverse_append]
  show List.Pairwise _ ((y,p,m)::off.reverse)
  exact List.pairwise_cons.mpr ⟨λb hb=>t.sep hm _ (List.mem_append_right _ List.mem_cons_self) b (List.mem_reverse.mp hb),t.go.2⟩
 ·rw [List.reverse_append,qq,List.length_append]
  have:=t.cnt
  have e2:((jt [(y,p,m)].reverse).length:Int)=m:=by
   rw [show [(y,p,m)].reverse=[(y,p,m)] from rfl,e,List.length_replicate]
   omega
  push_cast
  omega
end L2
end
section
namespace L2
end L2
namespace L2
section
variable (P:Program) (w:World)
end
section
variable {P:Program}{w:World}{H H':Hp}{h h':Heap}{a:Addr}{o:HO}
end
section
variable {P:Program}{w:World}{H:Hp}{h h':Heap}{x e:Addr}{o':HO}
end
section
variable {fs fs' ex ex':List Addr}{H H1 H2:Hp}{h h1 h2 h':Heap}{a x e:Addr}{o:HO}
end
end L2
namespace L2
section
variable {X:Cx}{pins:List (Addr×Obj)}{σ:List (Option V)}{H H':Hp}{s:Shared}{h':Heap}
end
end L2
namespace L2
section
variable {X:Cx}
variable {a b:Expr}{ta tb:TE}{pos:Pos}
variable {tA tB':TT}{vT:List Expr}
end
end L2
namespace L2
section
variable {X:Cx}{pins:List (Addr×Obj)}{σ:St}{H:Hp}{s:Shared}{a:Addr}{xs ys:List V}
end
section
variable {X:Cx}{pins:List (Addr×Obj)}{σ:St}{H:Hp}{s:Shared}{E:Value->Shared->Prop}
end
section
variable {X:Cx}{st:Stmt}{vT:List Stmt}{t u:TS}{e:Expr}{te:TE}{pos:Pos}
end
section
variable {X:Cx}{pos:Pos}
end
section
variable {X:Cx}{pos:Pos}
end
end L2
namespace L2
section
variable {X:Cx}{tg:Expr}
end
end L2
namespace L2
section
variable {X:Cx}{a b c:Expr}{ta tb tc:TE}{pos:Pos}
end
section
variable {X:Cx}{a b c:Expr}{ta tb tc:TE}{pos:Pos}
end
end L2
namespace L2
section
variable {prog:Program}{w:World}{A:Around}{E:Value->Shared->Prop}{s:Shared}{K:PySem.W.Frag}{x dx C f:Addr}{mA:Str->Option Value}{name:Str}{v:Value}
end
section
variable {P:Program}{w:World}{H H':Hp}{h h':Heap}{a C dx:Addr}{fs fs':List (Str×V)}
end
section
variable {X:Cx}{pins:List (Addr×Obj)}{σ:St}{H:Hp}{s:Shared}{a C dx:Addr}{fs:List (Str×V)}{f:Str}{v:V}{A:Around}{E:Value->Shared->Prop}
end
section
variable {X:Cx}{o e value:Expr}{f:Str}{pos pos' tpos:Pos}{ta tv:TE}
end
section
variable {X:Cx}{pins:List (Addr×Obj)}{σ:St}{H:Hp}{s:Shared}{A:Around}{E:Value->Shared->Prop}{Q:Value->Shared->Prop}{c:Value}{b:Bool}
end
end L2
namespace L2
section
variable {X:Cx}{e:Expr}{es:List Expr}{te:TE}{t:TA}{pos:Pos}
end
section
variable {X:Cx}{pins:List (Addr×Obj)}{σ:St}{H:Hp}{s s':Shared}
end
section
variable {X:Cx}{CX:CXT}{k:Nat}{f C:Addr}{fd:FuncData}{ps:List Str}{sp:Sp}{dvs:List V}{ds:List Value}{E:XK}{x m:Str}{p pos apos:Pos}{e o:Expr}{es:List Expr}{ta:TE}{t:TA}
end
section
variable {X:Cx}{CX:CXT}{k:Nat}{f C:Addr}{fd:FuncData}{ps ks:List Str}{sp:Sp}{E:XK}{x m:Str}{p pos apos kpos:Pos}{e o:Expr}{es:List Expr}{kws:List Keyword}{te ta:TE}{t tk:TA}{nm:Option Str}
variable {g:List Value->List Value->List Value}{gV:List V->List V->List V}
end
end L2
namespace L2
section
variable {X:Cx}{x:Str}{p pos:Pos}{e:Expr}{es:List Expr}{t:TA}{id T:String}{r:List V->Hp->VK->Prop}
end
end L2
namespace L2
section
variable {κ:Type} [DecidableEq κ]
def qK (kvs:List (κ×V)) (k:κ):Option V:=(kvs.find? λkv=>decide (kv.1=k)).map (·.2)
def qR (kvs:List (κ×V)) (k:κ) (v:V):List (κ×V) :=
 if (kvs.any λkv=>decide (kv.1=k))=true then kvs.map (λkv=>if kv.1=k then (kv.1,v) else kv) else kvs++[(k,v)]
theorem vf {k:κ}:qK ([]:List (κ×V)) k=none:=rfl
theorem kY {p:κ×V}{r:List (κ×V)}{k:κ}(e:p.1=k):qK (p::r) k=some p.2:=by simp [qK,List.find?_cons,e]
theorem hX {p:κ×V}{r:List (κ×V)}{k:κ}(e:¬p.1=k):qK (p::r) k=qK r k:=by simp [qK,List.find?_cons,e]
theorem k8 (k:κ):∀kvs:List (κ×V),(kvs.any λkv=>decide (kv.1=k))=(qK kvs k).isSome
 | []=>rfl
 | p::r=>by
  rw [List.any_cons]
  by_cases e:p.1=k
  ·simp only [kY e,decide_eq_true e,Bool.true_or,Option.isSome_some]
  ·rw [hX e,decide_eq_false e,Bool.false_or];exact k8 k r
theorem vd (kvs:List (κ×V)) (k:κ) (v:V):(qR kvs k v).length<=kvs.length+1:=by
 unfold qR
 split
 ·rw [List.length_map];omega
 ·rw [List.length_append,List.length_cons,List.length_nil];omega
theorem yZ {kvs:List (κ×V)}{k:κ}(v:V) (h:qK kvs k=none):qR kvs k v=kvs++[(k,v)]:=by
 unfold qR
 rw [k8,h]
 exact if_neg ⋯
theorem yF.isSome_eq {o:Option V}{u:Option Value}(r:yF o u):o.isSome=u.isSome:=by
 cases o with
 | none=>cases u with
  | none=>rfl
  | some _=>exact (show False from r).elim
 | some _=>cases u with
  | none=>exact (show False from r).elim
  | some _=>rfl
theorem yF.getD {o:Option V}{u:Option Value}{d:V}{d':Value}(r:yF o u) (rd:jE d d'):jE (o.getD d) (u.getD d'):=by
 cases o with
 | none=>cases u with
  | none=>exact rd
  | some _=>exact (show False from r).elim
 | some _=>cases u with
  | none=>exact (show False from r).elim
  | some _=>exact r
theorem KV.val {kvs:List (κ×V)}{vs:List (κ×Value)}(r:KV kvs vs) (k:κ):yF (qK kvs k) (valueAt vs k):=by
 unfold KV at r
 induction r with
 | nil=>exact True.intro
 | @cons p q ps qs h t ih =>
  obtain ⟨h1,h2⟩:=h
  by_cases e:p.1=k
  ·have e':q.1=k:=h1.symm.trans e
   have b:valueAt (q::qs) k=some q.2:=by simp [valueAt,List.find?_cons,e']
   rw [kY e,b];exact h2
  ·have e':¬q.1=k:=λz=>e (h1.trans z)
   have b:valueAt (q::qs) k=valueAt qs k:=by simp [valueAt,List.find?_cons,e']
   rw [hX e,b];exact ih
theorem KV.any {kvs:List (κ×V)}{vs:List (κ×Value)}(r:KV kvs vs) (k:κ):(kvs.any λkv=>decide (kv.1=k))=vs.any λkv=>decide (kv.1=k):=by
 unfold KV at r
 induction r with
 | nil=>rfl
 | cons h t ih=>rw [List.any_cons,List.any_cons,ih,h.1]
theorem KV.repl {kvs:List (κ×V)}{vs:List (κ×Value)}(r:KV kvs vs) (k:κ) {y:V}{u:Value}(ry:jE y u) :
  KV (kvs.map λkv=>if kv.1=k then (kv.1,y) else kv) (vs.map λkv=>if kv.1=k then (kv.1,u) else kv):=by
 unfold KV at r ⊢
 induction r with
 | nil=>exact .nil
 | @cons p q ps qs h t ih =>
  rw [List.map_cons,List.map_cons]
  refine .cons ?_ ih
  obtain ⟨h1,h2⟩:=h
  by_cases e:p.1=k
  ·rw [if_pos e,if_pos (h1.symm.trans e)];exact ⟨h1,ry⟩
  ·rw [if_neg e,if_neg (λz=>e (h1.trans z))];exact ⟨h1,h2⟩
theorem KV.put {kvs:List (κ×V)}{vs:List (κ×Value)}(r:KV kvs vs) (k:κ) {y:V}{u:Value}(ry:jE y u):KV (qR kvs k y) (stored vs k u):=by
 unfold qR stored
 rw [r.any k]
 by_cases e:(vs.any λkv=>decide (kv.1=k))=true
 ·rw [if_pos e,if_pos e];exact r.repl k ry
 ·rw [if_neg e,if_neg e];exact Paired.snoc r ⟨rfl,ry⟩
theorem KV.length {kvs:List (κ×V)}{vs:List (κ×Value)}(r:KV kvs vs):kvs.length=vs.length:=Paired.length r
end
theorem Jw {P:Program}{w:World}{k:Key}{u:Value}(r:jE (kV k) u):(jF P w).is k u=true:=by
 cases k with
 | inl i=>obtain ⟨t,e⟩:=(show ∃t,u=Value.int i t from r);subst e;exact XJ P w i t
 | inr x=>obtain ⟨t,e⟩:=(show ∃t,u=Value.str x t from r);subst e;exact QA P w x t
theorem JI {P:Program}{w:World}:∀{ks:List Key}{us:List Value},jD (ks.map kV) us->ItemsAre (jF P w) ks us
 | [],_,r=>by rw [List.map_nil] at r;cases r;exact .nil
 | k::ks,_,r=>by
  rw [List.map_cons] at r
  cases r with
  | cons h t=>exact .cons (Jw h) (JI t)
abbrev KT (H:Hp):List (List Key×V)->List (List Key×Addr×Value)->Prop:=Paired λp q=>p.1=q.1/\H q.2.1=some (.tup (p.1.map kV))/\jE p.2 q.2.2
theorem KT.val {H:Hp}{kvs:List (List Key×V)}{xs:List (List Key×Addr×Value)}(r:KT H kvs xs) (k:List Key):yF (qK kvs k) ((atKey xs k).map (·.2)):=by
 induction r with
 | nil=>exact True.intro
 | @cons p q ps qs h t ih =>
  obtain ⟨h1,_,h2⟩:=h
  by_cases e:p.1=k
  ·have e':q.1=k:=h1.symm.trans e
   have b:atKey (q::qs) k=some q.2:=by simp [atKey,List.find?_cons,e']
   rw [kY e,b];exact h2
  ·have e':¬q.1=k:=λz=>e (h1.trans z)
   have b:atKey (q::qs) k=atKey qs k:=by simp [atKey,List.find?_cons,e']
   rw [hX e,b];exact ih
theorem KT.repl {H:Hp}{kvs:List (List Key×V)}{xs:List (List Key×Addr×Value)}(r:KT H kvs xs) (k:List Key) {y:V}{u:Value}(ry:jE y u) :
  KT H (kvs.map λkv=>if kv.1=k then (kv.1,y) else kv) (xs.map (putAt k u)):=by
 induction r with
 | nil=>exact .nil
 | @cons p q ps qs h t ih =>
  rw [List.map_cons,List.map_cons]
  refine .cons ?_ ih
  obtain ⟨h1,h2,h3⟩:=h
  unfold putAt
  by_cases e:p.1=k
  ·rw [if_pos e,if_pos (h1.symm.trans e)];exact ⟨h1,h2,ry⟩
  ·rw [if_neg e,if_neg (λz=>e (h1.trans z))];exact ⟨h1,h2,h3⟩
theorem KT.put {H:Hp}{kvs:List (List Key×V)}{xs:List (List Key×Addr×Value)}(r:KT H kvs xs) (k:List Key) {b:Addr}{y:V}{u:Value}(hb:H b=some (.tup (k.map kV))) (ry:jE y u) :
  KT H (qR kvs k y) (storedH xs k b u):=by
 have e:(kvs.any λkv=>decide (kv.1=k))=(atKey xs k).isSome:=by
  rw [k8,(r.val k).isSome_eq,Option.isSome_map]
 unfold qR storedH
 rw [e]
 by_cases q:(atKey xs k).isSome=true
 ·rw [if_pos q,if_pos q];exact r.repl k ry
 ·rw [if_neg q,if_neg q];exact Paired.snoc r ⟨rfl,hb,ry⟩
theorem KT.keeps {H H':Hp}{kvs:List (List Key×V)}{xs:List (List Key×Addr×Value)}(r:KT H kvs xs) (ht:∀b ys,H b=some (.tup ys)->H' b=some (.tup ys)):KT H' kvs xs :=
 Paired.mapP r λ_ _ z=>⟨z.1,ht _ _ z.2.1,z.2.2⟩
section
variable {P:Program}{w:World}{H:Hp}{h:Heap}{a:Addr}
theorem WN {u:HO}(ok:HOk P w H h) (e:Rd H a u):qp P w H h a u:=e.ok ok
theorem kJ {kvs:List (Key×V)}(ok:HOk P w H h) (e:Rd H a (.dK kvs)):kvs.length<=sizeLine/\(a == sysModules)=false/\∃vs,KV kvs vs/\h.DictOf (jF P w) a vs :=
 show qp P w H h a (.dK kvs) from WN ok e
theorem Uu {kvs:List (Key×V)}(ok:HOk P w H h) (e:H a=some (.dK kvs)):kvs.length<=sizeLine/\(a == sysModules)=false/\∃vs,KV kvs vs/\h.DictOf (jF P w) a vs:=kJ ok (.inl e)
theorem Qg {ks:List Key}(ok:HOk P w H h) (e:H a=some (.tup (ks.map kV))):(tupleKind (jF P w)).is h ks a:=by
 obtain ⟨_,its,r,o,h1,h2,n,h3⟩:=(show qp P w H h a (.tup (ks.map kV)) from ok a _ e)
 exact ⟨o,its.toArray,n,h1,h2,h3,by simpa using JI r⟩
theorem Xz {kvs:List (List Key×V)}(ok:HOk P w H h) (e:Rd H a (.dT kvs)):kvs.length<=sizeLine/\(a == sysModules)=false /\
  ∃xs,KT H kvs xs/\h.DictOfH (tupleKind (jF P w)) a xs:=by
 obtain ⟨z,y,xs,r,o,es,ep,h1,h2,h3,h4,h5⟩:=(show qp P w H h a (.dT kvs) from WN ok e)
 refine ⟨z,y,xs,r,o,es,ep,h1,h2,h3,h4,λx hx=>?_,h5⟩
 have all:∀{l:List (List Key×V)} {m:List (List Key×Addr×Value)},KT H l m->∀x∈m,(tupleKind (jF P w)).is h x.1 x.2.1:=by
  intro l m q
  induction q with
  | nil=>intro x hx;exact nomatch hx
  | @cons p q ps qs hq t ih =>
   intro x hx
   rcases List.mem_cons.mp hx with e | hx
   ·subst e
    exact Qg ok (by rw [<- hq.1];exact hq.2.1)
   ·exact ih x hx
 exact all r x hx
theorem Ej {kvs:List (List Key×V)}(ok:HOk P w H h) (e:H a=some (.dT kvs)):kvs.length<=sizeLine/\(a == sysModules)=false /\
  ∃xs,KT H kvs xs/\h.DictOfH (tupleKind (jF P w)) a xs:=Xz ok (.inl e)
end
def xY (H:Hp) (a:Addr) (y:V) (r:Option V):Prop :=
 (∃kvs k,Rd H a (.dK kvs)/\y=kV k/\r=qK kvs k)\/∃kvs k b,Rd H a (.dT kvs)/\y = .ref b/\H b=some (.tup (k.map kV))/\r=qK kvs k
def J7 (H:Hp) (a:Addr) (y v:V) (H':Hp):Prop :=
 (∃kvs k,H a=some (.dK kvs)/\y=kV k/\kvs.length<sizeLine/\H'=upd H a (.dK (qR kvs k v))) \/
 ∃kvs k b,H a=some (.dT kvs)/\y = .ref b/\H b=some (.tup (k.map kV))/\kvs.length<sizeLine/\H'=upd H a (.dT (qR kvs k v))
theorem xY.k {H:Hp}{a:Addr}{kvs:List (Key×V)}{k:Key}(e:H a=some (.dK kvs)):xY H a (kV k) (qK kvs k):=.inl ⟨kvs,k,.inl e,rfl,rfl⟩
theorem J7.k {H:Hp}{a:Addr}{kvs:List (Key×V)}{k:Key}{v:V}(e:H a=some (.dK kvs)) (hl:kvs.length<sizeLine):J7 H a (kV k) v (upd H a (.dK (qR kvs k v))):=.inl ⟨kvs,k,e,rfl,hl,rfl⟩
section
variable {X:Cx}{pins:List (Addr×Obj)}{σ:St}{H:Hp}{s:Shared}{a:Addr}{y v:V}{u r:Value}{o:Option V}{A:Around}{E:Value->Shared->Prop}
theorem Inv.big (I:Inv X pins σ H s):sysModules<s.heap.objs.size:=by
 have h:mainGlobals<s.heap.objs.size:=(I.mod.glob.keeps I.bk).lt
 exact Nat.lt_trans ⋯ h
theorem Yt {Q:Value->Shared->Prop}(hu:A.units+1<cLine) (I:Inv X pins σ H s) (g:xY H a y (some v)) (ry:jE y u) (h:∀w' s',Inv X pins σ H s'->jE v w'->Q w' s') :
  wpAny (model X.prog X.w) A (getItem (.ref a) u) Q E s:=by
 rcases g with ⟨kvs,k,e,ey,l⟩ | ⟨kvs,k,b,e,ey,eb,l⟩
 ·subst ey
  obtain ⟨z,hd,vs,rel,dd⟩:=kJ I.hok e
  obtain ⟨w',hw,rw'⟩:=yF.some_of (v:=v) (o:=valueAt vs k) (by rw [l];exact rel.val k)
  exact wpAny_getItem_of (Jw ry) dd.mapOf hw (h w' _ (I.tok _) rw')
 ·subst ey
  cases (show u=Value.ref b from ry)
  obtain ⟨z,hd,xs,rel,dd⟩:=Xz I.hok e
  obtain ⟨w',hw,rw'⟩:=yF.some_of (v:=v) (o:=(atKey xs k).map (·.2)) (by rw [l];exact rel.val k)
  obtain ⟨p,hp,hp2⟩:=Option.map_eq_some_iff.mp hw
  refine wpAny_getItem_heap (tupleKind_room_in1 hu) (Qg I.hok eb) dd hp ?_
  rw [hp2]
  exact h w' _ (I.tok _) rw'
theorem JP {h':Heap}{t':Nat}{ob:HO}(I:Inv X pins σ H s) (mu:Mut (H a)) (hs:Heap.SameBut a s.heap h') (he:∃q,h'.get? a=some q) (new:qp X.prog X.w (upd H a ob) h' a ob) :
  Inv X pins σ (upd H a ob) { s with heap:=h',toks:=t' } :=
 I.write (x:=a) (e:=a) mu (.inl rfl) (λb q hb z=>(hs.2 b hb).trans z) he new
theorem ZF {P:Program}{w:World}{H':Hp}{h':Heap}{kvs:List (Key×V)}{vs:List (Key×Value)}(z:kvs.length<=sizeLine) (hd:(a == sysModules)=false) (rel:KV kvs vs) (dd:h'.DictOf (jF P w) a vs) :
  qp P w H' h' a (.dK kvs):=⟨z,hd,vs,rel,dd⟩
theorem YS {H':Hp}{Q:Unit->Shared->Prop}(hu:A.units+1<cLine) (I:Inv X pins σ H s) (g:J7 H a y v H') (ry:jE y u) (rv:jE v r) (h:∀s',Inv X pins σ H' s'->Q () s') :
  wpAny (model X.prog X.w) A (setItem (.ref a) u r) Q E s:=by
 rcases g with ⟨kvs,k,e,ey,l,eH⟩ | ⟨kvs,k,b,e,ey,eb,l,eH⟩
 ·subst ey eH
  obtain ⟨z,hd,vs,rel,dd⟩:=Uu I.hok e
  have hz:vs.length<=sizeLine:=by rw [<- rel.length];exact z
  have hl:(qR kvs k v).length<=sizeLine:=by have:=vd kvs k v;omega
  refine wpAny_setItem_pairs (hsz:=hz) (Jw ry) dd λh' dd' hs=>h _ ?_
  have he:∃q,h'.get? a=some q:=let ⟨q,_,_,hq,_⟩:=dd';⟨q,hq⟩
  exact JP I (by rw [e];exact True.intro) hs he (ZF hl hd (rel.put k rv) dd')
 ·subst ey eH
  cases (show u=Value.ref b from ry)
  obtain ⟨z,hd,xs,rel,dd⟩:=Ej I.hok e
  have hz:xs.length<=sizeLine:=by rw [<- Paired.length rel];exact z
  have hl:(qR kvs k v).length<=sizeLine:=by have:=vd kvs k v;omega
  refine wpAny_setItem_heap (hsz:=hz) (tupleKind_room_in1 hu) (Qg I.hok eb) dd λh' dd' hs=>h _ ?_
  obtain ⟨q,es,ep,hq,h2,h3,h4,_,h5⟩:=dd'
  refine JP I (by rw [e];exact True.intro) hs ⟨q,hq⟩ ⟨hl,hd,_,(rel.put k eb rv).keeps λc ys ec=>?_,q,es,ep,hq,h2,h3,h4,h5⟩
  rw [j8 (jo ec e (λz=>nomatch z))]
  exact ec
end
section
variable {X:Cx}{pins:List (Addr×Obj)}{σ:St}{H:Hp}{s:Shared}{a:Addr}{kvs:List (Key×V)}{k:Key}{u:Value}{A:Around}{E:Value->Shared->Prop}
end
def EK (i:Expr):Prop:=∀ov iv,subscripted i false ov iv=operate [ov,iv] (getItem ov iv)
theorem Ww {prog:Program}{w:World}{A:Around}{E:Value->Shared->Prop}{s:Shared}{env:Env}{value slice:Expr}{pos:Pos}{T id:String}{Q:Value->Shared->Prop}
  (hl:typeLookup (.type T) "__getitem__" = pure (some (.builtin id))) (hs:EK slice)
  (h:wpAny (model prog w) A (eval value env) (λo s₁=>wpAny (model prog w) A (eval slice env) (λi s₂=>s₂.TypeIs o T/\wpAny (model prog w) A (getItem o i) Q E s₂) E s₁) E s) :
  wpAny (model prog w) A (eval (.Subscript value slice pos) env) Q E s:=by
 refine Subscript_ (wpAny_mono h (λo s₁ h₁=>wpAny_mono h₁ (λi s₂ h₂=>?_) λ_ _ x=>x) λ_ _ x=>x)
 obtain ⟨hT,h₂⟩:=h₂
 unfold subscriptTail
 refine wpAny_bind ?_
 rw [getitemInPython_of_ne hT.not_modules]
 refine wpAny_bind (wpAny_specialOf hT hl ?_)
 have fin:wpAny (model prog w) A (subscripted slice false o i) (λr s₃=>wpAny (model prog w) A (letTemporaryGo value o r >>= λ_=>pure r) Q E s₃) E s₂:=by
  rw [hs o i]
  exact wpAny_operating (wpAny_mono h₂ (λr s₃ h₃=>wpAny_bind (wpAny_letTemporaryGo (wpAny_pure h₃))) λ_ _ x=>x)
 first
  | exact wpAny_pure (wpAny_bind fin)
  | exact wpAny_bind (wpAny_pure (wpAny_bind fin))
  | exact wpAny_bind fin
theorem Xy {X:Cx}{pins:List (Addr×Obj)}{σ:St}{H:Hp}{s:Shared}{a:Addr}{y:V}{o:Option V}(I:Inv X pins σ H s) (g:xY H a y o):s.TypeIs (.ref a) "dict":=by
 rcases g with ⟨kvs,k,e,_,_⟩ | ⟨kvs,k,b,e,_,_,_⟩
 ·obtain ⟨_,_,vs,_,dd⟩:=kJ I.hok e
  exact dd.typeIs
 ·obtain ⟨_,_,xs,_,dd⟩:=Xz I.hok e
  exact dd.typeIs
def EA (td ty:TE):TE:=λσ H Q=>td σ H λx H1=>ty σ H1 λy H2=>∃a v,x = .ref a/\xY H2 a y (some v)/\Q v H2
def Ev (td ty tv:TE):TS:=λD σ H=>tv σ H λv H1=>td σ H1 λx H2=>ty σ H2 λy H3=>∃a H4,x = .ref a/\J7 H3 a y v H4/\D.nx σ H4
section
variable {X:Cx}{o i e value:Expr}{pos pos' tpos:Pos}{td ty tv:TE}
theorem qG (hu:X.A.units+1<cLine) (ho:PE X o td) (hi:PE X i ty) (hs:EK i):PE X (.Subscript o i pos) (EA td ty):=by
 intro pins s σ H Q I h
 refine Ww PySem.F.slot_dict_getitem.lookup hs (thn (ho pins s σ H _ I h) λu s1 ⟨x,H1,I1,rx,q1⟩=>thn (hi pins s1 σ H1 _ I1 q1) λiv s2 ⟨y,H2,I2,ry,a,v,ex,g,q2⟩=>?_)
 subst ex
 obtain rfl:u=Value.ref a:=rx
 exact ⟨Xy I2 g,Yt hu I2 g ry λw' s3 I3 rw'=>⟨v,H2,I3,rw',q2⟩⟩
theorem vk (hu:X.A.units+1<cLine) (ho:PE X o td) (hi:PE X i ty) (hv:PE X value tv) (hs:swapsWith value (some (.Subscript o i pos')) pos.line X.env=pure false) :
  PS X (.Assign [.Subscript o i pos'] value pos) (Ev td ty tv):=by
 intro pins s σ H D I h
 refine wpAny_Assign_Subscript (thn (hv pins s σ H _ I h) λr s1 ⟨v,H1,I1,rv,q1⟩=>thn (ho pins s1 σ H1 _ I1 q1) λu s2 ⟨x,H2,I2,rx,q2⟩=>thn (hi pins s2 σ H2 _ I2 q2) λiv s3 ⟨y,H3,I3,ry,a,H4,ex,g,q3⟩=>?_) hs
 subst ex
 obtain rfl:u=Value.ref a:=rx
 exact YS hu I3 g ry rv λs4 I4=>⟨σ,H4,I4,q3⟩
end
theorem QI {P:Program}{w:World}{H:Hp}(h:Heap) (hb:sysModules<h.objs.size):qp P w H (h.push { cls:=.type "dict",data:=.dict #[] }) h.objs.size (.dK []) :=
 ⟨Nat.zero_le _,beq_eq_false_iff_ne.mpr (Ne.symm (Nat.ne_of_lt hb)),[],.nil,Heap.DictOf.new h⟩
def E2:TE:=λ_ H Q=>∀p,H p=none->Q (.ref p) (upd H p (.dK []))
section
variable {X:Cx}{pos:Pos}
theorem uo:PE X (.Dict [] [] pos) E2:=λpins s σ H Q I h =>
 wpAny_Dict_empty ⟨.ref s.heap.objs.size,_,I.laid (a:=s.heap.objs.size) (o:=.dK []) (t':=s.toks) (λ_ _ q=>Heap.get?_push_of_some _ q) (Nat.le_refl _) (QI s.heap I.big),rfl,h _ (I.hok.fresh (Nat.le_refl _))⟩
end
def XN:List (TE×TE)->St->Hp->(List (V×V)->Hp->Prop)->Prop
 | [],_,H,Q=>Q [] H
 | (tk,tv)::r,σ,H,Q=>tk σ H λx H1=>tv σ H1 λy H2=>XN r σ H2 λps H3=>Q ((x,y)::ps) H3
abbrev VV:List (V×V)->List (Value×Value)->Prop:=Paired λp q=>jE p.1 q.1/\jE p.2 q.2
def PPs (X:Cx) (pos:Pos) (keys:List (Option Expr)) (values:List Expr) (trs:List (TE×TE)):Prop :=
 ∀(pins:List (Addr×Obj)) (s:Shared) (σ:St) (H:Hp) (Q:List (V×V)->Hp->Prop),Inv X pins σ H s->XN trs σ H Q ->
  wpAny (model X.prog X.w) X.A (evalPairs (pairTrees keys values X.env pos)) (λvs s'=>∃ps H',Inv X pins σ H' s'/\VV ps vs/\Q ps H') X.xe s
theorem UC {X:Cx}{pos:Pos}:PPs X pos [] [] []:=λpins s σ H Q I h=>pairTrees_nil_walk ⟨[],H,I,.nil,h⟩
theorem kj {X:Cx}{pos:Pos}{k v:Expr}{ks:List (Option Expr)}{vs:List Expr}{tk tv:TE}{trs:List (TE×TE)}(hk:PE X k tk) (hv:PE X v tv) (hr:PPs X pos ks vs trs) :
  PPs X pos (some k::ks) (v::vs) ((tk,tv)::trs):=λpins s σ H Q I h =>
 pairTrees_cons_walk (thn (hk pins s σ H _ I h) λu s1 ⟨x,H1,I1,rx,q1⟩=>thn (hv pins s1 σ H1 _ I1 q1) λw2 s2 ⟨y,H2,I2,ry,q2⟩ =>
  thn (hr pins s2 σ H2 _ I2 q2) λws s3 ⟨ps,H3,I3,rel,q3⟩=>⟨(x,y)::ps,H3,I3,.cons ⟨rx,ry⟩ rel,q3⟩)
def xg (kvs more:List (Key×V)):List (Key×V):=more.foldl (λacc kv=>qR acc kv.1 kv.2) kvs
theorem KV.merge:∀{more:List (Key×V)}{rs:List (Key×Value)}{kvs:List (Key×V)}{vs:List (Key×Value)},KV more rs->KV kvs vs->KV (xg kvs more) (merged vs rs):=by
 intro more rs kvs vs r
 unfold KV at r
 induction r generalizing kvs vs with
 | nil=>intro q;exact q
 | @cons p q ps qs h t ih =>
  intro r0
  have e:KV (qR kvs p.1 p.2) (stored vs q.1 q.2):=by
   have:=r0.put p.1 h.2
   rw [<- h.1];exact this
  exact ih e
theorem zZ:∀(more kvs:List (Key×V)),(xg kvs more).length<=kvs.length+more.length
 | [],kvs=>by show kvs.length<=kvs.length+0;omega
 | p::r,kvs=>by
  have h1:=zZ r (qR kvs p.1 p.2)
  have h2:=vd kvs p.1 p.2
  show (xg (qR kvs p.1 p.2) r).length<=_
  rw [List.length_cons];omega
theorem hV {P:Program}{w:World}:∀{kvs:List (Key×V)}{ws:List (Value×Value)},VV (kvs.map λkv=>(kV kv.1,kv.2)) ws->∃rs,Carries (jF P w) ws rs/\KV kvs rs
 | [],_,r=>by rw [List.map_nil] at r;cases r;exact ⟨[],True.intro,.nil⟩
 | p::kvs,_,r=>by
  rw [List.map_cons] at r
  cases r with
  | @cons a b as bs h t =>
   obtain ⟨rs,c,q⟩:=hV (P:=P) (w:=w) t
   obtain ⟨b1,b2⟩:=b
   exact ⟨(p.1,b2)::rs,⟨Jw h.1,rfl,c⟩,.cons ⟨rfl,h.2⟩ q⟩
def Eg (trs:List (TE×TE)):TE:=λσ H Q=>∀p,H p=none->XN trs σ (upd H p (.dK [])) λps H2=>H2 p=some (.dK [])/\∃kvs:List (Key×V),ps=kvs.map (λkv=>(kV kv.1,kv.2))/\kvs.length<=15/\Q (.ref p) (upd H2 p (.dK (xg [] kvs)))
theorem Wh {X:Cx}{pos:Pos}{keys:List (Option Expr)}{values:List Expr}{trs:List (TE×TE)}(h:PPs X pos keys values trs) (hall:keys.all (·.isSome)=true) (hl:keys.length=values.length) (h0:keys≠[])
  (h15:keys.length<=15):PE X (.Dict keys values pos) (Eg trs):=by
 intro pins s σ H Q I q
 have hn:=I.hok.fresh (Nat.le_refl s.heap.objs.size)
 have I1:=I.laid (a:=s.heap.objs.size) (o:=.dK []) (h':=s.heap.push { cls:=.type "dict",data:=.dict #[] }) (t':=s.toks) (λ_ _ q=>Heap.get?_push_of_some _ q) (Nat.le_refl _) (QI s.heap I.big)
 refine wpAny_Dict_walk (knd:=jF X.prog X.w) hall hl h0 h15 (thn (h pins _ σ _ _ I1 (q _ hn)) λws s2 ⟨ps,H2,I2,rel,e,kvs,ep,lk,q2⟩=>?_)
 subst ep
 obtain ⟨rs,c,rk⟩:=hV (P:=X.prog) (w:=X.w) rel
 obtain ⟨z,hd,vs0,r0,dd⟩:=Uu I2.hok e
 cases r0
 refine ⟨rs,c,dd,λh' dd' hs=>⟨.ref s.heap.objs.size,_,?_,rfl,q2⟩⟩
 have hz:(xg [] kvs).length<=sizeLine:=by
  have h1:=zZ kvs []
  rw [List.length_nil] at h1
  rw [sizeLine_eq];omega
 have he:∃q,h'.get? s.heap.objs.size=some q:=let ⟨q,_,_,hq,_⟩:=dd';⟨q,hq⟩
 exact JP I2 (by rw [e];exact True.intro) hs he (ZF hz hd (rk.merge .nil) dd')
structure M2 (X:Cx) (o:Expr) (m:Str) (apos:Pos) (e f:Expr) (cpos:Pos):Prop where
 base:attributeBase o m X.env (eval o X.env)=eval o X.env
 few:((backTo cpos (starEach [e,f] X.env)).all (λx=>!x.1) && (backToKw cpos (keywordEach [] X.env)).all (λx=>x.1.isSome)
  && decide (([e,f]:List Expr).length+([]:List Keyword).length+(if ([]:List Keyword).isEmpty then 0 else 1)<30))=true
 line:(apos.endLine == cpos.line)=true
 trees:backTo cpos (starEach [e,f] X.env)=[(false,eval e X.env),(false,eval f X.env)]
def IsD (H:Hp) (a:Addr):Prop:=(∃kvs,Rd H a (.dK kvs))\/∃kvs,Rd H a (.dT kvs)
theorem GH {X:Cx}{pins:List (Addr×Obj)}{σ:St}{H:Hp}{s:Shared}{a:Addr}(I:Inv X pins σ H s) (d:IsD H a) :
  s.TypeIs (.ref a) "dict" /\ (∀b,Value.ref a = .ref b->∃ob,s.heap.get? b=some ob/\ob.dict=none)/\(a == sysModules)=false:=by
 rcases d with ⟨kvs,e⟩ | ⟨kvs,e⟩
 ·obtain ⟨_,hd,vs,_,dd⟩:=kJ I.hok e
  refine ⟨dd.typeIs,λb q=>?_,hd⟩
  cases q
  obtain ⟨ob,_,_,h1,h2,_⟩:=dd
  exact ⟨ob,h1,h2.2.1⟩
 ·obtain ⟨_,hd,xs,_,dd⟩:=Xz I.hok e
  refine ⟨dd.typeIs,λb q=>?_,hd⟩
  cases q
  obtain ⟨ob,_,_,h1,h2,_⟩:=dd
  exact ⟨ob,h1,h2.2.1⟩
section
variable {X:Cx}{pins:List (Addr×Obj)}{σ:St}{H:Hp}{s:Shared}{a:Addr}{y d:V}{u r:Value}{o:Option V}{A:Around}{E:Value->Shared->Prop}
theorem GR {Q:Value->Shared->Prop}(hu:A.units+1<cLine) (I:Inv X pins σ H s) (g:xY H a y o) (ry:jE y u) (rd:jE d r) (h:∀w' s',Inv X pins σ H s'->jE (o.getD d) w'->Q w' s') :
  wpAny (model X.prog X.w) A (call (.builtin "dict.get") [.ref a,u,r]) Q E s:=by
 rcases g with ⟨kvs,k,e,ey,l⟩ | ⟨kvs,k,b,e,ey,eb,l⟩
 ·subst ey
  obtain ⟨z,hd,vs,rel,dd⟩:=kJ I.hok e
  refine call_meetsIn PySem.F.slot_dict_get dd.typeIs PySem.F.entry_dict_get (PySem.F.args_dict_get_3 _ _ _) (meets_dict_get_default (jF X.prog X.w) a (Jw ry) hd r) ⟨_,dd.mapOf,h _ _ (I.tok _) ?_⟩
  rw [l]
  exact (rel.val k).getD rd
 ·subst ey
  cases (show u=Value.ref b from ry)
  obtain ⟨z,hd,xs,rel,dd⟩:=Xz I.hok e
  refine call_meetsIn PySem.F.slot_dict_get dd.typeIs PySem.F.entry_dict_get (PySem.F.args_dict_get_3 _ _ _) (meetsH_dict_get_default (tupleKind (jF X.prog X.w)) a b hd r) ⟨tupleKind_room_in1 hu,k,xs,Qg I.hok eb,dd,h _ _ (I.tok _) ?_⟩
  rw [l]
  exact (rel.val k).getD rd
end
def Gp (td ty tx:TE):TE:=λσ H Q=>td σ H λx H1=>∃a,x = .ref a/\IsD H1 a/\ty σ H1 λy H2=>tx σ H2 λz H3=>∃o,xY H3 a y o/\Q (o.getD z) H3
section
variable {X:Cx}{o e f:Expr}{apos cpos:Pos}{td ty tx:TE}
theorem kN (hu:X.A.units+1<cLine) (ho:PE X o td) (he:PE X e ty) (hf:PE X f tx) (m:M2 X o "get" apos e f cpos):PE X (.Call (.Attribute o "get" apos) [e,f] [] cpos) (Gp td ty tx):=by
 intro pins s σ H Q I h
 refine wpAny_Call_method m.base m.few m.line PySem.F.plainAttrs_dict PySem.F.slot_dict_get PySem.F.type_dict_get (thn (ho pins s σ H _ I h) λu s1 ⟨x,H1,I1,rx,a,ex,d,q1⟩=>?_)
 subst ex
 obtain rfl:u=Value.ref a:=rx
 obtain ⟨t1,t2,_⟩:=GH I1 d
 refine ⟨t1,t2,?_⟩
 rw [m.trees]
 refine Calls.callWith_builtin rfl (Calls.evalArgs_plain (Calls.spliced_cons (thn (he pins s1 σ H1 _ I1 q1) λiv s2 ⟨y,H2,I2,ry,q2⟩ =>
  Calls.spliced_cons (thn (hf pins s2 σ H2 _ I2 q2) λfv s3 ⟨z,H3,I3,rz,ov,g,q3⟩=>Calls.spliced_nil ?_))))
 exact GR hu I3 g ry rz λw' s4 I4 rw'=>⟨_,H3,I4,rw',q3⟩
end
section
variable {X:Cx}{pins:List (Addr×Obj)}{σ:St}{H:Hp}{s:Shared}{a:Addr}{kvs:List (Key×V)}{A:Around}{E:Value->Shared->Prop}
end
section
variable {X:Cx}{pins:List (Addr×Obj)}{σ:St}{H:Hp}{s:Shared}{a:Addr}{y:V}{u:Value}{A:Around}{E:Value->Shared->Prop}
end
end L2
namespace Att
open PySem PySem.W PySem.Calls PyProof.Rows
section
variable {prog:Program}{w:World}{A:Around}{E:Value->Shared->Prop}{s:Shared}{K:Frag}
end
end Att
namespace L2
end L2
namespace L2
end L2
namespace L2
section
variable {P:Program}{w:World}{K:PySem.W.Frag}{mg:Str->Option Value}{base:Heap}
end
section
variable {X:Cx}
end
section
variable {κ:Type} [DecidableEq κ]
theorem wZ:∀{l:List κ}{k:κ},l.Nodup->¬k∈l->(l++[k]).Nodup
 | [],k,_,_=>by simp
 | a::r,k,h,hk=>by
  obtain ⟨h1,h2⟩:=List.nodup_cons.mp h
  show (a::(r++[k])).Nodup
  refine List.nodup_cons.mpr ⟨λm=>?_,wZ h2 λm=>hk (List.mem_cons.mpr (Or.inr m))⟩
  rcases List.mem_append.mp m with q | q
  ·exact h1 q
  ·exact hk (List.mem_cons.mpr (Or.inl (List.mem_singleton.mp q).symm))
end
end L2
end
section
namespace L2
open PySem.W
section
variable {prog:Program}{w:World}{A:Around}{E:Value->Shared->Prop}{s:Shared}
theorem XE {its:List Value}{κ:SortKind}{lt:Nat->Nat->Bool}{G:List Nat->Prop}{Q:Value->Shared->Prop}(h64:its.length<64)
  (hk:2<=its.length->∀h',(∀b o,s.heap.get? b=some o->h'.get? b=some o)->∀Q':SortKind->Shared->Prop,Q' κ { s with heap:=h' }->wpAny (model prog w) A.in1.in1 (keyKind' its.toArray) Q' (λ_ _=>False) { s with heap:=h' })
  (hc:∀h',(∀b o,s.heap.get? b=some o->h'.get? b=some o)->∀i j,i<its.length->j<its.length->∀Q':Bool->Shared->Prop,Q' (lt i j) { s with heap:=h' } ->
   wpAny (model prog w) A.in1.in1 (keyLt' κ (its.getD i Value.none) (its.getD j Value.none)) Q' (λ_ _=>False) { s with heap:=h' })
  (hs:2<=its.length->x4 lt its.length (kas_sort its.length) λp=>qv its.length p/\G p.toList) (h1:its.length<2->G (List.range its.length))
  (h:∀(ix:List Nat) (h':Heap) (n:Nat),ix.Perm (List.range its.length)->G ix->(∀b o,s.heap.get? b=some o->h'.get? b=some o) ->
   h'.get? (s.heap.objs.size)=some (seqObj "list" (ix.map λi=>its.getD i Value.none).toArray n)->Q (.ref (s.heap.objs.size)) { s with heap:=h' }) :
  wpAny (model prog w) A.in1 (newList its >>= λl=>holding [l] (call (.builtin "list.sort") [l] []) >>= λ_=>ret l) (λfin s'=>∃v,fin = .done (.ret v)/\Q v s') E s:=by
 refine wpAny_bind (wpAny_newList ?_ (by rw [sizeLine_eq];omega))
 have ho:(s.heap.push (seqObj "list" its.toArray 0)).get? (s.heap.objs.size)=some (seqObj "list" its.toArray 0):=Heap.get?_push_size _ rfl
 have keep:∀b o,s.heap.get? b=some o->(s.heap.push (seqObj "list" its.toArray 0)).get? b=some o:=λb o q=>by
  exact Heap.get?_push_of_some _ q
 show wpAny _ _ _ _ _ { s with heap:=s.heap.push (seqObj "list" its.toArray 0) }
 refine wpAny_bind (wpAny_holding (wpAny_call_entry slot_list_sort ⟨_,ho,rfl⟩ entry_list_sort ?body (args_list_sort _)))
 case body =>
  generalize hh0:s.heap.push (seqObj "list" its.toArray 0)=h0 at ho keep
  generalize ha:s.heap.objs.size=a at ho h
  have aNew:∀b o,s.heap.get? b=some o->b≠a:=λb o q=>by have:=Heap.lt_size q;rw [<- ha];exact Nat.ne_of_lt this
  show wpAny (model prog w) A.in1.in1 (Builtin.«list.sort» ⟨[.ref a],[]⟩) _ _ { s with heap:=h0 }
  rw [list_sort_plain]
  have hal:a<h0.objs.size:=Heap.lt_size ho
  refine wpAny_bind (listItems_at ho rfl ?_)
  refine wpAny_bind (listUpdate_at ho rfl ?_ (by rw [List.size_toArray,sizeLine_eq];omega) (Nat.zero_le _))
  obtain ⟨e1,ho1⟩:∃e1,(h0.update a (Obj.mapSeq λ_=>(#[]:Array Value))).get? a=some (seqObj "list" #[] e1):=⟨_,get?_update_seq ho (λ_=>#[])⟩
  refine wpAny_bind (seqEpoch_at ho1 rfl ?_)
  refine wpAny_bind (wpAny_newTuple ?_ (by show its.length<=_;rw [sizeLine_eq];omega))
  refine wpAny_bind (wpAny_newList ?_ (Nat.zero_le _))
  refine wpAny_holding ?_
  have ho6:(((h0.update a (Obj.mapSeq λ_=>(#[]:Array Value))).push (seqObj "tuple" its.toArray 0)).push (seqObj "list" #[] 0)).get? a=some (seqObj "list" #[] e1):=by
   rw [Heap.get?_push_ne _ _ _ (by rw [size_push',Heap.size_update];exact Nat.ne_of_lt (Nat.lt_succ_of_lt hal)),Heap.get?_push_ne _ _ _ (by rw [Heap.size_update];exact Nat.ne_of_lt hal)]
   exact ho1
  have keep6:∀b o,s.heap.get? b=some o->(((h0.update a (Obj.mapSeq λ_=>(#[]:Array Value))).push (seqObj "tuple" its.toArray 0)).push (seqObj "list" #[] 0)).get? b=some o:=λb o q =>
   Heap.get?_push_of_some _ (Heap.get?_push_of_some _ ((Heap.get?_update_ne _ _ _ _ (aNew b o q)).trans (keep b o q)))
  show wpAny (model prog w) A.in1.in1 _ _ _ { s with heap:=((h0.update a (Obj.mapSeq λ_=>(#[]:Array Value))).push (seqObj "tuple" its.toArray 0)).push (seqObj "list" #[] 0) }
  generalize ((h0.update a (Obj.mapSeq λ_=>(#[]:Array Value))).push (seqObj "tuple" its.toArray 0)).push (seqObj "list" #[] 0)=h6 at ho6 keep6
  dsimp only
  have fin:∀(ix:List Nat),ix.Perm (List.range its.length)->G ix->∀out:Array Value,out=(ix.map λi=>its.getD i Value.none).toArray ->
    ∃v,PySem.Fin.done (Flow.ret Value.none) = .done (.ret v)/\wpAny (model prog w) A.in1 (do let _ <- pure v;ret (Value.ref a)) (λfin s'=>∃v,fin = .done (.ret v)/\Q v s') E { s with heap:=h6.update a (Obj.mapSeq λ_=>out) }:=λix hp hg out ho'=>by
   refine ⟨_,rfl,wpAny_bind (wpAny_pure (wpAny_pure ⟨_,rfl,?_⟩))⟩
   subst ho'
   exact h ix _ _ hp hg (λb o q=>(Heap.get?_update_ne _ _ _ _ (aNew b o q)).trans (keep6 b o q)) (get?_update_seq ho6 λ_=>_)
  by_cases h2:its.toArray.size<2
  ·rw [if_pos h2,if_pos h2]
   refine wpAny_bind (wpAny_pure ?_)
   rw [StateT.run_pure]
   refine wpAny_bind (wpAny_pure ?_)
   dsimp only
   refine wpAny_bind (seqEpoch_at ho6 rfl ?_)
   rw [ux]
   refine wpAny_bind (listUpdate_at ho6 rfl ?_ (Nat.zero_le _) (by rw [List.size_toArray,sizeLine_eq];omega))
   simp only [bne_self_eq_false,Bool.false_eq_true,if_false]
   rw [List.size_toArray] at h2
   exact wpAny_pure (fin _ (List.Perm.refl _) (h1 h2) _ (by rw [vS]))
  ·rw [if_neg h2,if_neg h2]
   rw [List.size_toArray] at h2
   refine wpAny_bind (wpAny_mono (hk ∅ h6 keep6 (λκ' s'=>κ'=κ/\s'={ s with heap:=h6 }) ⟨rfl,rfl⟩) (λκ' s' q=>?_) λ_ _ x=>x.elim)
   obtain ⟨rfl,rfl⟩:=q
   refine wpAny_bind (wpAny_mono (kat_run (ks:=its) (vs:=its) (κ:=κ') (G:=λp s'=>(qv its.length p/\G p.toList)/\s'={ s with heap:=h6 }) (Q:=λst' s'=>∃p:Array Nat,arrOf st'=p.map (kas_item (its.toArray.zip its.toArray))/\failedOf st'=none/\(qv its.length p/\G p.toList)/\s'={ s with heap:=h6 })
    rfl ∅ h64 (λp st' s' a1 a2 a3 a4=>⟨p,a2,a3,a4⟩) (x4.wp (I:=λs'=>s'={ s with heap:=h6 }) (λi j C s' hi hj hI hC=>?_) (λp s' hp hI=>⟨hp,hI⟩) (hs ∅) rfl)) ?_ λ_ _ e=>e)
   ·subst hI
    exact hc h6 keep6 i j hi hj C (hC _ rfl)
   ·rintro ⟨⟨⟩,st'⟩ s' ⟨p,har,hf,⟨hP,hG⟩,rfl⟩
    dsimp only
    have hout:=kat_snds (ks:=its) (vs:=its) rfl har
    have hz:(List.toArray (p.toList.map λi=>its.getD i Value.none)).size=its.length:=by rw [List.size_toArray,List.length_map,Array.length_toList,hP.size]
    rw [hout]
    refine wpAny_bind (seqEpoch_at ho6 rfl ?_)
    refine wpAny_bind (listUpdate_at ho6 rfl ?_ (Nat.zero_le _) (by rw [hz,sizeLine_eq];omega))
    rw [hf]
    simp only [bne_self_eq_false,Bool.false_eq_true,if_false]
    exact wpAny_pure (fin p.toList (by have:=Array.perm_iff_toList_perm.mp hP;simpa using this) hG _ rfl)
theorem Zr {v:Value}{Q:Value->Shared->Prop}(hcol:wpAny (model prog w) A.in1 (collect v) (λits s1=>wpAny (model prog w) A.in1 (newList its >>= λl=>holding [l] (call (.builtin "list.sort") [l] []) >>= λ_=>ret l) (λfin s'=>∃v,fin = .done (.ret v)/\Q v s') E s1) E s) :
  wpAny (model prog w) A (call (.builtin "sorted") [v]) Q E s:=by
 refine Calls.call_function_entry kind_sorted plain_sorted entry_sorted (args_sorted1 _) ?_
 unfold Builtin.«sorted»
 refine wpAny_bind (m:=checkCount "sorted" 1 1 _) (wpAny_pure ?_)
 exact wpAny_bind hcol
end
section
variable {X:Cx}
theorem Inv.laidN {pins:List (Addr×Obj)}{σ:St}{H:Hp}{s:Shared}{h':Heap}{a:Addr}{o:HO}{t':Nat}(I:Inv X pins σ H s) (k:∀b u,s.heap.get? b=some u->h'.get? b=some u) (hn:s.heap.get? a=none) (new:H a=none->qp X.prog X.w (upd H a o) h' a o):H a=none/\Inv X pins σ (upd H a o) { s with heap:=h',toks:=t' }:=by
 have hH:H a=none:=by
  cases q:H a with
  | none=>rfl
  | some u =>
   obtain ⟨ob,e⟩:=kh (I.hok a u q)
   rw [hn] at e
   cases e
 have ne:∀{b u},s.heap.get? b=some u->b≠a:=λe z=>by rw [z,hn] at e;cases e
 refine ⟨hH,I.un ⟨λb u q _ _ _=>k b u q,λb u q _ _ _=>⟨u.slots,k b u q⟩,λb u q n _=>by rw [j8 (ne q)];exact n,λb u q _=>⟨u,k b u q⟩,λb xs q=>by rw [j8 (j1 q hH)];exact q,λb u xs q=>by rw [j8 (j1 q hH)];exact q,λb ps q=>⟨#[],by rw [j8 (j1 q hH),q];simp⟩⟩ λb u e=>?_⟩
 by_cases hb:b=a
 ·subst hb;rw [j5] at e;cases e;exact new hH
 ·rw [j8 hb] at e
  exact (I.hok b u e).stay (λc v _ q=>k c v q) (λc q=>by rw [j8 (j1 q hH)];exact q) λc xs q=>by rw [j8 (j1 q hH)];exact q
theorem uH (K:PySem.W.Frag) (hca:X.calm=true) (hK:X.K=K:=by rfl):xb X (.builtin "sorted") (λxs H Q=>∃(p:Addr) (kvs:List (Key×V)) (ns:List Int),xs=[.ref p]/\H p=some (.dK kvs)/\kvs.map (·.1)=ns.map Sum.inl/\ns.length<64 /\
  ∀(l:Addr) H' (ns':List Int),H l=none->H' l=some (.lst (ns'.map V.int))->jf H H'->ns'.Perm ns->ns'.Pairwise (· <= ·)->Q (.ref l) H'):=by
 subst hK
 intro pins s σ H xs us Q I r h
 obtain ⟨p,kvs,ns,rfl,hp0,hks,h64,k⟩:=h
 obtain ⟨u,rfl,ru⟩:=yC r
 cases ru
 obtain ⟨hz,lo,vs,kv,dd⟩:=Uu I.hok hp0
 obtain ⟨ep,hat⟩:=dd.dictAt
 have hvl:vs.length=ns.length:=by
  have e1:kvs.length=vs.length:=Paired.length kv
  have e2:=congrArg List.length hks
  rw [List.length_map,List.length_map] at e2
  omega
 refine Zr (kdu_collect (kdl_dict (knd:=jF X.prog X.w) (kvs:=vs) (ep:=ep) lo) (I.ok.hd hca) hat (Nat.le_of_lt (jc ∅)) λh1 tk acc hk1 hacc=>?_)
 have hal:acc.toList.length=ns.length:=by rw [Array.length_toList,hacc.1,hvl]
 have item:∀i,i<acc.toList.length->∃t,acc.toList.getD i Value.none = .int (ns.getD i 0) t:=λi hi=>by
  have hi2:i<acc.size:=by rw [Array.length_toList] at hi;exact hi
  obtain ⟨key,x,hx,his⟩:=hacc.2 i acc[i] (Array.getElem?_eq_getElem hi2)
  have hi3:i<kvs.length:=by
   have e1:kvs.length=vs.length:=Paired.length kv
   omega
  obtain ⟨q,hq,e1,_⟩:=Paired.get kv (List.getElem?_eq_getElem hi3)
  rw [hx] at hq
  cases hq
  have e2:(kvs.map (·.1))[i]? = some key:=by rw [List.getElem?_map,List.getElem?_eq_getElem hi3];exact congrArg some e1
  have hin:i<ns.length:=∅
  rw [hks,List.getElem?_map,List.getElem?_eq_getElem hin] at e2
  cases e2
  obtain ⟨t,et⟩:=Value.isInt_shape his
  refine ⟨t,?_⟩
  rw [List.getD_eq_getElem?_getD,Array.getElem?_toList,Array.getElem?_eq_getElem hi2,et,List.getD_eq_getElem?_getD,List.getElem?_eq_getElem hin]
  rfl
 generalize acc.toList=its at hal item
 refine XE (s:={ s with heap:=h1,toks:=tk }) (κ:=oneType') (lt:=ltK Wv λi=>ns.getD i 0) (G:=λix=>(ix.map λi=>ns.getD i 0).Pairwise Wv.kle) ∅ (λh2 h' hk' Q' q=>?_) (λh' hk' i j hi hj Q' q=>?_) (λh2=>?_) (λh1=>?_) λix h' n hp hg hk' hn=>?_
 ·refine kas_kind (T:=.type "int") h2 (λv hv=>?_) rfl rfl q
  obtain ⟨i,hi,rfl⟩:=List.mem_iff_getElem.mp hv
  obtain ⟨t,e1⟩:=item i hi
  have e3:its[i] = .int (ns.getD i 0) t:=by rw [<- e1];simp [hi]
  rw [e3]
  exact Looks.of_pure rfl
 ·obtain ⟨t,e1⟩:=item i hi
  obtain ⟨u,e2⟩:=item j hj
  rw [e1,e2]
  exact kat_lt_int q
 ·exact gz ∅ λp' hP hS=>⟨hP,hS.pairwise hP.size⟩
 ·have hcase:its.length=0\/its.length=1:=∅
  rcases hcase with z | z
  ·rw [z];exact List.Pairwise.nil
  ·rw [z];exact List.pairwise_singleton _ _
 ·have hn0:s.heap.get? h1.objs.size=none:=by
   cases q:s.heap.get? h1.objs.size with
   | none=>rfl
   | some u=>exact absurd (Heap.lt_size (hk1 _ _ q)) (Nat.lt_irrefl _)
  have hv:jD ((ix.map λi=>ns.getD i 0).map V.int) (ix.map λi=>its.getD i Value.none):=by
   have hb:∀i∈ix,i<its.length:=λi hi=>by have:=hp.mem_iff.mp hi;simpa using this
   clear hp hg hn
   induction ix with
   | nil=>exact .nil
   | cons i ix ih =>
    obtain ⟨t,e⟩:=item i (hb i List.mem_cons_self)
    exact .cons ⟨t,e⟩ (ih λj hj=>hb j (List.mem_cons_of_mem _ hj))
  have hns:((List.range its.length).map λi=>ns.getD i 0)=ns:=by
   apply List.ext_getElem
   ·simp [hal]
   ·intro i h1 h2
    simp [h2]
  have hsz:((ix.map λi=>ns.getD i 0).map V.int).length<=sizeLine:=by
   rw [List.length_map,List.length_map,hp.length_eq,List.length_range]
   exact Nat.le_trans (by omega:its.length<=1000) ⋯
  obtain ⟨hf,J⟩:=Inv.laidN (o:=.lst ((ix.map λi=>ns.getD i 0).map V.int)) (t':=tk) I (λb o e=>hk' b o (hk1 b o e)) hn0 λ_=>⟨hsz,_,n,hv,hn⟩
  refine ⟨.ref _,upd H h1.objs.size (.lst ((ix.map λi=>ns.getD i 0).map V.int)),J,rfl,k _ _ _ hf j5 (jf.new hf) ?_ ?_⟩
  ·have:=hp.map λi=>ns.getD i 0
   rw [hns] at this
   exact this
  ·exact List.Pairwise.imp (R:=Wv.kle) (λ{a b} z=>VU z) hg
end
end L2
end
section
namespace L2
open PySem.W
theorem Inv.freeze {X:Cx}{pins:List (Addr×Obj)}{σ:St}{H:Hp}{s:Shared}{a:Addr}{o:Obj}{kvs:List (Key×V)}(I:Inv X pins σ H s) (e:H a=some (.dK kvs)) (ho:s.heap.get? a=some o):Inv X pins σ (upd H a (.frz o (.dK kvs))) s:=by
 refine I.un (t':=s.toks) ⟨λb u q _ _ _=>q,λb u q _ _ _=>⟨u.slots,q⟩,λb u q n _=>?_,λb u q _=>⟨u,q⟩,λb xs q=>?_,λb u xs q=>?_,λb ps q=>⟨#[],?_⟩⟩ λb u q=>?_
 ·rw [j8 (λz=>by rw [z,e] at n;cases n)];exact n
 ·rw [j8 (jo q e (by intro z;cases z))];exact q
 ·rw [j8 (jo q e (by intro z;cases z))];exact q
 ·rw [j8 (jo q e (by intro z;cases z)),q];simp
 ·by_cases hb:b=a
  ·subst hb
   rw [j5] at q
   cases q
   exact ⟨ho,I.hok _ _ e⟩
  ·rw [j8 hb] at q
   exact (I.hok b u q).stay (λc v _ q=>q) (λc q=>by rw [j8 (jo q e (by intro z;cases z))];exact q) λc xs q=>by rw [j8 (jo q e (by intro z;cases z))];exact q
def Itd (a:Addr) (o:Obj) (kvs:List (Key×V)):It :=
 ⟨λi H=>H a=some (.frz o (.dK kvs))/\i<kvs.length,λi H x H'=>H'=H/\∃q,kvs[i]? = some q/\x=kV q.1,λi H=>H a=some (.frz o (.dK kvs))/\kvs.length<=i⟩
theorem relK {P:Program}{w:World}{k:Key}{v:Value}(h:(jF P w).is k v=true):jE (kV k) v:=by
 cases k with
 | inl i=>exact Value.isInt_shape h
 | inr x=>exact Value.isStrOf_shape h
theorem Vf {P:Program}{w:World}{K:PySem.W.Frag}{tg:Expr}{a it:Addr}{o:Obj}{kvs:List (Key×V)}{vs:List (Key×Value)}{ep:Nat}(kv:KV kvs vs) (HD:∀h:Heap,h.get? a=some o->h.DictAt (jF P w) a vs ep):Turn P w K tg (Itd a o kvs) [it] it (λi h=>h.IsKeyIter it a i vs.length ep) where
 mem:=by simp
 obj:=λi h st b hb=>by
  have e:b=it:=by simpa using hb
  subst e
  obtain ⟨o,e,c,d⟩:=st
  exact ⟨o,e,λv z=>by rw [d] at z;cases z⟩
 keep:=λi h h' st k=>st.at λo e=>k it (by simp) o e
 item:=by
  intro X hP hw hK hc i pins s σ H E I hf st hg
  subst hP hw hK
  obtain ⟨hq,hi⟩:=hg
  have hat:=HD s.heap (I.hok _ _ hq).1
  have hl:kvs.length=vs.length:=Paired.length kv
  obtain ⟨f0,f1,f2,f3,f4,f5⟩:=hf it (by simp)
  obtain ⟨⟨k,x⟩,hx,ek,_⟩:=Paired.get kv (List.getElem?_eq_getElem hi)
  refine wpAny_pyNext_dict_item st hat hx λkey h' hkey st' sb=>?_
  have I1:Inv X pins σ H { s with heap:=h' }:=I.turned (t':=s.toks) (λb o hb e=>(sb.2 b hb).trans e) f0 f1 f3 f4 f5
  obtain ⟨ob,e,c,d⟩:=id st'
  exact ⟨key,rfl,Xe (s:={ s with heap:=h' }) e c d ⋯ ⟨kV k,H,I1,relK hkey,⟨rfl,_,List.getElem?_eq_getElem hi,by rw [show (kvs[i]'hi).1=k from ek]⟩,st',λb hb=>(hf b hb).1⟩⟩
 done:=by
  intro X hP hw hK hc i pins s σ H E I hf st hg
  subst hP hw hK
  obtain ⟨hq,hi⟩:=hg
  have hat:=HD s.heap (I.hok _ _ hq).1
  have hl:kvs.length=vs.length:=Paired.length kv
  obtain ⟨f0,f1,f2,f3,f4,f5⟩:=hf it (by simp)
  exact wpAny_pyNext_dict_end (I.ok.hd hc) st hat (by simp;omega) λh' eb=>⟨rfl,I.turned (t':=s.toks) (λb o hb e=>eb b o hb e) f0 f1 f3 f4 f5⟩
 self:=λ_ _ _ _ _ st h=>wpAny_pyIter_keyiter st h
def iDic (td:TE):TI:=λσ H R=>td σ H λx H1=>∃a kvs,x = .ref a/\((H1 a=some (.dK kvs)/\∀o,R (Itd a o kvs) (upd H1 a (.frz o (.dK kvs))))\/∃o,H1 a=some (.frz o (.dK kvs))/\R (Itd a o kvs) H1)
theorem ZK {X:Cx}{tg l:Expr}{td:TE}(hl:PE X l td):PI X tg l (iDic td):=by
 intro pins s σ H R I h
 refine thn (hl pins s σ H _ I h) λv s1 ⟨x,H1,I1,r1,a,kvs,e,q⟩=>?_
 subst e
 cases r1
 have main:∀{H2:Hp} {o:Obj},Inv X pins σ H2 s1->H2 a=some (.frz o (.dK kvs))->R (Itd a o kvs) H2->wpAny (model X.prog X.w) X.A (pyIter (.ref a)) (PIE X pins σ tg R) X.xe s1:=λ{H2 o} I2 e2 q2=>by
  have ho:=(I2.hok _ _ e2).1
  obtain ⟨hz,lo,vs,kv,dd⟩:=kJ I2.hok (.inr ⟨o,e2⟩)
  obtain ⟨ep,ob,es,h1,hrest⟩:=dd.dictAt
  rw [ho] at h1
  cases h1
  have HD:∀h:Heap,h.get? a=some o->h.DictAt (jF X.prog X.w) a vs ep:=λh e=>⟨o,es,e,hrest⟩
  refine wpAny_pyIter_dict lo (HD _ ho) ?_
  refine ⟨s1.heap.objs.size,[s1.heap.objs.size],_,_,H2,rfl,I2.kept (t':=s1.toks) λb o e=>Heap.get?_push_of_some _ e,Vf kv HD,⟨_,Heap.get?_push_size _ rfl,rfl,rfl⟩,λb hb=>?_,q2⟩
  have e:b=s1.heap.objs.size:=by simpa using hb
  subst e
  exact I2.fpOk (Nat.le_refl _) (I2.hok.fresh (Nat.le_refl _))
 rcases q with ⟨e1,q1⟩ | ⟨o,e1,q1⟩
 ·obtain ⟨hz,lo,vs,kv,dd⟩:=kJ I1.hok (.inl e1)
  obtain ⟨ep,ob,es,h1,hrest⟩:=dd.dictAt
  exact main (I1.freeze e1 h1) j5 (q1 ob)
 ·exact main I1 e1 q1
theorem QY {a:Addr}{o:Obj}{kvs:List (Key×V)}{g:TG}{tb:TS}{D:Ends}{σ:St}{H:Hp}(Pv:Nat->St->Hp->Prop) (h0:Pv 0 σ H) (hl:∀i σ H,i<=kvs.length->Pv i σ H->H a=some (.frz o (.dK kvs)))
  (hs:∀i q σ H,kvs[i]? = some q->Pv i σ H->g (kV q.1) σ H λσ2 H2=>tb { D with nx:=Pv (i+1),ct:=Pv (i+1),bk:=D.nx } σ2 H2) (hd:∀σ H,Pv kvs.length σ H->D.nx σ H) :
  ∃W:Nat->Nat->St->Hp->Prop,(∃m,W 0 m σ H)/\∀i m σ H,W i m σ H ->
   ((Itd a o kvs).stop i H/\D.nx σ H)\/((Itd a o kvs).go i H/\∃N:St->Hp->Prop,(∀σ' H',N σ' H'->∃m',m'<m/\W (i+1) m' σ' H')/\∀x H',(Itd a o kvs).yld i H x H'->g x σ H' λσ2 H2=>tb { D with nx:=N,ct:=N,bk:=D.nx } σ2 H2):=by
 refine ⟨λi m σ H=>m=kvs.length-i/\i<=kvs.length/\Pv i σ H,⟨kvs.length,by simp,Nat.zero_le _,h0⟩,?_⟩
 rintro i m σ H ⟨rfl,hi,p⟩
 have q:=hl i σ H hi p
 by_cases hlt:i<kvs.length
 ·refine .inr ⟨⟨q,hlt⟩,Pv (i+1),λσ' H' p'=>⟨kvs.length-(i+1),∅,rfl,hlt,p'⟩,λx H' y=>?_⟩
  obtain ⟨e,z,hz,ex⟩:=y
  subst e ex
  exact hs i z σ _ hz p
 ·obtain rfl:i=kvs.length:=∅
  exact .inl ⟨⟨q,Nat.le_refl _⟩,hd σ H p⟩
end L2
end
section
namespace L2
open PySem.W
theorem YG {P:Program}{w:World}{K:PySem.W.Frag}{tg:Expr}(it:Addr) (lo:Int) (n:Nat):Turn P w K tg (Itr lo n) [it] it (λi h=>IsLongIter h it (lo+(i:Nat)*1) ((n:Int)-(i:Nat)) 1) where
 mem:=by simp
 obj:=λi h st b hb=>by
  have e:b=it:=by simpa using hb
  subst e
  exact ⟨_,st,λv z=>by
   have z':Data.fields _=Data.cell v:=z
   cases z'⟩
 keep:=λi h h' st k=>k it (by simp) _ st
 item:=by
  intro X hP hw hK hc i pins s σ H E I hf st hg
  subst hP hw hK
  obtain ⟨f0,f1,f2,f3,f4,f5⟩:=hf it (by simp)
  have W:=Walks.longrange (prog:=X.prog) (w:=X.w) (I.ok.hd hc) it lo 1 n
  refine W.item i s _ _ hg st λv h' tk hv st' kk=>?_
  obtain ⟨t,rfl⟩:=hv
  have I1:Inv X pins σ H { s with heap:=h',toks:=tk }:=I.turned (λb o hb e=>kk b o (by simpa using hb) e) f0 f1 f3 f4 f5
  refine ⟨_,rfl,Xe (s:={ s with heap:=h',toks:=tk }) (n:="longrange_iterator") st' rfl rfl ⋯ ⟨.int (lo+i),H,I1,⟨t,?_⟩,⟨rfl,rfl⟩,st',λb hb=>(hf b hb).1⟩⟩
  rw [Int.mul_one]
 done:=by
  intro X hP hw hK hc i pins s σ H E I hf st hg
  subst hP hw hK
  obtain ⟨f0,f1,f2,f3,f4,f5⟩:=hf it (by simp)
  exact wpAny_pyNext_long_end (I.ok.hd hc) st (by have:n<=i:=hg;omega) λh' eb=>⟨rfl,I.turned (t':=s.toks) (λb o hb e=>eb b o hb e) f0 f1 f3 f4 f5⟩
 self:=λ_ _ _ _ _ st h=>wpAny_pyIter_longiter st h
section
variable {X:Cx}{tg:Expr}
theorem V4 {pins:List (Addr×Obj)}{σ:St}{H:Hp}{s:Shared}{R:It->Hp->Prop}{E:Value->Shared->Prop}{lo hi:Int}{t u v:Tok}{tk:Nat}(I:Inv X pins σ H s)
  (q:R (Itr lo (hi-lo).toNat) H):wpAny (model X.prog X.w) X.A (pyIter (.ref s.heap.objs.size)) (PIE X pins σ tg R) E { s with heap:=s.heap.push { cls:=.type "range",data:=.fields #[.int lo t,.int hi u,.int 1 v] },toks:=tk }:=by
 have I1:Inv X pins σ H { s with heap:=s.heap.push { cls:=.type "range",data:=.fields #[.int lo t,.int hi u,.int 1 v] },toks:=tk }:=I.kept λb o e=>Heap.get?_push_of_some _ e
 have e1:lo+((0:Nat):Int)*1=lo:=by simp
 have e2:(((hi-lo).toNat:Nat):Int)-((0:Nat):Int)=Builtin.Range.rangeSize lo hi 1:=by rw [rangeSize_one];split <;> omega
 have fp:∀b∈[(s.heap.push { cls:=.type "range",data:=.fields #[.int lo t,.int hi u,.int 1 v] }).objs.size],_:=λb hb=>by
  have e:b=(s.heap.push { cls:=.type "range",data:=.fields #[.int lo t,.int hi u,.int 1 v] }).objs.size:=by simpa using hb
  subst e
  exact I1.fpOk (Nat.le_refl _) (I1.hok.fresh (Nat.le_refl _))
 by_cases sm:Builtin.Range.small lo hi 1=true
 ·refine wpAny_pyIter_range (IsRange.new ..) sm ?_
  refine ⟨(s.heap.push { cls:=.type "range",data:=.fields #[.int lo t,.int hi u,.int 1 v] }).objs.size,[(s.heap.push { cls:=.type "range",data:=.fields #[.int lo t,.int hi u,.int 1 v] }).objs.size],_,_,H,rfl,
   I1.kept (t':=tk) λb o e=>Heap.get?_push_of_some _ e,kA _ lo (hi-lo).toNat,?_,fp,q⟩
  show IsRangeIter _ _ (lo+((0:Nat):Int)*1) ((((hi-lo).toNat:Nat):Int)-((0:Nat):Int)) 1
  rw [e1,e2]
  exact Heap.get?_push_size _ rfl
 ·refine wpAny_pyIter_longrange (IsRange.new ..) (by simpa using sm) ?_
  refine ⟨(s.heap.push { cls:=.type "range",data:=.fields #[.int lo t,.int hi u,.int 1 v] }).objs.size,[(s.heap.push { cls:=.type "range",data:=.fields #[.int lo t,.int hi u,.int 1 v] }).objs.size],_,_,H,rfl,
   I1.kept (t':=tk) λb o e=>Heap.get?_push_of_some _ e,YG _ lo (hi-lo).toNat,?_,fp,q⟩
  show IsLongIter _ _ (lo+((0:Nat):Int)*1) ((((hi-lo).toNat:Nat):Int)-((0:Nat):Int)) 1
  rw [e1,e2]
  exact Heap.get?_push_size _ rfl
def Eh (ta:TA):TI:=λσ H R=>ta σ H λvs H1=>∃i j:Int,vs=[.int i,.int j]/\R (Itr i (j-i).toNat) H1
theorem Jk {a b:Expr}{ta:TA}{p pos:Pos}(hg:Gl X "range") (hm:X.mg "range" = none) (ha:PA X [a,b] ta) (hs:starEach [a,b] X.env=[(false,eval a X.env),(false,eval b X.env)]:=by rfl) (hs2:starEach [b] X.env=[(false,eval b X.env)]:=by rfl) :
  PI X tg (.Call (.Name "range" p) [a,b] [] pos) (Eh ta):=by
 intro pins s σ H R I h
 refine Call_ (zX I hg hm boot_range (PyProof.Rows.callWith_type1 (thn (ha pos pins s σ H _ I h) λus s1 ⟨vs,H1,I1,r1,q1⟩=>?_) (by rw [hs,hs2]) (by rw [hs2];rfl)))
 obtain ⟨i,j,e,q⟩:=q1
 subst e
 cases r1 with
 | cons r rr =>
  cases rr with
  | cons r' rr =>
   cases rr
   obtain ⟨t,rfl⟩:=r
   obtain ⟨t',rfl⟩:=r'
   exact call_range_2 (V4 I1 q)
end
end L2
end
section
namespace L2
open PySem.W
def Fz (a:Addr) (kvs:List (Key×V)) (o:Obj) (H H4:Hp):Prop:=H4 a=some (.frz o (.dK kvs))/\(H4=H\/(H a=some (.dK kvs)/\H4=upd H a (.frz o (.dK kvs))))
theorem Fz.at {a:Addr}{kvs:List (Key×V)}{o:Obj}{H H4:Hp}(f:Fz a kvs o H H4) {c:Addr}{u:HO}(h:H c=some u) (n:c≠a):H4 c=some u:=by
 rcases f.2 with rfl | ⟨_,rfl⟩
 ·exact h
 ·rw [j8 n];exact h
theorem JA {a:Addr}{kvs:List (Key×V)}{g:TG}{tb:TS}{D:Ends}{σ:St}{H:Hp}(h:Rd H a (.dK kvs)) (Pv:Obj->Nat->St->Hp->Prop) (h0:∀o H4,Fz a kvs o H H4->Pv o 0 σ H4) (hl:∀o i σ H,i<=kvs.length->Pv o i σ H->H a=some (.frz o (.dK kvs)))
  (hs:∀o i q σ H,kvs[i]? = some q->Pv o i σ H->g (kV q.1) σ H λσ2 H2=>tb { D with nx:=Pv o (i+1),ct:=Pv o (i+1),bk:=D.nx } σ2 H2) (hd:∀o σ H,Pv o kvs.length σ H->D.nx σ H) :
  ∃a' kvs',V.ref a = .ref a'/\((H a'=some (.dK kvs')/\∀o,∃W:Nat->Nat->St->Hp->Prop,(∃m,W 0 m σ (upd H a' (.frz o (.dK kvs'))))/\∀i m σ H,W i m σ H ->
   ((Itd a' o kvs').stop i H/\D.nx σ H)\/((Itd a' o kvs').go i H/\∃N:St->Hp->Prop,(∀σ' H',N σ' H'->∃m',m'<m/\W (i+1) m' σ' H')/\∀x H',(Itd a' o kvs').yld i H x H'->g x σ H' λσ2 H2=>tb { D with nx:=N,ct:=N,bk:=D.nx } σ2 H2)) \/
   ∃o,H a'=some (.frz o (.dK kvs'))/\∃W:Nat->Nat->St->Hp->Prop,(∃m,W 0 m σ H)/\∀i m σ H,W i m σ H ->
   ((Itd a' o kvs').stop i H/\D.nx σ H)\/((Itd a' o kvs').go i H/\∃N:St->Hp->Prop,(∀σ' H',N σ' H'->∃m',m'<m/\W (i+1) m' σ' H')/\∀x H',(Itd a' o kvs').yld i H x H'->g x σ H' λσ2 H2=>tb { D with nx:=N,ct:=N,bk:=D.nx } σ2 H2)):=by
 rcases h with h | ⟨o,h⟩
 ·exact ⟨a,kvs,rfl,.inl ⟨h,λo=>QY (a:=a) (o:=o) (kvs:=kvs) (Pv o) (h0 o _ ⟨j5,.inr ⟨h,rfl⟩⟩) (hl o) (hs o) (hd o)⟩⟩
 ·exact ⟨a,kvs,rfl,.inr ⟨o,h,QY (a:=a) (o:=o) (kvs:=kvs) (Pv o) (h0 o _ ⟨h,.inl rfl⟩) (hl o) (hs o) (hd o)⟩⟩
end L2
end
section
namespace L2
open PySem.W
section
variable {prog:Program}{w:World}{A:Around}{E:Value->Shared->Prop}{s:Shared}
theorem Wu:typeLookup (.type "list") "keys" = pure none:=by rw [typeLookup_type,builtinLookup_eq_fast];kernel_rfl
theorem V7 {a:Addr}{o:Obj}{xs:Array Value}{k:Nat}{Q:Option Value->Shared->Prop}(hx:s.heap.get? a=some o) (hc:o.cls = .type "list") (hdat:o.data = .seq xs k) (hd:o.dict=none) (hA:A.handled=none)
  (h:∀h' tk,(∀b o,s.heap.get? b=some o->h'.get? b=some o)->Q none { s with heap:=h',toks:=tk }):wpAny (model prog w) A (getAttr? (.ref a) "keys") Q E s:=by
 obtain ⟨c,dct,dat,sl⟩:=o
 simp only at hc hdat hd
 subst hc hdat hd
 obtain ⟨hp,g,d,tk,os⟩:=s
 have hT:∀tk',(⟨hp,g,d,tk',os⟩:Shared).TypeIs (.ref a) "list":=λ_=>⟨_,hx,rfl⟩
 have f1:=sub_AttributeError
 have f3:=F.slot_list_getattribute.lookup
 have f4:=F.slot_list_getattribute.bind (.ref a)
 have f5:=am_list_getattr_none
 unfold getAttr? getAttrBy? getAttrBy
 repeat (any_goals (first | assumption | exact hT _ | ((with_reducible show wpAny _ _ (call (Value.builtin "list.__getattribute__") _ _) _ _ _);refine call_meets F.slot_list_getattribute (hT _) am_entry_list_getattribute (F.args_list_getattribute_2 _ _) (meets_getattribute_miss_list a xs k sl "keys" _ Wu (by decide +kernel) ⋯) ⟨hx,hA,λh' tk' e hx'=>?_⟩) | wp_step))
 obtain ⟨t',u',he⟩:=hx'.there
 show wpAny _ _ (getattributeRaised _ _ _ _ _ _ _) _ _ _
 unfold getattributeRaised
 repeat (any_goals (first | assumption | wp_step))
 exact h h' tk' hx'.of.keeps
end
theorem wC:entryFor table "dict.update.loop" = some Builtin.«dict.update.loop»:=entryFor_of_tree (by kernel_rfl)
theorem zF:plainId "dict.update.loop" = true:=by decide +kernel
section
variable {prog:Program}{w:World}{A:Around}{R:Result->Shared->Prop}{d it l:Addr}{items:Array Value}{qs:List (Key×Value×Value)}
def Q3 (d it:Addr) (items:Array Value) (qs:List (Key×Value×Value)) (h:Heap):Prop:=∀(i:Nat) (q:Key×Value×Value),qs[i]? = some q->∃b:Addr,items[i]? = some (.ref b)/\b≠d/\b≠it/\h.IsTuple b #[q.2.1,q.2.2]
theorem Q3.keep {h h':Heap}(x:Q3 d it items qs h) (k:∀b o,b≠d->b≠it->h.get? b=some o->h'.get? b=some o):Q3 d it items qs h':=λi q hq=>by
 obtain ⟨b,h1,h2,h3,o,ho,r⟩:=x i q hq
 exact ⟨b,h1,h2,h3,o,k b o h2 h3 ho,r⟩
theorem V5 (hh:A.handled=none) (hld:l≠d) (hli:l≠it) (hdi:d≠it) (hsz:qs.length<=sizeLine) (hk:∀q∈qs,(jF prog w).is q.1 q.2.1=true) (nd:(qs.map (·.1)).Nodup) (hn:items.size=qs.length) :
  ∀(n i:Nat) (s:Shared),qs.length-i=n->i<=qs.length->s.heap.IsListIter it l i->s.heap.IsList l items->Q3 d it items qs s.heap->s.heap.DictOf (jF prog w) d ((qs.take i).map λq=>(q.1,q.2.2)) ->
   (∀h' tk,(∀b o,b≠d->b≠it->s.heap.get? b=some o->h'.get? b=some o)->h'.DictOf (jF prog w) d (qs.map λq=>(q.1,q.2.2))->R (.ok (.ret .none)) { s with heap:=h',toks:=tk }) ->
   codeAny (model prog w) A (.builtin "dict.update.loop" ⟨[.ref d,.ref it,rawInt i,.none],[]⟩) R s:=by
 have hh1:A.in1.handled=none:=by simp [hh]
 intro n
 induction n with
 | zero =>
  intro i s e hi st hl ht hd hR
  obtain rfl:i=qs.length:=∅
  refine codeAny_builtin wC ?_
  rw [Around.under_plainId zF _]
  show wpAny _ A.in1 (pyNext (.ref it) >>= _) _ _ s
  refine wpAny_bind (wpAny_pyNext_list_end hh1 st hl (by simp;omega) λh' eb=>?_)
  show wpAny _ A.in1 (Builtin.Dict.addKeywords d [] >>= _) _ _ _
  rw [List.take_length] at hd
  exact wpAny_bind (wpAny_pure (wpAny_pure (hR h' s.toks (λb o _ h2 h=>eb b o h2 h) (hd.extBut eb hdi))))
 | succ n ih =>
  intro i s e hi st hl ht hd hR
  have hlt:i<qs.length:=∅
  obtain ⟨⟨k,kv,v⟩,hq⟩:∃q,qs[i]? = some q:=⟨_,List.getElem?_eq_getElem hlt⟩
  obtain ⟨b,hb,bd,bi,hbt⟩:=ht i _ hq
  refine codeAny_builtin wC ?_
  rw [Around.under_plainId zF _]
  show wpAny _ A.in1 (pyNext (.ref it) >>= _) _ _ s
  refine wpAny_bind (wpAny_pyNext_list_item st hl hb λh1 st1 sb=>?_)
  have hbt1:h1.IsTuple b #[kv,v]:=by
   obtain ⟨o,ho,r⟩:=hbt
   exact ⟨o,(sb.2 b bi).trans ho,r⟩
  show wpAny _ A.in1 (holding [Value.ref b] _ >>= _) _ _ _
  obtain ⟨ob,hob,hcb,nb,hdb⟩:=hbt1
  refine wpAny_bind (wpAny_holding (wpAny_bind (wpAny_tryCatch ?_)))
  unfold Builtin.Dict.pairItems
  refine wpAny_bind (wpAny_typeOf (T:="tuple") ⟨ob,hob,hcb⟩ ?_)
  rw [if_pos ⋯]
  refine wpAny_bind (wpAny_seqItems hob hdb (wpAny_pure ?_))
  show wpAny _ A.in1 (holding [kv,v] (dictSet d kv v)) _ _ _
  have hd1:h1.DictOf (jF prog w) d ((qs.take i).map λq=>(q.1,q.2.2)):=hd.sameBut sb hdi
  refine wpAny_holding (wpAny_dictSet_pairs (s:={ s with heap:=h1 }) (hk _ (List.mem_of_getElem? hq)) hd1 (λh2 hd2 sd=>?_) (by rw [List.length_map,List.length_take];omega))
  refine wpAny_pure ⟨plainId_quiet zF _,?_⟩
  have keep:∀c o,c≠d->c≠it->s.heap.get? c=some o->h2.get? c=some o:=λc o n1 n2 h=>(sd.2 c n1).trans ((sb.2 c n2).trans h)
  refine ih (i+1) { s with heap:=h2,toks:=s.toks+1 } ∅ ∅ ?_ ?_ (ht.keep keep) ?_ λh3 tk k3 d3=>?_
  ·obtain ⟨o,ho,r⟩:=st1
   exact ⟨o,(sd.2 it hdi.symm).trans ho,r⟩
  ·obtain ⟨o,ho,r⟩:=hl
   exact ⟨o,keep l o hld hli ho,r⟩
  ·have e:stored ((qs.take i).map λq=>(q.1,q.2.2)) k v=(qs.take (i+1)).map λq=>(q.1,q.2.2):=by
    rw [stored,if_neg,List.take_add_one,hq]
    ·simp
    ·intro z
     obtain ⟨x,hx,ex⟩:=List.any_eq_true.mp z
     obtain ⟨u,hu,rfl⟩:=List.mem_map.mp hx
     have ex:u.1=k:=of_decide_eq_true ex
     obtain ⟨j,hj,ej⟩:=List.mem_iff_getElem.mp hu
     rw [List.length_take] at hj
     rw [List.getElem_take] at ej
     obtain ⟨_,eq⟩:=List.getElem?_eq_some_iff.mp hq
     have h1:(qs.map (·.1))[j]'(by rw [List.length_map];omega)=(qs.map (·.1))[i]'(by rw [List.length_map];exact hlt):=by rw [List.getElem_map,List.getElem_map,ej,eq,ex]
     exact absurd h1 (List.pairwise_iff_getElem.mp nd j i _ _ ∅)
   rw [<- e]
   exact hd2
  ·exact hR h3 tk (λc o n1 n2 h=>k3 c o n1 n2 (keep c o n1 n2 h)) d3
end
section
variable {prog:Program}{w:World}{A:Around}{E:Value->Shared->Prop}{s:Shared}{l:Addr}{ol:Obj}{nl:Nat}{items:Array Value}{qs:List (Key×Value×Value)}
theorem Zw {Q:Value->Shared->Prop}(hh:A.handled=none) (ho:s.heap.get? l=some ol) (hc:ol.cls = .type "list") (hdt:ol.data = .seq items nl) (hdc:ol.dict=none) (hsz:qs.length<=sizeLine) (hk:∀q∈qs,(jF prog w).is q.1 q.2.1=true) (nd:(qs.map (·.1)).Nodup) (hn:items.size=qs.length)
  (ht:∀(i:Nat) (q:Key×Value×Value),qs[i]? = some q->∃b:Addr,items[i]? = some (.ref b)/\s.heap.IsTuple b #[q.2.1,q.2.2])
  (h:∀h' tk,(∀b o,s.heap.get? b=some o->h'.get? b=some o)->h'.DictOf (jF prog w) s.heap.objs.size (qs.map λq=>(q.1,q.2.2))->Q (.ref s.heap.objs.size) { s with heap:=h',toks:=tk }) :
  wpAny (model prog w) A (call (.type "dict") [.ref l]) Q E s:=by
 refine callType_codes (Q₁:=λobj s₁=>obj = .ref s.heap.objs.size/\s₁={ s with heap:=s.heap.push { cls:=.type "dict",data:=.dict #[] } }) F.kt_called_dict (F.kt_typeCall_dict_1 _) F.entry_dict_init (kt_code_dict_new _ ⟨rfl,rfl⟩) ?_
 rintro obj s₁ ⟨rfl,rfl⟩
 have hnew:(s.heap.push { cls:=.type "dict",data:=.dict #[] }).DictOf (jF prog w) s.heap.objs.size []:=Heap.DictOf.new s.heap
 have kp:∀b o,s.heap.get? b=some o->(s.heap.push { cls:=.type "dict",data:=.dict #[] }).get? b=some o:=λb o q=>Heap.get?_push_of_some _ q
 refine ⟨hnew.typeIs,F.args_dict_init_2 _ _,?_⟩
 have lt:∀b o,s.heap.get? b=some o->b≠s.heap.objs.size:=λb o q=>Nat.ne_of_lt (Heap.lt_size q)
 unfold Builtin.«dict.__init__»
 refine wpAny_bind ?_
 unfold Builtin.Dict.selfAndRest
 refine wpAny_bind (wpAny_notOrdered_dict hnew.typeIs ?_)
 show wpAny _ _ (pure (s.heap.objs.size,[Value.ref l])) _ _ _
 refine wpAny_pure ?_
 show wpAny _ _ (Builtin.Dict.updateFrom "dict.__init__" s.heap.objs.size (.ref l) [] .none) _ _ _
 unfold Builtin.Dict.updateFrom
 refine wpAny_bind (wpAny_typeOf (T:="list") ⟨_,kp _ _ ho,hc⟩ ?_)
 rw [if_pos ⋯]
 generalize hz:s.heap.push { cls:=.type "dict",data:=.dict #[] }=h0 at *
 refine wpAny_bind (V7 (s:={ s with heap:=h0 }) (kp _ _ ho) hc hdt hdc (by simp [hh]) λh1 tk k1=>?_)
 rw [if_pos (show (none:Option Value).isNone=true from rfl)]
 have hl1:h1.IsList l items:=⟨ol,k1 _ _ (kp _ _ ho),hc,nl,hdt⟩
 refine wpAny_bind (wpAny_rule ?_)
 refine wpAny_bind (wpAny_pyIter_list (s:={ s with heap:=h1,toks:=tk }) hl1 (wpAny_pure ⟨plainId_quiet zF _,?_⟩))
 obtain ⟨od,_,_,hod,_⟩:=id hnew
 have hi1:∀b o,h1.get? b=some o->b≠h1.objs.size:=λb o q=>Nat.ne_of_lt (Heap.lt_size q)
 have kp2:∀b o,s.heap.get? b=some o->(h1.push { cls:=.type "list_iterator",data:=.fields #[.ref l,.int 0 0] }).get? b=some o:=λb o q=>Heap.get?_push_of_some _ (k1 _ _ (kp _ _ q))
 refine V5 (d:=s.heap.objs.size) (it:=h1.objs.size) (l:=l) (items:=items) (qs:=qs) (by simp [hh]) (lt _ _ ho) (hi1 _ _ (k1 _ _ (kp _ _ ho))) (hi1 _ _ (k1 _ _ hod)) hsz hk nd hn qs.length 0 _ ∅ (Nat.zero_le _) ⟨_,Heap.get?_push_size _ rfl,rfl,rfl⟩ (hl1.push _) (λi q hq=>?_) ?_ λh' tk' k' d'=>?_
 ·obtain ⟨b,hb,o,hbo,r⟩:=ht i q hq
  exact ⟨b,hb,lt _ _ hbo,hi1 _ _ (k1 _ _ (kp _ _ hbo)),o,kp2 _ _ hbo,r⟩
 ·obtain ⟨o,es,ep,ho',r⟩:=hnew
  exact ⟨o,es,ep,Heap.get?_push_of_some _ (k1 _ _ ho'),r⟩
 ·exact ⟨rfl,h h' tk' (λb o q=>k' b o (lt _ _ q) (hi1 _ _ (k1 _ _ (kp _ _ q))) (kp2 _ _ q)) d'⟩
end
theorem wH {α β:Type}(P:Nat->α->β->Prop):∀(l:List α) (n:Nat),(∀(i:Nat) a,l[i]? = some a->∃b,P (n+i) a b)->∃bs:List β,bs.length=l.length/\∀(i:Nat) a b,l[i]? = some a->bs[i]? = some b->P (n+i) a b
 | [],n,_=>⟨[],rfl,λi a b h=>by simp at h⟩
 | x::r,n,h=>by
  obtain ⟨b,hb⟩:=h 0 x rfl
  obtain ⟨bs,hl,hbs⟩:=wH P r (n+1) λi a hi=>by
   have:=h (i+1) a (by simpa using hi)
   rwa [show n+1+i=n+(i+1) by omega]
  refine ⟨b::bs,by simp [hl],λi a b' h1 h2=>?_⟩
  cases i with
  | zero =>
   simp at h1 h2
   subst h1 h2
   exact hb
  | succ i =>
   have:=hbs i a b' (by simpa using h1) (by simpa using h2)
   rwa [show n+(i+1)=n+1+i by omega]
theorem Jv {α β:Type}{F:α->β->Prop}:∀{l₁:List α}{l₂:List β},l₁.length=l₂.length->(∀(i:Nat) a b,l₁[i]? = some a->l₂[i]? = some b->F a b)->Paired F l₁ l₂
 | [],[],_,_=>.nil
 | [],_::_,h,_=>by simp at h
 | _::_,[],h,_=>by simp at h
 | x::r,y::t,h,k=>.cons (k 0 x y rfl rfl) (Jv (by simpa using h) λi a b h1 h2=>k (i+1) a b (by simpa using h1) (by simpa using h2))
theorem hZ {X:Cx}(K:PySem.W.Frag) (hca:X.calm=true) (hK:X.K=K:=by rfl):xb X (.type "dict") (λxs H Q=>∃(p:Addr) (out:List V) (ms:List (Int×Int)),xs=[.ref p]/\SqL K H p out/\Paired (λv (m:Int×Int)=>∃b,v=V.ref b/\H b=some (.tup [.int m.1,.int m.2])) out ms/\(ms.map (·.1)).Nodup/\ms.length<=1000 /\
  ∀(d:Addr) H',H d=none->H' d=some (.dK (ms.map λm=>(.inl m.1,.int m.2)))->jf H H'->Q (.ref d) H'):=by
 subst hK
 intro pins s σ H xs us Q I r h
 obtain ⟨p,out,ms,rfl,hq,hm,nd,h1000,k⟩:=h
 obtain ⟨u,rfl,ru⟩:=yC r
 cases ru
 obtain ⟨its,rv,⟨ol,nl,ho,hc,hdc,hdt⟩,hz⟩:=I.list hq
 have hlen:out.length=ms.length:=Paired.length hm
 have hits:out.length=its.length:=rv.length
 obtain ⟨qs,hql,hqs⟩:=wH (λi (m:Int×Int) (q:Key×Value×Value)=>∃(b:Addr) (t1 t2:Tok),q=(.inl m.1,.int m.1 t1,.int m.2 t2)/\its[i]? = some (.ref b)/\s.heap.IsTuple b #[.int m.1 t1,.int m.2 t2]) ms 0 λi m hi=>by
  rw [Nat.zero_add]
  have hio:i<out.length:=by rw [hlen];exact (List.getElem?_eq_some_iff.mp hi).1
  obtain ⟨m',hm',b,eb,hb⟩:=Paired.get hm (List.getElem?_eq_getElem hio)
  rw [hi] at hm'
  cases hm'
  obtain ⟨u,hu,ru⟩:=rv.get (List.getElem?_eq_getElem hio)
  rw [eb] at ru
  cases (show u=Value.ref b from ru)
  obtain ⟨_,its',r',o,h1,h2,n,h3⟩:=(show qp X.prog X.w H s.heap b (.tup [.int m.1,.int m.2]) from I.hok b _ hb)
  cases r' with
  | cons p1 q1 =>
   cases q1 with
   | cons p2 q2 =>
    cases q2
    obtain ⟨t1,rfl⟩:=p1
    obtain ⟨t2,rfl⟩:=p2
    exact ⟨_,b,t1,t2,rfl,hu,o,h1,h2,n,h3⟩
 have get:∀(i:Nat) (q:Key×Value×Value),qs[i]? = some q->∃(m:Int×Int) (b:Addr) (t1 t2:Tok),ms[i]? = some m/\q=(.inl m.1,.int m.1 t1,.int m.2 t2)/\its[i]? = some (.ref b)/\s.heap.IsTuple b #[.int m.1 t1,.int m.2 t2]:=λi q hi=>by
  have him:i<ms.length:=by rw [<- hql];exact (List.getElem?_eq_some_iff.mp hi).1
  obtain ⟨b,t1,t2,e,h1,h2⟩:=hqs i _ q (List.getElem?_eq_getElem him) hi
  rw [Nat.zero_add] at h1
  exact ⟨_,b,t1,t2,List.getElem?_eq_getElem him,e,h1,h2⟩
 have keys:qs.map (·.1)=ms.map λm=>(Sum.inl m.1:Key):=by
  refine List.ext_getElem? λi=>?_
  rw [List.getElem?_map,List.getElem?_map]
  cases e:qs[i]? with
  | none =>
   rw [List.getElem?_eq_none_iff] at e
   rw [List.getElem?_eq_none_iff.mpr ∅]
   rfl
  | some q =>
   obtain ⟨m,b,t1,t2,h1,h2,_⟩:=get i q e
   rw [h1,h2]
   rfl
 have ndk:(qs.map (·.1)).Nodup:=by
  rw [keys,show (ms.map λm=>(Sum.inl m.1:Key))=(ms.map (·.1)).map Sum.inl by rw [List.map_map];rfl]
  exact List.Pairwise.map _ (λa b h e=>h (Sum.inl.inj e)) nd
 have KVr:KV (ms.map λm=>((.inl m.1,.int m.2):Key×V)) (qs.map λq=>(q.1,q.2.2)):=by
  refine Jv (by rw [List.length_map,List.length_map,hql]) λi a b h1 h2=>?_
  rw [List.getElem?_map] at h1 h2
  obtain ⟨q,hq',rfl⟩:=Option.map_eq_some_iff.mp h2
  obtain ⟨m,_,t1,t2,hm',e,_⟩:=get i q hq'
  rw [hm'] at h1
  cases h1
  subst e
  exact ⟨rfl,t2,rfl⟩
 refine Zw (qs:=qs) (I.ok.hd hca) ho hc hdt hdc (by rw [hql];exact Nat.le_trans h1000 ⋯) (λq hq'=>?_) ndk (by simp;omega) (λi q hi=>?_) λh' tk keep dd=>?_
 ·obtain ⟨i,hi,e⟩:=List.mem_iff_getElem.mp hq'
  obtain ⟨m,b,t1,t2,h1,h2,_⟩:=get i q (by rw [List.getElem?_eq_getElem hi,e])
  subst h2
  exact Jw (k:=.inl m.1) ⟨t1,rfl⟩
 ·obtain ⟨m,b,t1,t2,h1,h2,h3,h4⟩:=get i q hi
  subst h2
  exact ⟨b,by simpa using h3,h4⟩
 ·have hf:=I.hok.fresh (Nat.le_refl s.heap.objs.size)
  exact ⟨.ref _,upd H s.heap.objs.size (.dK (ms.map λm=>((.inl m.1,.int m.2):Key×V))),I.laid (t':=tk) keep (Nat.le_refl _) (ZF (by rw [List.length_map];exact Nat.le_trans h1000 ⋯) (beq_eq_false_iff_ne.mpr (Ne.symm (Nat.ne_of_lt I.big))) KVr dd),rfl,k _ _ hf j5 (jf.new hf)⟩
end L2
end
section
namespace L2
open PySem.W
section
variable {X:Cx}
end
end L2
end
section
namespace L2
open PySem.W
section
variable {prog:Program}{w:World}{A:Around}{R:Result->Shared->Prop}{I:Addr}{fp wr:List Addr}{n:Nat}{P:Nat->Value->Prop}{St:Nat->Heap->Prop}{kw:List (Str×Value)}
theorem wS:(toString "max" ++ toString ".loop" : String) = "max.loop":=⋯
theorem Qa (W:Walks prog w A.in1 I fp wr n P St) {bt:Nat->Nat->Bool}(hc:CmpOf prog w A.in1 .Gt P bt) {S:Addr}(ns:S∉fp) {d:Value}:∀(k j:Nat) (s:Shared) (vb:Value) (c:Nat),n-(j+1)=k->j+1<=n->St (j+1) s.heap->P (argBest bt j) vb->s.heap.get? S=some { cls:=.type "list",dict:=none,data:=.seq #[vb,vb] c,slots:=#[] } ->
  (∀v h' tk,P (argBest bt (n-1)) v->(∀b o,b∉wr->b≠S->s.heap.get? b=some o->h'.get? b=some o)->R (.ok (.ret v)) { s with heap:=h',toks:=tk })->codeAny (model prog w) A (.builtin "max.loop" ⟨[.ref I,.none,.ref S],[("default",d)]⟩) R s
 | k,j,s,vb,c,hk,hj,hst,hP,hS,hR=>by
  have nw:S∉wr:=λh=>ns (W.sub _ h)
  refine codeAny_builtin F.entry_max_loop (Around.under_plainId F.plain_max_loop _ ▸ ?_)
  show wpAny _ A.in1 (seqItems? (.ref S) >>= _) _ _ s
  refine wpAny_bind (wpAny_seqItems hS rfl (show wpAny _ A.in1 (tryCatch (pyNext (.ref I)) _ >>= _) _ _ s from wpAny_bind (wpAny_tryCatch ?_)))
  by_cases e:j+1=n
  ·refine W.done s _ _ (e ▸ hst) λh' tk hk'=>?_
   show wpAny _ A.in1 (updateSeq S (λ_=>#[]) >>= _) _ _ _
   refine wpAny_bind (wpAny_updateSeq (hk' S _ nw hS) rfl (wpAny_bind (wpAny_letGo (wpAny_pure (hR vb _ tk (by rw [<- e];exact hP) λb o h1 h2 z=>?_)))))
   exact (Heap.get?_update_other _ _ (Ne.symm h2)).trans (hk' b o h1 z)
  ·have lt:j+1<n:=∅
   refine W.item (j+1) s _ _ lt hst λv h' tk hv hst' hk'=>?_
   have hS':=hk' S _ nw hS
   show wpAny _ A.in1 (tryCatch (holding [v,v] (richCompare .Gt v vb >>= _)) _ >>= _) _ _ _
   refine wpAny_bind (wpAny_tryCatch (wpAny_holding (wpAny_bind (hc (j+1) (argBest bt j) v vb _ _ _ hv hP (wpAny_bind (wpAny_holding (wpAny_truthy_bool (wpAny_bind (wpAny_letGo (wpAny_pure ?_))))))))))
   cases hb:bt (j+1) (argBest bt j) with
   | true =>
    simp only [if_true]
    refine wpAny_bind (wpAny_updateSeq hS' rfl (wpAny_bind (wpAny_letGo (wS ▸ wpAny_pure ⟨plainId_quiet F.plain_max_loop _,?_⟩))))
    refine Qa W hc ns (n-(j+1+1)) (j+1) _ v _ rfl lt (W.frame _ _ _ hst' λb hf o z=>?_) (by simp only [argBest,hb,if_true];exact hv) (Heap.get?_update_self _ hS' rfl) λv' h2 tk2 hv' hk2=>?_
    ·exact (Heap.get?_update_other _ _ (λh:S=b=>ns (by rw [h];exact hf))).trans z
    ·exact hR v' h2 tk2 hv' λb o h1 h3 z=>hk2 b o h1 h3 ((Heap.get?_update_other _ _ (Ne.symm h3)).trans (hk' b o h1 z))
   | false =>
    simp only [Bool.false_eq_true,if_false]
    refine wpAny_bind (wpAny_letGo (wS ▸ wpAny_pure ⟨plainId_quiet F.plain_max_loop _,?_⟩))
    exact Qa W hc ns (n-(j+1+1)) (j+1) _ vb c rfl lt hst' (by simp only [argBest,hb,Bool.false_eq_true,if_false];exact hP) hS' λv' h2 tk2 hv' hk2=>hR v' h2 tk2 hv' λb o h1 h3 z=>hk2 b o h1 h3 (hk' b o h1 z)
termination_by k=>k
decreasing_by all_goals omega
theorem VN (W:Walks prog w A.in1 I fp wr n P St) {bt:Nat->Nat->Bool}(hc:CmpOf prog w A.in1 .Gt P bt) {S:Addr}(ns:S∉fp) {d:Value}{s:Shared}{c:Nat}(hst:St 0 s.heap) (hS:s.heap.get? S=some { cls:=.type "list",dict:=none,data:=.seq #[] c,slots:=#[] })
  (h0:n=0->∀h' tk,(∀b o,b∉wr->b≠S->s.heap.get? b=some o->h'.get? b=some o)->R (.ok (.ret d)) { s with heap:=h',toks:=tk })
  (hR:0<n->∀v h' tk,P (argBest bt (n-1)) v->(∀b o,b∉wr->b≠S->s.heap.get? b=some o->h'.get? b=some o)->R (.ok (.ret v)) { s with heap:=h',toks:=tk }):codeAny (model prog w) A (.builtin "max.loop" ⟨[.ref I,.none,.ref S],[("default",d)]⟩) R s:=by
 have nw:S∉wr:=λh=>ns (W.sub _ h)
 refine codeAny_builtin F.entry_max_loop (Around.under_plainId F.plain_max_loop _ ▸ ?_)
 show wpAny _ A.in1 (seqItems? (.ref S) >>= _) _ _ s
 refine wpAny_bind (wpAny_seqItems hS rfl (show wpAny _ A.in1 (tryCatch (pyNext (.ref I)) _ >>= _) _ _ s from wpAny_bind (wpAny_tryCatch ?_)))
 rcases Nat.eq_zero_or_pos n with e | e
 ·refine W.done s _ _ (e ▸ hst) λh' tk hk'=>?_
  exact wpAny_bind (wpAny_rule (wpAny_pure (h0 e h' tk λb o h1 _ z=>hk' b o h1 z)))
 ·refine W.item 0 s _ _ e hst λv h' tk hv hst' hk'=>?_
  have hS':=hk' S _ nw hS
  show wpAny _ A.in1 (updateSeq S (λ_=>#[v,v]) >>= _) _ _ _
  refine wpAny_bind (wpAny_updateSeq hS' rfl (wS ▸ wpAny_pure ⟨plainId_quiet F.plain_max_loop _,?_⟩))
  refine Qa W hc ns _ 0 _ v _ rfl e (W.frame _ _ _ hst' λb hf o z=>?_) hv (Heap.get?_update_self _ hS' rfl) λv' h2 tk2 hv' hk2=>?_
  ·exact (Heap.get?_update_other _ _ (λh:S=b=>ns (by rw [h];exact hf))).trans z
  ·exact hR e v' h2 tk2 hv' λb o h1 h3 z=>hk2 b o h1 h3 ((Heap.get?_update_other _ _ (Ne.symm h3)).trans (hk' b o h1 z))
end
theorem UM (v:Value):Builtin.Builtins.bindParams "max" ["key","default"] 0 ⟨[],[(Str.ofString "default",v)]⟩=pure [none,some v]:=by rfl
theorem UX (a v:Value):argsOk "max" ⟨[a],[(Str.ofString "default",v)]⟩:=by unfold argsOk;kernel_rfl
section
variable {X:Cx}
def Ex (K:PySem.W.Frag) (ta:TA) (tx:TE):TE:=λσ H Q=>ta σ H λxs H0=>tx σ H0 λy H1=>∃(p:Addr) (ns:List Int) (d:Int),xs=[.ref p]/\y = .int d/\SqL K H1 p (ns.map V.int)/\(ns=[]->Q (.int d) H1)/\∀M,M∈ns->(∀a∈ns,a<=M)->Q (.int M) H1
theorem Wa {e x:Expr}{ta:TA}{tx:TE}{p pos kpos:Pos}(K:PySem.W.Frag) (hc:X.calm=true) (hg:Gl X "max") (hm:X.mg "max" = none) (ha:PA X [e] ta) (hx:PE X x tx) (hK:X.K=K:=by rfl)
  (he:backTo pos (starEach [e] X.env)=(false,eval e X.env)::backTo pos (starEach [] X.env):=by rfl) (hplain:(backTo pos (starEach [e] X.env)).any (·.1)=false:=by rfl) :
  PE X (.Call (.Name "max" p) [e] [⟨some (Str.ofString "default"),x,kpos⟩] pos) (Ex K ta tx):=by
 subst hK
 intro pins s σ H Q I h
 refine wpAny_Call_Name_kw (zX I hg hm boot_max ?_ ⋯ ⋯)
 refine callWith_kw (thn (ha pos pins s σ H _ I h) λus s1 ⟨vs,H1,I1,r,q⟩=>?_) he hplain
 show wpAny _ _ (evalAll ((do let v <- eval x X.env;standAt pos;pure v)::[])) _ _ s1
 refine wpAny_evalAll_cons (wpAny_bind (thn (hx pins s1 σ H1 _ I1 q) λv s2 ⟨y,H2,I2,ry,a,ns,d,e1,ey,hq,q0,q1⟩=>wpAny_bind (wpAny_standAt (wpAny_pure (wpAny_evalAll_nil ?_)))))
 subst e1 ey
 obtain ⟨u0,rfl,ru⟩:=yC r
 cases ru
 obtain ⟨t,rfl⟩:=ry
 show wpAny _ _ (call (.builtin "max") [.ref a] [(Str.ofString "default",.int d t)]) _ _ s2
 obtain ⟨its,rv,pl,hz⟩:=I2.list hq
 have hI:=x5 rv
 have hlen:=hI.length
 have hlt:a<s2.heap.objs.size:=by
  obtain ⟨o,n,e,_⟩:=id pl
  exact Heap.lt_size e
 have item:∀(i:Nat) (v:Value),its.toArray[i]? = some v->∃t,v=Value.int (ns.getD i 0) t:=λi v hP=>by
  have hP':its[i]? = some v:=by simpa using hP
  have hi:i<its.length:=(List.getElem?_eq_some_iff.mp hP').1
  obtain ⟨t',e⟩:=ue hI hi
  rw [e] at hP'
  refine ⟨t',?_⟩
  rw [List.getD_eq_getElem?_getD,List.getElem?_eq_getElem ∅]
  exact (Option.some.inj hP').symm
 have old:∀(h':Heap),(∀b o,b∉[s2.heap.objs.size]->b≠(s2.heap.push { cls:=Value.type "list_iterator",data:=Data.fields #[Value.ref a,Value.int 0 0] }).objs.size->((s2.heap.push { cls:=Value.type "list_iterator",data:=Data.fields #[Value.ref a,Value.int 0 0] }).push { cls:=Value.type "list",data:=Data.seq #[] }).get? b=some o->h'.get? b=some o)->∀b o,s2.heap.get? b=some o->h'.get? b=some o:=λh' hk b o eo=>by
  have lb:=Heap.lt_size eo
  refine hk b o (λz=>absurd (List.mem_singleton.mp z) (Nat.ne_of_lt lb)) ?_ (Heap.get?_push_of_some _ (Heap.get?_push_of_some _ eo))
  rw [Heap.size_push]
  exact Nat.ne_of_lt (Nat.lt_succ_of_lt lb)
 have Wk:=Walks.list (prog:=X.prog) (w:=X.w) (show (X.A.in1).handled=none from I2.ok.hd hc) s2.heap.objs.size a (Nat.ne_of_lt hlt) its.toArray
 refine kmb_tree F.kind_max F.plain_max F.entry_max (UX (.ref a) (.int d t)) ?_
 refine wpAny_bind (wpAny_of_eq (UM (.int d t)) (wpAny_bind (wpAny_pure (wpAny_bind (wpAny_pyIter_list pl.isList (wpAny_bind (wpAny_newObj_type ?_)))))))
 rw [wS]
 refine wpAny_pure ⟨plainId_quiet F.plain_max_loop _,VN Wk (bt:=λi j=>decide (ns.getD i 0 > ns.getD j 0)) (CmpOf.ints_gt (λi=>ns.getD i 0) ?_) ?_ (Wk.frame _ _ _ ⟨⟨_,Heap.get?_push_size _ rfl,rfl,rfl⟩,pl.isList.at λo e=>Heap.get?_push_of_some _ e⟩ λb _ o e=>Heap.get?_push_of_some _ e) (Heap.get?_push_size _ rfl) (λe0 h' tk hk=>?_) λe0 v h' tk hv hk=>?_⟩
 all_goals try clear Wk
 ·exact item
 ·intro z
  rw [show (s2.heap.push { cls:=Value.type "list_iterator",data:=Data.fields #[Value.ref a,Value.int 0 0] }).objs.size=s2.heap.objs.size+1 from Heap.size_push _ _] at z
  rcases List.mem_cons.mp z with z | z
  ·exact absurd z (Nat.ne_of_gt (Nat.lt_succ_self _))
  ·exact absurd (List.mem_singleton.mp z) (Nat.ne_of_gt (Nat.lt_succ_of_lt hlt))
 ·exact ⟨.int d,_,I2.kept (t':=tk) (λb o eo=>old h' hk b o eo),⟨t,rfl⟩,q0 (List.eq_nil_of_length_eq_zero (by rw [<- hlen];simpa using e0))⟩
 ·obtain ⟨t',rfl⟩:=item _ _ hv
  obtain ⟨b1,b2⟩:=argBest_gt (λi=>ns.getD i 0) (its.toArray.size-1)
  have hsz:its.toArray.size=ns.length:=by rw [<- hlen];simp
  refine ⟨.int _,_,I2.kept (t':=tk) (λb o eo=>old h' hk b o eo),⟨t',rfl⟩,q1 _ ?_ λx hx=>?_⟩
  ·rw [List.getD_eq_getElem?_getD,List.getElem?_eq_getElem ∅]
   exact List.getElem_mem _
  ·obtain ⟨k,hk',rfl⟩:=List.mem_iff_getElem.mp hx
   have:=b2 k ∅
   rw [List.getD_eq_getElem?_getD,List.getElem?_eq_getElem hk'] at this
   exact this
end
end L2
end
section
namespace L2
open PySem.W
theorem hU:∀(ns:List Int),(∀n∈ns,-(2 ^ 20)<=n/\n<=2 ^ 20) -> -(2 ^ 20)*(ns.length:Int)<=ns.sum/\ns.sum<=2 ^ 20*(ns.length:Int)
 | [],_=>by simp
 | n::ns,h=>by
  have a:=h n (List.mem_cons_self ..)
  have b:=hU ns λz hz=>h z (List.mem_cons_of_mem _ hz)
  rw [List.sum_cons,List.length_cons]
  omega
section
variable {X:Cx}
theorem xO (K:PySem.W.Frag) (hc:X.calm=true) (hK:X.K=K:=by rfl):xb X (.builtin "sum") (λxs H Q=>∃(p:Addr) (ns:List Int),xs=[.ref p]/\SqL K H p (ns.map V.int)/\ns.length<=1000/\(∀n∈ns,-(2 ^ 20)<=n/\n<=2 ^ 20)/\Q (.int ns.sum) H):=by
 subst hK
 intro pins s σ H xs us Q I r h
 obtain ⟨p,ns,rfl,hq,hl,hb,q⟩:=h
 obtain ⟨u,rfl,ru⟩:=yC r
 cases ru
 obtain ⟨its,rv,pl,hz⟩:=I.list hq
 have hI:=x5 rv
 have hlen:=hI.length
 have hne:p≠s.heap.objs.size:=by
  obtain ⟨o,n,e,_⟩:=id pl
  exact Nat.ne_of_lt (Heap.lt_size e)
 refine call_sum_walk (wpAny_pyIter_list pl.isList ?_)
 refine ⟨s.heap.objs.size,_,_,_,_,_,λi=>ns.getD i 0,rfl,Walks.list (show (X.A.in1).handled=none from I.ok.hd hc) s.heap.objs.size p hne its.toArray,⟨⟨_,Heap.get?_push_size _ rfl,rfl,rfl⟩,pl.isList.at λo e=>Heap.get?_push_of_some _ e⟩,?_,?_,?_,?_⟩
 ·intro b hb'
  have hps:p<s.heap.objs.size:=by
   obtain ⟨o,n,e,_⟩:=id pl
   exact Heap.lt_size e
  show b<(s.heap.push _).objs.size
  rw [Heap.size_push]
  rcases List.mem_cons.mp hb' with rfl | hb'
  ·exact Nat.lt_succ_self _
  ·have e:b=p:=by simpa using hb'
   subst e
   exact Nat.lt_succ_of_lt hps
 ·intro i v hP
  have hP':its[i]? = some v:=by simpa using hP
  have hi:i<its.length:=(List.getElem?_eq_some_iff.mp hP').1
  obtain ⟨t,e⟩:=ue hI hi
  rw [e] at hP'
  refine ⟨t,?_⟩
  show v=Value.int (ns.getD i 0) t
  rw [List.getD_eq_getElem?_getD,List.getElem?_eq_getElem ∅]
  exact (Option.some.inj hP').symm
 ·intro j hj
  have hj':j<ns.length:=by
   have:its.toArray.size=its.length:=by simp
   omega
  constructor
  ·show InLong (ns.getD j 0)
   rw [List.getD_eq_getElem?_getD,List.getElem?_eq_getElem hj']
   have:=hb _ (List.getElem_mem hj')
   show -(2 ^ 63)<=ns[j]/\ns[j]<2 ^ 63
   omega
  ·rw [preSum_getD]
   have:=hU (ns.take (j+1)) λn hn=>hb n (List.mem_of_mem_take hn)
   have hl2:(ns.take (j+1)).length<=1000:=by rw [List.length_take];omega
   show -(2 ^ 63)<=_/\_<2 ^ 63
   omega
 ·intro h' tk t' hk
  rw [preSum_getD,List.take_of_length_le (by simp;omega)]
  refine ⟨.int ns.sum,H,I.kept (t':=tk) λb o eo=>hk b o (by
   intro z
   have:=List.mem_singleton.mp z
   subst this
   exact absurd (Heap.lt_size eo) (Nat.lt_irrefl _)) (Heap.get?_push_of_some _ eo),⟨t',rfl⟩,q⟩
end
end L2
end
section
namespace L2
open PySem.W
abbrev Cx.noX (X:Cx):Cx:={ X with xe:=λ_ _=>False }
section
variable {X:Cx}{pins:List (Addr×Obj)}{σ:St}{H:Hp}{s:Shared}
theorem Inv.toNoX (I:Inv X pins σ H s):Inv X.noX pins σ H s:=⟨okP I.ok _ rfl,I.os,I.bare,I.base,I.loc,I.cell,I.free,I.freeC,I.pin,I.hok,I.len⟩
theorem Inv.ofNoX (I:Inv X.noX pins σ H s):Inv X pins σ H s:=⟨okP I.ok _ rfl,I.os,I.bare,I.base,I.loc,I.cell,I.free,I.freeC,I.pin,I.hok,I.len⟩
theorem Z9 {st:Stmt}{t:TS}(h:PS X.noX st t):PS X st t:=λpins s σ H D I q=>thn (wpAny_noRaise (h pins s σ H D I.toNoX q)) λ_ _ z=>spOf (λI=>I.ofNoX) z
end
end L2
end
section
namespace L2
open PySem.W
section
variable {X:Cx}
def gLst (K:PySem.W.Frag) (n:Nat) (t:TGs):TG:=λv σ H Q=>∃a xs,v = .ref a/\SqL K H a xs/\xs.length=n/\t xs σ H Q
theorem UK {es:List Expr}{k:Nat}{t:TGs}{n:Nat}{pos:Pos}(K:PySem.W.Frag) (hc:X.calm=true) (h:PGs X es t)
  (hn:(assignEach es X.env).length=n:=by rfl) (hst:(assignEach es X.env).findIdx? (·.1)=none:=by rfl) (hK:X.K=K:=by rfl):PG X (.Tuple es k pos) (gLst K n t):=by
 subst hK
 intro pins s σ H v u Q I r hw
 obtain ⟨a,xs,e1,hq,hl,hw⟩:=hw
 subst e1
 cases r
 obtain ⟨its,rv,pl,hz⟩:=I.list hq
 rw [assign_Tuple]
 refine wpAny_bind (wpAny_standAt ?_)
 unfold unpack
 have e:n=its.toArray.size:=by simp [<- hl,rv.length]
 rw [hn,hst,e]
 refine wpAny_bind (wpAny_holding (kun_itemsOf (I.ok.hd hc) pl.isList λh' hx=>?_))
 have I1:Inv X pins σ H { s with heap:=h' }:=I.kept (t':=s.toks) λb o e=>hx b o (Nat.ne_of_lt (Heap.lt_size e)) e
 exact h pins _ σ H xs _ Q I1 (by simpa using rv) hw
end
end L2
end
section
namespace K34
open L2
local macro_rules | `(tactic| walk_at "hp")=>`(tactic| first | assumption | exact j5 | (rw [j8 (by first | assumption | (apply Ne.symm;assumption))];first | assumption | exact j5))
local macro_rules | `(tactic| walk_at "num")=>`(tactic| first | decide | omega)
local macro_rules | `(tactic| walk_at "rd1")=>`(tactic| first | refine ⟨_,rfl,?_⟩ | refine ⟨_,_,rfl,rfl,?_⟩ | refine And.intro (show VQ _ _ from Or.inr ⟨by walk_at "num",by walk_at "num"⟩) ?_ | refine And.intro (show VQ _ _ from Or.inl ⟨by walk_at "num",by walk_at "num"⟩) ?_ | refine And.intro (show WQ _ _ from ⟨by walk_at "num",by walk_at "num"⟩) ?_ | refine And.intro (show Er _ _ from ⟨by walk_at "num",by walk_at "num",by walk_at "num"⟩) ?_ | refine And.intro (show (0:Int)<_ by walk_at "num") ?_ | refine ⟨_,_,_,_,rfl,rfl,SqL.of (by walk_at "hp"),(by rfl),?_⟩ | refine ⟨_,_,_,_,rfl,rfl,SqT.of (by walk_at "hp"),(by rfl),?_⟩ | refine ⟨_,_,_,_,rfl,rfl,(by assumption),(by rfl),?_⟩ | refine ⟨_,_,_,_,rfl,rfl,(by walk_at "hp"),(by rfl),?_⟩ | refine ⟨rfl,?_⟩)
local macro_rules | `(tactic| walk_at "r")=>`(tactic| repeat walk_at "rd1")
local macro_rules | `(tactic| walk_at "s")=>`(tactic| exact ⟨rfl,rfl,rfl,by decide +kernel,rfl,by decide +kernel,by decide +kernel⟩)
local macro_rules | `(tactic| walk_at "k")=>`(tactic| decide +kernel)
local macro_rules | `(())=>`(by omega)
local macro_rules | `(∅)=>`(by decide +kernel)
local macro_rules | `(tactic| walk_at "w")=>`(tactic| (intro _ z;cases z))
local macro_rules | `(tactic| walk_at "z")=>`(tactic| (intro z;cases z))
local macro_rules | `(tactic| left)=>`(tactic| walk_at "r")
def top (i:Nat):Stmt:=PySem.Challenge.pw_firnfall_k34_whole_what_fell_is_what_mel.main.body.getD i (.Pass ⟨0,0,0,0⟩)
abbrev zL:Stmt:=top 16
abbrev yq:Stmt:=top 17
abbrev vK:Stmt:=top 18
abbrev JT:Stmt:=top 19
abbrev qZ:Stmt:=top 20
abbrev vU:Stmt:=top 21
abbrev gY:Stmt:=top 22
abbrev xF:Stmt:=top 23
abbrev vt:Stmt:=top 24
abbrev ym:Stmt:=top 29
abbrev yj:Stmt:=top 30
abbrev kF:Stmt:=top 31
abbrev yx:Stmt:=top 36
abbrev zV:Stmt:=top 37
abbrev y3:Stmt:=top 38
abbrev qP:Stmt:=(xm (top 39) 0)
abbrev gf:Stmt:=(xm (top 39) 1)
abbrev yS:Stmt:=(xm (top 39) 2)
abbrev xH:Stmt:=(xm (top 39) 4)
abbrev xo:Stmt:=(xm (top 39) 5)
abbrev zY:Stmt:=(xm (top 39) 6)
abbrev zS:Stmt:=(xm (top 39) 7)
abbrev yJ:Stmt:=(xm (top 39) 8)
abbrev yn:Stmt:=(xm (top 39) 10)
abbrev zD:Stmt:=(xm (top 39) 13)
abbrev xU:Stmt:=(xm (top 39) 14)
abbrev vV:Stmt:=(xm (top 39) 16)
abbrev yd:Stmt:=top 41
abbrev xE:Stmt:=top 42
abbrev vZ:Stmt:=top 43
abbrev ZC:Stmt:=top 45
abbrev uc:Stmt:=top 46
abbrev wV:Stmt:=top 47
abbrev ZG:Stmt:=top 49
abbrev Qi:Stmt:=top 50
abbrev vv:Stmt:=top 52
abbrev vI:Stmt:=top 53
abbrev gU:Stmt:=top 54
abbrev Z6:Stmt:=top 55
abbrev XM:Stmt:=top 57
abbrev kE:Stmt:=top 58
abbrev XW:Stmt:=top 59
abbrev uV:Stmt:=top 61
abbrev yQ:Stmt:=top 62
abbrev vM:Stmt:=top 63
abbrev yY:Stmt:=top 64
abbrev zh:Stmt:=top 65
abbrev uX:Stmt:=top 66
abbrev zT:Stmt:=top 67
abbrev zN:Stmt:=top 68
abbrev qu:Stmt:=top 69
abbrev xj:Stmt:=top 70
abbrev zc:Stmt:=top 71
abbrev yi:Stmt:=top 72
abbrev vP:Stmt:=top 73
abbrev zd:Stmt:=top 74
abbrev vW:Stmt:=top 75
abbrev ua:Stmt:=top 76
abbrev vg:Stmt:=top 77
section
variable {P:Program}{w:World}{K:PySem.W.Frag}{mg:Str->Option Value}{base:Heap}
abbrev Gr:Pos:=⟨47,28,47,49⟩
abbrev qL (H:Hp) (Pt:Addr):Prop:=Tab H Pt Gr (("lanes" : Str) ++ ".<locals>." ++ "<lambda>")
def Yh:Sp:=λvs H Q _=>∃(i:Nat) (t:Int),vs=[.int i,.int t]/\Q (.bl (xQ i t)) H
theorem Xf:FnScope ["number","to"] ["number","to"] (j7 vK):=by walk_at "s"
theorem Xr {f:Addr}{fd:FuncData}(F:Fun K "leads_on" "leads_on" vK f fd):FnOk P w K mg base CX0 1 f fd ["number","to"] Yh:=by
 refine F.ok Xf (λvs H Q E h=>?_) (λcdv A outer s H vs Q E hr h=>?_)
 ·obtain ⟨i,t,rfl,_⟩:=h
  rfl
 ·obtain ⟨i,t,rfl,k⟩:=h
  refine ⟨_,(j4 (qi (jK wJ (pv 0) j6 (jS _)) (j9 (ji (zM wJ (pv 1) (ya xN j6) (jS _)))) jA)
   (j9 (ji (yg qJ uy j6 (pv 1) (pv 0))))),?_⟩
  have fin:∀b:Bool,b=xQ i t->Q (.bl b) H:=λb e=>by rw [e];exact k
  left
  refine qT (λh1=>?_) (λh1=>?_)
  ·left
   have h1':i=0:=by have:=V.int.inj h1;omega
   refine fin _ ?_
   unfold xQ
   rw [if_pos h1']
   exact decide_eq_decide.mpr ⟨λz=>V.int.inj z,λz=>by rw [z]⟩
  ·have h1':i≠0:=λz=>h1 (by rw [z];rfl)
   left
   refine qT (λh2=>?_) (λh2=>?_)
   ·left
    refine fin _ ?_
    unfold xQ
    rw [if_neg h1']
    exact decide_eq_decide.mpr ⟨λz=>⟨h2,z⟩,λz=>z.2⟩
   ·refine fin _ ?_
    unfold xQ
    rw [if_neg h1',decide_eq_false (λz=>h2 z.1)]
def Yc:Sp:=λvs H Q _=>∃(i:Nat) (v:V) (r:Rch),vs=[.int i,v]/\JX H v r/\r.2.length<=100/\∀H',jf H H'->Q (.bl (okR i r)) H'
theorem yX:FnScope ["number","reach","to","slope"] ["number","reach"] (j7 yq):=by walk_at "s"
theorem Qx {f:Addr}{fd:FuncData}{u0 u1:Tok}(nb:Nb2 mg) (g_MOST_HEIGHTS:mg "MOST_HEIGHTS" = some (.int 12 u0)) (g_GREATEST_HEIGHT:mg "GREATEST_HEIGHT" = some (.int 99 u1)) (c_leads_on:Cal P w K mg base 1 "leads_on" ["number","to"] Yh) (F:Fun K "is_reach" "is_reach" yq f fd):FnOk P w K mg base CX0 2 f fd ["number","reach"] Yc:=by
 refine F.ok yX (λvs H Q E h=>?_) (λcdv A outer s H vs Q E hr h=>?_)
 ·obtain ⟨i,v,r,rfl,_⟩:=h
  rfl
 ·obtain ⟨i,v,⟨t,hs⟩,rfl,⟨p,g,rfl,hp,hg⟩,h100,k⟩:=h
  have h100':hs.length<=100:=h100
  have fin:∀(b:Bool) (H':Hp),jf H H'->b=okR i (t,hs)->Q (.bl b) H':=λb H' sm e=>by rw [e];exact k H' sm
  refine ⟨_,(j4 (xK (pv 1) (qf (n:=2) K rfl (jg (ja (i:=2) yX.nd rfl (Or.inl rfl)) (jg (ja (i:=3) yX.nd rfl (Or.inl rfl)) jY))))
   (j4 (qi (PW.pt (WP (xn (zR (je c_leads_on (hr.mono ⋯) rfl (j0 (pv 0) (j0 (pv 2) j2))))) (Ux (xn (zi qJ qJ j6 (jd (jm K) rfl nb.b_len PySem.boot_len (j0 (pv 3) j2)) (xk (v:=V.int 12) rfl g_MOST_HEIGHTS ⟨_,rfl⟩)))))) (j9 (ji wL)) jA)
   (j9 (ji (jd (yf K rfl) rfl nb.b_all boot_all (j0 (jH (osc:=(j7 yq)) (ON:=["number","reach","to","slope"]) (N:=["height"]) (own:=1) (caps:=[]) ⟨rfl,∅,∅,∅,rfl,∅⟩ rfl rfl rfl (uQ K (pv 3)) (λ_ _ _ _ _=>(ja (i:=0) (show List.Nodup (["height"]:List Str) by decide +kernel) rfl (Or.inl rfl))) (λ_ _ _ _ _=>ju) (λ_ _ _ _ _=>(yg qJ qJ j6 (pv 0) (xk (v:=V.int 99) rfl g_GREATEST_HEIGHT ⟨_,rfl⟩)))) j2)))))),?_⟩
  left
  refine ⟨p,_,rfl,SqT.of hp,rfl,?_⟩
  refine ⟨_,_,rfl,_,_,rfl,rfl,?_⟩
  left
  refine ⟨i,t,rfl,?_⟩
  left
  cases hl:xQ i t with
  | false =>
   refine yN ?_
   left
   exact fin _ H (jf.refl H) (by unfold okR;rw [hl];rfl)
  | true =>
   refine we ?_
   left
   refine ⟨_,_,rfl,.inr (SqT.of hg),?_⟩
   left
   rw [List.length_map]
   refine qT (λh1=>?_) (λh1=>?_)
   ·left
    refine yb (λh2=>?_) (λh2=>?_)
    ·left
     exact fin _ H (jf.refl H) (by unfold okR;rw [hl,decide_eq_false (λz=>h2 z.2)];rfl)
    ·left
     refine ⟨⟨_,SqT.of hg⟩,λacc hacc=>?_⟩
     refine Qw (K:=K) (a:=g) (xs:=hs.map V.int) (acc:=acc) (λj σ H2=>∃x:Option V,σ=[x]/\H2 acc=some (.lst (((hs.take j).map λx=>decide (0<=x/\x<=99)).map V.bl))/\Ext acc H H2) ?_ ?_ ?_ ?_
     ·exact ⟨none,rfl,j5,Ext.put⟩
     ·rintro j σ H2 hj ⟨x,rfl,h3,e3⟩
      exact SqT.of (e3 _ _ hg (j1 hg hacc))
     ·rintro j v σ H2 hv ⟨x,rfl,h3,e3⟩
      obtain ⟨z,rfl⟩:=yV hv
      have hz:hs[j]? = some z:=by
       rw [List.getElem?_map] at hv
       cases e:hs[j]? with
       | none=>rw [e] at hv;cases hv
       | some y=>rw [e] at hv;cases hv;rfl
      have hj:j<hs.length:=(List.getElem?_eq_some_iff.mp hz).1
      have done:∀b:Bool,b=decide (0<=z/\z<=99)->∃ys,H2 acc=some (.lst ys)/\ys.length<sizeLine/\∃x:Option V,[some (V.int z)]=[x]/\upd H2 acc (.lst (ys++[V.bl b])) acc=some (.lst (((hs.take (j+1)).map λx=>decide (0<=x/\x<=99)).map V.bl))/\Ext acc H (upd H2 acc (.lst (ys++[V.bl b]))):=λb e=>by
       refine ⟨_,h3,by rw [List.length_map,List.length_map,List.length_take];exact jc (),_,rfl,?_,e3.trans Ext.put⟩
       rw [j5,qI (λx=>decide (0<=x/\x<=99)) hs j z hz,List.map_append,e]
       rfl
      left
      refine qT (λh4=>?_) (λh4=>?_)
      ·left
       exact done _ (decide_eq_decide.mpr ⟨λy=>⟨h4,y⟩,λy=>y.2⟩)
      ·exact done _ (decide_eq_false λy=>h4 y.1).symm
     ·rintro σ H2 ⟨x,rfl,h3,e3⟩
      rw [List.length_map,List.take_length] at h3
      refine ⟨acc,_,rfl,SqL.of h3,?_⟩
      refine fin _ H2 (λc o hc=>e3 c o hc (j1 hc hacc)) ?_
      unfold okR
      rw [hl,decide_eq_true (show (1<=(hs.length:Int)/\(hs.length:Int)<=12) from ⟨h1,h2⟩),List.all_map]
      rfl
   ·refine ⟨_,rfl,yN ?_⟩
    left
    exact fin _ H (jf.refl H) (by unfold okR;rw [hl,decide_eq_false (λz=>h1 z.1)];rfl)
def Jz (K:PySem.W.Frag):Sp:=λvs H Q _=>∃(p:Addr) (xs:List V) (rs:List Rch) (h:Nat),vs=[.ref p,.int h]/\H p=some (.lst xs)/\jZ H xs rs/\xu rs/\h<rs.length/\rs.length<=100/\∀t H',H t=none->H' t=some (.tup ((qC rs h).map V.int))->jf H H'->Q (.ref t) H'
theorem zG:FnScope ["reaches","head","way","reach"] ["reaches","head"] (j7 vU):=by walk_at "s"
theorem QN {f:Addr}{fd:FuncData}(nb:Nb2 mg) (F:Fun K "way_down" "way_down" vU f fd):FnOk P w K mg base CX0 1 f fd ["reaches","head"] (Jz K):=by
 refine F.ok zG (λvs H Q E h=>?_) (λcdv A outer s H vs Q E hr h=>?_)
 ·obtain ⟨p,xs,rs,h,rfl,_⟩:=h
  rfl
 ·obtain ⟨p,xs,rs,h,rfl,hp,hrw,L,hh,h100,k⟩:=h
  refine ⟨_,(j4 (jw 2 zG.nd (jR j2))
   (j4 (jw 3 zG.nd (pv 1))
   (j4 (gm PassesOwn.never (jK Uz (pv 3) j6 (jS _)) (j4 (jN (zP K PySem.F.plainAttrs_list PySem.F.slot_list_append PySem.F.type_list_append qy (pv 2) (j0 (pv 3) j2)))
   (j9 (jw 3 zG.nd (js (qo K) (js (jh K) (pv 0) (pv 3) (λ_ _=>rfl)) j6 (λ_ _=>rfl))))))
   (j9 (ji (qt (xz K) rfl nb.b_tuple PyProof.Rows.boot_tuple (j0 (pv 2) j2))))))),?_⟩
  left
  refine ⟨Nat.zero_le _,λwy H1 hwy hwy1 s1=>?_⟩
  left
  have hlen:=hrw.length
  refine gj (λσ H2=>∃(pre:List Int) (r:Int),σ=[some (.ref p),some (.int h),some (.ref wy),some (.int r)]/\H2 wy=some (.lst (pre.map V.int))/\Ext wy H1 H2 /\ -1<=r/\r<rs.length/\pre.length+(r+1).toNat<=100/\pre++(if r<0 then [] else qC rs r.toNat)=qC rs h) (λσ H2=>match σ with | [_,_,_,some (.int r)]=>(r+1).toNat | _=>0) ?_ ?_ ?_
  ·refine ⟨[],h,rfl,hwy1,Ext.refl,(),(),by simp;omega,?_⟩
   rw [if_neg ()]
   rfl
  ·rintro σ H2 ⟨pre,r,rfl,hw2,e2,r0,r1,rl,heq⟩
   left
   refine qT (λhr0=>?_) (λhr0=>?_)
   ·have hp2:H2 p=some (.lst xs):=e2 _ _ (s1 _ _ hp) (j1 hp hwy)
    have hrw2:jZ H2 xs rs:=hrw.keep ((jj.same s1).trans (jj.lst e2 hwy1))
    have hi:r.toNat<rs.length:=()
    obtain ⟨v,hv,q,g,rfl,hq,hg⟩:=hrw2.at (List.getElem?_eq_getElem hi)
    have ht:=L.lt hi
    have ht2:=(gS (L _ hi)).2.1
    have et:=JV (List.getElem?_eq_getElem hi)
    rw [et] at ht ht2
    generalize (rs[r.toNat]'hi).1=tt at ht ht2 et hq
    left
    refine ⟨.inl ⟨rfl,_,SqL.of hw2⟩,?_⟩
    left
    refine ⟨wy,_,_,rfl,rfl,hw2,by rw [List.length_map];exact jc (),?_⟩
    have hne:q≠wy:=jo hq hw2 (by walk_at "z")
    have hp3:upd H2 wy (.lst (pre.map V.int++[.int r])) p=some (.lst xs):=by rw [j8 (j1 hp hwy)];exact hp2
    have hq3:upd H2 wy (.lst (pre.map V.int++[.int r])) q=some (.tup [.int tt,.ref g]):=by rw [j8 hne];exact hq
    left
    refine ⟨_,_,_,_,rfl,rfl,SqL.of hp3,xM hr0 hv,?_⟩
    refine ⟨_,_,_,_,rfl,rfl,SqT.of hq3,rfl,?_⟩
    refine ⟨⟨pre++[r],tt,rfl,?_,e2.trans Ext.put,(),(),?_,?_⟩,?_⟩
    ·rw [j5,List.map_append];rfl
    ·rw [List.length_append,List.length_singleton];omega
    ·rw [<- heq,if_neg (show ¬r<0 by omega),zH L hi,et,List.append_assoc]
     congr 1
     show r::_=_
     congr 1
     omega
    ·show (tt+1).toNat<(r+1).toNat
     omega
   ·rw [if_pos (),List.append_nil] at heq
    subst heq
    left
    refine ⟨wy,_,rfl,SqL.of hw2,λt H3 ht ht3 s3=>?_⟩
    exact k t H3 (s1.free (e2.free ht (λz=>by rw [z,hw2] at ht;cases ht))) ht3 (λc o hc=>s3 _ _ (e2 _ _ (s1 _ _ hc) (j1 hc hwy)))
  ·intro σ H2 Q1 Q2 hQ h
   obtain ⟨v,e,r⟩:=h
   obtain ⟨i,j,e1,e2,kk,e3,r⟩:=r
   exact ⟨v,e,i,j,e1,e2,kk,e3,hQ _ _ r⟩
def Yk (K:PySem.W.Frag):Sp:=λvs H Q _=>∃(p a:Addr) (xs:List V) (rs:List Rch) (way:List Int),vs=[.ref p,.ref a]/\H p=some (.lst xs)/\jZ H xs rs/\(∀r∈rs,r.2.length<=100)/\H a=some (.tup (way.map V.int))/\(∀r∈way,0<=r/\r<rs.length)/\way.length<=100/\∀H',jf H H'->Q (.int (jB rs way)) H'
theorem wO:FnScope ["reaches","way"] ["reaches","way"] (j7 xF):=by walk_at "s"
theorem wQ {f:Addr}{fd:FuncData}(nb:Nb2 mg) (F:Fun K "count_places" "count_places" xF f fd):FnOk P w K mg base CX0 1 f fd ["reaches","way"] (Yk K):=by
 refine F.ok wO (λvs H Q E h=>?_) (λcdv A outer s H vs Q E hr h=>?_)
 ·obtain ⟨p,a,xs,rs,way,rfl,_⟩:=h
  rfl
 ·obtain ⟨p,a,xs,rs,way,rfl,hp,hrw,h100,ha,hin,hwl,k⟩:=h
  have hlen:=hrw.length
  refine ⟨_,(j9 (ji (jd (QS K rfl) rfl nb.b_sum boot_sum (j0 (jH (osc:=(j7 xF)) (ON:=["reaches","way"]) (N:=["reach","reaches"]) (own:=1) (caps:=[0]) ⟨rfl,∅,∅,∅,rfl,∅⟩ rfl rfl rfl (uQ K (pv 1)) (λ_ _ _ _ _=>(ja (i:=0) (show List.Nodup (["reach","reaches"]:List Str) by decide +kernel) rfl (Or.inl rfl))) (λ_ _ _ _ _=>ju) (λ_ _ _ _ _=>(jd (jm K) rfl nb.b_len PySem.boot_len (j0 (js (qo K) (js (jh K) (pv 1) (pv 0) (λ_ _=>rfl)) j6 (λ_ _=>rfl)) j2)))) j2)))),?_⟩
  left
  refine ⟨⟨_,SqT.of ha⟩,λacc hacc=>?_⟩
  refine Qw (K:=K) (a:=a) (xs:=way.map V.int) (acc:=acc) (λj σ H2=>∃x:Option V,σ=[x,some (.ref p)]/\H2 acc=some (.lst (((way.take j).map λr=>((y4 rs r.toNat).length:Int)).map V.int))/\Ext acc H H2) ?_ ?_ ?_ ?_
  ·exact ⟨none,rfl,j5,Ext.put⟩
  ·rintro j σ H2 hj ⟨x,rfl,h3,e3⟩
   exact SqT.of (e3 _ _ ha (j1 ha hacc))
  ·rintro j v σ H2 hv ⟨x,rfl,h3,e3⟩
   obtain ⟨r,rfl⟩:=yV hv
   have hz:way[j]? = some r:=by
    rw [List.getElem?_map] at hv
    cases e:way[j]? with
    | none=>rw [e] at hv;cases hv
    | some y=>rw [e] at hv;cases hv;rfl
   have hj:j<way.length:=(List.getElem?_eq_some_iff.mp hz).1
   have hr:=hin r (List.mem_of_getElem? hz)
   have hi:r.toNat<rs.length:=()
   obtain ⟨v,hv',q,g,rfl,hq,hg⟩:=(hrw.keep (jj.new e3 hacc)).at (List.getElem?_eq_getElem hi)
   left
   refine ⟨_,_,_,_,rfl,rfl,SqL.of (e3 _ _ hp (j1 hp hacc)),xM hr.1 hv',?_⟩
   refine ⟨_,_,_,_,rfl,rfl,SqT.of hq,rfl,?_⟩
   refine ⟨_,_,rfl,.inr (SqT.of hg),?_⟩
   refine ⟨_,h3,by rw [List.length_map,List.length_map,List.length_take];exact jc (),_,rfl,?_,e3.trans Ext.put⟩
   rw [j5,qI (λr:Int=>((y4 rs r.toNat).length:Int)) way j r hz,List.map_append,Qk (List.getElem?_eq_getElem hi),List.length_map]
   rfl
  ·rintro σ H2 ⟨x,rfl,h3,e3⟩
   rw [List.length_map,List.take_length] at h3
   refine ⟨acc,_,rfl,SqL.of h3,by rw [List.length_map];omega,λn hn=>?_,?_⟩
   ·obtain ⟨r,hr,rfl⟩:=List.mem_map.mp hn
    have hb:=hin r hr
    have hi:r.toNat<rs.length:=()
    have:=h100 _ (List.getElem_mem hi)
    rw [Qk (List.getElem?_eq_getElem hi)]
    omega
   ·exact k H2 λc o hc=>e3 c o hc (j1 hc hacc)
def uU (K:PySem.W.Frag) (Pt:Addr):Sp:=λvs H Q _=>∃(p:Addr) (xs:List V) (rs:List Rch),vs=[.ref p]/\H p=some (.lst xs)/\jZ H xs rs/\xu rs/\rs.length<=60/\qL H Pt/\∀l H' out ws,H l=none->H' l=some (.lst out)->y9 H' out ws->qe rs ws->Ext Pt H H'->qL H' Pt->Q (.ref l) H'
theorem gK:FnScope ["reaches","entered","ways"] ["reaches"] (j7 qZ):=by walk_at "s"
theorem Qv {α:Type}(l:List α) (d:α):((List.range l.length).map λi=>l.getD i d)=l:=by
 apply List.ext_getElem
 ·simp
 ·intro i h1 h2
  simp [h2]
theorem JM {H:Hp}{vs:List V}{ws:List (List Int)}(h:y9 H vs ws):∀ix:List Nat,(∀i∈ix,i<vs.length)->y9 H (ix.map λi=>vs.getD i V.non) (ix.map λi=>ws.getD i [])
 | [],_=>.nil
 | i::ix,hb=>by
  refine .cons ?_ (JM h ix λj hj=>hb j (List.mem_cons_of_mem _ hj))
  have hi:=hb i List.mem_cons_self
  obtain ⟨y,e2,a,e3,e4⟩:=Paired.get h (List.getElem?_eq_getElem hi)
  refine ⟨a,?_,?_⟩
  ·show vs.getD i V.non=V.ref a
   rw [List.getD_eq_getElem?_getD,List.getElem?_eq_getElem hi];exact e3
  ·show H a=some (.tup ((ws.getD i []).map V.int))
   rw [List.getD_eq_getElem?_getD,e2];exact e4
theorem Q6 {rs:List Rch}{roads:List (List Int)}{vs out:List V}{H H':Hp}(hr:roads=(jq rs).map (qC rs)) (hv:y9 H vs roads) (k:jj H H') (hs:uC wN (λi=>(roads.getD i []).reverse) vs out):∃ws,y9 H' out ws/\qe rs ws:=by
 obtain ⟨ix,hp,e,hpw⟩:=hs
 have hb:∀i∈ix,i<vs.length:=λi hi=>by have:=hp.mem_iff.mp hi;simpa using this
 refine ⟨ix.map λi=>roads.getD i [],by rw [e];exact (JM hv ix hb).keep k,?_,?_⟩
 ·have:=hp.map λi=>roads.getD i []
  rw [hv.length,Qv] at this
  rw [<- hr]
  exact this
 ·rw [List.map_map]
  exact hpw
theorem VM {f c Pt:Addr}{oc:Value}{od an:Option Addr}{osl:Array (Option Value)}{kV doc pm ct:Value}(nb:Nb2 mg) (c_way_down:Cal P w K mg base 1 "way_down" ["reaches","head"] (Jz K)) (CH:PySem.W.CodeHd base c Pt) (hBm:Bm mg base)
  (l:K.lookup f=some ⟨oc,od,.func (PySem.W.fnOf "lanes" "lanes" (qd qZ) (jV qZ) (j7 qZ) .none kV doc pm an (.ref c) ct),osl⟩) (cd:PySem.W.codeIn K (.ref c) "lanes" = true) :
  FnOk P w K mg base CX0 5 f (PySem.W.fnOf "lanes" "lanes" (qd qZ) (jV qZ) (j7 qZ) .none kV doc pm an (.ref c) ct) ["reaches"] (uU K Pt):=by
 refine Fun.okC l cd gK (λvs H Q E h=>?_) (λA outer s H vs Q E hr h=>?_)
 ·obtain ⟨p,xs,rs,rfl,_⟩:=h
  rfl
 ·obtain ⟨p,xs,rs,rfl,hp,hrw,L,h60,hT,k⟩:=h
  have hlen:=hrw.length
  refine ⟨_,(j4 (xP (i:=1) gK.nd rfl (Or.inr rfl) (jH (osc:=(j7 qZ)) (ON:=["reaches","entered","ways"]) (N:=["to","slope"]) (own:=2) (caps:=[]) ⟨rfl,∅,∅,∅,rfl,∅⟩ rfl rfl rfl (jM K (pv 0)) (λ_ _ _ _ _=>(qf (n:=2) K rfl (jg (ja (i:=0) (show List.Nodup (["to","slope"]:List Str) by decide +kernel) rfl (Or.inl rfl)) (jg (ja (i:=1) (show List.Nodup (["to","slope"]:List Str) by decide +kernel) rfl (Or.inl rfl)) jY)))) (λ_ _ _ _ _=>ju) (λ_ _ _ _ _=>(pv 0))))
   (j4 (vy (j:=2) (osc:=(j7 qZ)) (ON:=["reaches","entered","ways"]) (N:=["head","reaches","entered"]) (own:=1) (caps:=[0,1]) ⟨rfl,∅,∅,∅,rfl,∅⟩ gK.nd rfl (Or.inl rfl) rfl rfl rfl (qc rfl nb.b_range (j0 (jd (jm K) rfl nb.b_len PySem.boot_len (j0 (pv 0) j2)) j2)) (λ_ _ _ _ _=>(ja (i:=0) (show List.Nodup (["head","reaches","entered"]:List Str) by decide +kernel) rfl (Or.inl rfl))) (λ_ _ _ _ _=>(uJ (jK (zQ K) (pv 0) (pv 2) (by with_unfolding_all rfl)))) (λ_ _ _ _ _=>(je c_way_down (hr.mono ⋯) rfl (j0 (pv 1) (j0 (pv 0) j2)))))
   (j9 (ji (Z3 (N:=["way"]) (x:="way") (k:=0) rfl nb.b_sorted (j0 (pv 2) j2) rfl CH hBm (hr.mono ⋯) (by walk_at "s") (λ_ _ _ _=>rfl) (λ_ _ _ _=>(WI K (pv 0)))))))),?_⟩
  left
  refine ⟨⟨_,SqL.of hp⟩,λen hen=>?_⟩
  refine jP (K:=K) (a:=p) (xs:=xs) (acc:=en) (λj σ H2=>∃x y:Option V,σ=[x,y]/\H2 en=some (.lst (((rs.take j).map (·.1)).map V.int))/\Ext en H H2) ?_ ?_ ?_ ?_
  ·exact ⟨none,none,rfl,j5,Ext.put⟩
  ·rintro j σ H2 hj ⟨x,y,rfl,h3,e3⟩
   exact SqL.of (e3 _ _ hp (j1 hp hen))
  ·rintro j v σ H2 hv ⟨x,y,rfl,h3,e3⟩
   obtain ⟨r,hr,q,g,rfl,hq,hg⟩:=(hrw.keep (jj.new e3 hen)).get hv
   have hj:j<rs.length:=(List.getElem?_eq_some_iff.mp hr).1
   left
   refine ⟨q,_,rfl,SqT.of hq,rfl,?_⟩
   refine ⟨_,_,rfl,_,_,rfl,rfl,?_⟩
   left
   refine ⟨_,h3,by rw [List.length_map,List.length_map,List.length_take];exact jc (),_,_,rfl,?_,e3.trans Ext.put⟩
   rw [j5,qI (λr:Rch=>r.1) rs j r hr,List.map_append]
   rfl
  ·rintro σ H2 ⟨x,y,rfl,h3,e3⟩
   rw [hlen,List.take_length] at h3
   have hp2:=e3 _ _ hp (j1 hp hen)
   have hrw2:jZ H2 xs rs:=hrw.keep (jj.new e3 hen)
   have hT2:qL H2 Pt:=hT.extN hen e3
   left
   refine ⟨_,_,rfl,.inl (SqL.of hp2),?_⟩
   refine ⟨_,rfl,(),(),λwy hwy=>?_⟩
   rw [hlen]
   refine qB (lo:=0) (n:=((rs.length:Nat):Int).toNat) (acc:=wy) (λj σ H3=>∃(x:Option V) (vs:List V),σ=[x,some (.ref p),some (.ref en)]/\H3 wy=some (.lst vs)/\y9 H3 vs (((List.range j).filter (jU rs)).map (qC rs))/\Ext wy H2 H3/\vs.length<=j) ?_ ?_ ?_
   ·exact ⟨none,[],rfl,j5,.nil,Ext.put,Nat.le_refl _⟩
   ·rintro j σ H3 hj ⟨x,vs,rfl,h4,w4,e4,l4⟩
    have hj':j<rs.length:=()
    have hen4:=e4 _ _ h3 (j1 h3 hwy)
    have hp4:=e4 _ _ hp2 (j1 hp2 hwy)
    have hrw4:jZ H3 xs rs:=hrw2.keep (jj.new e4 hwy)
    have er:(List.range (j+1)).filter (jU rs)=(List.range j).filter (jU rs)++(if jU rs j=true then [j] else []):=by
     rw [List.range_succ,List.filter_append]
     congr 1
     by_cases z:jU rs j=true
     ·rw [if_pos z];simp [z]
     ·rw [if_neg z];simp [z]
    left
    refine ⟨en,_,rfl,.inl (SqL.of hen4),rfl,vq _,?_⟩
    left
    rw [Int.zero_add,uT]
    refine yb (λhin=>?_) (λhin=>?_)
    ·have hb:jU rs j=true:=by unfold jU;rw [decide_eq_false (show ¬(j:Int)∈tos rs from hin)];rfl
     left
     refine ⟨p,xs,rs,j,rfl,hp4,hrw4,L,hj',(),λt H5 ht ht5 s5=>?_⟩
     have nt:t≠wy:=λz=>by rw [z,h4] at ht;cases ht
     have h5:=s5 _ _ h4
     refine ⟨vs,h5,jc (),_,vs++[.ref t],rfl,j5,?_,λc o hc n=>by rw [j8 n];exact s5 _ _ (e4 c o hc n),by rw [List.length_append,List.length_singleton];omega⟩
     rw [er,if_pos hb,List.map_append]
     exact y9.keep (jj.lst Ext.put h5) (Paired.snoc (w4.keep (jj.same s5)) ⟨t,rfl,ht5⟩)
    ·have hb:¬jU rs j=true:=by unfold jU;rw [decide_eq_true (show (j:Int)∈tos rs from hin)];exact Bool.false_ne_true
     refine ⟨_,vs,rfl,h4,?_,e4,()⟩
     rw [er,if_neg hb,List.append_nil]
     exact w4
   ·rintro σ H3 ⟨x,vs,rfl,h4,w4,e4,l4⟩
    have hT3:qL H3 Pt:=hT2.extN hwy e4
    obtain ⟨ps,hPt⟩:=hT3.ne
    rw [Int.toNat_natCast] at w4 l4
    have hvl:=w4.length
    left
    refine ⟨hT3,wy,vs,λi=>((((jq rs).map (qC rs)).getD i []).reverse),rfl,SqL.of h4,(),λi hi z=>?_,λH5 X5 i v hv=>?_,λlo H5 out hlo hlo5 X5 T5 hs=>?_⟩
    ·have hi2:i<(jq rs).length:=by
      rw [List.length_map] at hvl
      exact Nat.lt_of_lt_of_eq hi hvl
     have z2:((jq rs).map (qC rs)).getD i []=[]:=List.reverse_eq_nil_iff.mp z
     rw [List.getD_eq_getElem?_getD,List.getElem?_map,List.getElem?_eq_getElem hi2] at z2
     exact US _ z2
    ·obtain ⟨y,e2,a,rfl,ha⟩:=Paired.get w4 hv
     have ha5:=jj.tbl X5 hPt _ _ ha
     left
     refine ⟨a,_,rfl,SqT.of ha5,λq H6 hq hq6 s6=>⟨s6,q,rfl,?_⟩⟩
     show H6 q=some (.tup (((((jq rs).map (qC rs)).getD i []).reverse).map V.int))
     rw [hq6,List.getD_eq_getElem?_getD,show ((jq rs).map (qC rs))[i]? = some y from e2,<- List.map_reverse]
     rfl
    ·obtain ⟨ws,hw,hrd⟩:=Q6 (rs:=rs) rfl w4 (jj.tbl X5 hPt) hs
     have wyP:wy≠Pt:=jo h4 hPt (by walk_at "z")
     have enP:en≠Pt:=jo (e4 _ _ h3 (j1 h3 hwy)) hPt (by walk_at "z")
     have hlo3:H lo=none:=by
      have a1:H2 lo=none:=e4.free hlo (λz=>by rw [z,h4] at hlo;cases hlo)
      exact e3.free a1 (λz=>by rw [z,h3] at a1;cases a1)
     exact k lo H5 out ws hlo3 hlo5 hw hrd (λc o hc n=>X5 _ _ (e4 _ _ (e3 _ _ hc (j1 hc hen)) (j1 (e3 _ _ hc (j1 hc hen)) hwy)) n) T5
def Vy (K:PySem.W.Frag):Sp:=λvs H Q _=>∃(p wl:Addr) (xs out:List V) (rs:List Rch) (ws:List (List Int)),vs=[.ref p,.ref wl]/\H p=some (.lst xs)/\jZ H xs rs/\(∀r∈rs,r.2.length<=100)/\H wl=some (.lst out)/\y9 H out ws/\qe rs ws/\xu rs/\rs.length<=60 /\
 ∀H',jf H H'->Q (.bl (decide (((jq rs).length:Int)<=6) && (jq rs).all λh=>decide (jB rs (qC rs h)<=30))) H'
theorem Wf:FnScope ["reaches","ways"] ["reaches","ways"] (j7 JT):=by walk_at "s"
theorem WC {f:Addr}{fd:FuncData}{u0 u1:Tok}(nb:Nb2 mg) (g_MOST_LANES:mg "MOST_LANES" = some (.int 6 u0)) (g_LONGEST_LANE:mg "LONGEST_LANE" = some (.int 30 u1)) (c_count_places:Cal P w K mg base 1 "count_places" ["reaches","way"] (Yk K)) (F:Fun K "fits" "fits" JT f fd):FnOk P w K mg base CX0 2 f fd ["reaches","ways"] (Vy K):=by
 refine F.ok Wf (λvs H Q E h=>?_) (λcdv A outer s H vs Q E hr h=>?_)
 ·obtain ⟨p,wl,xs,out,rs,ws,rfl,_⟩:=h
  rfl
 ·obtain ⟨p,wl,xs,out,rs,ws,rfl,hp,hrw,h100,hw,hws,hrd,L,h60,k⟩:=h
  have hwl:=hws.length
  have hrl:=hrd.length
  have hhl:(jq rs).length<=60:=by
   unfold jq
   exact Nat.le_trans (List.length_filter_le _ _) (by rw [List.length_range];exact h60)
  have fin:∀(b:Bool) (H':Hp),jf H H'->b=(decide (((jq rs).length:Int)<=6) && (jq rs).all λh=>decide (jB rs (qC rs h)<=30))->Q (.bl b) H':=λb H' sm e=>by rw [e];exact k H' sm
  refine ⟨_,(j9 (ji (yu (zM qJ (jd (jm K) rfl nb.b_len PySem.boot_len (j0 (pv 1) j2)) (xk (v:=V.int 6) rfl g_MOST_LANES ⟨_,rfl⟩) (jS _)) (yH (jd (yf K rfl) rfl nb.b_all boot_all (j0 (jH (osc:=(j7 JT)) (ON:=["reaches","ways"]) (N:=["way","reaches"]) (own:=1) (caps:=[0]) ⟨rfl,∅,∅,∅,rfl,∅⟩ rfl rfl rfl (jM K (pv 1)) (λ_ _ _ _ _=>(ja (i:=0) (show List.Nodup (["way","reaches"]:List Str) by decide +kernel) rfl (Or.inl rfl))) (λ_ _ _ _ _=>ju) (λ_ _ _ _ _=>(zM qJ (je c_count_places (hr.mono ⋯) rfl (j0 (pv 1) (j0 (pv 0) j2))) (xk (v:=V.int 30) rfl g_LONGEST_LANE ⟨_,rfl⟩) (jS _)))) j2)))))),?_⟩
  left
  refine ⟨_,_,rfl,.inl (SqL.of hw),?_⟩
  left
  refine qT (λh1=>?_) (λh1=>?_)
  ·left
   refine ⟨⟨_,SqL.of hw⟩,λacc hacc=>?_⟩
   refine jP (K:=K) (a:=wl) (xs:=out) (acc:=acc) (λj σ H2=>∃x:Option V,σ=[x,some (.ref p)]/\H2 acc=some (.lst (((ws.take j).map λw=>decide (jB rs w<=30)).map V.bl))/\Ext acc H H2) ?_ ?_ ?_ ?_
   ·exact ⟨none,rfl,j5,Ext.put⟩
   ·rintro j σ H2 hj ⟨x,rfl,h3,e3⟩
    exact SqL.of (e3 _ _ hw (j1 hw hacc))
   ·rintro j v σ H2 hv ⟨x,rfl,h3,e3⟩
    obtain ⟨wy,ew,a,rfl,ha⟩:=Paired.get (hws.keep (jj.new e3 hacc)) hv
    have hj:j<ws.length:=(List.getElem?_eq_some_iff.mp ew).1
    obtain ⟨hd,hhd,ewy⟩:=hrd.mem (List.mem_of_getElem? ew)
    have hdl:=xx hhd
    have hwlen:wy.length<=100:=by rw [ewy];have:=uL L hd hdl;omega
    left
    refine ⟨p,a,xs,rs,wy,rfl,e3 _ _ hp (j1 hp hacc),hrw.keep (jj.new e3 hacc),h100,ha,by rw [ewy];exact ze L hd hdl,hwlen,λH4 s4=>?_⟩
    left
    refine ⟨_,s4 _ _ h3,by rw [List.length_map,List.length_map,List.length_take];exact jc (),_,rfl,?_,λc o hc n=>by rw [j8 n];exact s4 _ _ (e3 c o hc n)⟩
    rw [j5,qI (λw=>decide (jB rs w<=30)) ws j wy ew,List.map_append]
    rfl
   ·rintro σ H2 ⟨x,rfl,h3,e3⟩
    rw [hwl,List.take_length] at h3
    refine ⟨acc,_,rfl,SqL.of h3,?_⟩
    refine fin _ H2 (λc o hc=>e3 c o hc (j1 hc hacc)) ?_
    rw [decide_eq_true (show ((jq rs).length:Int)<=6 by rw [<- hrl,<- hwl];exact h1),Bool.true_and,hrd.all]
  ·refine fin _ H (jf.refl H) ?_
   rw [decide_eq_false (show ¬((jq rs).length:Int)<=6 by rw [<- hrl,<- hwl];exact h1)]
   rfl
def XC (K:PySem.W.Frag) (Pt:Addr):Sp:=λvs H Q _=>∃(p:Addr) (xs:List V) (rs:List Rch),vs=[.ref p]/\H p=some (.lst xs)/\jZ H xs rs/\(∀r∈rs,r.2.length<=100)/\rs.length<=60/\qL H Pt/\∀H',Ext Pt H H'->qL H' Pt->Q (.bl (zE rs)) H'
theorem Q7:FnScope ["reaches"] ["reaches"] (j7 zL):=by walk_at "s"
theorem Qm {f Pt:Addr}{fd:FuncData}{u0:Tok}(nb:Nb2 mg) (g_MOST_REACHES:mg "MOST_REACHES" = some (.int 8 u0)) (c_is_reach:Cal P w K mg base 2 "is_reach" ["number","reach"] Yc) (c_lanes:Cal P w K mg base 5 "lanes" ["reaches"] (uU K Pt)) (c_fits:Cal P w K mg base 2 "fits" ["reaches","ways"] (Vy K)) (F:Fun K "is_valley" "is_valley" zL f fd):FnOk P w K mg base CX0 6 f fd ["reaches"] (XC K Pt):=by
 refine F.ok Q7 (λvs H Q E h=>?_) (λcdv A outer s H vs Q E hr h=>?_)
 ·obtain ⟨p,xs,rs,rfl,_⟩:=h
  rfl
 ·obtain ⟨p,xs,rs,rfl,hp,hrw,h100,h60,hT,k⟩:=h
  have hlen:=hrw.length
  have fin:∀(b:Bool) (H':Hp),Ext Pt H H'->qL H' Pt->b=zE rs->Q (.bl b) H':=λb H' x t e=>by rw [e];exact k H' x t
  refine ⟨_,(j4 (qi (xn (zi qJ qJ j6 (jd (jm K) rfl nb.b_len PySem.boot_len (j0 (pv 0) j2)) (xk (v:=V.int 8) rfl g_MOST_REACHES ⟨_,rfl⟩))) (j9 (ji wL)) jA)
   (j4 (qi (xn (zR (jd (yf K rfl) rfl nb.b_all boot_all (j0 (jH (osc:=(j7 zL)) (ON:=["reaches"]) (N:=["number","reach"]) (own:=2) (caps:=[]) ⟨rfl,∅,∅,∅,rfl,∅⟩ rfl rfl rfl (ZX K rfl nb.b_enumerate (j0 (pv 0) j2)) (λ_ _ _ _ _=>(qf (n:=2) K rfl (jg (ja (i:=0) (show List.Nodup (["number","reach"]:List Str) by decide +kernel) rfl (Or.inl rfl)) (jg (ja (i:=1) (show List.Nodup (["number","reach"]:List Str) by decide +kernel) rfl (Or.inl rfl)) jY)))) (λ_ _ _ _ _=>ju) (λ_ _ _ _ _=>(je c_is_reach (hr.mono ⋯) rfl (j0 (pv 0) (j0 (pv 1) j2))))) j2)))) (j9 (ji wL)) jA)
   (j9 (ji (je c_fits (hr.mono ⋯) rfl (j0 (pv 0) (j0 (je c_lanes (hr.mono ⋯) rfl (j0 (pv 0) j2)) j2))))))),?_⟩
  left
  refine ⟨_,_,rfl,.inl (SqL.of hp),?_⟩
  left
  have no:¬(1<=(xs.length:Int)/\(xs.length:Int)<=8)->Q (.bl false) H:=λz=>fin _ H Ext.refl hT (by unfold zE;rw [decide_eq_false (by rw [<- hlen];exact z)];rfl)
  refine qT (λh1=>?_) (λh1=>?_)
  ·left
   refine yb (λh2=>?_) (λh2=>?_)
   ·left
    exact no λz=>h2 z.2
   ·have h18:decide (1<=(rs.length:Int)/\(rs.length:Int)<=8)=true:=decide_eq_true (by rw [<- hlen];exact ⟨h1,h2⟩)
    left
    refine ⟨⟨_,SqL.of hp⟩,λacc hacc=>?_⟩
    refine YL (K:=K) (a:=p) (xs:=xs) (acc:=acc) (λj σ H2=>∃x y:Option V,σ=[x,y]/\H2 acc=some (.lst ((((List.range j)).map λi=>okR i (rs.getD i (-1,[]))).map V.bl))/\Ext acc H H2) ?_ ?_ ?_ ?_
    ·exact ⟨none,none,rfl,j5,Ext.put⟩
    ·rintro j σ H2 hj ⟨x,y,rfl,h3,e3⟩
     exact SqL.of (e3 _ _ hp (j1 hp hacc))
    ·rintro j v σ H2 t hv ⟨x,y,rfl,h3,e3⟩ ht
     have hacct:acc≠t:=λz=>by rw [z] at h3;rw [h3] at ht;cases ht
     obtain ⟨r,hr,hrow⟩:=(hrw.keep (jj.new e3 hacc)).get hv
     have hj:j<rs.length:=(List.getElem?_eq_some_iff.mp hr).1
     left
     refine ⟨t,_,rfl,SqT.of j5,rfl,?_⟩
     refine ⟨_,_,rfl,_,_,rfl,rfl,?_⟩
     left
     refine ⟨j,v,r,rfl,hrow.keep (jj.same (jf.new ht)),h100 r (List.mem_of_getElem? hr),λH4 s4=>?_⟩
     refine ⟨_,s4 _ _ ((jf.new ht) _ _ h3),by rw [List.length_map,List.length_map,List.length_range];exact jc (),_,_,rfl,?_,λc o hc n=>by rw [j8 n];exact s4 _ _ ((jf.new ht) _ _ (e3 c o hc n))⟩
     rw [j5,List.range_succ,List.map_append,List.map_append]
     simp only [List.map_cons,List.map_nil]
     rw [List.getD_eq_getElem?_getD,hr]
     rfl
    ·rintro σ H2 ⟨x,y,rfl,h3,e3⟩
     rw [hlen] at h3
     have sm:jf H H2:=λc o hc=>e3 c o hc (j1 hc hacc)
     refine ⟨acc,_,rfl,SqL.of h3,?_⟩
     left
     have eok:(((List.range rs.length).map λi=>okR i (rs.getD i (-1,[]))).all λb=>b)=wq rs:=by rw [List.all_map];rfl
     rw [eok]
     cases hok:wq rs with
     | false =>
      refine yN ?_
      left
      exact fin _ H2 (Ext.of_same sm) (hT.same sm) (by unfold zE;rw [hok,h18];rfl)
     | true =>
      refine we ?_
      have L:=qk hok
      left
      refine ⟨p,xs,rs,rfl,sm _ _ hp,hrw.keep (jj.same sm),L,h60,hT.same sm,λl H3 out ws hl hl3 w3 r3 X3 T3=>?_⟩
      obtain ⟨ps,hPt⟩:=(hT.same sm).ne
      have hp3:=X3 _ _ (sm _ _ hp) (jo (sm _ _ hp) hPt (by walk_at "z"))
      refine ⟨p,l,xs,out,rs,ws,rfl,hp3,hrw.keep ((jj.same sm).trans (jj.tbl X3 hPt)),h100,hl3,w3,r3,L,h60,λH4 s4=>?_⟩
      exact fin _ H4 (((Ext.of_same sm).trans X3).trans (Ext.of_same s4)) (T3.same s4) (by unfold zE;rw [hok,h18];rfl)
  ·refine ⟨_,rfl,yN ?_⟩
   left
   exact no λz=>h1 z.1
theorem uu:FnScope ["_law_number","_law_turn","_law_one"] ["_law_number","_law_turn"] (j7 yQ):=by walk_at "s"
theorem VG {f:Addr}{fd:FuncData}(F:Fun K "_law_mixed" "_law_mixed" yQ f fd):FnOk P w K mg base CX0 1 f fd ["_law_number","_law_turn"] ZZ:=by
 refine F.ok uu (λvs H Q E h=>?_) (λcdv A outer s H vs Q E hr h=>?_)
 ·obtain ⟨a,b,rfl,_⟩:=h
  rfl
 ·obtain ⟨a,b,rfl,k⟩:=h
  refine ⟨_,(j4 (jw 2 uu.nd (jk zq (jk jG (jk jG (jk yM (pv 0) j6) (jk yM (pv 1) j6)) j6) j6))
   (j9 (ji (jk yI (jk zq (jk jG (jk jG (jk yM (pv 2) (jk jG (jk zq (pv 2) j6) j6)) (jk yM (pv 1) j6)) (jk zq (jk yI (pv 0) j6) j6)) j6) j6)))),?_⟩
  left
  exact k _
theorem yK:FnScope ["_law_box_here","_law_size","_law_left","_law_cell"] ["_law_box_here","_law_size"] (j7 vM):=by walk_at "s"
theorem Wd {f:Addr}{fd:FuncData}(nb:Nb mg) (c_law_mixed:Cal P w K mg base 1 "_law_mixed" ["_law_number","_law_turn"] ZZ) (F:Fun K "_law_take" "_law_take" vM f fd):FnOk P w K mg base CX0 2 f fd ["_law_box_here","_law_size"] xV:=by
 refine F.ok yK (λvs H Q E h=>?_) (λcdv A outer s H vs Q E hr h=>?_)
 ·obtain ⟨L,b,n,rfl,_⟩:=h
  rfl
 ·obtain ⟨L,b,n,rfl,B,⟨hn,hn2⟩,k⟩:=h
  obtain ⟨ns,a,r,c,d,hb,hL,hS,ha⟩:=B
  refine ⟨_,(j4 (xK (jk jG (js (jh K) (pv 0) j6 (λ_ _=>rfl)) j6) (Qb (pv 0) j6 uS))
   (j4 (qi (jK XA (js (jh K) (pv 0) j6 (λ_ _=>rfl)) j6 (jS _)) (j4 (jw 2 yK.nd (js (jh K) (pv 0) j6 (λ_ _=>rfl)))
   (j4 (xK (jk yI (pv 2) (pv 1)) (Qb (pv 0) j6 uS))
   (j9 (ji (jk zq (pv 2) (pv 1)))))) jA)
   (j4 (qi (jK Uz (js (jh K) (pv 0) j6 (λ_ _=>rfl)) (jd (jm K) rfl nb.b_len PySem.boot_len (j0 (js (jh K) (pv 0) j6 (λ_ _=>rfl)) j2)) (jS _)) (j9 (ji (jk zq (je c_law_mixed (hr.mono ⋯) rfl (j0 (js (jh K) (pv 0) j6 (λ_ _=>rfl)) (j0 (js (jh K) (pv 0) j6 (λ_ _=>rfl)) j2))) (pv 1)))) jA)
   (j4 (jw 3 yK.nd (js (jh K) (js (jh K) (pv 0) j6 (λ_ _=>rfl)) (js (jh K) (pv 0) j6 (λ_ _=>rfl)) (λ_ _=>rfl)))
   (j4 (xK (jk jG (js (jh K) (pv 0) j6 (λ_ _=>rfl)) j6) (Qb (pv 0) j6 uS))
   (j4 (qi (jK uy (pv 3) (jk kH j6 j6) (jS _)) (j9 (ji (jk zq (je c_law_mixed (hr.mono ⋯) rfl (j0 (pv 3) (j0 (js (jh K) (pv 0) j6 (λ_ _=>rfl)) j2))) (pv 1)))) jA)
   (j4 (xK (jk yI (pv 3) (pv 1)) (Qb (pv 0) j6 uS))
   (j9 (ji (jk zq (pv 3) (pv 1))))))))))),?_⟩
  left
  refine qT (λh1=>?_) (λh1=>?_)
  ·left
   exact k _ _ (Int.emod_nonneg _ ()) (Int.emod_lt_of_pos _ hn) ⟨ns,_,_,_,_,j5,hL,(Ext.put.trans Ext.put) _ _ hS hL,ha⟩ (Ext.put.trans Ext.put)
  ·have hS1:∀o,SqL K (upd H b o) L (ns.map V.int):=λo=>SqL.of (Ext.put _ _ hS hL)
   left
   refine ⟨_,_,rfl,.inl (hS1 _),?_⟩
   left
   refine qT (λh2=>?_) (λh2=>?_)
   ·left
    refine ⟨_,_,rfl,λz=>?_⟩
    left
    exact k _ _ (Int.emod_nonneg _ ()) (Int.emod_lt_of_pos _ hn) ⟨ns,_,_,_,_,j5,hL,Ext.put _ _ hS hL,ha⟩ Ext.put
   ·have h3:a<ns.length:=by
     rw [List.length_map] at h2
     omega
    obtain ⟨z,hz⟩:=zw ha h3
    left
    refine ⟨_,_,_,_,rfl,rfl,hS1 _,hz,?_⟩
    left
    refine qT (λh4=>?_) (λh4=>?_)
    ·left
     refine ⟨_,_,rfl,λz=>?_⟩
     left
     exact k _ _ (Int.emod_nonneg _ ()) (Int.emod_lt_of_pos _ hn) ⟨ns,_,_,_,_,j5,hL,(Ext.put.trans Ext.put) _ _ hS hL,()⟩ (Ext.put.trans Ext.put)
    ·left
     exact k _ _ (Int.emod_nonneg _ ()) (Int.emod_lt_of_pos _ hn) ⟨ns,_,_,_,_,j5,hL,((Ext.put.trans Ext.put).trans Ext.put) _ _ hS hL,()⟩ ((Ext.put.trans Ext.put).trans Ext.put)
theorem yo:FnScope ["_law_script","_law_seed","_law_cell"] ["_law_script"] (j7 uV):=by walk_at "s"
theorem E7 {f:Addr}{fd:FuncData}(nb:Nb mg) (F:Fun K "_law_box" "_law_box" uV f fd):FnOk P w K mg base CX0 1 f fd ["_law_script"] (VP K):=by
 refine F.ok yo (λvs H Q E h=>?_) (λcdv A outer s H vs Q E hr h=>?_)
 ·obtain ⟨a,ns,rfl,_⟩:=h
  rfl
 ·obtain ⟨a,ns,rfl,hS,k⟩:=h
  refine ⟨_,(j4 (jw 1 yo.nd j6)
   (j4 (xc PassesOwn.never rfl (jM K (pv 0)) (ja (i:=2) yo.nd rfl (Or.inl rfl)) (j9 (jw 1 yo.nd (jk zq (jk jG (jk jG (jk yM (pv 1) j6) (jk zq (pv 2) j6)) j6) j6))))
   (j9 (ji (jR (j0 (qt (qw K) rfl nb.b_list PyProof.Rows.boot_list (j0 (pv 0) j2)) (j0 j6 (j0 j6 (j0 j6 (j0 (pv 1) j2)))))))))),?_⟩
  left
  refine ⟨⟨_,hS⟩,uK (K:=K) (a:=a) (xs:=ns.map V.int) (λi σ H2=>∃(seed:Int) (v:Option V),σ=[some (.ref a),some (.int seed),v]/\H2=H) ⟨_,_,rfl,rfl⟩ (λi σ H2 _ ⟨_,_,_,e⟩=>by rw [e];exact hS) ?_ ?_⟩
  ·rintro i y σ H2 hi ⟨seed,v,rfl,rfl⟩
   obtain ⟨z,rfl⟩:=yV hi
   left
   exact ⟨_,_,rfl,rfl⟩
  ·rintro σ H2 ⟨seed,v,rfl,rfl⟩
   left
   refine ⟨a,_,rfl,.inl hS,λL H3 hL hL3 s3=>?_⟩
   left
   refine ⟨by show 5<=sizeLine;decide,λb H4 hb hb4 s4=>?_⟩
   exact k L b _ (s3.free hb) ⟨ns,_,_,_,_,hb4,j1 hL3 hb,s4 _ _ hL3,Int.le_refl _⟩ (s3.trans s4)
def good (t:T3):Bool:=decide (0<=t.1/\t.1<=100/\0<=t.2.1/\t.2.1<=9/\0<=t.2.2/\t.2.2<=9)
def gr (ts:List T3):Bool:=decide (1<=(ts.length:Int)/\(ts.length:Int)<=12) && ts.all good
theorem WT {ts:List T3}(h:¬(1<=(ts.length:Int)/\(ts.length:Int)<=12)):gr ts=false:=by unfold gr;rw [decide_eq_false h];rfl
theorem GX {ts:List T3}(h:1<=(ts.length:Int)/\(ts.length:Int)<=12):gr ts=(ts.map good).all λb=>b:=by
 unfold gr
 rw [decide_eq_true h,Bool.true_and,List.all_map]
 rfl
def Z5:Sp:=λvs H Q _=>∃(p:Addr) (t:T3),vs=[.ref p]/\H p=some (yT t)/\Q (.bl (good t)) H
local macro_rules | `(tactic| walk_at "forks")=>`(tactic| (walk_at "r";first | (refine qT (fun _=>?_) (fun _=>?_) <;> walk_at "forks") | skip))
theorem xX:FnScope ["row","line","snow","sun"] ["row"] (j7 ym):=by walk_at "s"
theorem Je {f:Addr}{fd:FuncData}{u0 u1:Tok}(g_HIGHEST_LINE:mg "HIGHEST_LINE" = some (.int 100 u0)) (g_MOST_HANDS:mg "MOST_HANDS" = some (.int 9 u1)) (F:Fun K "is_weather" "is_weather" ym f fd):FnOk P w K mg base CX0 1 f fd ["row"] Z5:=by
 refine F.ok xX (λvs H Q E h=>?_) (λcdv A outer s H vs Q E hr h=>?_)
 ·obtain ⟨p,t,rfl,_⟩:=h
  rfl
 ·obtain ⟨p,⟨l,sn,u⟩,rfl,hp,k⟩:=h
  refine ⟨_,(j4 (xK (pv 0) (qf (n:=3) K rfl (jg (ja (i:=1) xX.nd rfl (Or.inl rfl)) (jg (ja (i:=2) xX.nd rfl (Or.inl rfl)) (jg (ja (i:=3) xX.nd rfl (Or.inl rfl)) jY)))))
   (j9 (ji (yu (yg qJ qJ j6 (pv 1) (xk (v:=V.int 100) rfl g_HIGHEST_LINE ⟨_,rfl⟩)) (yu (yg qJ qJ j6 (pv 2) (xk (v:=V.int 9) rfl g_MOST_HANDS ⟨_,rfl⟩)) (yH (yg qJ qJ j6 (pv 3) (xk (v:=V.int 9) rfl g_MOST_HANDS ⟨_,rfl⟩)))))))),?_⟩
  left
  refine ⟨p,_,rfl,SqT.of hp,rfl,?_⟩
  refine ⟨_,_,rfl,_,_,rfl,_,_,rfl,rfl,?_⟩
  walk_at "forks"
  all_goals
   refine Eq.mp (congrArg (λz=>Q (V.bl z) H) ?_) k
   unfold good
   dsimp only at *
   first | (apply decide_eq_false;omega) | (apply decide_eq_decide.mpr;omega)
theorem QM:FnScope ["rows"] ["rows"] (j7 yj):=by walk_at "s"
def ZJ (K:PySem.W.Frag):Sp:=λvs H Q _=>∃(p:Addr) (xs:List V) (ts:List T3),vs=[.ref p]/\H p=some (.lst xs)/\jC H xs ts/\ts.length<=1000/\∀H',jf H H'->Q (.bl (gr ts)) H'
theorem QL {f:Addr}{fd:FuncData}{u0:Tok}(nb:Nb mg) (g_MOST_ROWS:mg "MOST_ROWS" = some (.int 12 u0)) (c_is_weather:Cal P w K mg base 1 "is_weather" ["row"] Z5) (F:Fun K "is_round" "is_round" yj f fd):FnOk P w K mg base CX0 2 f fd ["rows"] (ZJ K):=by
 refine F.ok QM (λvs H Q E h=>?_) (λcdv A outer s H vs Q E hr h=>?_)
 ·obtain ⟨p,xs,ts,rfl,_⟩:=h
  rfl
 ·obtain ⟨p,xs,ts,rfl,hp,hr3,h1000,k⟩:=h
  have hlen:=hr3.length
  refine ⟨_,(j9 (ji (yu (yg qJ qJ j6 (jd (jm K) rfl nb.b_len PySem.boot_len (j0 (pv 0) j2)) (xk (v:=V.int 12) rfl g_MOST_ROWS ⟨_,rfl⟩)) (yH (jd (yf K rfl) rfl nb.b_all boot_all (j0 (jH (osc:=(j7 yj)) (ON:=["rows"]) (N:=["row"]) (own:=1) (caps:=[]) ⟨rfl,∅,∅,∅,rfl,∅⟩ rfl rfl rfl (jM K (pv 0)) (λ_ _ _ _ _=>(ja (i:=0) (show List.Nodup (["row"]:List Str) by decide +kernel) rfl (Or.inl rfl))) (λ_ _ _ _ _=>ju) (λ_ _ _ _ _=>(je c_is_weather (hr.mono ⋯) rfl (j0 (pv 0) j2)))) j2)))))),?_⟩
  left
  refine ⟨_,_,rfl,.inl (SqL.of hp),?_⟩
  left
  refine qT (λh1=>?_) (λh1=>?_)
  ·left
   refine qT (λh2=>?_) (λh2=>?_)
   ·left
    refine ⟨⟨_,SqL.of hp⟩,λacc hacc=>?_⟩
    refine jP (K:=K) (a:=p) (xs:=xs) (acc:=acc) (λi σ H2=>∃x:Option V,σ=[x]/\H2 acc=some (.lst (((ts.take i).map good).map V.bl))/\Ext acc H H2) ?_ ?_ ?_ ?_
    ·exact ⟨none,rfl,j5,Ext.put⟩
    ·rintro i σ H2 hi ⟨x,rfl,h3,e3⟩
     exact SqL.of (e3 _ _ hp (j1 hp hacc))
    ·rintro i v σ H2 hv ⟨x,rfl,h3,e3⟩
     obtain ⟨t,ht,q,rfl,hq⟩:=hr3.get hv
     have hi:i<ts.length:=(List.getElem?_eq_some_iff.mp ht).1
     left
     refine ⟨q,t,rfl,e3 _ _ hq (j1 hq hacc),?_⟩
     refine ⟨_,h3,by rw [List.length_map,List.length_map,List.length_take];exact jc (),_,rfl,?_,e3.trans Ext.put⟩
     rw [j5,qI good ts i t ht,List.map_append]
     rfl
    ·rintro σ H2 ⟨x,rfl,h3,e3⟩
     rw [hlen,List.take_length] at h3
     refine ⟨acc,ts.map good,rfl,SqL.of h3,?_⟩
     have k2:=k H2 λc o hc=>e3 c o hc (j1 hc hacc)
     rw [GX (by rw [hlen] at h1 h2;exact ⟨h1,h2⟩)] at k2
     exact k2
   ·left
    have k2:=k H (jf.refl H)
    rw [WT (by rw [hlen] at h2;intro z;exact h2 z.2)] at k2
    exact k2
  ·left
   have k2:=k H (jf.refl H)
   rw [WT (by rw [hlen] at h1;intro z;exact h1 z.1)] at k2
   exact k2
def wj:Sp:=λvs H Q _=>∃(L b:Addr),vs=[.ref b]/\qj L H b/\∀(p:Addr) (H':Hp) (t:T3),qj L H' b->Ext b H H'->H' p=some (yT t)->good t=true->Q (.ref p) H'
theorem yO:FnScope ["_law_box_here","_law_line"] ["_law_box_here"] (j7 zT):=by walk_at "s"
theorem five {v3 v1 v2:Int}(a:0<=v3) (b:v3<5) (c:0<=v1) (d:v1<20) (e:0<=v2) (g:v2<101):∃ln,atI [V.int (40+v1),V.int v2,V.int 0,V.int 100,V.int 50] v3=some (V.int ln)/\0<=ln/\ln<=100:=by
 have h:v3=0\/v3=1\/v3=2\/v3=3\/v3=4:=()
 rcases h with rfl | rfl | rfl | rfl | rfl
 ·exact ⟨40+v1,rfl,(),()⟩
 ·exact ⟨v2,rfl,(),()⟩
 ·exact ⟨0,rfl,(),()⟩
 ·exact ⟨100,rfl,(),()⟩
 ·exact ⟨50,rfl,(),()⟩
theorem XT {f:Addr}{fd:FuncData}(c_law_take:Cal P w K mg base 2 "_law_take" ["_law_box_here","_law_size"] xV) (F:Fun K "_law_weather" "_law_weather" zT f fd):FnOk P w K mg base CX0 3 f fd ["_law_box_here"] wj:=by
 refine F.ok yO (λvs H Q E h=>?_) (λcdv A outer s H vs Q E hr h=>?_)
 ·obtain ⟨L,b,rfl,_⟩:=h
  rfl
 ·obtain ⟨L,b,rfl,B,k⟩:=h
  refine ⟨_,(j4 (jw 1 yO.nd (js (jh K) (jR (j0 (jk jG j6 (je c_law_take (hr.mono ⋯) rfl (j0 (pv 0) (j0 j6 j2)))) (j0 (je c_law_take (hr.mono ⋯) rfl (j0 (pv 0) (j0 j6 j2))) (j0 j6 (j0 j6 (j0 j6 j2)))))) (je c_law_take (hr.mono ⋯) rfl (j0 (pv 0) (j0 j6 j2))) (λ_ _=>rfl)))
   (j9 (ji (qx (j0 (pv 1) (j0 (je c_law_take (hr.mono ⋯) rfl (j0 (pv 0) (j0 j6 j2))) (j0 (je c_law_take (hr.mono ⋯) rfl (j0 (pv 0) (j0 j6 j2))) j2))))))),?_⟩
  left
  refine ⟨L,b,_,rfl,B,⟨⋯,⋯⟩,λv1 H1 p1 q1 B1 X1=>?_⟩
  left
  refine ⟨L,b,_,rfl,B1,⟨⋯,⋯⟩,λv2 H2 p2 q2 B2 X2=>?_⟩
  refine ⟨by show 5<=sizeLine;decide,λq Hq hq hqq sq=>?_⟩
  left
  refine ⟨L,b,_,rfl,B2.same sq,⟨⋯,⋯⟩,λv3 H3 p3 q3 B3 X3=>?_⟩
  have hq3:=X3 _ _ hqq (B2.ne hq)
  obtain ⟨ln,hln,l0,l1⟩:=five p3 q3 p1 q1 p2 q2
  refine ⟨_,_,_,_,rfl,rfl,SqL.of hq3,hln,?_⟩
  left
  refine ⟨L,b,_,rfl,B3,⟨⋯,⋯⟩,λv4 H4 p4 q4 B4 X4=>?_⟩
  left
  refine ⟨L,b,_,rfl,B4,⟨⋯,⋯⟩,λv5 H5 p5 q5 B5 X5=>?_⟩
  refine ⟨by show 3<=sizeLine;decide,λp Hp hp hpp sp=>?_⟩
  exact k p _ (ln,v4,v5) (B5.same sp) ((((((X1.trans X2).trans (Ext.of_same sq)).trans X3).trans X4).trans X5).trans (Ext.of_same sp)) hpp (decide_eq_true ⟨l0,l1,p4,(show v4<=9 by omega),p5,(show v5<=9 by omega)⟩)
def wE:Sp:=λvs H Q _=>∃(L b:Addr),vs=[.ref b]/\qj L H b/\∀(p:Addr) (H':Hp) (xs:List V) (ts:List T3),qj L H' b->Ext b H H'->H p=none->H' p=some (.lst xs)->jC H' xs ts->(1<=ts.length/\ts.length<=12)->ts.all good=true->Q (.ref p) H'
theorem JW:FnScope ["_law_box_here"] ["_law_box_here"] (j7 zN):=by walk_at "s"
theorem Ed {v:Int}(a:0<=v) (b:v<3):∃n,atI [V.int 1,V.int 3,V.int 12] v=some (V.int n)/\0<n/\n<=12:=by
 have h:v=0\/v=1\/v=2:=()
 rcases h with rfl | rfl | rfl
 ·exact ⟨1,rfl,(),()⟩
 ·exact ⟨3,rfl,(),()⟩
 ·exact ⟨12,rfl,(),()⟩
theorem U6 {f:Addr}{fd:FuncData}(nb:Nb mg) (c_law_take:Cal P w K mg base 2 "_law_take" ["_law_box_here","_law_size"] xV) (c_law_weather:Cal P w K mg base 3 "_law_weather" ["_law_box_here"] wj) (F:Fun K "_law_round" "_law_round" zN f fd):FnOk P w K mg base CX0 4 f fd ["_law_box_here"] wE:=by
 refine F.ok JW (λvs H Q E h=>?_) (λcdv A outer s H vs Q E hr h=>?_)
 ·obtain ⟨L,b,rfl,_⟩:=h
  rfl
 ·obtain ⟨L,b,rfl,B,k⟩:=h
  refine ⟨_,(j9 (ji (jH (osc:=(j7 zN)) (ON:=["_law_box_here"]) (N:=["_law_turn","_law_box_here"]) (own:=1) (caps:=[0]) ⟨rfl,∅,∅,∅,rfl,∅⟩ rfl rfl rfl (qc rfl nb.b_range (j0 (jk jG j6 (je c_law_take (hr.mono ⋯) rfl (j0 (pv 0) (j0 (js (jh K) (jR (j0 j6 (j0 j6 (j0 j6 j2)))) (je c_law_take (hr.mono ⋯) rfl (j0 (pv 0) (j0 j6 j2))) (λ_ _=>rfl)) j2)))) j2)) (λ_ _ _ _ _=>(ja (i:=0) (show List.Nodup (["_law_turn","_law_box_here"]:List Str) by decide +kernel) rfl (Or.inl rfl))) (λ_ _ _ _ _=>ju) (λ_ _ _ _ _=>(je c_law_weather (hr.mono ⋯) rfl (j0 (pv 1) j2)))))),?_⟩
  left
  refine ⟨by show 3<=sizeLine;decide,λq Hq hq hqq sq=>?_⟩
  left
  refine ⟨L,b,_,rfl,B.same sq,⟨⋯,⋯⟩,λv1 H1 p1 q1 B1 X1=>?_⟩
  obtain ⟨n,hn,n0,n1⟩:=Ed p1 q1
  refine ⟨_,_,_,_,rfl,rfl,SqL.of (X1 _ _ hqq (B.ne hq)),hn,?_⟩
  refine ⟨L,b,_,rfl,B1,⟨n0,()⟩,λv2 H2 p2 q2 B2 X2=>?_⟩
  refine ⟨_,_,rfl,rfl,?_⟩
  refine ⟨1+v2,rfl,(),(),λacc hacc=>?_⟩
  have nb1:=B2.ne hacc
  have nb2:=B2.neL hacc
  have hfree:∀a,H2 a=none->a≠b->H a=none:=λa n nb=>jf.free sq (X1.free (X2.free n nb) nb)
  refine qB (lo:=0) (n:=(1+v2).toNat) (acc:=acc) (λi σ H3=>∃(x:Option V) (xs:List V) (ts:List T3),σ=[x,some (.ref b)]/\qj L H3 b/\(∀c o,H2 c=some o->c≠b->H3 c=some o)/\H3 acc=some (.lst xs)/\jC H3 xs ts/\ts.length=i/\ts.all good=true) ?_ ?_ ?_
  ·exact ⟨none,[],[],rfl,B2.put nb1 nb2,λc o hc n=>Ext.put _ _ hc (j1 hc hacc),j5,.nil,rfl,rfl⟩
  ·rintro i σ H3 hi ⟨x,xs,ts,rfl,B3,ks,h3,r3,hl,hg⟩
   left
   refine ⟨L,b,rfl,B3,λp H4 t B4 X4 hp ht=>?_⟩
   have h4:=X4 _ _ h3 nb1
   have r4:jC H4 xs ts:=r3.imp λp t e=>X4 _ _ e (B3.ne_tup e)
   have hlen:=r4.length
   refine ⟨xs,h4,jc (),_,xs++[.ref p],ts++[t],rfl,B4.put nb1 nb2,λc o hc n=>Ext.put _ _ (X4 _ _ (ks c o hc n) n) (j1 hc hacc),j5,?_,by rw [List.length_append,hl];rfl,by rw [List.all_append,hg];simp [ht]⟩
   exact jC.imp (r4.snoc ⟨p,rfl,hp⟩) λq t e=>Ext.put _ _ e (jo e h4 (by walk_at "z"))
  ·rintro σ H3 ⟨x,xs,ts,rfl,B3,ks,h3,r3,hl,hg⟩
   exact k acc H3 xs ts B3 (λc o hc n=>ks c o (X2 _ _ (X1 _ _ (sq _ _ hc) n) n) n) (hfree acc hacc nb1) h3 r3 () hg
theorem Qt:FnScope ["_law_found"] ["_law_found"] (j7 yY):=by walk_at "s"
theorem VI {f:Addr}{fd:FuncData}(nb:Nb2 mg) (F:Fun K "_law_whole" "_law_whole" yY f fd):FnOk P w K mg base CX0 1 f fd ["_law_found"] ZV:=by
 refine F.ok Qt (λvs H Q E h=>?_) (λcdv A outer s H vs Q E hr h=>?_)
 ·obtain ⟨i,rfl,_⟩:=h
  rfl
 ·obtain ⟨i,rfl,k⟩:=h
  refine ⟨_,(j9 (ji (yu (jd (jW K) rfl nb.b_isinstance boot_isinstance (j0 (pv 0) (j0 (xC (v:=V.ty "int") rfl nb.b_int PyProof.Rows.boot_int rfl) j2))) (yH (GU (jd (jW K) rfl nb.b_isinstance boot_isinstance (j0 (pv 0) (j0 (xC (v:=V.ty "bool") rfl nb.b_bool PyProof.Rows.boot_bool rfl) j2)))))))),?_⟩
  left
  refine ⟨_,_,_,_,rfl,.int _,gq K,_,rfl,yN ?_⟩
  left
  refine ⟨_,_,_,_,rfl,.int _,wK K,_,rfl,?_⟩
  exact k
theorem uq:FnScope ["_law_found","_law_due"] ["_law_found","_law_due"] (j7 zh):=by walk_at "s"
theorem V1 {f:Addr}{fd:FuncData}(F:Fun K "_law_alike" "_law_alike" zh f fd):FnOk P w K mg base CX0 1 f fd ["_law_found","_law_due"] (Wo 0):=by
 refine F.ok uq (λvs H Q E h=>?_) (λcdv A outer s H vs Q E hr h=>?_)
 ·obtain ⟨x,y,d,rfl,_⟩:=h
  rfl
 ·obtain ⟨x,y,d,rfl,_,_,z,_⟩:=h
  cases z
theorem JF (n:Nat) {f:Addr}{fd:FuncData}(nb:Nb2 mg) (c_law_whole:Cal P w K mg base 1 "_law_whole" ["_law_found"] ZV) (c_law_alike:Cal P w K mg base (n+1) "_law_alike" ["_law_found","_law_due"] (Wo n)) (F:Fun K "_law_alike" "_law_alike" zh f fd):FnOk P w K mg base CX0 (n+2) f fd ["_law_found","_law_due"] (Wo (n+1)):=by
 refine F.ok uq (λvs H Q E h=>?_) (λcdv A outer s H vs Q E hr h=>?_)
 ·obtain ⟨x,y,d,rfl,_⟩:=h
  rfl
 ·obtain ⟨x,y,d,rfl,hx,hy,hs,k⟩:=h
  refine ⟨_,(j4 (qi (jK Za (pv 1) Ql (jS _)) (j9 (ji (zM Za (pv 0) Ql (jS _)))) jA)
   (j4 (qi (zR (jd (jW K) rfl nb.b_isinstance boot_isinstance (j0 (pv 1) (j0 (xC (v:=V.ty "bool") rfl nb.b_bool PyProof.Rows.boot_bool rfl) j2)))) (j9 (ji (yu (jd (jW K) rfl nb.b_isinstance boot_isinstance (j0 (pv 0) (j0 (xC (v:=V.ty "bool") rfl nb.b_bool PyProof.Rows.boot_bool rfl) j2))) (yH (zM wJ (pv 0) (pv 1) (jS _)))))) jA)
   (j4 (qi (zR (jd (jW K) rfl nb.b_isinstance boot_isinstance (j0 (pv 1) (j0 (xC (v:=V.ty "int") rfl nb.b_int PyProof.Rows.boot_int rfl) j2)))) (j9 (ji (yu (je c_law_whole (hr.mono ()) rfl (j0 (pv 0) j2)) (yH (zM wJ (pv 0) (pv 1) (jS _)))))) jA)
   (j4 (qi (zR (jd (jW K) rfl nb.b_isinstance boot_isinstance (j0 (pv 1) (j0 (xC (v:=V.ty "str") rfl nb.b_str PyProof.Rows.boot_str rfl) j2)))) (j9 (ji (yu (jd (jW K) rfl nb.b_isinstance boot_isinstance (j0 (pv 0) (j0 (xC (v:=V.ty "str") rfl nb.b_str PyProof.Rows.boot_str rfl) j2))) (yH (zM wJ (pv 0) (pv 1) (jS _)))))) jA)
   (j4 (qi (PW.pt (WP (jK Y3 (jd (jW K) rfl nb.b_isinstance boot_isinstance (j0 (pv 1) (j0 (xC (v:=V.ty "list") rfl nb.b_list PyProof.Rows.boot_list rfl) j2))) (jd (jW K) rfl nb.b_isinstance boot_isinstance (j0 (pv 0) (j0 (xC (v:=V.ty "list") rfl nb.b_list PyProof.Rows.boot_list rfl) j2))) (jS _)) (Ux (jK Y3 (jd (jW K) rfl nb.b_isinstance boot_isinstance (j0 (pv 1) (j0 (xC (v:=V.ty "tuple") rfl nb.b_tuple PyProof.Rows.boot_tuple rfl) j2))) (jd (jW K) rfl nb.b_isinstance boot_isinstance (j0 (pv 0) (j0 (xC (v:=V.ty "tuple") rfl nb.b_tuple PyProof.Rows.boot_tuple rfl) j2))) (jS _))))) (j9 (ji wL)) jA)
   (j9 (ji (yu (zM wJ (jd (jm K) rfl nb.b_len PySem.boot_len (j0 (pv 0) j2)) (jd (jm K) rfl nb.b_len PySem.boot_len (j0 (pv 1) j2)) (jS _)) (yH (jd (yf K rfl) rfl nb.b_all boot_all (j0 (jH (osc:=(j7 zh)) (ON:=["_law_found","_law_due"]) (N:=["_law_one","_law_other"]) (own:=2) (caps:=[]) ⟨rfl,∅,∅,∅,rfl,∅⟩ rfl rfl rfl (JN K rfl nb.b_zip (j0 (pv 0) (j0 (pv 1) j2))) (λ_ _ _ _ _=>(qf (n:=2) K rfl (jg (ja (i:=0) (show List.Nodup (["_law_one","_law_other"]:List Str) by decide +kernel) rfl (Or.inl rfl)) (jg (ja (i:=1) (show List.Nodup (["_law_one","_law_other"]:List Str) by decide +kernel) rfl (Or.inl rfl)) jY)))) (λ_ _ _ _ _=>ju) (λ_ _ _ _ _=>(je c_law_alike (hr.mono ()) rfl (j0 (pv 0) (j0 (pv 1) j2))))) j2))))))))))),?_⟩
  cases d with
  | none =>
   cases hx;cases hy
   left
   exact k H (jf.refl _)
  | bool b =>
   cases hx;cases hy
   left
   refine ⟨_,_,_,_,rfl,.bl _,ui K,_,rfl,yN ?_⟩
   left
   refine ⟨_,_,_,_,rfl,.bl _,ui K,_,rfl,yN ?_⟩
   left
   have k':=k H (jf.refl _)
   rw [decide_eq_true rfl]
   exact k'
  | int i =>
   cases hx;cases hy
   left
   refine ⟨_,_,_,_,rfl,.int _,wK K,_,rfl,we ?_⟩
   left
   refine ⟨_,_,_,_,rfl,.int _,gq K,_,rfl,yN ?_⟩
   left
   have k':=k H (jf.refl _)
   rw [decide_eq_true rfl]
   exact k'
  | str i =>
   cases hx;cases hy
   left
   refine ⟨_,_,_,_,rfl,.str _,QU K,_,rfl,we ?_⟩
   left
   refine ⟨_,_,_,_,rfl,.str _,Zb K,_,rfl,we ?_⟩
   left
   refine ⟨_,_,_,_,rfl,.str _,kG K,_,rfl,yN ?_⟩
   left
   refine ⟨_,_,_,_,rfl,.str _,kG K,_,rfl,yN ?_⟩
   left
   have k':=k H (jf.refl _)
   rw [decide_eq_true rfl]
   exact k'
  | list ds =>
   cases hx with
   | @lst a va _ ha da =>
   cases hy with
   | @lst b vb _ hb db =>
   have el:=da.length
   have el2:=db.length
   have hsm:ds.length<=1000/\ds.all (vQ n)=true:=by
    have z:(decide (ds.length<=1000) && ds.all (vQ n))=true:=hs
    rw [Bool.and_eq_true] at z
    exact ⟨of_decide_eq_true z.1,z.2⟩
   left
   refine ⟨_,_,_,_,rfl,.lst hb,Qp K,_,rfl,we ?_⟩
   left
   refine ⟨_,_,_,_,rfl,.lst hb,QJ K,_,rfl,we ?_⟩
   left
   refine ⟨_,_,_,_,rfl,.lst hb,Xd K,_,rfl,we ?_⟩
   left
   refine ⟨_,_,_,_,rfl,.lst hb,uD K,?_⟩
   left
   refine ⟨_,_,_,_,rfl,.lst ha,uD K,?_⟩
   left
   refine ⟨_,_,_,_,rfl,.lst hb,vB K,?_⟩
   left
   refine ⟨_,_,_,_,rfl,.lst ha,vB K,?_⟩
   left
   refine ⟨_,_,rfl,.inl (SqL.of ha),?_⟩
   left
   refine ⟨_,_,rfl,.inl (SqL.of hb),?_⟩
   left
   rw [el,el2]
   refine qT (λ_=>?_) (λz=>absurd rfl z)
   left
   refine ⟨false,false,_,_,rfl,⟨_,SqL.of ha⟩,⟨_,SqL.of hb⟩,λacc hacc=>?_⟩
   refine vj (K:=K) (t0:=false) (u0:=false) (a:=a) (b:=b) (xs:=va) (ys:=vb) (acc:=acc) (el.trans el2.symm) (λj σ H2=>∃x y:Option V,σ=[x,y]/\H2 acc=some (.lst ((List.replicate j true).map V.bl))/\Ext acc H H2) ?_ ?_ ?_ ?_
   ·exact ⟨none,none,rfl,j5,Ext.put⟩
   ·rintro j σ H2 hj ⟨x,y,rfl,h3,e3⟩
    exact ⟨SqL.of (e3 _ _ ha (j1 ha hacc)),SqL.of (e3 _ _ hb (j1 hb hacc))⟩
   ·rintro j x y σ H2 p hx hy ⟨v1,v2,rfl,h3,e3⟩ hp
    obtain ⟨d1,hd1,q1⟩:=da.get hx
    obtain ⟨d2,hd2,q2⟩:=db.get hy
    rw [hd1] at hd2
    cases hd2
    have hj:j<ds.length:=(List.getElem?_eq_some_iff.mp hd1).1
    have s2:jf H (upd H2 p (.tup [x,y])):=λc o hc=>(jf.new hp) _ _ (e3 _ _ hc (j1 hc hacc))
    have q1':=q1.same s2
    have q2':=q2.same s2
    have h3':upd H2 p (.tup [x,y]) acc=_:=(jf.new hp) _ _ h3
    have e3':Ext acc H (upd H2 p (.tup [x,y])):=λc o hc n=>(jf.new hp) _ _ (e3 _ _ hc n)
    have hp':upd H2 p (.tup [x,y]) p=some (.tup [x,y]):=j5
    generalize upd H2 p (.tup [x,y])=H4 at s2 q1' q2' h3' e3' hp'
    left
    refine ⟨p,_,rfl,SqT.of hp',rfl,?_⟩
    refine ⟨_,_,rfl,_,_,rfl,rfl,?_⟩
    left
    refine ⟨x,y,d1,rfl,q1',q2',List.all_eq_true.mp hsm.2 _ (List.mem_of_getElem? hd1),λH5 s5=>?_⟩
    refine ⟨_,s5 _ _ h3',by rw [List.length_map,List.length_replicate];exact jc (),_,_,rfl,?_,λc o hc n=>by rw [j8 n];exact s5 _ _ (e3' c o hc n)⟩
    rw [j5,List.replicate_succ',List.map_append]
    rfl
   ·rintro σ H2 ⟨v1,v2,rfl,h3,e3⟩
    refine ⟨acc,_,rfl,SqL.of h3,?_⟩
    have e:((List.replicate va.length true).all λb=>b)=true:=by
     rw [List.all_eq_true]
     intro x hx
     exact (List.mem_replicate.mp hx).2
    rw [e]
    exact k H2 λc o hc=>e3 c o hc (j1 hc hacc)
  | tuple ds =>
   cases hx with
   | @tup a va _ ha da =>
   cases hy with
   | @tup b vb _ hb db =>
   have el:=da.length
   have el2:=db.length
   have hsm:ds.length<=1000/\ds.all (vQ n)=true:=by
    have z:(decide (ds.length<=1000) && ds.all (vQ n))=true:=hs
    rw [Bool.and_eq_true] at z
    exact ⟨of_decide_eq_true z.1,z.2⟩
   left
   refine ⟨_,_,_,_,rfl,.tup hb,gZ K,_,rfl,we ?_⟩
   left
   refine ⟨_,_,_,_,rfl,.tup hb,Q5 K,_,rfl,we ?_⟩
   left
   refine ⟨_,_,_,_,rfl,.tup hb,Qo K,_,rfl,we ?_⟩
   left
   refine ⟨_,_,_,_,rfl,.tup hb,vF K,?_⟩
   left
   refine ⟨_,_,_,_,rfl,.tup ha,vF K,?_⟩
   left
   refine ⟨_,_,_,_,rfl,.tup hb,yL K,?_⟩
   left
   refine ⟨_,_,_,_,rfl,.tup ha,yL K,?_⟩
   left
   refine ⟨_,_,rfl,.inr (SqT.of ha),?_⟩
   left
   refine ⟨_,_,rfl,.inr (SqT.of hb),?_⟩
   left
   rw [el,el2]
   refine qT (λ_=>?_) (λz=>absurd rfl z)
   left
   refine ⟨true,true,_,_,rfl,⟨_,SqT.of ha⟩,⟨_,SqT.of hb⟩,λacc hacc=>?_⟩
   refine vj (K:=K) (t0:=true) (u0:=true) (a:=a) (b:=b) (xs:=va) (ys:=vb) (acc:=acc) (el.trans el2.symm) (λj σ H2=>∃x y:Option V,σ=[x,y]/\H2 acc=some (.lst ((List.replicate j true).map V.bl))/\Ext acc H H2) ?_ ?_ ?_ ?_
   ·exact ⟨none,none,rfl,j5,Ext.put⟩
   ·rintro j σ H2 hj ⟨x,y,rfl,h3,e3⟩
    exact ⟨SqT.of (e3 _ _ ha (j1 ha hacc)),SqT.of (e3 _ _ hb (j1 hb hacc))⟩
   ·rintro j x y σ H2 p hx hy ⟨v1,v2,rfl,h3,e3⟩ hp
    obtain ⟨d1,hd1,q1⟩:=da.get hx
    obtain ⟨d2,hd2,q2⟩:=db.get hy
    rw [hd1] at hd2
    cases hd2
    have hj:j<ds.length:=(List.getElem?_eq_some_iff.mp hd1).1
    have s2:jf H (upd H2 p (.tup [x,y])):=λc o hc=>(jf.new hp) _ _ (e3 _ _ hc (j1 hc hacc))
    have q1':=q1.same s2
    have q2':=q2.same s2
    have h3':upd H2 p (.tup [x,y]) acc=_:=(jf.new hp) _ _ h3
    have e3':Ext acc H (upd H2 p (.tup [x,y])):=λc o hc n=>(jf.new hp) _ _ (e3 _ _ hc n)
    have hp':upd H2 p (.tup [x,y]) p=some (.tup [x,y]):=j5
    generalize upd H2 p (.tup [x,y])=H4 at s2 q1' q2' h3' e3' hp'
    left
    refine ⟨p,_,rfl,SqT.of hp',rfl,?_⟩
    refine ⟨_,_,rfl,_,_,rfl,rfl,?_⟩
    left
    refine ⟨x,y,d1,rfl,q1',q2',List.all_eq_true.mp hsm.2 _ (List.mem_of_getElem? hd1),λH5 s5=>?_⟩
    refine ⟨_,s5 _ _ h3',by rw [List.length_map,List.length_replicate];exact jc (),_,_,rfl,?_,λc o hc n=>by rw [j8 n];exact s5 _ _ (e3' c o hc n)⟩
    rw [j5,List.replicate_succ',List.map_append]
    rfl
   ·rintro σ H2 ⟨v1,v2,rfl,h3,e3⟩
    refine ⟨acc,_,rfl,SqL.of h3,?_⟩
    have e:((List.replicate va.length true).all λb=>b)=true:=by
     rw [List.all_eq_true]
     intro x hx
     exact (List.mem_replicate.mp hx).2
    rw [e]
    exact k H2 λc o hc=>e3 c o hc (j1 hc hacc)
  | _=>cases hx
def vD:Sp:=λvs H Q _=>∃(L b:Addr) (tp sz:Int),vs=[.ref b,.int tp,.int sz]/\qj L H b/\tp<=99/\0<=sz/\sz<=100/\∀p H' (hs:List Int),qj L H' b->Ext b H H'->H p=none->H' p=some (.lst (hs.map V.int))->(hs.length:Int)=sz->(∀x∈hs,0<=x/\x<=99)->Q (.ref p) H'
theorem xf:FnScope ["_law_box_here","_law_top","_law_size","_law_pick","_law_step"] ["_law_box_here","_law_top","_law_size"] (j7 qu):=by walk_at "s"
theorem wR {f:Addr}{fd:FuncData}(nb:Nb2 mg) (c_law_take:Cal P w K mg base 2 "_law_take" ["_law_box_here","_law_size"] xV) (F:Fun K "_law_ground_drawn" "_law_ground_drawn" qu f fd):FnOk P w K mg base CX0 3 f fd ["_law_box_here","_law_top","_law_size"] vD:=by
 refine F.ok xf (λvs H Q E h=>?_) (λcdv A outer s H vs Q E hr h=>?_)
 ·obtain ⟨L,b,tp,sz,rfl,_⟩:=h
  rfl
 ·obtain ⟨L,b,tp,sz,rfl,B,htp,h0,h1,k⟩:=h
  refine ⟨_,(j4 (jw 3 xf.nd (je c_law_take (hr.mono ⋯) rfl (j0 (pv 0) (j0 j6 j2))))
   (j4 (qi (jK wJ (pv 3) j6 (jS _)) (j9 (ji (jH (osc:=(j7 qu)) (ON:=["_law_box_here","_law_top","_law_size","_law_pick","_law_step"]) (N:=["_law_turn","_law_box_here"]) (own:=1) (caps:=[0]) ⟨rfl,∅,∅,∅,rfl,∅⟩ rfl rfl rfl (qc rfl nb.b_range (j0 (pv 2) j2)) (λ_ _ _ _ _=>(ja (i:=0) (show List.Nodup (["_law_turn","_law_box_here"]:List Str) by decide +kernel) rfl (Or.inl rfl))) (λ_ _ _ _ _=>ju) (λ_ _ _ _ _=>(je c_law_take (hr.mono ⋯) rfl (j0 (pv 1) (j0 j6 j2))))))) jA)
   (j4 (xP (i:=4) xf.nd rfl (Or.inr rfl) (jk jG j6 (je c_law_take (hr.mono ⋯) rfl (j0 (pv 0) (j0 j6 j2)))))
   (j9 (ji (jH (osc:=(j7 qu)) (ON:=["_law_box_here","_law_top","_law_size","_law_pick","_law_step"]) (N:=["_law_place","_law_top","_law_step"]) (own:=1) (caps:=[1,4]) ⟨rfl,∅,∅,∅,rfl,∅⟩ rfl rfl rfl (qc rfl nb.b_range (j0 (pv 2) j2)) (λ_ _ _ _ _=>(ja (i:=0) (show List.Nodup (["_law_place","_law_top","_law_step"]:List Str) by decide +kernel) rfl (Or.inl rfl))) (λ_ _ _ _ _=>ju) (λ_ _ _ _ _=>(jd (zn rfl) rfl nb.b_max boot_max (j0 j6 (j0 (jk qN (pv 1) (jk yM (pv 2) (pv 0))) j2)))))))))),?_⟩
  left
  refine ⟨L,b,_,rfl,B,⟨⋯,⋯⟩,λv1 H1 p1 q1 B1 X1=>?_⟩
  left
  refine qT (λ_=>?_) (λ_=>?_)
  ·left
   refine ⟨(),(),λacc hacc=>?_⟩
   have na1:=B1.ne hacc
   have na2:=B1.neL hacc
   refine qB (lo:=0) (n:=sz.toNat) (acc:=acc) (λi σ H2=>∃(x:Option V) (hs:List Int),σ=[x,some (.ref b)]/\qj L H2 b/\H2 acc=some (.lst (hs.map V.int))/\hs.length=i/\(∀x∈hs,0<=x/\x<=99)/\Ext b H1 H2) ?_ ?_ ?_
   ·exact ⟨none,[],rfl,B1.put na1 na2,j5,rfl,(by intro x hx;cases hx),Ext.new hacc⟩
   ·rintro i σ H2 hi ⟨x,hs,rfl,B2,h2,hl,hb,e2⟩
    left
    refine ⟨L,b,_,rfl,B2,⟨⋯,⋯⟩,λv H3 p3 q3 B3 X3=>?_⟩
    have h3:=X3 _ _ h2 na1
    refine ⟨_,h3,by rw [List.length_map];exact jc (),_,hs++[v],rfl,B3.put na1 na2,by rw [j5,List.map_append];rfl,by rw [List.length_append,hl];rfl,λx hx=>?_,λc o hc n=>?_⟩
    ·rcases List.mem_append.mp hx with hx | hx
     ·exact hb x hx
     ·have:x=v:=by simpa using hx
      omega
    ·rw [j8 (j1 hc hacc)]
     exact X3 _ _ (e2 c o hc n) n
   ·rintro σ H2 ⟨x,hs,rfl,B2,h2,hl,hb,e2⟩
    exact k acc H2 hs B2 (X1.trans e2) (X1.free hacc na1) h2 () hb
  ·left
   refine ⟨L,b,_,rfl,B1,⟨⋯,⋯⟩,λv2 H2 p2 q2 B2 X2=>?_⟩
   left
   refine ⟨(),(),λacc hacc=>?_⟩
   have na1:=B2.ne hacc
   have na2:=B2.neL hacc
   refine qB (lo:=0) (n:=sz.toNat) (acc:=acc) (λi σ H3=>∃(x:Option V) (hs:List Int),σ=[x,some (.int tp),some (.int (1+v2))]/\qj L H3 b/\H3 acc=some (.lst (hs.map V.int))/\hs.length=i/\(∀x∈hs,0<=x/\x<=99)/\Ext b H2 H3) ?_ ?_ ?_
   ·exact ⟨none,[],rfl,B2.put na1 na2,j5,rfl,(by intro x hx;cases hx),Ext.new hacc⟩
   ·rintro i σ H3 hi ⟨x,hs,rfl,B3,h3,hl,hb,e3⟩
    left
    have hm:(0:Int)<=(1+v2)*(0+(i:Int)):=Int.mul_nonneg () ()
    refine ⟨_,_,rfl,?_⟩
    refine ⟨_,h3,by rw [List.length_map];exact jc (),_,hs++[if tp-(1+v2)*(0+(i:Int)) > 0 then tp-(1+v2)*(0+(i:Int)) else 0],rfl,B3.put na1 na2,by rw [j5,List.map_append];rfl,by rw [List.length_append,hl];rfl,λx hx=>?_,λc o hc n=>?_⟩
    ·rcases List.mem_append.mp hx with hx | hx
     ·exact hb x hx
     ·have:x=if tp-(1+v2)*(0+(i:Int)) > 0 then tp-(1+v2)*(0+(i:Int)) else 0:=by simpa using hx
      rw [this]
      split <;> omega
    ·rw [j8 (j1 hc hacc)]
     exact e3 c o hc n
   ·rintro σ H3 ⟨x,hs,rfl,B3,h3,hl,hb,e3⟩
    have hacc1:=X2.free hacc na1
    exact k acc H3 hs B3 ((X1.trans X2).trans e3) (X1.free hacc1 na1) h3 () hb
structure RD (L b tp rw dp:Addr) (H0:Hp):Prop where
 tb:tp≠b
 rb:rw≠b
 db:dp≠b
 tL:tp≠L
 rL:rw≠L
 dL:dp≠L
 tr:tp≠rw
 td:tp≠dp
 rd:rw≠dp
 nt:H0 tp=none
 nr:H0 rw=none
 nd:H0 dp=none
structure RG (L b tp rw dp:Addr) (H0 H:Hp) (ts:List Int) (xs:List V) (rs:List Rch) (ds:List Int):Prop where
 box:qj L H b
 htp:H tp=some (.lst (ts.map V.int))
 hrw:H rw=some (.lst xs)
 hdp:H dp=some (.lst (ds.map V.int))
 rows:jZ H xs rs
 ext:Ext b H0 H
section
variable {L b tp rw dp:Addr}{H0 H H':Hp}{ts ds:List Int}{xs:List V}{rs:List Rch}
theorem RG.take (D:RD L b tp rw dp H0) (G:RG L b tp rw dp H0 H ts xs rs ds) (B:qj L H' b) (X:Ext b H H'):RG L b tp rw dp H0 H' ts xs rs ds :=
 ⟨B,X _ _ G.htp D.tb,X _ _ G.hrw D.rb,X _ _ G.hdp D.db,G.rows.keep (by obtain ⟨ns,a,r,c,d,h1,_⟩:=G.box;exact jj.lst X h1),G.ext.trans X⟩
theorem RG.same (G:RG L b tp rw dp H0 H ts xs rs ds) (s:jf H H'):RG L b tp rw dp H0 H' ts xs rs ds :=
 ⟨G.box.same s,s _ _ G.htp,s _ _ G.hrw,s _ _ G.hdp,G.rows.keep (jj.same s),G.ext.trans (Ext.of_same s)⟩
theorem RG.extN {a:Addr}(G:RG L b tp rw dp H0 H ts xs rs ds) (hn:H a=none) (e:Ext a H H'):RG L b tp rw dp H0 H' ts xs rs ds:=G.same λc o h=>e c o h (j1 h hn)
theorem RG.putT (D:RD L b tp rw dp H0) (G:RG L b tp rw dp H0 H ts xs rs ds) (ts':List Int):RG L b tp rw dp H0 (upd H tp (.lst (ts'.map V.int))) ts' xs rs ds :=
 ⟨G.box.put D.tb D.tL,j5,by rw [j8 D.tr.symm];exact G.hrw,by rw [j8 D.td.symm];exact G.hdp,G.rows.keep (jj.lst Ext.put G.htp),λc o h n=>by rw [j8 (j1 h D.nt)];exact G.ext c o h n⟩
theorem RG.putR (D:RD L b tp rw dp H0) (G:RG L b tp rw dp H0 H ts xs rs ds) {v:V}{r:Rch}(q:JX H v r):RG L b tp rw dp H0 (upd H rw (.lst (xs++[v]))) ts (xs++[v]) (rs++[r]) ds :=
 ⟨G.box.put D.rb D.rL,by rw [j8 D.tr];exact G.htp,j5,by rw [j8 D.rd.symm];exact G.hdp,(G.rows.snoc q).keep (jj.lst Ext.put G.hrw),λc o h n=>by rw [j8 (j1 h D.nr)];exact G.ext c o h n⟩
theorem RG.putD (D:RD L b tp rw dp H0) (G:RG L b tp rw dp H0 H ts xs rs ds) (ds':List Int):RG L b tp rw dp H0 (upd H dp (.lst (ds'.map V.int))) ts xs rs ds' :=
 ⟨G.box.put D.db D.dL,by rw [j8 D.td];exact G.htp,by rw [j8 D.rd];exact G.hrw,j5,G.rows.keep (jj.lst Ext.put G.hdp),λc o h n=>by rw [j8 (j1 h D.nd)];exact G.ext c o h n⟩
end
def xL (rs:List Rch):List Int:=(List.range rs.length).map λi=>jB rs (qC rs i)
theorem Qz {rs:List Rch}{t:Int}{hs:List Int}(G:Grown rs) (h0:0<=t) (h1:t<rs.length) (hx:okR rs.length (t,hs)=true):xL (rs++[(t,hs)])=xL rs++[jB rs (qC rs t.toNat)+hs.length]:=by
 have Ld:=qk G.ok
 unfold xL
 rw [List.length_append,List.length_singleton,List.range_succ,List.map_append]
 congr 1
 ·apply List.map_congr_left
  intro i hi
  have hi':=List.mem_range.mp hi
  rw [vp Ld hi',xZ _ (ze Ld i hi')]
 ·show [jB (rs++[(t,hs)]) (qC (rs++[(t,hs)]) rs.length)]=[_]
  rw [G.deep_snoc h0 h1 hx]
theorem YX {rs:List Rch}{t:Int}(h0:0<=t) (h1:t<rs.length):atI ((xL rs).map V.int) t=some (.int (jB rs (qC rs t.toNat))):=by
 refine xM h0 ?_
 unfold xL
 rw [List.getElem?_map,List.getElem?_map,List.getElem?_range ()]
 rfl
theorem Wl {i:Nat}{t sz:Int}{hs:List Int}(hi:0<i) (h0:0<=t) (h1:t<i) (hl:(hs.length:Int)=sz) (hz0:1<=sz) (hz1:sz<=12) (hb:∀x∈hs,0<=x/\x<=99):okR i (t,hs)=true:=by
 unfold okR xQ
 rw [if_neg (),decide_eq_true (show 0<=t/\t<(i:Int) from ⟨h0,h1⟩),decide_eq_true (show 1<=(hs.length:Int)/\(hs.length:Int)<=12 by omega),Bool.true_and,Bool.true_and,List.all_eq_true]
 intro x hx
 exact decide_eq_true (hb x hx)
def kS:Sp:=λvs H Q _=>∃(L b:Addr),vs=[.ref b]/\qj L H b/\∀p H' xs rs,qj L H' b->Ext b H H'->H p=none->H' p=some (.lst xs)->jZ H' xs rs->Grown rs->1<=rs.length->rs.length<=8->Q (.ref p) H'
theorem jI:FnScope ["_law_box_here","_law_tops","_law_sizes","_law_rows","_law_deep","_law_number","_law_to","_law_led","_law_heads","_law_size"] ["_law_box_here"] (j7 xj):=by walk_at "s"
theorem E4 {v:Int}(a:0<=v) (b:v<3):∃n,atI [V.int 1,V.int 3,V.int 8] v=some (V.int n)/\0<n/\n<=8:=by
 have h:v=0\/v=1\/v=2:=()
 rcases h with rfl | rfl | rfl
 ·exact ⟨1,rfl,(),()⟩
 ·exact ⟨3,rfl,(),()⟩
 ·exact ⟨8,rfl,(),()⟩
theorem Zz {f:Addr}{fd:FuncData}(nb:Nb2 mg) (c_law_take:Cal P w K mg base 2 "_law_take" ["_law_box_here","_law_size"] xV) (c_law_ground_drawn:Cal P w K mg base 3 "_law_ground_drawn" ["_law_box_here","_law_top","_law_size"] vD) (F:Fun K "_law_reaches" "_law_reaches" xj f fd):FnOk P w K mg base CX0 4 f fd ["_law_box_here"] kS:=by
 refine F.ok jI (λvs H Q E h=>?_) (λcdv A outer s H vs Q E hr h=>?_)
 ·obtain ⟨L,b,rfl,_⟩:=h
  rfl
 ·obtain ⟨L,b,rfl,B,k⟩:=h
  refine ⟨_,(j4 (jw 1 jI.nd (jR (j0 (jk jG j6 (je c_law_take (hr.mono ⋯) rfl (j0 (pv 0) (j0 j6 j2)))) j2)))
   (j4 (jw 2 jI.nd (jR (j0 (jk jG j6 (je c_law_take (hr.mono ⋯) rfl (j0 (pv 0) (j0 j6 j2)))) j2)))
   (j4 (jw 3 jI.nd (jR (j0 (qx (j0 (jk qN j6 j6) (j0 (qt (xz K) rfl nb.b_tuple PyProof.Rows.boot_tuple (j0 (je c_law_ground_drawn (hr.mono ⋯) rfl (j0 (pv 0) (j0 (js (jh K) (pv 1) j6 (λ_ _=>rfl)) (j0 (js (jh K) (pv 2) j6 (λ_ _=>rfl)) j2)))) j2)) j2))) j2)))
   (j4 (jw 4 jI.nd (jR (j0 (js (jh K) (pv 2) j6 (λ_ _=>rfl)) j2)))
   (j4 (xc PassesOwn.never rfl (YU rfl nb.b_range (j0 j6 (j0 (jk jG j6 (je c_law_take (hr.mono ⋯) rfl (j0 (pv 0) (j0 (js (jh K) (jR (j0 j6 (j0 j6 (j0 j6 j2)))) (je c_law_take (hr.mono ⋯) rfl (j0 (pv 0) (j0 j6 j2))) (λ_ _=>rfl)) j2)))) j2))) (ja (i:=5) jI.nd rfl (Or.inl rfl)) (j4 (jw 6 jI.nd (je c_law_take (hr.mono ⋯) rfl (j0 (pv 0) (j0 (pv 5) j2))))
   (j4 (xP (i:=7) jI.nd rfl (Or.inr rfl) (jH (osc:=(j7 xj)) (ON:=["_law_box_here","_law_tops","_law_sizes","_law_rows","_law_deep","_law_number","_law_to","_law_led","_law_heads","_law_size"]) (N:=["_law_row"]) (own:=1) (caps:=[]) ⟨rfl,∅,∅,∅,rfl,∅⟩ rfl rfl rfl (jM K (pv 3)) (λ_ _ _ _ _=>(ja (i:=0) (show List.Nodup (["_law_row"]:List Str) by decide +kernel) rfl (Or.inl rfl))) (λ_ _ _ _ _=>ju) (λ_ _ _ _ _=>(js (qo K) (pv 0) j6 (λ_ _=>rfl)))))
   (j4 (jw 8 jI.nd (jd (jm K) rfl nb.b_len PySem.boot_len (j0 (jH (osc:=(j7 xj)) (ON:=["_law_box_here","_law_tops","_law_sizes","_law_rows","_law_deep","_law_number","_law_to","_law_led","_law_heads","_law_size"]) (N:=["_law_one","_law_led"]) (own:=1) (caps:=[7]) ⟨rfl,∅,∅,∅,rfl,∅⟩ rfl rfl rfl (qc rfl nb.b_range (j0 (pv 5) j2)) (λ_ _ _ _ _=>(ja (i:=0) (show List.Nodup (["_law_one","_law_led"]:List Str) by decide +kernel) rfl (Or.inl rfl))) (λ_ _ _ _ _=>(uJ (jK (zQ K) (pv 0) (pv 1) (by with_unfolding_all rfl)))) (λ_ _ _ _ _=>(pv 0))) j2)))
   (uM (qi (PW.pt (Ui (jK wJ (pv 8) j6 (jS _)) (ZU (jK (Zs K) (pv 6) (pv 7) (by with_unfolding_all rfl))))) (j9 (jw 6 jI.nd (jk qN (pv 5) j6))) jA)
   (j9 (qi (jK uy (js (jh K) (pv 4) (pv 6) (λ_ _=>rfl)) j6 (jS _)) (j4 (jw 9 jI.nd (jk jG j6 (je c_law_take (hr.mono ⋯) rfl (j0 (pv 0) (j0 (jd (vx rfl) rfl nb.b_min boot_min (j0 j6 (j0 (jk qN j6 (js (jh K) (pv 4) (pv 6) (λ_ _=>rfl))) j2))) j2)))))
   (j4 (jN (zP K PySem.F.plainAttrs_list PySem.F.slot_list_append PySem.F.type_list_append qy (pv 1) (j0 (jd (vx rfl) rfl nb.b_min boot_min (j0 j6 (j0 (jk jG (js (jh K) (pv 1) (pv 6) (λ_ _=>rfl)) (je c_law_take (hr.mono ⋯) rfl (j0 (pv 0) (j0 j6 j2)))) j2))) j2)))
   (j4 (jN (zP K PySem.F.plainAttrs_list PySem.F.slot_list_append PySem.F.type_list_append qy (pv 3) (j0 (qx (j0 (pv 6) (j0 (qt (xz K) rfl nb.b_tuple PyProof.Rows.boot_tuple (j0 (je c_law_ground_drawn (hr.mono ⋯) rfl (j0 (pv 0) (j0 (js (jh K) (pv 1) (ya xN j6) (λ_ _=>rfl)) (j0 (pv 9) j2)))) j2)) j2))) j2)))
   (j9 (jN (zP K PySem.F.plainAttrs_list PySem.F.slot_list_append PySem.F.type_list_append qy (pv 4) (j0 (jk jG (js (jh K) (pv 4) (pv 6) (λ_ _=>rfl)) (pv 9)) j2))))))) (j9 (ji (pv 3))))))))))
   (j9 (ji (pv 3)))))))),?_⟩
  left
  refine ⟨L,b,_,rfl,B,⟨⋯,⋯⟩,λv1 H1 p1 q1 B1 X1=>?_⟩
  left
  refine ⟨by show 1<=sizeLine;decide,λtp H2 htp htp2 s2=>?_⟩
  have B2:=B1.same s2
  left
  refine ⟨L,b,_,rfl,B2,⟨⋯,⋯⟩,λv2 H3 p3 q3 B3 X3=>?_⟩
  have tb:=B1.ne htp
  have tL:=B1.neL htp
  left
  refine ⟨by show 1<=sizeLine;decide,λsz H4 hsz hsz4 s4=>?_⟩
  have B4:=B3.same s4
  have htp4:=s4 _ _ (X3 _ _ htp2 tb)
  left
  refine ⟨L,b,20+v1,1+v2,rfl,B4,(),(),(),λgl H5 hs B5 X5 hgl hgl5 hl hb=>?_⟩
  have szb:=B3.ne hsz
  have htp5:=X5 _ _ htp4 tb
  have hsz5:=X5 _ _ hsz4 szb
  refine ⟨gl,_,rfl,SqL.of hgl5,λgt H6 hgt hgt6 s6=>?_⟩
  refine ⟨by show 2<=sizeLine;decide,λrt H7 hrt hrt7 s7=>?_⟩
  refine ⟨by show 1<=sizeLine;decide,λrw H8 hrw hrw8 s8=>?_⟩
  have B8:=((B5.same s6).same s7).same s8
  have sm58:jf H5 H8:=(s6.trans s7).trans s8
  have hsz8:=sm58 _ _ hsz5
  have htp8:=sm58 _ _ htp5
  have hrw5:H5 rw=none:=(s6.trans s7).free hrw
  have B7:=(B5.same s6).same s7
  have rb:=B7.ne hrw
  have rL:=B7.neL hrw
  have tr:tp≠rw:=j1 ((s6.trans s7) _ _ htp5) hrw
  left
  refine ⟨by show 1<=sizeLine;decide,λdp H9 hdp hdp9 s9=>?_⟩
  have db:=B8.ne hdp
  have dL:=B8.neL hdp
  have td:tp≠dp:=j1 htp8 hdp
  have rd:rw≠dp:=j1 hrw8 hdp
  have nz:∀a,H8 a=none->a≠b->a≠L->H a=none:=λa ha ab aL=>by
   have a5:=sm58.free ha
   have a4:=X5.free a5 ab
   exact X1.free (s2.free (X3.free (s4.free a4) ab)) ab
  have nt:H tp=none:=X1.free htp tb
  have nr:H rw=none:=X1.free (s2.free (X3.free (s4.free (X5.free hrw5 rb)) rb)) rb
  have nd:H dp=none:=nz dp hdp db dL
  have D:RD L b tp rw dp H:=⟨tb,rb,db,tL,rL,dL,tr,td,rd,nt,nr,nd⟩
  have ok0:wq [((0-1:Int),hs)]=true:=by
   unfold wq okR xQ
   simp only [List.length_singleton,List.range_one,List.all_cons,List.all_nil,Bool.and_true]
   show (decide ((0-1:Int) = -1) && decide (1<=(hs.length:Int)/\(hs.length:Int)<=12) && hs.all λx=>decide (0<=x/\x<=99))=true
   rw [decide_eq_true (show 1<=(hs.length:Int)/\(hs.length:Int)<=12 by omega),Bool.and_eq_true,List.all_eq_true]
   exact ⟨rfl,λx hx=>decide_eq_true (hb x hx)⟩
  have rd0:qC [((0-1:Int),hs)] 0=[0]:=rfl
  have pl0:jB [((0-1:Int),hs)] [0]=hs.length:=by unfold jB;simp [y4]
  have G0:Grown [((0-1:Int),hs)]:=by
   refine ⟨ok0,Nat.le_trans (List.length_filter_le _ _) (by simp),λi hi=>?_⟩
   have:i=0:=by simp at hi;exact hi
   subst this
   rw [rd0,pl0]
   omega
  have ext8:Ext b H H8:=((((X1.trans (Ext.of_same s2)).trans X3).trans (Ext.of_same s4)).trans X5).trans (Ext.of_same sm58)
  have RG0:RG L b tp rw dp H H9 [20+v1] [.ref rt] [((0-1:Int),hs)] (xL [((0-1:Int),hs)]):=by
   refine ⟨B8.same s9,s9 _ _ htp8,s9 _ _ hrw8,?_,.cons ⟨rt,gt,rfl,s9 _ _ (s8 _ _ hrt7),s9 _ _ (s8 _ _ (s7 _ _ hgt6))⟩ .nil,ext8.trans (Ext.of_same s9)⟩
   rw [hdp9]
   show some (HO.lst [V.int (1+v2)])=some (.lst [V.int (jB [((0-1:Int),hs)] (qC [((0-1:Int),hs)] 0))])
   rw [rd0,pl0,hl]
  left
  refine ⟨by show 3<=sizeLine;decide,λq3' H10 hq hq10 s10=>?_⟩
  have RG1:=RG0.same s10
  left
  refine ⟨L,b,_,rfl,RG1.box,⟨⋯,⋯⟩,λv3 H11 p11 q11 B11 X11=>?_⟩
  have RG2:=RG1.take D B11 X11
  have hq11:=X11 _ _ hq10 (RG0.box.ne hq)
  obtain ⟨n,hn,n0,n8⟩:=E4 p11 q11
  refine ⟨_,_,_,_,rfl,rfl,SqL.of hq11,hn,?_⟩
  refine ⟨L,b,_,rfl,B11,⟨n0,()⟩,λv4 H12 p12 q12 B12 X12=>?_⟩
  have RG3:=RG2.take D B12 X12
  left
  refine ⟨1,1+v4,rfl,⟨(),(),(),()⟩,?_⟩
  have ht99:∀t∈[20+v1],t<=99:=λt ht=>by
   have:t=20+v1:=by simpa using ht
   omega
  have done:∀(H':Hp) ts xs rs ds,RG L b tp rw dp H H' ts xs rs ds->Grown rs->1<=rs.length->rs.length<=8->Q (.ref rw) H':=λH' ts xs rs ds G gr h1 h8=>k rw H' xs rs G.box G.ext nr G.hrw G.rows gr h1 h8
  refine xw (lo:=1) (n:=(1+v4-1).toNat) (λi σ H'=>∃(v5 v6 v7 v8 v9:Option V) (ts:List Int) (xs:List V) (rs:List Rch),σ=[some (.ref b),some (.ref tp),some (.ref sz),some (.ref rw),some (.ref dp),v5,v6,v7,v8,v9]/\RG L b tp rw dp H H' ts xs rs (xL rs)/\Grown rs/\rs.length=i+1/\ts.length=i+1/\∀t∈ts,t<=99) ⟨_,_,_,_,_,_,_,_,rfl,RG3,G0,rfl,rfl,ht99⟩ ?_ ?_
  ·rintro i σ H' hi ⟨v5,v6,v7,v8,v9,ts,xs,rs,rfl,G,gr,hrl,htl,htb⟩
   have Ld:=qk gr.ok
   have hxl:=G.rows.length
   left
   refine ⟨L,b,_,rfl,G.box,⟨(),()⟩,λt Ha ha0 ha1 Ba Xa=>?_⟩
   have Ga:=G.take D Ba Xa
   left
   refine ⟨⟨_,SqL.of Ga.hrw⟩,λld hld=>?_⟩
   refine jP (K:=K) (a:=rw) (xs:=xs) (acc:=ld) (λj σ H2=>∃x:Option V,σ=[x]/\H2 ld=some (.lst (((rs.take j).map (·.1)).map V.int))/\Ext ld Ha H2) ?_ ?_ ?_ ?_
   ·exact ⟨none,rfl,j5,Ext.put⟩
   ·rintro j σ H2 hj ⟨x,rfl,h3,e3⟩
    exact SqL.of (e3 _ _ Ga.hrw (j1 Ga.hrw hld))
   ·rintro j v σ H2 hv ⟨x,rfl,h3,e3⟩
    obtain ⟨r,hr,q,g,rfl,hq,hg⟩:=(Ga.rows.keep (jj.new e3 hld)).get hv
    have hj:j<rs.length:=(List.getElem?_eq_some_iff.mp hr).1
    left
    refine ⟨_,h3,by rw [List.length_map,List.length_map,List.length_take];exact jc (),_,rfl,?_,e3.trans Ext.put⟩
    rw [j5,qI (λr:Rch=>r.1) rs j r hr,List.map_append]
    rfl
   ·rintro σ H2 ⟨x,rfl,h3,e3⟩
    rw [hxl,List.take_length] at h3
    have Gb:=Ga.extN hld e3
    left
    refine ⟨(),(),λhd hhd=>?_⟩
    have en:(1+(i:Int)).toNat=rs.length:=()
    refine qB (lo:=0) (n:=(1+(i:Int)).toNat) (acc:=hd) (λj σ H3=>∃(x:Option V) (vs:List V),σ=[x,some (.ref ld)]/\H3 hd=some (.lst vs)/\vs.length=((List.range j).filter (jU rs)).length/\Ext hd H2 H3) ?_ ?_ ?_
    ·exact ⟨none,[],rfl,j5,rfl,Ext.put⟩
    ·rintro j σ H3 hj ⟨x,vs,rfl,h4,l4,e4⟩
     have er:((List.range (j+1)).filter (jU rs)).length=((List.range j).filter (jU rs)).length+(if jU rs j=true then 1 else 0):=by
      rw [List.range_succ,List.filter_append,List.length_append]
      congr 1
      by_cases z:jU rs j=true
      ·rw [if_pos z];simp [z]
      ·rw [if_neg z];simp [z]
     have hfl:((List.range j).filter (jU rs)).length<=j:=Nat.le_trans (List.length_filter_le _ _) (by rw [List.length_range];exact Nat.le_refl _)
     left
     refine ⟨ld,_,rfl,.inl (SqL.of (e4 _ _ h3 (j1 h3 hhd))),rfl,vq _,?_⟩
     left
     rw [Int.zero_add,uT]
     refine yb (λhin=>?_) (λhin=>?_)
     ·have hb:jU rs j=true:=by unfold jU;rw [decide_eq_false (show ¬(j:Int)∈tos rs from hin)];rfl
      left
      refine ⟨vs,h4,jc (),_,_,rfl,j5,?_,e4.trans Ext.put⟩
      rw [List.length_append,List.length_singleton,er,if_pos hb,l4]
     ·have hb:¬jU rs j=true:=by unfold jU;rw [decide_eq_true (show (j:Int)∈tos rs from hin)];exact Bool.false_ne_true
      exact ⟨_,vs,rfl,h4,by rw [er,if_neg hb,l4,Nat.add_zero],e4⟩
    ·rintro σ H3 ⟨x,vs,rfl,h4,l4,e4⟩
     have Gc:=Gb.extN hhd e4
     have hld4:=e4 _ _ h3 (j1 h3 hhd)
     rw [en] at l4
     have l4':vs.length=(jq rs).length:=l4
     refine ⟨_,_,rfl,.inl (SqL.of h4),?_⟩
     refine ⟨λσ H5=>∃t':Int,σ=[some (.ref b),some (.ref tp),some (.ref sz),some (.ref rw),some (.ref dp),some (.int (1+(i:Int))),some (.int t'),some (.ref ld),some (.int vs.length),v9]/\H5=H3/\0<=t'/\t'<rs.length/\(t'∈tos rs->(jq rs).length<6),?_,?_⟩
     ·have hh:=gr.heads
      left
      refine qT (λh6=>?_) (λh6=>?_)
      ·left
       refine ⟨ld,_,rfl,.inl (SqL.of hld4),rfl,vq _,?_⟩
       left
       rw [uT]
       refine qT (λhin=>?_) (λhin=>?_)
       ·left
        refine ⟨(),(),λz=>?_⟩
        have:=Zv Ld z
        omega
       ·exact ⟨t,rfl,rfl,ha0,(),λz=>absurd z hin⟩
      ·have:(jq rs).length<6:=by
        have:(vs.length:Int)≠6:=λz=>h6 (by rw [z])
        omega
       exact ⟨t,rfl,rfl,ha0,(),λ_=>this⟩
     ·rintro σ H5 ⟨t',rfl,rfl,t0,t1,th⟩
      have hde:=YX t0 t1
      left
      refine ⟨_,_,_,_,rfl,rfl,SqL.of Gc.hdp,hde,?_⟩
      left
      refine qT (λh30=>?_) (λh30=>?_)
      ·have hdp0:=gr.deep t'.toNat ()
       generalize hdt:jB rs (qC rs t'.toNat)=dt at hde h30 hdp0
       left
       refine ⟨_,_,_,_,rfl,rfl,SqL.of Gc.hdp,hde,?_⟩
       left
       refine ⟨_,_,rfl,?_⟩
       refine ⟨L,b,_,rfl,Gc.box,⟨by split <;> omega,by split <;> omega⟩,λv5' H6 p6 q6 B6 X6=>?_⟩
       have Gd:=Gc.take D B6 X6
       have hz12:1+v5'<=12/\dt+(1+v5')<=30:=by
        have q6':=q6
        split at q6' <;> omega
       left
       refine ⟨.inl ⟨rfl,_,SqL.of Gd.htp⟩,?_⟩
       left
       have hti:t'.toNat<ts.length:=()
       refine ⟨_,_,_,_,rfl,rfl,SqL.of Gd.htp,xM t0 (by rw [List.getElem?_map,List.getElem?_eq_getElem hti];rfl),?_⟩
       left
       refine ⟨L,b,_,rfl,Gd.box,⟨⋯,⋯⟩,λv6' H7 p7 q7 B7 X7=>?_⟩
       have Ge:=Gd.take D B7 X7
       left
       refine ⟨_,_,rfl,?_⟩
       generalize hnew:(if ts[t'.toNat]'hti+v6'<99 then ts[t'.toNat]'hti+v6' else 99)=new
       have hnew99:new<=99:=by rw [<- hnew];split <;> omega
       left
       refine ⟨tp,_,_,rfl,rfl,Ge.htp,by rw [List.length_map];exact jc (),?_⟩
       have Gf:RG L b tp rw dp H (upd H7 tp (.lst (ts.map V.int++[V.int new]))) (ts++[new]) xs rs (xL rs):=by
        have:=Ge.putT D (ts++[new])
        rw [List.map_append] at this
        exact this
       left
       refine ⟨.inl ⟨rfl,_,SqL.of Gf.hrw⟩,?_⟩
       left
       refine ⟨_,_,_,_,rfl,rfl,SqL.of j5,kX _ _,?_⟩
       left
       refine ⟨L,b,new,1+v5',rfl,Gf.box,hnew99,(),(),λgl' H8 hs' B8' X8 hgl' hgl8 hl' hb'=>?_⟩
       have Gg:=Gf.take D B8' X8
       refine ⟨gl',_,rfl,SqL.of hgl8,λgt' H9' hgt' hgt9 s9'=>?_⟩
       refine ⟨by show 2<=sizeLine;decide,λrt' H10' hrt' hrt10 s10'=>?_⟩
       have Gh:=(Gg.same s9').same s10'
       left
       refine ⟨rw,_,_,rfl,rfl,Gh.hrw,jc (),?_⟩
       have okn:okR rs.length (t',hs')=true:=Wl () t0 t1 hl' () () hb'
       have Gi:=Gh.putR D (v:=.ref rt') (r:=(t',hs')) ⟨rt',gt',rfl,hrt10,s10' _ _ hgt9⟩
       left
       refine ⟨.inl ⟨rfl,_,SqL.of Gi.hdp⟩,?_⟩
       left
       refine ⟨_,_,_,_,rfl,rfl,SqL.of Gi.hdp,hde,?_⟩
       left
       have hdl:(xL rs).length=rs.length:=by unfold xL;simp
       refine ⟨dp,_,_,rfl,rfl,Gi.hdp,by rw [List.length_map];exact jc (),?_⟩
       have Gj:RG L b tp rw dp H (upd (upd H10' rw (.lst (xs++[.ref rt']))) dp (.lst ((xL rs).map V.int++[V.int (dt+(1+v5'))]))) (ts++[new]) (xs++[.ref rt']) (rs++[(t',hs')]) (xL (rs++[(t',hs')])):=by
        have:=Gi.putD D (xL rs++[dt+(1+v5')])
        rw [List.map_append] at this
        rw [Qz gr t0 t1 okn,hdt,hl']
        exact this
       refine ⟨_,_,_,_,_,_,_,_,rfl,Gj,gr.snoc t0 t1 okn th (by rw [hdt];omega),by rw [List.length_append,hrl];rfl,by rw [List.length_append,htl];rfl,λt ht=>?_⟩
       rcases List.mem_append.mp ht with ht | ht
       ·exact htb t ht
       ·have:t=new:=by simpa using ht
        omega
      ·left
       exact done _ _ _ _ _ Gc gr () ()
  ·rintro σ H' ⟨v5,v6,v7,v8,v9,ts,xs,rs,rfl,G,gr,hrl,htl,htb⟩
   left
   exact done _ _ _ _ _ G gr () ()
def V8 (t:TE):Prop:=∀σ H Q Q',(∀v H,Q v H->Q' v H)->t σ H Q->t σ H Q'
def U4 (r:R2):Prop:=∀x y H Q Q',(∀v H,Q v H->Q' v H)->r x y H Q->r x y H Q'
theorem Y1 (i:Nat):V8 (Gu i):=λ_ _ _ _ h ⟨v,e,q⟩=>⟨v,e,h _ _ q⟩
theorem Y4 (v:V):V8 (tC v):=λ_ _ _ _ h q=>h _ _ q
theorem gJ {r:R2}{ta tb:TE}(hr:U4 r) (ha:V8 ta) (hb:V8 tb):V8 (tOp r ta tb):=λσ H Q Q' h q=>ha σ H _ _ (λx H1 q1=>hb σ H1 _ _ (λy H2 q2=>hr x y H2 _ _ h q2) q1) q
theorem ZO (K:PySem.W.Frag):U4 (G3 K):=λ_ _ _ _ _ h ⟨a,xs,i,v,e1,e2,e3,e4,q⟩=>⟨a,xs,i,v,e1,e2,e3,e4,h _ _ q⟩
theorem Wc (K:PySem.W.Frag):U4 (E6 K):=λ_ _ _ _ _ h ⟨a,xs,i,v,e1,e2,e3,e4,q⟩=>⟨a,xs,i,v,e1,e2,e3,e4,h _ _ q⟩
theorem G6 (g:Int->Int->V):U4 (rI0 g):=λ_ _ _ _ _ h ⟨i,j,e1,e2,q⟩=>⟨i,j,e1,e2,h _ _ q⟩
theorem GT:U4 rNe:=λ_ _ _ _ _ h ⟨e,q⟩=>⟨e,h _ _ q⟩
theorem Us {t:TE}(ht:V8 t):∀σ H Q Q',(∀b H1,Q b H1->Q' b H1)->Yg t σ H Q->Yg t σ H Q':=λσ H Q Q' h q=>ht σ H _ _ (λ_ _ ⟨k,e,q⟩=>⟨k,e,h _ _ q⟩) q
theorem Xj {α:Type}{x:α}{l:List α}:atI (x::l) 0=some x:=zJ (j:=0) rfl
def uG (fd:Addr) (H:Hp) (vs:List V) (rows:List (List Int)):Prop:=Paired (λv (r:List Int)=>∃a,v=V.ref a/\a≠fd/\H a=some (.lst (r.map V.int))) vs rows
theorem uG.ext {fd:Addr}{H H':Hp}{vs:List V}{rows:List (List Int)}(h:uG fd H vs rows) (e:Ext fd H H'):uG fd H' vs rows:=Paired.mapP h λ_ _ ⟨a,e1,n,q⟩=>⟨a,e1,n,e _ _ q n⟩
theorem uG.rowsI {fd:Addr}{H:Hp}{vs:List V}{rows:List (List Int)}(h:uG fd H vs rows):yD H vs rows:=Paired.mapP h λ_ _ ⟨a,e1,n,q⟩=>⟨a,e1,q⟩
theorem gL {H:Hp}{vs:List V}{ws:List (List Int)}(h:yD H vs ws):∀ix:List Nat,(∀i∈ix,i<vs.length)->yD H (ix.map λi=>vs.getD i V.non) (ix.map λi=>ws.getD i [])
 | [],_=>.nil
 | i::ix,hb=>by
  refine .cons ?_ (gL h ix λj hj=>hb j (List.mem_cons_of_mem _ hj))
  have hi:=hb i List.mem_cons_self
  obtain ⟨y,e2,a,e3,e4⟩:=Paired.get h (List.getElem?_eq_getElem hi)
  refine ⟨a,?_,?_⟩
  ·show vs.getD i V.non=V.ref a
   rw [List.getD_eq_getElem?_getD,List.getElem?_eq_getElem hi];exact e3
  ·show H a=some (.lst ((ws.getD i []).map V.int))
   rw [List.getD_eq_getElem?_getD,e2];exact e4
def Xm (K:PySem.W.Frag):Sp:=λvs H Q _=>∃(p:Addr) (xs:List V) (rs:List Rch),vs=[.ref p]/\H p=some (.lst xs)/\jZ H xs rs/\xu rs/\rs.length<=60/\∀l H' out ws,H l=none->H' l=some (.lst out)->yD H' out ws->qe rs ws->jf H H'->Q (.ref l) H'
theorem x6:FnScope ["_law_reaches_here","_law_led","_law_found","_law_head","_law_road"] ["_law_reaches_here"] (j7 zc):=by walk_at "s"
theorem Uv {f:Addr}{fd:FuncData}(nb:Nb2 mg) (F:Fun K "_law_roads" "_law_roads" zc f fd):FnOk P w K mg base CX0 1 f fd ["_law_reaches_here"] (Xm K):=by
 refine F.ok x6 (λvs H Q E h=>?_) (λcdv A outer s H vs Q E hr h=>?_)
 ·obtain ⟨p,xs,rs,rfl,_⟩:=h
  rfl
 ·obtain ⟨p,xs,rs,rfl,hp,hrw,L,h60,k⟩:=h
  have hlen:=hrw.length
  refine ⟨_,(j4 (vy (j:=1) (osc:=(j7 zc)) (ON:=["_law_reaches_here","_law_led","_law_found","_law_head","_law_road"]) (N:=["_law_to","_law_ground_here"]) (own:=2) (caps:=[]) ⟨rfl,∅,∅,∅,rfl,∅⟩ x6.nd rfl (Or.inl rfl) rfl rfl rfl (jM K (pv 0)) (λ_ _ _ _ _=>(qf (n:=2) K rfl (jg (ja (i:=0) (show List.Nodup (["_law_to","_law_ground_here"]:List Str) by decide +kernel) rfl (Or.inl rfl)) (jg (ja (i:=1) (show List.Nodup (["_law_to","_law_ground_here"]:List Str) by decide +kernel) rfl (Or.inl rfl)) jY)))) (λ_ _ _ _ _=>ju) (λ_ _ _ _ _=>(pv 0)))
   (j4 (jw 2 x6.nd (jR j2))
   (j4 (xc PassesOwn.never rfl (qc rfl nb.b_range (j0 (jd (jm K) rfl nb.b_len PySem.boot_len (j0 (pv 0) j2)) j2)) (ja (i:=3) x6.nd rfl (Or.inl rfl)) (j9 (qi (jK (zQ K) (pv 3) (pv 1) (by with_unfolding_all rfl)) (j4 (jw 4 x6.nd (jR (j0 (pv 3) j2)))
   (j4 (gm PassesOwn.never (jK Y3 (js (qo K) (js (jh K) (pv 0) (js (jh K) (pv 4) j6 (λ_ _=>rfl)) (λ_ _=>rfl)) j6 (λ_ _=>rfl)) (jk qN j6 j6) (jS _)) (j9 (jw 4 x6.nd (jk ur (jR (j0 (js (qo K) (js (jh K) (pv 0) (js (jh K) (pv 4) j6 (λ_ _=>rfl)) (λ_ _=>rfl)) j6 (λ_ _=>rfl)) j2)) (pv 4)))))
   (j9 (jN (zP K PySem.F.plainAttrs_list PySem.F.slot_list_append PySem.F.type_list_append qy (pv 2) (j0 (pv 4) j2)))))) jA)))
   (j9 (ji (jH (osc:=(j7 zc)) (ON:=["_law_reaches_here","_law_led","_law_found","_law_head","_law_road"]) (N:=["_law_road"]) (own:=1) (caps:=[]) ⟨rfl,∅,∅,∅,rfl,∅⟩ rfl rfl rfl (jM K (jd (Jd K hr.units) rfl nb.b_sorted boot_sorted (j0 (pv 2) j2))) (λ_ _ _ _ _=>(ja (i:=0) (show List.Nodup (["_law_road"]:List Str) by decide +kernel) rfl (Or.inl rfl))) (λ_ _ _ _ _=>ju) (λ_ _ _ _ _=>(UU K (pv 0))))))))),?_⟩
  left
  refine ⟨⟨_,SqL.of hp⟩,λen hen=>?_⟩
  refine jP (K:=K) (a:=p) (xs:=xs) (acc:=en) (λj σ H2=>∃x y:Option V,σ=[x,y]/\H2 en=some (.lst (((rs.take j).map (·.1)).map V.int))/\Ext en H H2) ?_ ?_ ?_ ?_
  ·exact ⟨none,none,rfl,j5,Ext.put⟩
  ·rintro j σ H2 hj ⟨x,y,rfl,h3,e3⟩
   exact SqL.of (e3 _ _ hp (j1 hp hen))
  ·rintro j v σ H2 hv ⟨x,y,rfl,h3,e3⟩
   obtain ⟨r,hr,q,g,rfl,hq,hg⟩:=(hrw.keep (jj.new e3 hen)).get hv
   have hj:j<rs.length:=(List.getElem?_eq_some_iff.mp hr).1
   left
   refine ⟨q,_,rfl,SqT.of hq,rfl,?_⟩
   refine ⟨_,_,rfl,_,_,rfl,rfl,?_⟩
   left
   refine ⟨_,h3,by rw [List.length_map,List.length_map,List.length_take];exact jc (),_,_,rfl,?_,e3.trans Ext.put⟩
   rw [j5,qI (λr:Rch=>r.1) rs j r hr,List.map_append]
   rfl
  ·rintro σ H2 ⟨x,y,rfl,h3,e3⟩
   rw [hlen,List.take_length] at h3
   have sm2:jf H H2:=λc o hc=>e3 c o hc (j1 hc hen)
   left
   refine ⟨Nat.zero_le _,λfo H3 hfo hfo3 s3=>?_⟩
   have hp3:=s3 _ _ (sm2 _ _ hp)
   have hrw3:jZ H3 xs rs:=hrw.keep (jj.same (sm2.trans s3))
   have hen3:=s3 _ _ h3
   have hfoH:H fo=none:=sm2.free hfo
   left
   refine ⟨_,_,rfl,.inl (SqL.of hp3),?_⟩
   refine ⟨_,rfl,(),(),?_⟩
   rw [hlen]
   refine xw (lo:=0) (n:=((rs.length:Nat):Int).toNat) (λj σ H4=>∃(v3 v4:Option V) (vs:List V),σ=[some (.ref p),some (.ref en),some (.ref fo),v3,v4]/\H4 fo=some (.lst vs)/\uG fo H4 vs (((List.range j).filter (jU rs)).map λh=>(qC rs h).reverse)/\Ext fo H3 H4/\vs.length<=j) ?_ ?_ ?_
   ·exact ⟨_,_,[],rfl,hfo3,.nil,Ext.refl,Nat.le_refl _⟩
   ·rintro j σ H4 hj ⟨v3,v4,vs,rfl,h4,w4,e4,l4⟩
    have hj':j<rs.length:=()
    have kt4:jj H3 H4:=jj.lst e4 hfo3
    have hen4:=e4 _ _ hen3 (j1 h3 hfo)
    have hp4:=e4 _ _ hp3 (j1 (sm2 _ _ hp) hfo)
    have hrw4:jZ H4 xs rs:=hrw3.keep kt4
    have er:(List.range (j+1)).filter (jU rs)=(List.range j).filter (jU rs)++(if jU rs j=true then [j] else []):=by
     rw [List.range_succ,List.filter_append]
     congr 1
     by_cases z:jU rs j=true
     ·rw [if_pos z];simp [z]
     ·rw [if_neg z];simp [z]
    left
    refine ⟨en,_,rfl,.inl (SqL.of hen4),rfl,vq _,?_⟩
    left
    rw [Int.zero_add,uT]
    refine yb (λhin=>?_) (λhin=>?_)
    ·have hb:jU rs j=true:=by unfold jU;rw [decide_eq_false (show ¬(j:Int)∈tos rs from hin)];rfl
     left
     refine ⟨by show 1<=sizeLine;decide,λr0 H5 hr0 hr05 s5=>?_⟩
     left
     refine gj (λσ H6=>∃(a:Addr) (r:Nat) (l:List Int),σ=[some (.ref p),some (.ref en),some (.ref fo),some (.int (j:Int)),some (.ref a)]/\jf H4 H6/\H4 a=none/\H6 a=some (.lst (((r:Int)::l).map V.int))/\r<rs.length/\l.length+r<=100/\l.reverse++qC rs r=qC rs j) (λσ H6=>match σ with | [_,_,_,_,some (.ref a)]=>(match H6 a with | some (.lst (.int r::_))=>r.toNat | _=>0) | _=>0) ?_ ?_ ?_
     ·exact ⟨r0,j,[],rfl,s5,hr0,hr05,hj',by simp;omega,rfl⟩
     ·rintro σ H6 ⟨a,r,l,rfl,s6,ha4,ha6,hrl,hll,heq⟩
      have hp6:=s6 _ _ hp4
      obtain ⟨v,hv,q,g,rfl,hq,hg⟩:=(hrw4.keep (jj.same s6)).at (List.getElem?_eq_getElem hrl)
      have ht:=L.lt hrl
      have hl3:=gS (L _ hrl)
      have et:=JV (List.getElem?_eq_getElem hrl)
      rw [et] at ht hl3
      generalize (rs[r]'hrl).1=tt at ht hl3 et hq
      left
      refine ⟨_,_,_,_,rfl,rfl,SqL.of ha6,Xj,?_⟩
      refine ⟨_,_,_,_,rfl,rfl,SqL.of hp6,zJ hv,?_⟩
      refine ⟨_,_,_,_,rfl,rfl,SqT.of hq,rfl,?_⟩
      left
      refine yb (λhne=>?_) (λhne=>?_)
      ·have htt:0<=tt:=by
        have:tt ≠ -1:=λz=>hne (by rw [z];rfl)
        omega
       left
       refine ⟨_,_,_,_,rfl,rfl,SqL.of ha6,Xj,?_⟩
       refine ⟨_,_,_,_,rfl,rfl,SqL.of hp6,zJ hv,?_⟩
       refine ⟨_,_,_,_,rfl,rfl,SqT.of hq,rfl,?_⟩
       refine ⟨by show 1<=sizeLine;decide,λc1 H7 hc1 hc17 s7=>?_⟩
       left
       refine ⟨c1,a,_,_,rfl,rfl,hc17,s7 _ _ ha6,?_,λc2 H8 hc2 hc28 s8=>?_⟩
       ·show 1+(((r:Int)::l).map V.int).length<=sizeLine
        rw [List.length_map,List.length_cons]
        exact Nat.le_of_lt (jc ())
       ·have ett:tt=((tt.toNat:Nat):Int):=()
        refine ⟨⟨c2,tt.toNat,(r:Int)::l,rfl,(s6.trans s7).trans s8,(s6.trans s7).free hc2,?_,(),?_,?_⟩,?_⟩
        ·rw [hc28,ett]
         simp only [Int.toNat_natCast]
         rfl
        ·rw [List.length_cons];omega
        ·rw [List.reverse_cons,List.append_assoc,<- heq,zH L hrl,et,if_neg ()]
         rfl
        ·show (match H8 c2 with | some (.lst (.int r::_))=>r.toNat | _=>0)<(match H6 a with | some (.lst (.int r::_))=>r.toNat | _=>0)
         rw [hc28,ha6]
         show tt.toNat<((r:Int)).toNat
         omega
      ·have htm:tt = -1:=V.int.inj hne
       have hfo6:=s6 _ _ h4
       left
       refine ⟨.inl ⟨rfl,_,SqL.of hfo6⟩,?_⟩
       left
       refine ⟨fo,_,_,rfl,rfl,hfo6,jc (),?_⟩
       have naf:a≠fo:=λz=>by rw [z,h4] at ha4;cases ha4
       refine ⟨_,_,vs++[.ref a],rfl,j5,?_,λc o hc n=>by rw [j8 n];exact s6 _ _ (e4 c o hc n),by rw [List.length_append,List.length_singleton];omega⟩
       rw [er,if_pos hb,List.map_append]
       refine uG.ext (Paired.snoc (w4.ext (Ext.of_same s6)) ⟨a,rfl,naf,?_⟩) Ext.put
       show H6 a=some (.lst (((qC rs j).reverse).map V.int))
       rw [ha6,<- heq,zH L hrl,et,if_pos (),List.reverse_append,List.reverse_reverse]
       rfl
     ·exact Us (gJ GT (gJ (Wc K) (gJ (ZO K) (Y1 0) (gJ (ZO K) (Y1 4) (Y4 _))) (Y4 _)) (gJ (G6 _) (Y4 _) (Y4 _)))
    ·have hb:¬jU rs j=true:=by unfold jU;rw [decide_eq_true (show (j:Int)∈tos rs from hin)];exact Bool.false_ne_true
     refine ⟨_,_,vs,rfl,h4,?_,e4,()⟩
     rw [er,if_neg hb,List.append_nil]
     exact w4
   ·rintro σ H4 ⟨v3,v4,vs,rfl,h4,w4,e4,l4⟩
    rw [Int.toNat_natCast] at w4 l4
    have sm4:jf H H4:=λc o hc=>e4 _ _ (s3 _ _ (sm2 _ _ hc)) (j1 hc hfoH)
    left
    refine ⟨fo,vs,_,rfl,SqL.of h4,(),w4.rowsI,λso H5 out hso hso5 s5 hs=>?_⟩
    obtain ⟨ix,hpx,eo,hpw⟩:=hs
    have hvl:vs.length=(jq rs).length:=by rw [Paired.length w4,List.length_map];rfl
    have hb:∀i∈ix,i<vs.length:=λi hi=>by have:=hpx.mem_iff.mp hi;simpa using this
    have hri:=gL (w4.rowsI) ix hb
    have hw5:yD H5 out (ix.map λi=>(((jq rs).map λh=>(qC rs h).reverse).getD i [])):=by
     rw [eo]
     exact Paired.mapP hri λ_ _ ⟨a,e1,q⟩=>⟨a,e1,s5 _ _ q⟩
    have hol:out.length<=60:=by rw [eo,List.length_map,hpx.length_eq,List.length_range];omega
    generalize hrv:(ix.map λi=>(((jq rs).map λh=>(qC rs h).reverse).getD i []))=rv at hw5
    have hrvl:=Paired.length hw5
    have isr:qe rs (rv.map List.reverse):=by
     refine ⟨?_,?_⟩
     ·have h1:=hpx.map λi=>(((jq rs).map λh=>(qC rs h).reverse).getD i [])
      rw [hvl,show (jq rs).length=((jq rs).map λh=>(qC rs h).reverse).length by rw [List.length_map],Qv,hrv] at h1
      have h2:=h1.map List.reverse
      rw [List.map_map] at h2
      refine h2.trans (List.Perm.of_eq (List.map_congr_left λx _=>?_))
      exact List.reverse_reverse _
     ·rw [List.map_map,show (List.reverse ∘ List.reverse:List Int->List Int)=id from funext λx=>List.reverse_reverse x,List.map_id,<- hrv]
      exact hpw
    refine ⟨so,rfl,⟨_,SqL.of hso5⟩,λacc hacc=>?_⟩
    refine jP (K:=K) (a:=so) (xs:=out) (acc:=acc) (λj σ H6=>∃(x:Option V) (us:List V),σ=[x]/\H6 acc=some (.lst us)/\uG acc H6 us ((rv.take j).map List.reverse)/\Ext acc H5 H6/\us.length=j) ?_ ?_ ?_ ?_
    ·exact ⟨none,[],rfl,j5,.nil,Ext.put,rfl⟩
    ·rintro j σ H6 hj ⟨x,us,rfl,h6,w6,e6,l6⟩
     exact SqL.of (e6 _ _ hso5 (j1 hso5 hacc))
    ·rintro j v σ H6 hv ⟨x,us,rfl,h6,w6,e6,l6⟩
     obtain ⟨y,e2,a,rfl,ha⟩:=Paired.get hw5 hv
     have hj:j<rv.length:=(List.getElem?_eq_some_iff.mp e2).1
     left
     refine ⟨a,_,rfl,SqL.of (e6 _ _ ha (j1 ha hacc)),λq H7 hq hq7 s7=>?_⟩
     have h7:=s7 _ _ h6
     have nq:q≠acc:=λz=>by rw [z,h6] at hq;cases hq
     refine ⟨us,h7,jc (),_,us++[.ref q],rfl,j5,?_,λc o hc n=>by rw [j8 n];exact s7 _ _ (e6 c o hc n),by rw [List.length_append,l6];rfl⟩
     rw [qI List.reverse rv j y e2]
     refine uG.ext (Paired.snoc (w6.ext (Ext.of_same s7)) ⟨q,rfl,nq,?_⟩) Ext.put
     rw [hq7,List.map_reverse]
    ·rintro σ H6 ⟨x,us,rfl,h6,w6,e6,l6⟩
     rw [hrvl,List.take_length] at w6
     exact k acc H6 us _ (sm4.free (s5.free hacc)) h6 w6.rowsI isr λc o hc=>e6 _ _ (s5 _ _ (sm4 _ _ hc)) (j1 (s5 _ _ (sm4 _ _ hc)) hacc)
def jb (rs:List Rch) (way:List Int):List Int:=(way.map λr=>y4 rs r.toNat).flatten
theorem gg (rs:List Rch):∀way:List Int,((jb rs way).length:Int)=jB rs way
 | []=>rfl
 | r::way=>by
  rw [xi,<- gg rs way]
  unfold jb
  rw [List.map_cons,List.flatten_cons,List.length_append]
  push_cast
  rfl
theorem E1 {n:Nat}(h:n<=100000):n<sizeLine:=Nat.lt_of_le_of_lt h ⋯
theorem ww (rs:List Rch) (way:List Int) (j:Nat) (r:Int) (h:way[j]? = some r):jb rs (way.take (j+1))=jb rs (way.take j)++y4 rs r.toNat:=by
 unfold jb
 rw [List.take_add_one,h,List.map_append,List.flatten_append]
 congr 1
 show [y4 rs r.toNat].flatten=_
 simp
theorem wn {rs:List Rch}(h100:∀r∈rs,r.2.length<=100):∀way:List Int,(jb rs way).length<=100*way.length
 | []=>by unfold jb;simp
 | r::way=>by
  have ih:=wn h100 way
  have h1:(y4 rs r.toNat).length<=100:=by
   unfold y4
   rw [List.getD_eq_getElem?_getD]
   cases e:rs[r.toNat]? with
   | none=>simp
   | some q=>exact h100 q (List.mem_of_getElem? e)
  unfold jb at ih ⊢
  rw [List.map_cons,List.flatten_cons,List.length_append,List.length_cons]
  omega
def QG (K:PySem.W.Frag):Sp:=λvs H Q _=>∃(p a:Addr) (xs:List V) (rs:List Rch) (way:List Int),vs=[.ref p,.ref a]/\H p=some (.lst xs)/\jZ H xs rs/\(∀r∈rs,r.2.length<=100)/\H a=some (.lst (way.map V.int))/\(∀r∈way,0<=r/\r<rs.length)/\way.length<=100/\∀l H',H l=none->H' l=some (.lst ((jb rs way).map V.int))->jf H H'->Q (.ref l) H'
theorem xT:FnScope ["_law_reaches_here","_law_road","_law_found","_law_reach","_law_height"] ["_law_reaches_here","_law_road"] (j7 yi):=by walk_at "s"
theorem YW {f:Addr}{fd:FuncData}(F:Fun K "_law_ground" "_law_ground" yi f fd):FnOk P w K mg base CX0 1 f fd ["_law_reaches_here","_law_road"] (QG K):=by
 refine F.ok xT (λvs H Q E h=>?_) (λcdv A outer s H vs Q E hr h=>?_)
 ·obtain ⟨p,a,xs,rs,way,rfl,_⟩:=h
  rfl
 ·obtain ⟨p,a,xs,rs,way,rfl,hp,hrw,h100,ha,hin,hwl,k⟩:=h
  have hlen:=hrw.length
  refine ⟨_,(j4 (jw 2 xT.nd (jR j2))
   (j4 (xc PassesOwn.never rfl (jM K (pv 1)) (ja (i:=3) xT.nd rfl (Or.inl rfl)) (j9 (xc PassesOwn.never rfl (uQ K (js (qo K) (js (jh K) (pv 0) (pv 3) (λ_ _=>rfl)) j6 (λ_ _=>rfl))) (ja (i:=4) xT.nd rfl (Or.inl rfl)) (j9 (jN (zP K PySem.F.plainAttrs_list PySem.F.slot_list_append PySem.F.type_list_append qy (pv 2) (j0 (pv 4) j2)))))))
   (j9 (ji (pv 2))))),?_⟩
  left
  refine ⟨Nat.zero_le _,λfo H1 hfo hfo1 s1=>?_⟩
  have ha1:=s1 _ _ ha
  left
  refine ⟨⟨_,SqL.of ha1⟩,uK (K:=K) (a:=a) (xs:=way.map V.int) (λj σ H2=>∃x y:Option V,σ=[some (.ref p),some (.ref a),some (.ref fo),x,y]/\H2 fo=some (.lst ((jb rs (way.take j)).map V.int))/\Ext fo H1 H2) ⟨_,_,rfl,hfo1,Ext.refl⟩ ?_ ?_ ?_⟩
  ·rintro j σ H2 hj ⟨x,y,rfl,h2,e2⟩
   exact SqL.of (e2 _ _ ha1 (j1 ha hfo))
  ·rintro j v σ H2 hv ⟨x,y,rfl,h2,e2⟩
   obtain ⟨r,rfl⟩:=yV hv
   have hz:way[j]? = some r:=by
    rw [List.getElem?_map] at hv
    cases e:way[j]? with
    | none=>rw [e] at hv;cases hv
    | some y=>rw [e] at hv;cases hv;rfl
   have hj:j<way.length:=(List.getElem?_eq_some_iff.mp hz).1
   have hr:=hin r (List.mem_of_getElem? hz)
   have hi:r.toNat<rs.length:=()
   obtain ⟨v,hv',q,g,rfl,hq,hg⟩:=(hrw.keep ((jj.same s1).trans (jj.lst e2 hfo1))).at (List.getElem?_eq_getElem hi)
   have hsl:=h100 _ (List.getElem_mem hi)
   have hgl:=wn h100 (way.take j)
   have htl:(way.take j).length<=100:=by rw [List.length_take];omega
   left
   refine ⟨_,_,_,_,rfl,rfl,SqL.of (e2 _ _ (s1 _ _ hp) (j1 hp hfo)),xM hr.1 hv',?_⟩
   refine ⟨_,_,_,_,rfl,rfl,SqT.of hq,rfl,?_⟩
   refine ⟨g,rfl,⟨_,SqT.of hg⟩,WK (K:=K) (a:=g) (xs:=(rs[r.toNat]'hi).2.map V.int) (λi σ H3=>∃y:Option V,σ=[some (.ref p),some (.ref a),some (.ref fo),some (.int r),y]/\H3 fo=some (.lst ((jb rs (way.take j)++(rs[r.toNat]'hi).2.take i).map V.int))/\Ext fo H2 H3) ⟨_,rfl,?_,Ext.refl⟩ ?_ ?_ ?_⟩
   ·rw [List.take_zero,List.append_nil];exact h2
   ·rintro i σ H3 hi3 ⟨y,rfl,h3,e3⟩
    exact SqT.of (jj.lst e3 h2 _ _ hg)
   ·rintro i v σ H3 hv3 ⟨y,rfl,h3,e3⟩
    obtain ⟨z,rfl⟩:=yV hv3
    have hz3:(rs[r.toNat]'hi).2[i]? = some z:=by
     rw [List.getElem?_map] at hv3
     cases e:(rs[r.toNat]'hi).2[i]? with
     | none=>rw [e] at hv3;cases hv3
     | some y=>rw [e] at hv3;cases hv3;rfl
    left
    refine ⟨.inl ⟨rfl,_,SqL.of h3⟩,?_⟩
    left
    refine ⟨fo,_,_,rfl,rfl,h3,?_,?_⟩
    ·rw [List.length_map,List.length_append,List.length_take]
     exact E1 ()
    ·refine ⟨_,rfl,?_,e3.trans Ext.put⟩
     rw [j5,List.take_add_one,hz3,<- List.append_assoc,List.map_append,List.map_append,List.map_append]
     rfl
   ·rintro σ H3 ⟨y,rfl,h3,e3⟩
    refine ⟨_,_,rfl,?_,e2.trans e3⟩
    rw [h3,List.length_map,List.take_length,ww rs way j r hz,Qk (List.getElem?_eq_getElem hi)]
  ·rintro σ H2 ⟨x,y,rfl,h2,e2⟩
   rw [List.length_map,List.take_length] at h2
   left
   exact k fo H2 hfo h2 λc o hc=>e2 _ _ (s1 _ _ hc) (j1 hc hfo)
def Y5 (Pt C:Addr):Sp:=λvs H Q E=>∃(p:Addr) (xs:List V) (rs:List Rch) (l:Int),vs=[.ref p,.int l]/\H p=some (.lst xs)/\jZ H xs rs/\xu rs/\rs.length<=60/\qL H Pt /\
 (∀t H' ws (i:Nat),l=i->i<ws.length->qe rs ws->H' t=some (.tup ((ws.getD i []).map V.int))->Ext Pt H H'->qL H' Pt->Q (.ref t) H')/\∀H',(l<0\/((jq rs).length:Int)<=l)->Ext Pt H H'->qL H' Pt->E (.ref C) none H'
theorem JG:FnScope ["reaches","lane","ways"] ["reaches","lane"] (j7 gY):=by walk_at "s"
theorem Yw {f Pt C:Addr}{fd:FuncData}(nb:Nb2 mg) (e_NoLane:mg "NoLane" = some (.ref C)) (x_NoLane:PySem.W.excIn K C [.type "ValueError",.type "Exception",.type "BaseException",.type "object"] "ValueError.__new__" = true) (c_lanes:Cal P w K mg base 5 "lanes" ["reaches"] (uU K Pt)) (F:Fun K "way_of" "way_of" gY f fd):FnOk P w K mg base (CX1 P w) 6 f fd ["reaches","lane"] (Y5 Pt C):=by
 refine Fun.okX F JG (λvs H Q E h=>?_) (λcdv A outer s H vs Q E hr h=>?_)
 ·obtain ⟨p,xs,rs,l,rfl,_⟩:=h
  rfl
 ·obtain ⟨p,xs,rs,l,rfl,hp,hrw,L,h60,hT,k,kx⟩:=h
  refine ⟨_,(j4 (jw 2 JG.nd (je c_lanes (hr.mono ⋯) rfl (j0 (pv 0) j2)))
   (j4 (qi (xn (zi qJ uy j6 (pv 1) (jd (jm K) rfl nb.b_len PySem.boot_len (j0 (pv 2) j2)))) (j9 (xy PySem.F.excBase_ValueError x_NoLane e_NoLane rfl zk rfl (j0 qh j2))) jA)
   (j9 (ji (js (jh K) (pv 2) (pv 1) (λ_ _=>rfl)))))),?_⟩
  left
  refine ⟨p,xs,rs,rfl,hp,hrw,L,h60,hT,λo H1 out ws ho ho1 hw hR X1 T1=>?_⟩
  have hlen:out.length=ws.length:=hw.length
  have hws:(ws.length:Int)=((jq rs).length:Int):=by rw [hR.length]
  left
  refine qT (λh0=>?_) (λh0=>?_)
  ·left
   refine ⟨_,_,rfl,.inl (SqL.of ho1),?_⟩
   left
   refine yb (λh1=>?_) (λh1=>?_)
   ·left
    exact ⟨by show 1<=sizeLine;decide,kx H1 (.inr ()) X1 T1⟩
   ·have hi:l.toNat<out.length:=()
    obtain ⟨wy,hwy,a,hov,ha⟩:=Paired.get hw (List.getElem?_eq_getElem hi)
    have el:l=(l.toNat:Int):=()
    left
    refine ⟨_,_,_,_,rfl,rfl,SqL.of ho1,(by rw [el];exact zJ (List.getElem?_eq_getElem hi)),?_⟩
    rw [hov]
    refine k a H1 ws l.toNat el () hR ?_ X1 T1
    rw [ha,List.getD_eq_getElem?_getD,hwy]
    rfl
  ·left
   refine yN ?_
   left
   exact ⟨by show 1<=sizeLine;decide,kx H1 (.inl ()) X1 T1⟩
def JJ (Pt C:Addr):Sp:=λvs H Q E=>∃(p:Addr) (xs:List V) (rs:List Rch) (l:Int),vs=[.ref p,.int l]/\H p=some (.lst xs)/\jZ H xs rs/\xu rs/\rs.length<=60/\(∀r∈rs,r.2.length<=100)/\qL H Pt /\
 (∀t H' ws (i:Nat),l=i->i<ws.length->qe rs ws->H t=none->H' t=some (.lst ((jb rs (ws.getD i [])).map V.int))->Ext Pt H H'->qL H' Pt->Q (.ref t) H')/\∀H',(l<0\/((jq rs).length:Int)<=l)->Ext Pt H H'->qL H' Pt->E (.ref C) none H'
theorem Z1:FnScope ["reaches","lane"] ["reaches","lane"] (j7 vt):=by walk_at "s"
theorem GK {rs:List Rch}{ws:List (List Int)}(L:xu rs) (h:qe rs ws) {a:Nat}(ha:a<ws.length):(∀r∈ws.getD a [],0<=r/\r<rs.length)/\(ws.getD a []).length<=rs.length:=by
 rw [List.getD_eq_getElem?_getD,List.getElem?_eq_getElem ha]
 obtain ⟨x,hx,e⟩:=h.mem (List.getElem_mem ha)
 show (∀r∈ws[a],_)/\ws[a].length<=_
 rw [e]
 exact ⟨ze L x (xx hx),by have:=uL L x (xx hx);have:=xx hx;omega⟩
theorem zw {l:List Int}{j:Nat}{v:V}(h:(l.map V.int)[j]? = some v):∃x,v = .int x/\l[j]? = some x:=by
 rw [List.getElem?_map] at h
 cases e:l[j]? with
 | none=>rw [e] at h;cases h
 | some y=>rw [e] at h;cases h;exact ⟨y,rfl,rfl⟩
theorem Xw {H H':Hp}{Pt a:Addr}(T:qL H Pt) (e:Ext Pt H H') (T':qL H' Pt) (n:H' a=none):H a=none:=by
 cases q:H a with
 | none=>rfl
 | some o =>
  by_cases z:a=Pt
  ·obtain ⟨ps,h⟩:=T'.ne
   rw [z,h] at n
   cases n
  ·have:=e _ _ q z
   rw [n] at this
   cases this
theorem Z8 {f Pt C:Addr}{fd:FuncData}(nb:Nb2 mg) (c_way_of:CalX P w K mg base 6 "way_of" ["reaches","lane"] (Y5 Pt C)) (F:Fun K "heights" "heights" vt f fd):FnOk P w K mg base (CX1 P w) 7 f fd ["reaches","lane"] (JJ Pt C):=by
 refine Fun.okX F Z1 (λvs H Q E h=>?_) (λcdv A outer s H vs Q E hr h=>?_)
 ·obtain ⟨p,xs,rs,l,rfl,_⟩:=h
  rfl
 ·obtain ⟨p,xs,rs,l,rfl,hp,hrw,L,h60,h100,hT,k,kx⟩:=h
  refine ⟨_,(j9 (ji (Uk (osc:=(j7 vt)) (ON:=["reaches","lane"]) (N:=["reach","height","reaches"]) (own:=2) (caps:=[0]) ⟨rfl,∅,∅,∅,rfl,∅⟩ rfl rfl rfl (uQ K (qM c_way_of (hr.mono ⋯) jQ rfl (j0 (pv 0) (j0 (pv 1) j2)))) (λ_ _ _ _ _=>(ja (i:=0) (show List.Nodup (["reach","height","reaches"]:List Str) by decide +kernel) rfl (Or.inl rfl))) (λ_ _ _ _ _=>ju) (λ_ _ _ _ _=>(uQ K (js (qo K) (js (jh K) (pv 2) (pv 0) (λ_ _=>rfl)) j6 (λ_ _=>rfl)))) (λ_ _ _ _ _=>(ja (i:=1) (show List.Nodup (["reach","height","reaches"]:List Str) by decide +kernel) rfl (Or.inl rfl))) (λ_ _ _ _ _=>ju) (λ_ _ _ _ _=>(pv 1))))),?_⟩
  obtain ⟨ps,hPt⟩:=hT.ne
  left
  refine ⟨p,xs,rs,l,rfl,hp,hrw,L,h60,hT,λt H1 ws i ei hi hR ht1 X1 T1=>?_,λH1 hbad X1 T1=>kx H1 hbad X1 T1⟩
  have hp1:=X1 _ _ hp (jo hp hPt (by walk_at "z"))
  have hrw1:jZ H1 xs rs:=hrw.keep (jj.tbl X1 hPt)
  obtain ⟨inw,lenw⟩:=GK L hR hi
  have kk:=λt H'=>k t H' ws i ei hi hR
  generalize ws.getD i []=way at *
  left
  refine ⟨⟨_,SqT.of ht1⟩,λacc hacc=>?_⟩
  refine Yr (K:=K) (a:=t) (xs:=way.map V.int) (acc:=acc) (λj σ H2=>∃x y:Option V,σ=[x,y,some (.ref p)]/\H2 acc=some (.lst ((jb rs (way.take j)).map V.int))/\Ext acc H1 H2) ?_ ?_ ?_ ?_
  ·exact ⟨none,none,rfl,j5,Ext.put⟩
  ·rintro j σ H2 hj ⟨x,y,rfl,h3,e3⟩
   exact SqT.of (e3 _ _ ht1 (j1 ht1 hacc))
  ·rintro j v σ H2 hv ⟨x,y,rfl,h3,e3⟩
   obtain ⟨r,rfl,hr'⟩:=zw hv
   have hin:=inw r (List.mem_of_getElem? hr')
   have hri:r.toNat<rs.length:=()
   obtain ⟨v,hv2,q,g,rfl,hq1,hg1⟩:=hrw1.at (List.getElem?_eq_getElem hri)
   have hp2:=e3 _ _ hp1 (j1 hp1 hacc)
   have hq:=e3 _ _ hq1 (j1 hq1 hacc)
   have gl:=wn h100 (way.take j)
   have jl:(way.take j).length<=60:=by rw [List.length_take];omega
   have hsn:=ww rs way j r hr'
   have ehs:y4 rs r.toNat=(rs[r.toNat]'hri).2:=by
    unfold y4
    rw [List.getD_eq_getElem?_getD,List.getElem?_eq_getElem hri]
    rfl
   have hl100:=h100 _ (List.getElem_mem hri)
   rw [ehs] at hsn
   generalize (rs[r.toNat]'hri).2=hs at hg1 hsn hl100
   left
   refine ⟨_,_,_,_,rfl,rfl,SqL.of hp2,(by rw [show r=((r.toNat:Nat):Int) by omega];exact zJ hv2),?_⟩
   refine ⟨_,_,_,_,rfl,rfl,SqT.of hq,rfl,?_⟩
   refine ⟨g,rfl,⟨_,SqT.of (e3 _ _ hg1 (j1 hg1 hacc))⟩,?_⟩
   refine G8 (K:=K) (a:=g) (acc:=acc) (xs:=hs.map V.int) (λn σ H4=>∃y:Option V,σ=[some (.int r),y,some (.ref p)]/\H4 acc=some (.lst ((jb rs (way.take j)++hs.take n).map V.int))/\Ext acc H1 H4) ?_ ?_ ?_ ?_
   ·exact ⟨y,rfl,by rw [List.take_zero,List.append_nil];exact h3,e3⟩
   ·rintro n σ H4 hn ⟨y,rfl,h4,e4⟩
    exact SqT.of (e4 _ _ hg1 (j1 hg1 hacc))
   ·rintro n v σ H4 hv4 ⟨y,rfl,h4,e4⟩
    obtain ⟨h,rfl,hh⟩:=zw hv4
    have hnl:=(List.getElem?_eq_some_iff.mp hh).1
    left
    refine ⟨_,h4,by rw [List.length_map,List.length_append,List.length_take];exact Nat.lt_of_lt_of_le (show _<10000 by omega) ⋯,some (.int h),rfl,?_,e4.trans Ext.put⟩
    rw [j5,List.take_add_one,hh,Option.toList_some,<- List.append_assoc,List.map_append (l₁:=jb rs (way.take j)++hs.take n)]
    rfl
   ·rintro σ H4 ⟨y,rfl,h4,e4⟩
    rw [List.length_map,List.take_length,<- hsn] at h4
    exact ⟨_,_,rfl,h4,e4⟩
  ·rintro σ H2 ⟨x,y,rfl,h3,e3⟩
   rw [List.length_map,List.take_length] at h3
   exact kk acc H2 (Xw hT X1 T1 hacc) h3 (λc o hc n=>e3 _ _ (X1 _ _ hc n) (λz=>by rw [z,Xw hT X1 T1 hacc] at hc;cases hc)) (T1.extN hacc e3)
def wM (va cy sl ye le:Addr):List (Str×V):=jp "leaps" (.ref le) (jp "years" (.ref ye) (jp "slopes" (.ref sl) (jp "cycle" (.ref cy) (jp "valley" (.ref va) []))))
theorem vL (va cy sl ye le:Addr):(wM va cy sl ye le).lookup ("cycle" : Str)=some (.ref cy):=by
 unfold wM
 rw [jy,if_neg ∅,jy,if_neg ∅,jy,if_neg ∅,jy,if_pos rfl]
theorem zI (va cy sl ye le:Addr):(wM va cy sl ye le).lookup ("slopes" : Str)=some (.ref sl):=by
 unfold wM
 rw [jy,if_neg ∅,jy,if_neg ∅,jy,if_pos rfl]
theorem yw (va cy sl ye le:Addr):(wM va cy sl ye le).lookup ("years" : Str)=some (.ref ye):=by
 unfold wM
 rw [jy,if_neg ∅,jy,if_pos rfl]
theorem vO (va cy sl ye le:Addr):(wM va cy sl ye le).lookup ("leaps" : Str)=some (.ref le):=by
 unfold wM
 rw [jy,if_pos rfl]
theorem UJ (va cy sl ye le:Addr) {m:Str}(h1:¬m = "leaps") (h2:¬m = "years") (h3:¬m = "slopes") (h4:¬m = "cycle") (h5:¬m = "valley"):(wM va cy sl ye le).lookup m=none:=by
 unfold wM
 rw [jy,if_neg h1,jy,if_neg h2,jy,if_neg h3,jy,if_neg h4,jy,if_neg h5]
 rfl
theorem jO {va cy sl ye le:Addr}{m:Str}(h:(¬m="leaps")/\(¬m="years")/\(¬m="slopes")/\(¬m="cycle")/\¬m="valley"):(wM va cy sl ye le).lookup m=none:=UJ _ _ _ _ _ h.1 h.2.1 h.2.2.1 h.2.2.2.1 h.2.2.2.2
structure IceC (K:PySem.W.Frag) (C:Addr):Prop where
 cl:Cls K C
 nV:zu K C "valley"
 nC:zu K C "cycle"
 nS:zu K C "slopes"
 nY:zu K C "years"
 nL:zu K C "leaps"
structure IceG where
 dx:Addr
 va:Addr
 cy:Addr
 sl:Addr
 ye:Addr
 le:Addr
 xs:List V
 ys:List V
 zs:List V
 lds:List (Addr×List (Key×V))
 kvs:List (Key×V)
 rs:List Rch
 rows:List T3
 slopes:List (List Int)
structure IceAt (C:Addr) (H:Hp) (p:Addr) (g:IceG):Prop where
 ob:H p=some (.ins C g.dx (wM g.va g.cy g.sl g.ye g.le))
 va:H g.va=some (.lst g.xs)
 rs:jZ H g.xs g.rs
 cy:H g.cy=some (.lst g.ys)
 rows:jC H g.ys g.rows
 sl:H g.sl=some (.lst g.zs)
 slopes:yD H g.zs g.slopes
 ye:H g.ye=some (.dK g.kvs)
 le:H g.le=some (.lst (g.lds.map λx=>V.ref x.1))
 lds:∀x∈g.lds,H x.1=some (.dK x.2)
theorem IceAt.same {C:Addr}{H H':Hp}{p:Addr}{g:IceG}(I:IceAt C H p g) (s:jf H H'):IceAt C H' p g :=
 ⟨s _ _ I.ob,s _ _ I.va,I.rs.keep (jj.same s),s _ _ I.cy,I.rows.imp λ_ _ q=>s _ _ q,s _ _ I.sl,Paired.mapP I.slopes λ_ _ ⟨a,e,q⟩=>⟨a,e,s _ _ q⟩,s _ _ I.ye,s _ _ I.le,λx hx=>s _ _ (I.lds x hx)⟩
theorem Qh {C:Addr}{H:Hp}{p:Addr}{g:IceG}(I:IceAt C H p g) {l:Int}(h0:0<=l) (h1:l<(g.slopes.length:Int)):∃a,atI g.zs l=some (.ref a)/\H a=some (.lst ((g.slopes.getD l.toNat []).map V.int)):=by
 have hz:g.zs.length=g.slopes.length:=Paired.length I.slopes
 have hi:l.toNat<g.zs.length:=()
 obtain ⟨w,hw,a,e,ha⟩:=Paired.get I.slopes (List.getElem?_eq_getElem hi)
 refine ⟨a,?_,?_⟩
 ·rw [show l=((l.toNat:Nat):Int) by omega]
  refine zJ ?_
  rw [List.getElem?_eq_getElem hi,e]
 ·rw [ha,List.getD_eq_getElem?_getD,hw]
  rfl
theorem Go {l:List Int}{n:Nat}(h:n<l.length):(l.map V.int)[n]? = some (V.int (l.getD n 0)):=by
 rw [List.getElem?_map,List.getD_eq_getElem?_getD,List.getElem?_eq_getElem h]
 rfl
theorem Vn:FnScope ["self"] ["self"] (j7 gf):=by walk_at "s"
def ZL (C:Addr):Sp:=λvs H Q _=>∃(p:Addr) (g:IceG),vs=[.ref p]/\IceAt C H p g/\∀l H',H l=none->H' l=some (.lst g.ys)->jf H H'->Q (.ref l) H'
theorem Qf:FnScope ["self"] ["self"] (j7 yS):=by walk_at "s"
theorem Qu {f C:Addr}{fd:FuncData}(nb:Nb2 mg) (T:IceC K C) (F:Fun K "rows" "Ice.rows" yS f fd):FnOk P w K mg base CX0 1 f fd ["self"] (ZL C):=by
 refine F.ok Qf (λvs H Q E h=>?_) (λcdv A outer s H vs Q E hr h=>?_)
 ·obtain ⟨p,g,rfl,_⟩:=h
  rfl
 ·obtain ⟨p,g,rfl,I,k⟩:=h
  refine ⟨_,(j9 (ji (qt (qw K) rfl nb.b_list PyProof.Rows.boot_list (j0 (qO K (pv 0)) j2)))),?_⟩
  left
  refine ⟨p,C,g.dx,_,_,rfl,I.ob,T.cl,T.nC,vL _ _ _ _ _,?_⟩
  left
  exact ⟨_,_,rfl,.inl (SqL.of I.cy),λl H1 hl hl1 s1=>k l H1 hl hl1 s1⟩
def qW (C CN:Addr):Sp:=λvs H Q E=>∃(p:Addr) (g:IceG) (l:Int),vs=[.ref p,.int l]/\IceAt C H p g/\(0<=l->l<(g.slopes.length:Int)->Q .non H)/\(l<0\/(g.slopes.length:Int)<=l->E (.ref CN) none H)
theorem vY:FnScope ["self","lane"] ["self","lane"] (j7 xH):=by walk_at "s"
theorem vH {f C CN:Addr}{fd:FuncData}(nb:Nb2 mg) (T:IceC K C) (e_NoLane:mg "NoLane" = some (.ref CN)) (x_NoLane:PySem.W.excIn K CN [.type "ValueError",.type "Exception",.type "BaseException",.type "object"] "ValueError.__new__" = true) (F:Fun K "check_lane" "Ice.check_lane" xH f fd):FnOk P w K mg base (CX1 P w) 1 f fd ["self","lane"] (qW C CN):=by
 refine Fun.okX F vY (λvs H Q E h=>?_) (λcdv A outer s H vs Q E hr h=>?_)
 ·obtain ⟨p,g,l,rfl,_⟩:=h
  rfl
 ·obtain ⟨p,g,l,rfl,I,k,kx⟩:=h
  have hz:g.zs.length=g.slopes.length:=Paired.length I.slopes
  refine ⟨_,(j9 (qi (xn (zi qJ uy j6 (pv 1) (jd (jm K) rfl nb.b_len PySem.boot_len (j0 (qO K (pv 0)) j2)))) (j9 (xy PySem.F.excBase_ValueError x_NoLane e_NoLane rfl zk rfl (j0 qh j2))) jA)),?_⟩
  left
  refine qT (λh0=>?_) (λh0=>?_)
  ·left
   refine ⟨p,C,g.dx,_,_,rfl,I.ob,T.cl,T.nS,zI _ _ _ _ _,?_⟩
   left
   refine ⟨_,_,rfl,.inl (SqL.of I.sl),?_⟩
   rw [hz]
   left
   refine yb (λh1=>?_) (λh1=>?_)
   ·left
    exact ⟨by show 1<=sizeLine;decide,kx (.inr ())⟩
   ·left
    exact k h0 h1
  ·left
   refine yN ?_
   left
   exact ⟨by show 1<=sizeLine;decide,kx (.inl ())⟩
def yp (C CN CP:Addr):Sp:=λvs H Q E=>∃(p:Addr) (g:IceG) (l n:Int),vs=[.ref p,.int l,.int n]/\IceAt C H p g/\(0<=l->l<(g.slopes.length:Int)->0<=n->n<((g.slopes.getD l.toNat []).length:Int)->Q .non H) /\
 (l<0\/(g.slopes.length:Int)<=l->E (.ref CN) none H)/\(0<=l->l<(g.slopes.length:Int)->(n<0\/((g.slopes.getD l.toNat []).length:Int)<=n)->E (.ref CP) none H)
theorem vz:FnScope ["self","lane","place"] ["self","lane","place"] (j7 xo):=by walk_at "s"
theorem vA {f C CN CP:Addr}{fd:FuncData}(nb:Nb2 mg) (T:IceC K C) (e_NoPlace:mg "NoPlace" = some (.ref CP)) (x_NoPlace:PySem.W.excIn K CP [.type "ValueError",.type "Exception",.type "BaseException",.type "object"] "ValueError.__new__" = true) (cl_Ice:Cls K C) (c_Ice__check_lane:CalMX P w K mg base 1 C "check_lane" ["self","lane"] (qW C CN)) (F:Fun K "check_place" "Ice.check_place" xo f fd):FnOk P w K mg base (CX1 P w) 2 f fd ["self","lane","place"] (yp C CN CP):=by
 refine Fun.okX F vz (λvs H Q E h=>?_) (λcdv A outer s H vs Q E hr h=>?_)
 ·obtain ⟨p,g,l,n,rfl,_⟩:=h
  rfl
 ·obtain ⟨p,g,l,n,rfl,I,k,kx,ky⟩:=h
  refine ⟨_,(j4 (jN (xh (pv 0) cl_Ice c_Ice__check_lane (hr.mono ⋯) jQ (j0 (pv 1) j2)))
   (j9 (qi (xn (zi qJ uy j6 (pv 2) (jd (jm K) rfl nb.b_len PySem.boot_len (j0 (js (jh K) (qO K (pv 0)) (pv 1) (λ_ _=>rfl)) j2)))) (j9 (xy PySem.F.excBase_ValueError x_NoPlace e_NoPlace rfl zk rfl (j0 qh j2))) jA))),?_⟩
  left
  refine ⟨p,g.dx,_,rfl,I.ob,jO ∅,?_⟩
  left
  refine ⟨p,g,l,rfl,I,λl0 l1=>?_,λhb=>kx hb⟩
  obtain ⟨a,ha,hla⟩:=Qh I l0 l1
  left
  refine qT (λh0=>?_) (λh0=>?_)
  ·left
   refine ⟨p,C,g.dx,_,_,rfl,I.ob,T.cl,T.nS,zI _ _ _ _ _,?_⟩
   left
   refine ⟨_,_,_,_,rfl,rfl,SqL.of I.sl,ha,?_⟩
   left
   refine ⟨_,_,rfl,.inl (SqL.of hla),?_⟩
   rw [List.length_map]
   left
   refine yb (λh1=>?_) (λh1=>?_)
   ·left
    exact ⟨by show 1<=sizeLine;decide,ky l0 l1 (.inr ())⟩
   ·left
    exact k l0 l1 h0 h1
  ·left
   refine yN ?_
   left
   exact ⟨by show 1<=sizeLine;decide,ky l0 l1 (.inl ())⟩
def y8 (C CN:Addr):Sp:=λvs H Q E=>∃(p:Addr) (g:IceG) (l:Int),vs=[.ref p,.int l]/\IceAt C H p g/\(0<=l->l<(g.slopes.length:Int)->Q (.int ((g.slopes.getD l.toNat []).length:Int)) H)/\(l<0\/(g.slopes.length:Int)<=l->E (.ref CN) none H)
theorem kO:FnScope ["self","lane"] ["self","lane"] (j7 zY):=by walk_at "s"
theorem gP {f C CN:Addr}{fd:FuncData}(nb:Nb2 mg) (T:IceC K C) (cl_Ice:Cls K C) (c_Ice__check_lane:CalMX P w K mg base 1 C "check_lane" ["self","lane"] (qW C CN)) (F:Fun K "length" "Ice.length" zY f fd):FnOk P w K mg base (CX1 P w) 2 f fd ["self","lane"] (y8 C CN):=by
 refine Fun.okX F kO (λvs H Q E h=>?_) (λcdv A outer s H vs Q E hr h=>?_)
 ·obtain ⟨p,g,l,rfl,_⟩:=h
  rfl
 ·obtain ⟨p,g,l,rfl,I,k,kx⟩:=h
  refine ⟨_,(j4 (jN (xh (pv 0) cl_Ice c_Ice__check_lane (hr.mono ⋯) jQ (j0 (pv 1) j2)))
   (j9 (ji (jd (jm K) rfl nb.b_len PySem.boot_len (j0 (js (jh K) (qO K (pv 0)) (pv 1) (λ_ _=>rfl)) j2))))),?_⟩
  left
  refine ⟨p,g.dx,_,rfl,I.ob,jO ∅,?_⟩
  left
  refine ⟨p,g,l,rfl,I,λl0 l1=>?_,λhb=>kx hb⟩
  obtain ⟨a,ha,hla⟩:=Qh I l0 l1
  left
  refine ⟨p,C,g.dx,_,_,rfl,I.ob,T.cl,T.nS,zI _ _ _ _ _,?_⟩
  left
  refine ⟨_,_,_,_,rfl,rfl,SqL.of I.sl,ha,?_⟩
  left
  refine ⟨_,_,rfl,.inl (SqL.of hla),?_⟩
  rw [List.length_map]
  exact k l0 l1
def wc (C CN CP:Addr):Sp:=λvs H Q E=>∃(p:Addr) (g:IceG) (l n:Int),vs=[.ref p,.int l,.int n]/\IceAt C H p g/\(0<=l->l<(g.slopes.length:Int)->0<=n->n<((g.slopes.getD l.toNat []).length:Int)->Q (.int ((g.slopes.getD l.toNat []).getD n.toNat 0)) H) /\
 (l<0\/(g.slopes.length:Int)<=l->E (.ref CN) none H)/\(0<=l->l<(g.slopes.length:Int)->(n<0\/((g.slopes.getD l.toNat []).length:Int)<=n)->E (.ref CP) none H)
theorem kZ:FnScope ["self","lane","place"] ["self","lane","place"] (j7 zS):=by walk_at "s"
theorem kQ {f C CN CP:Addr}{fd:FuncData}(nb:Nb2 mg) (T:IceC K C) (cl_Ice:Cls K C) (c_Ice__check_place:CalMX P w K mg base 2 C "check_place" ["self","lane","place"] (yp C CN CP)) (F:Fun K "height" "Ice.height" zS f fd):FnOk P w K mg base (CX1 P w) 3 f fd ["self","lane","place"] (wc C CN CP):=by
 refine Fun.okX F kZ (λvs H Q E h=>?_) (λcdv A outer s H vs Q E hr h=>?_)
 ·obtain ⟨p,g,l,n,rfl,_⟩:=h
  rfl
 ·obtain ⟨p,g,l,n,rfl,I,k,kx,ky⟩:=h
  refine ⟨_,(j4 (jN (xh (pv 0) cl_Ice c_Ice__check_place (hr.mono ⋯) jQ (j0 (pv 1) (j0 (pv 2) j2))))
   (j9 (ji (js (jh K) (js (jh K) (qO K (pv 0)) (pv 1) (λ_ _=>rfl)) (pv 2) (λ_ _=>rfl))))),?_⟩
  left
  refine ⟨p,g.dx,_,rfl,I.ob,jO ∅,?_⟩
  left
  refine ⟨p,g,l,n,rfl,I,λl0 l1 n0 n1=>?_,λhb=>kx hb,λl0 l1 hb=>ky l0 l1 hb⟩
  obtain ⟨a,ha,hla⟩:=Qh I l0 l1
  left
  refine ⟨p,C,g.dx,_,_,rfl,I.ob,T.cl,T.nS,zI _ _ _ _ _,?_⟩
  left
  refine ⟨_,_,_,_,rfl,rfl,SqL.of I.sl,ha,?_⟩
  left
  refine ⟨_,_,_,_,rfl,rfl,SqL.of hla,(by rw [show n=((n.toNat:Nat):Int) by omega];exact zJ (Go ())),?_⟩
  exact k l0 l1 n0 n1
def um (CR:Addr):Sp:=λvs H Q E=>∃(p:Addr) (xs:List V) (ts:List T3),vs=[.ref p]/\H p=some (.lst xs)/\jC H xs ts/\ts.length<=1000/\(∀H',gr ts=true->jf H H'->Q .non H')/\∀H',gr ts=false->jf H H'->E (.ref CR) none H'
theorem gW:FnScope ["rows"] ["rows"] (j7 y3):=by walk_at "s"
theorem kz {f CR:Addr}{fd:FuncData}(nb:Nb2 mg) (e_BadRound:mg "BadRound" = some (.ref CR)) (x_BadRound:PySem.W.excIn K CR [.type "ValueError",.type "Exception",.type "BaseException",.type "object"] "ValueError.__new__" = true) (c_is_round:Cal P w K mg base 2 "is_round" ["rows"] (ZJ K)) (F:Fun K "check_round" "check_round" y3 f fd):FnOk P w K mg base (CX1 P w) 3 f fd ["rows"] (um CR):=by
 refine Fun.okX F gW (λvs H Q E h=>?_) (λcdv A outer s H vs Q E hr h=>?_)
 ·obtain ⟨p,xs,ts,rfl,_⟩:=h
  rfl
 ·obtain ⟨p,xs,ts,rfl,hp,hr3,h1000,k,kx⟩:=h
  refine ⟨_,(j9 (qi (xn (zR (je c_is_round (hr.mono ⋯) rfl (j0 (pv 0) j2)))) (j9 (xy PySem.F.excBase_ValueError x_BadRound e_BadRound rfl zk rfl (j0 qh j2))) jA)),?_⟩
  left
  refine ⟨p,xs,ts,rfl,hp,hr3,h1000,λH1 s1=>?_⟩
  cases e:gr ts with
  | true =>
   left
   exact k H1 e s1
  | false =>
   left
   exact ⟨by show 1<=sizeLine;decide,kx H1 e s1⟩
def Kp (p Pt:Addr) (H H':Hp):Prop:=∀c o,H c=some o->c≠p->c≠Pt->H' c=some o
theorem Kp.trans {p Pt:Addr}{H H1 H2:Hp}(a:Kp p Pt H H1) (b:Kp p Pt H1 H2):Kp p Pt H H2:=λc o h n m=>b c o (a c o h n m) n m
theorem Kp.of_same {p Pt:Addr}{H H':Hp}(s:jf H H'):Kp p Pt H H':=λc o h _ _=>s c o h
theorem Kp.of_ext {p Pt:Addr}{H H':Hp}(s:Ext Pt H H'):Kp p Pt H H':=λc o h _ m=>s c o h m
theorem Kp.put {p Pt:Addr}{H:Hp}{o:HO}:Kp p Pt H (upd H p o):=λc _ h n _=>by rw [j8 n];exact h
theorem Kp.at {p Pt a:Addr}{H H':Hp}{o u:HO}{ps:Array Value}(k:Kp p Pt H H') (h:H a=some o) (hp:H p=some u) (hPt:H Pt=some (.tbl ps)) (n:o≠u) (m:o≠.tbl ps):H' a=some o:=k _ _ h (jo h hp n) (jo h hPt m)
theorem Kp.free {p Pt a:Addr}{H H':Hp}{u u':HO}(k:Kp p Pt H H') (h:H' a=none) (hp:H' p=some u) (hPt:H' Pt=some u'):H a=none:=by
 cases e:H a with
 | none=>rfl
 | some o =>
  have:=k a o e (λz=>by rw [z,hp] at h;cases h) (λz=>by rw [z,hPt] at h;cases h)
  rw [h] at this
  cases this
theorem ut {H:Hp}{Pt p C dx:Addr}{fs:List (Str×V)}{o:HO}(T:qL H Pt) (hp:H p=some (.ins C dx fs)):qL (upd H p o) Pt:=by
 rcases T with h | ⟨c,h,h'⟩
 ·exact .inl (by rw [j8 (jo h hp (by walk_at "z"))];exact h)
 ·exact .inr ⟨c,by rw [j8 (jo h hp (by walk_at "z"))];exact h,by rw [j8 (jo h' hp (by walk_at "z"))];exact h'⟩
theorem jj.kp {p Pt C dx:Addr}{H H':Hp}{fs:List (Str×V)}{ps:Array Value}(k:Kp p Pt H H') (hp:H p=some (.ins C dx fs)) (hPt:H Pt=some (.tbl ps)):jj H H':=λ_ _ h=>k.at h hp hPt (by walk_at "z") (by walk_at "z")
theorem pm {α β:Type}{F:α->β->Prop}:∀{l₁:List α}{l₂:List β},Paired F l₁ l₂->∀v∈l₁,∃w,F v w
 | _,_,.nil,v,h=>by cases h
 | _,_,.cons q r,v,h=>by
  rcases List.mem_cons.mp h with rfl | z
  ·exact ⟨_,q⟩
  ·exact pm r v z
theorem pmE {H H0:Hp}{a0:Addr}{zs:List V}{rows:List (List Int)}(r:Paired (λv (w:List Int)=>∃a,v=V.ref a/\H a=some (.lst (w.map V.int))/\H0 a=none/\a≠a0) zs rows):∀a,V.ref a∈zs->H0 a=none/\a≠a0:=λa h=>by
 obtain ⟨w,b,e,_,z⟩:=pm r _ h
 cases e
 exact z
structure IceNew (C Pt:Addr) (H H':Hp) (p:Addr) (g:IceG):Prop where
 at_:IceAt C H' p g
 keep:∀c o,H c=some o->c≠p->c≠Pt->H' c=some o
 va:H g.va=none
 cy:H g.cy=none
 sl:H g.sl=none
 ye:H g.ye=none
 le:H g.le=none
 zs:∀a,V.ref a∈g.zs->H a=none
 kvs:g.kvs=[]
 lds:∀x∈g.lds,H x.1=none/\x.2=[]
 ll:g.lds.length=g.slopes.length
 nd:(g.lds.map (·.1)).Nodup
 ny:∀x∈g.lds,x.1≠g.ye
 sl2:∃ws,qe g.rs ws/\g.slopes=ws.map (jb g.rs)
def Ut (C CV CR Pt:Addr):Sp:=λvs H Q E=>∃(p dx r q:Addr) (xs ys:List V) (rs:List Rch) (ts:List T3),vs=[.ref p,.ref r,.ref q]/\H p=some (.ins C dx [])/\H r=some (.lst xs)/\jZ H xs rs/\H q=some (.lst ys)/\jC H ys ts/\(∀r∈rs,r.2.length<=100)/\rs.length<=60/\ts.length<=1000/\qL H Pt /\
 (∀H' g,zE rs=true->gr ts=true->IceNew C Pt H H' p g->g.rs=rs->g.rows=ts->g.xs=xs->g.ys=ys->qL H' Pt->Q .non H') /\
 (∀H',zE rs=false->Ext Pt H H'->qL H' Pt->E (.ref CV) none H')/\(∀H',zE rs=true->gr ts=false->Ext Pt H H'->qL H' Pt->E (.ref CR) none H')
theorem wb:FnScope ["self","reaches","rows"] ["self","reaches","rows"] (j7 qP):=by walk_at "s"
theorem w5 {f C CV CR CN Pt:Addr}{fd:FuncData}(nb:Nb2 mg) (T:IceC K C) (e_BadValley:mg "BadValley" = some (.ref CV)) (x_BadValley:PySem.W.excIn K CV [.type "ValueError",.type "Exception",.type "BaseException",.type "object"] "ValueError.__new__" = true)
  (c_is_valley:Cal P w K mg base 6 "is_valley" ["reaches"] (XC K Pt)) (c_check_round:CalX P w K mg base 3 "check_round" ["rows"] (um CR)) (c_lanes:Cal P w K mg base 5 "lanes" ["reaches"] (uU K Pt)) (c_heights:Cal P w K mg base 7 "heights" ["reaches","lane"] (λvs H Q _=>JJ Pt CN vs H Q E0))
  (F:Fun K "__init__" "Ice.__init__" qP f fd):FnOk P w K mg base (CX1 P w) 8 f fd ["self","reaches","rows"] (Ut C CV CR Pt):=by
 refine Fun.okX F wb (λvs H Q E h=>?_) (λcdv A outer s H vs Q E hr h=>?_)
 ·obtain ⟨p,dx,r,q,xs,ys,rs,ts,rfl,_⟩:=h
  rfl
 ·obtain ⟨p,dx,r,q,xs,ys,rs,ts,rfl,hp,hr',hrw,hq,hr3,h100,h60,h1000,hT,k,kv,kr⟩:=h
  obtain ⟨ps,hPt⟩:=hT.ne
  refine ⟨_,(j4 (qi (xn (zR (je c_is_valley (hr.mono ⋯) rfl (j0 (pv 1) j2)))) (j9 (xy PySem.F.excBase_ValueError x_BadValley e_BadValley rfl zk rfl (j0 qh j2))) jA)
   (j4 (jN (qM c_check_round (hr.mono ⋯) jQ rfl (j0 (pv 2) j2)))
   (j4 (uv K (pv 0) (qt (qw K) rfl nb.b_list PyProof.Rows.boot_list (j0 (pv 1) j2)))
   (j4 (uv K (pv 0) (qt (qw K) rfl nb.b_list PyProof.Rows.boot_list (j0 (pv 2) j2)))
   (j4 (uv K (pv 0) (jH (osc:=(j7 qP)) (ON:=["self","reaches","rows"]) (N:=["lane","reaches"]) (own:=1) (caps:=[1]) ⟨rfl,∅,∅,∅,rfl,∅⟩ rfl rfl rfl (qc rfl nb.b_range (j0 (jd (jm K) rfl nb.b_len PySem.boot_len (j0 (je c_lanes (hr.mono ⋯) rfl (j0 (pv 1) j2)) j2)) j2)) (λ_ _ _ _ _=>(ja (i:=0) (show List.Nodup (["lane","reaches"]:List Str) by decide +kernel) rfl (Or.inl rfl))) (λ_ _ _ _ _=>ju) (λ_ _ _ _ _=>(je c_heights (hr.mono ⋯) rfl (j0 (pv 1) (j0 (pv 0) j2))))))
   (j4 (uv K (pv 0) uo)
   (j9 (uv K (pv 0) (jH (osc:=(j7 qP)) (ON:=["self","reaches","rows"]) (N:=["slope"]) (own:=1) (caps:=[]) ⟨rfl,∅,∅,∅,rfl,∅⟩ rfl rfl rfl (jM K (qO K (pv 0))) (λ_ _ _ _ _=>(ja (i:=0) (show List.Nodup (["slope"]:List Str) by decide +kernel) rfl (Or.inl rfl))) (λ_ _ _ _ _=>ju) (λ_ _ _ _ _=>uo)))))))))),?_⟩
  left
  refine ⟨r,xs,rs,rfl,hr',hrw,h100,h60,hT,λH1 X1 T1=>?_⟩
  cases eg:zE rs with
  | false =>
   left
   exact ⟨by show 1<=sizeLine;decide,kv H1 eg X1 T1⟩
  | true =>
   have X1':∀{a:Addr} {o:HO},H a=some o->(∀ps,o≠.tbl ps)->H1 a=some o:=λ{a o} h n=>X1 _ _ h (jo h hPt (n _))
   have hp1:=X1' hp (by walk_at "w")
   have hr1:=X1' hr' (by walk_at "w")
   have hq1:=X1' hq (by walk_at "w")
   have hrw1:jZ H1 xs rs:=hrw.keep (jj.tbl X1 hPt)
   have hr31:jC H1 ys ts:=hr3.imp λa t e=>X1' e (by walk_at "w")
   left
   refine ⟨q,ys,ts,rfl,hq1,hr31,h1000,λH2 egr s2=>?_,λH2 egr s2=>kr H2 eg egr (X1.trans (Ext.of_same s2)) (T1.same s2)⟩
   have L:xu rs:=qk (by unfold zE at eg;rw [Bool.and_eq_true,Bool.and_eq_true] at eg;exact eg.2.1)
   have k2:Kp p Pt H H2:=(Kp.of_ext X1).trans (Kp.of_same s2)
   have hp2:=s2 _ _ hp1
   have T2:=T1.same s2
   left
   refine ⟨_,_,rfl,.inl (SqL.of (s2 _ _ hr1)),λva H3 va2 va3 s3=>?_⟩
   have hp3:=s3 _ _ hp2
   have T3':=T2.same s3
   have k3:=k2.trans (Kp.of_same s3)
   obtain ⟨_,hPt2⟩:=T2.ne
   have va0:=k2.free va2 hp2 hPt2
   left
   refine ⟨p,C,dx,_,rfl,hp3,T.cl,T.nV,⋯,?_⟩
   have Ta:qL (upd H3 p (HO.ins C dx (jp "valley" (V.ref va) []))) Pt:=ut T3' hp3
   have ka:=k3.trans (Kp.put (p:=p) (Pt:=Pt) (o:=HO.ins C dx (jp "valley" (V.ref va) [])))
   have pa:upd H3 p (HO.ins C dx (jp "valley" (V.ref va) [])) p=some (HO.ins C dx (jp "valley" (V.ref va) [])):=j5
   have vaa:upd H3 p (HO.ins C dx (jp "valley" (V.ref va) [])) va=some (HO.lst xs):=by rw [j8 (j1 hp2 va2).symm];exact va3
   clear k2 k3 hp1 hr1 hq1 hrw1 hr31 X1' X1 T1 s2 hp2 T2 s3 hp3 T3' va3 va2 hPt2
   generalize upd H3 p (HO.ins C dx (jp "valley" (V.ref va) []))=Ha at *
   obtain ⟨_,hPta⟩:=Ta.ne
   have vaP:va≠Pt:=jo vaa hPta (by walk_at "z")
   have vap:va≠p:=jo vaa pa (by walk_at "z")
   left
   refine ⟨_,_,rfl,.inl (SqL.of (ka.at hq hp hPt (by walk_at "z") (by walk_at "z"))),λcy H4 cya cy4 s4=>?_⟩
   have hp4:=s4 _ _ pa
   have T4:=Ta.same s4
   have cy0:=ka.free cya pa hPta
   left
   refine ⟨p,C,dx,_,rfl,hp4,T.cl,T.nC,Nat.lt_of_le_of_lt (jX _ _ _) ⋯,?_⟩
   have kb:=(ka.trans (Kp.of_same s4)).trans (Kp.put (p:=p) (Pt:=Pt) (o:=HO.ins C dx (jp "cycle" (V.ref cy) (jp "valley" (V.ref va) []))))
   have Tb:qL (upd H4 p (HO.ins C dx (jp "cycle" (V.ref cy) (jp "valley" (V.ref va) [])))) Pt:=ut T4 hp4
   have pb:upd H4 p (HO.ins C dx (jp "cycle" (V.ref cy) (jp "valley" (V.ref va) []))) p=some (HO.ins C dx (jp "cycle" (V.ref cy) (jp "valley" (V.ref va) []))):=j5
   have vab:upd H4 p (HO.ins C dx (jp "cycle" (V.ref cy) (jp "valley" (V.ref va) []))) va=some (HO.lst xs):=by rw [j8 vap];exact s4 _ _ vaa
   have cyb:upd H4 p (HO.ins C dx (jp "cycle" (V.ref cy) (jp "valley" (V.ref va) []))) cy=some (HO.lst ys):=by rw [j8 (j1 pa cya).symm];exact cy4
   clear ka Ta pa vaa s4 hp4 T4 cya cy4 hPta
   generalize upd H4 p (HO.ins C dx (jp "cycle" (V.ref cy) (jp "valley" (V.ref va) [])))=Hb at *
   obtain ⟨_,hPtb⟩:=Tb.ne
   have cyP:cy≠Pt:=jo cyb hPtb (by walk_at "z")
   have cyp:cy≠p:=jo cyb pb (by walk_at "z")
   have pP:p≠Pt:=jo pb hPtb (by walk_at "z")
   left
   refine ⟨r,xs,rs,rfl,kb.at hr' hp hPt (by walk_at "z") (by walk_at "z"),hrw.keep (jj.kp kb hp hPt),L,h60,Tb,λo H5 out ws ho ho5 hw hR X5 T5=>?_⟩
   left
   refine ⟨_,_,rfl,.inl (SqL.of ho5),?_⟩
   have hlen:out.length=ws.length:=hw.length
   have hws:ws.length<=60:=by
    rw [hR.length]
    unfold jq
    exact Nat.le_trans (List.length_filter_le _ _) (by rw [List.length_range];exact h60)
   refine ⟨(out.length:Int),rfl,(),(),λacc hacc=>?_⟩
   obtain ⟨_,hPt5⟩:=T5.ne
   have kb5:Kp p Pt H H5:=kb.trans (Kp.of_ext X5)
   have hp5:=X5 _ _ pb pP
   have va5:=X5 _ _ vab vaP
   have cy5:=X5 _ _ cyb cyP
   have hr5:H5 r=some (.lst xs):=kb5.at hr' hp hPt (by walk_at "z") (by walk_at "z")
   have hrw5:jZ H5 xs rs:=hrw.keep (jj.kp kb5 hp hPt)
   have accP:Pt≠acc:=j1 hPt5 hacc
   refine qB (lo:=0) (n:=((out.length:Int)).toNat) (acc:=acc) (λi σ H6=>∃(x:Option V) (zs:List V),σ=[x,some (.ref r)]/\H6 acc=some (.lst zs)/\zs.length=i/\Paired (λv (w:List Int)=>∃a,v=V.ref a/\H6 a=some (.lst (w.map V.int))/\H5 a=none/\a≠acc) zs ((ws.take i).map (jb rs))/\Kp acc Pt H5 H6/\qL H6 Pt) ?_ ?_ ?_
   ·exact ⟨none,[],rfl,j5,rfl,.nil,Kp.put,T5.extN hacc Ext.put⟩
   ·rintro i σ H6 hi ⟨x,zs,rfl,h6,hz,r6,k6,T6⟩
    obtain ⟨_,hPt6⟩:=T6.ne
    have iw:i<ws.length:=()
    left
    refine ⟨r,xs,rs,_,rfl,k6 _ _ hr5 (j1 hr5 hacc) (jo hr5 hPt5 (by walk_at "z")),hrw5.keep (λa o h=>k6 _ _ h (j1 h hacc) (jo h hPt5 (by walk_at "z"))),L,h60,h100,T6,λt H7 ws' i' ei hi' hR' ht ht7 X7 T7=>?_,λH' hb _ _=>?_⟩
    ·obtain rfl:=hR.unique hR'
     obtain rfl:i'=i:=()
     have h7:=X7 _ _ h6 accP.symm
     have ta:t≠acc:=(j1 h6 ht).symm
     have tP:t≠Pt:=(j1 hPt6 ht).symm
     refine ⟨zs,h7,jc (),some (.int (0+(i':Int))),zs++[.ref t],rfl,j5,by rw [List.length_append,hz];rfl,?_,?_,?_⟩
     ·rw [qI (jb rs) ws i' (ws.getD i' []) (by rw [List.getD_eq_getElem?_getD,List.getElem?_eq_getElem iw];rfl)]
      refine Paired.snoc (Paired.mapP r6 λv wy ⟨a,e,ha,h0,na⟩=>⟨a,e,?_,h0,na⟩) ⟨t,rfl,by rw [j8 ta];exact ht7,k6.free ht h6 hPt6,ta⟩
      rw [j8 na]
      exact X7 _ _ ha (jo ha hPt6 (by walk_at "z"))
     ·exact (k6.trans (Kp.of_ext X7)).trans Kp.put
     ·exact T7.ext h7 Ext.put
    ·have:=hR.length
     exact absurd hb ()
   ·rintro σ H6 ⟨x,zs,rfl,h6,hz,r6,k6,T6⟩
    rw [Int.toNat_natCast,hlen,List.take_length] at r6
    have f6:=pmE r6
    have hp6:=k6 _ _ hp5 (j1 hp5 hacc) pP
    have kc:Kp p Pt H (upd H6 p (HO.ins C dx (jp "slopes" (V.ref acc) (jp "cycle" (V.ref cy) (jp "valley" (V.ref va) []))))):=λc o h n m=>by
     rw [j8 n]
     have:=kb5 c o h n m
     exact k6 _ _ this (j1 this hacc) m
    have acp:acc≠p:=(j1 hp5 hacc).symm
    have acc0:=kb5.free hacc hp5 hPt5
    have zs0:∀a,V.ref a∈zs->H a=none:=λa z=>kb5.free (f6 a z).1 hp5 hPt5
    left
    refine ⟨p,C,dx,_,rfl,hp6,T.cl,T.nS,Nat.lt_of_le_of_lt (Nat.le_trans (jX _ _ _) (Nat.succ_le_succ (jX _ _ _))) ⋯,?_⟩
    have Tc:qL (upd H6 p (HO.ins C dx (jp "slopes" (V.ref acc) (jp "cycle" (V.ref cy) (jp "valley" (V.ref va) []))))) Pt:=ut T6 hp6
    have pc:upd H6 p (HO.ins C dx (jp "slopes" (V.ref acc) (jp "cycle" (V.ref cy) (jp "valley" (V.ref va) [])))) p=some (HO.ins C dx (jp "slopes" (V.ref acc) (jp "cycle" (V.ref cy) (jp "valley" (V.ref va) [])))):=j5
    have vac:upd H6 p (HO.ins C dx (jp "slopes" (V.ref acc) (jp "cycle" (V.ref cy) (jp "valley" (V.ref va) [])))) va=some (HO.lst xs):=by rw [j8 vap];exact k6 _ _ va5 (j1 va5 hacc) vaP
    have cyc:upd H6 p (HO.ins C dx (jp "slopes" (V.ref acc) (jp "cycle" (V.ref cy) (jp "valley" (V.ref va) [])))) cy=some (HO.lst ys):=by rw [j8 cyp];exact k6 _ _ cy5 (j1 cy5 hacc) cyP
    have slc:upd H6 p (HO.ins C dx (jp "slopes" (V.ref acc) (jp "cycle" (V.ref cy) (jp "valley" (V.ref va) [])))) acc=some (HO.lst zs):=by rw [j8 acp];exact h6
    have slsc:yD (upd H6 p (HO.ins C dx (jp "slopes" (V.ref acc) (jp "cycle" (V.ref cy) (jp "valley" (V.ref va) []))))) zs (ws.map (jb rs)):=Paired.mapP r6 λv wy ⟨a,e,ha,h0,na⟩=>⟨a,e,by rw [j8 (j1 hp5 h0).symm];exact ha⟩
    clear r6 f6 k6 T6 h6 hp6 kb5 hp5 va5 cy5 hr5 hrw5 X5 T5 kb Tb pb vab cyb hPtb accP hacc ho ho5 hw hPt5
    generalize upd H6 p (HO.ins C dx (jp "slopes" (V.ref acc) (jp "cycle" (V.ref cy) (jp "valley" (V.ref va) []))))=Hc at *
    left
    intro ye hye
    obtain ⟨_,hPtc⟩:=Tc.ne
    have ye0:=kc.free hye pc hPtc
    have yep:ye≠p:=(j1 pc hye).symm
    have s9:jf Hc (upd Hc ye (.dK [])):=jf.new hye
    left
    refine ⟨p,C,dx,_,rfl,s9 _ _ pc,T.cl,T.nY,Nat.lt_of_le_of_lt (Nat.le_trans (jX _ _ _) (Nat.succ_le_succ (Nat.le_trans (jX _ _ _) (Nat.succ_le_succ (jX _ _ _))))) ⋯,?_⟩
    have d_of:∀c o,Hc c=some o->c≠p->(upd (upd Hc ye (HO.dK [])) p (HO.ins C dx (jp "years" (V.ref ye) (jp "slopes" (V.ref acc) (jp "cycle" (V.ref cy) (jp "valley" (V.ref va) [])))))) c=some o:=λc o h n=>by rw [j8 n];exact s9 _ _ h
    have kd:Kp p Pt H (upd (upd Hc ye (HO.dK [])) p (HO.ins C dx (jp "years" (V.ref ye) (jp "slopes" (V.ref acc) (jp "cycle" (V.ref cy) (jp "valley" (V.ref va) [])))))):=(kc.trans (Kp.of_same s9)).trans Kp.put
    have Td:qL (upd (upd Hc ye (HO.dK [])) p (HO.ins C dx (jp "years" (V.ref ye) (jp "slopes" (V.ref acc) (jp "cycle" (V.ref cy) (jp "valley" (V.ref va) [])))))) Pt:=ut (Tc.same s9) (s9 _ _ pc)
    have pd:(upd (upd Hc ye (HO.dK [])) p (HO.ins C dx (jp "years" (V.ref ye) (jp "slopes" (V.ref acc) (jp "cycle" (V.ref cy) (jp "valley" (V.ref va) [])))))) p=some (HO.ins C dx (jp "years" (V.ref ye) (jp "slopes" (V.ref acc) (jp "cycle" (V.ref cy) (jp "valley" (V.ref va) []))))):=j5
    have vad:=d_of _ _ vac vap
    have cyd:=d_of _ _ cyc cyp
    have sld:=d_of _ _ slc acp
    have yed:(upd (upd Hc ye (HO.dK [])) p (HO.ins C dx (jp "years" (V.ref ye) (jp "slopes" (V.ref acc) (jp "cycle" (V.ref cy) (jp "valley" (V.ref va) [])))))) ye=some (.dK []):=by rw [j8 yep];exact j5
    have slsd:yD (upd (upd Hc ye (HO.dK [])) p (HO.ins C dx (jp "years" (V.ref ye) (jp "slopes" (V.ref acc) (jp "cycle" (V.ref cy) (jp "valley" (V.ref va) [])))))) zs (ws.map (jb rs)):=Paired.mapP slsc λv wy ⟨a,e,ha⟩=>⟨a,e,d_of _ _ ha (jo ha pc (by walk_at "z"))⟩
    clear d_of kc Tc pc vac cyc slc slsc hye hPtc s9
    generalize (upd (upd Hc ye (HO.dK [])) p (HO.ins C dx (jp "years" (V.ref ye) (jp "slopes" (V.ref acc) (jp "cycle" (V.ref cy) (jp "valley" (V.ref va) []))))))=Hd at *
    obtain ⟨_,hPtd⟩:=Td.ne
    left
    refine ⟨p,C,dx,_,_,rfl,pd,T.cl,T.nS,(by rw [jy,if_neg ∅,jy,if_pos rfl]),?_⟩
    left
    refine ⟨⟨_,SqL.of sld⟩,λle hle=>?_⟩
    have lep:le≠p:=(j1 pd hle).symm
    have le0:=kd.free hle pd hPtd
    have zl:zs.length<=60:=()
    refine jP (K:=K) (a:=acc) (xs:=zs) (acc:=le) (λi σ He=>∃(x:Option V) (lds:List (Addr×List (Key×V))),σ=[x]/\He le=some (.lst (lds.map λx=>V.ref x.1))/\lds.length=i/\(∀x∈lds,He x.1=some (.dK x.2)/\x.2=[]/\Hd x.1=none/\x.1≠le)/\(lds.map (·.1)).Nodup/\Ext le Hd He) ?_ ?_ ?_ ?_
    ·exact ⟨none,[],rfl,j5,rfl,(λx z=>by cases z),List.nodup_nil,Ext.put⟩
    ·rintro i σ He hi ⟨x,lds,rfl,he,hl,hd,nn,e⟩
     exact SqL.of (e _ _ sld (j1 sld hle))
    ·rintro i v σ He hv ⟨x,lds,rfl,he,hl,hd,nn,e⟩
     have hi:=(List.getElem?_eq_some_iff.mp hv).1
     left
     intro d hd0
     have dl:d≠le:=(j1 he hd0).symm
     refine ⟨_,(by rw [j8 (Ne.symm dl)];exact he),by rw [List.length_map];exact jc (),some v,lds++[(d,[])],rfl,(by rw [j5,List.map_append];rfl),(by rw [List.length_append,hl];rfl),λy hy=>?_,?_,λc o hc n=>?_⟩
     ·rcases List.mem_append.mp hy with z | z
      ·obtain ⟨h1,h2,h3,h4⟩:=hd y z
       exact ⟨by rw [j8 h4,j8 (j1 h1 hd0)];exact h1,h2,h3,h4⟩
      ·obtain rfl:y=(d,[]):=by simpa using z
       exact ⟨by rw [j8 dl];exact j5,rfl,e.free hd0 dl,dl⟩
     ·rw [List.map_append]
      refine wZ nn λz=>?_
      obtain ⟨y,hy,ey⟩:=List.mem_map.mp z
      have:=(hd y hy).1
      rw [ey,hd0] at this
      cases this
     ·rw [j8 n,j8 (j1 (e c o hc n) hd0)]
      exact e c o hc n
    ·rintro σ He ⟨x,lds,rfl,he,hl,hd,nn,e⟩
     have hpe:=e _ _ pd (j1 pd hle)
     left
     refine ⟨p,C,dx,_,rfl,hpe,T.cl,T.nL,Nat.lt_of_le_of_lt (Nat.le_trans (jX _ _ _) (Nat.succ_le_succ (Nat.le_trans (jX _ _ _) (Nat.succ_le_succ (Nat.le_trans (jX _ _ _) (Nat.succ_le_succ (jX _ _ _))))))) ⋯,?_⟩
     have f_of:∀c o,Hd c=some o->c≠p->upd He p (HO.ins C dx (jp "leaps" (V.ref le) (jp "years" (V.ref ye) (jp "slopes" (V.ref acc) (jp "cycle" (V.ref cy) (jp "valley" (V.ref va) [])))))) c=some o:=λc o h n=>by rw [j8 n];exact e _ _ h (j1 h hle)
     have kf:Kp p Pt H (upd He p (HO.ins C dx (jp "leaps" (V.ref le) (jp "years" (V.ref ye) (jp "slopes" (V.ref acc) (jp "cycle" (V.ref cy) (jp "valley" (V.ref va) []))))))):=λc o h n m=>f_of c o (kd c o h n m) n
     have hnp:∀x∈lds,x.1≠p:=λx hx=>(j1 pd (hd x hx).2.2.1).symm
     refine k _ { dx:=dx,va:=va,cy:=cy,sl:=acc,ye:=ye,le:=le,xs:=xs,ys:=ys,zs:=zs,lds:=lds,kvs:=[],rs:=rs,rows:=ts,slopes:=ws.map (jb rs) } eg egr ⟨⟨j5,f_of _ _ vad vap,hrw.keep (jj.kp kf hp hPt),f_of _ _ cyd cyp,hr3.imp λa t e=>kf.at e hp hPt (by walk_at "z") (by walk_at "z"),f_of _ _ sld acp,Paired.mapP slsd λv wy ⟨a,e,ha⟩=>⟨a,e,f_of _ _ ha (jo ha pd (by walk_at "z"))⟩,f_of _ _ yed yep,(by rw [j8 lep];exact he),λx hx=>by rw [j8 (hnp x hx)];exact (hd x hx).1⟩,kf,va0,cy0,acc0,ye0,le0,zs0,rfl,λx hx=>⟨kd.free (hd x hx).2.2.1 pd hPtd,(hd x hx).2.1⟩,hl.trans (Paired.length slsd),nn,λx hx=>(j1 yed (hd x hx).2.2.1).symm,ws,hR,rfl⟩ rfl rfl rfl rfl (ut (Td.extN hle e) hpe)
def yW (CY:Addr):Sp:=λvs H Q E=>∃y:Int,vs=[.int y]/\(0<=y->y<=99->Q .non H)/\(y<0\/99<y->E (.ref CY) none H)
theorem Jc:FnScope ["year"] ["year"] (j7 yx):=by walk_at "s"
theorem Ja {f CY:Addr}{fd:FuncData}{u0:Tok}(g_LAST_TOLD:mg "LAST_TOLD" = some (.int 99 u0)) (e_BadYear:mg "BadYear" = some (.ref CY)) (x_BadYear:PySem.W.excIn K CY [.type "ValueError",.type "Exception",.type "BaseException",.type "object"] "ValueError.__new__" = true) (F:Fun K "check_told" "check_told" yx f fd):FnOk P w K mg base (CX1 P w) 1 f fd ["year"] (yW CY):=by
 refine Fun.okX F Jc (λvs H Q E h=>?_) (λcdv A outer s H vs Q E hr h=>?_)
 ·obtain ⟨y,rfl,_⟩:=h
  rfl
 ·obtain ⟨y,rfl,k,kx⟩:=h
  refine ⟨_,(j9 (qi (xn (zi qJ qJ j6 (pv 0) (xk (v:=V.int 99) rfl g_LAST_TOLD ⟨_,rfl⟩))) (j9 (xy PySem.F.excBase_ValueError x_BadYear e_BadYear rfl zk rfl (j0 qh j2))) jA)),?_⟩
  left
  refine qT (λh0=>?_) (λh0=>?_)
  ·left
   refine yb (λh1=>?_) (λh1=>?_)
   ·left
    exact ⟨by show 1<=sizeLine;decide,kx (.inr ())⟩
   ·left
    exact k h0 h1
  ·left
   refine yN ?_
   left
   exact ⟨by show 1<=sizeLine;decide,kx (.inl ())⟩
theorem IceAt.years {C p:Addr}{H H':Hp}{g:IceG}{kvs:List (Key×V)}(I:IceAt C H p g) (hn:∀x∈g.lds,x.1≠g.ye) (e:Ext g.ye H H') (h:H' g.ye=some (.dK kvs)):IceAt C H' p { g with kvs:=kvs }:=by
 have f:∀{c:Addr} {o:HO},H c=some o->o≠.dK g.kvs->H' c=some o:=λh n=>e _ _ h (jo h I.ye n)
 exact ⟨f I.ob (by walk_at "z"),f I.va (by walk_at "z"),I.rs.keep λ_ _ q=>f q (by walk_at "z"),f I.cy (by walk_at "z"),I.rows.imp λ_ _ q=>f q (by walk_at "z"),f I.sl (by walk_at "z"),Paired.mapP I.slopes λv w ⟨a,ea,q⟩=>⟨a,ea,f q (by walk_at "z")⟩,h,f I.le (by walk_at "z"),λx hx=>e _ _ (I.lds x hx) (hn x hx)⟩
def Uh (C CY CW:Addr):Sp:=λvs H Q E=>∃(p t:Addr) (g:IceG) (y:Int) (r:T3),vs=[.ref p,.int y,.ref t]/\IceAt C H p g/\(∀x∈g.lds,x.1≠g.ye)/\H t=some (yT r)/\g.kvs.length<=1000 /\
 (∀H',0<=y->y<=99->good r=true->Ext g.ye H H'->IceAt C H' p { g with kvs:=qR g.kvs (.inl y) (.ref t) }->Q .non H')/\(y<0\/99<y->E (.ref CY) none H)/\(0<=y->y<=99->good r=false->E (.ref CW) none H)
theorem Q9:FnScope ["self","year","row"] ["self","year","row"] (j7 yJ):=by walk_at "s"
theorem JY {f C CY CW:Addr}{fd:FuncData}(nb:Nb2 mg) (T:IceC K C) (e_BadWeather:mg "BadWeather" = some (.ref CW)) (x_BadWeather:PySem.W.excIn K CW [.type "ValueError",.type "Exception",.type "BaseException",.type "object"] "ValueError.__new__" = true) (c_check_told:CalX P w K mg base 1 "check_told" ["year"] (yW CY)) (c_is_weather:Cal P w K mg base 1 "is_weather" ["row"] Z5) (F:Fun K "tell" "Ice.tell" yJ f fd):FnOk P w K mg base (CX1 P w) 2 f fd ["self","year","row"] (Uh C CY CW):=by
 refine Fun.okX F Q9 (λvs H Q E h=>?_) (λcdv A outer s H vs Q E hr h=>?_)
 ·obtain ⟨p,t,g,y,r,rfl,_⟩:=h
  rfl
 ·obtain ⟨p,t,g,y,r,rfl,I,hn,ht,hk,k,ky,kw⟩:=h
  refine ⟨_,(j4 (jN (qM c_check_told (hr.mono ⋯) jQ rfl (j0 (pv 1) j2)))
   (j4 (qi (xn (zR (je c_is_weather (hr.mono ⋯) rfl (j0 (pv 2) j2)))) (j9 (xy PySem.F.excBase_ValueError x_BadWeather e_BadWeather rfl zk rfl (j0 qh j2))) jA)
   (j9 (vk (qQ hr) (qO K (pv 0)) (pv 1) (pv 2) rfl)))),?_⟩
  left
  refine ⟨λh0 h1=>?_,λhb=>ky hb⟩
  left
  refine ⟨t,r,rfl,ht,?_⟩
  cases eg:good r with
  | false =>
   left
   exact ⟨by show 1<=sizeLine;decide,kw h0 h1 eg⟩
  | true =>
   left
   refine ⟨p,C,g.dx,_,_,rfl,I.ob,T.cl,T.nY,yw _ _ _ _ _,?_⟩
   left
   refine ⟨g.ye,_,rfl,J7.k (k:=.inl y) I.ye (jc hk),?_⟩
   exact k _ h0 h1 eg Ext.put (I.years hn Ext.put j5)
def vc (l:List (Addr×List (Key×V))) (n:Nat) (kvs:List (Key×V)):List (Addr×List (Key×V)):=l.set n ((l.getD n (0,[])).1,kvs)
theorem Vb (l:List (Addr×List (Key×V))) (n:Nat) (kvs:List (Key×V)):(vc l n kvs).map (λx=>V.ref x.1)=l.map λx=>V.ref x.1:=by
 unfold vc
 rw [List.map_set]
 by_cases h:n<l.length
 ·rw [List.getD_eq_getElem?_getD,List.getElem?_eq_getElem h]
  refine List.ext_getElem? λi=>?_
  rw [List.getElem?_set]
  by_cases e:n=i
  ·subst e
   rw [if_pos rfl,List.length_map,if_pos h,List.getElem?_map,List.getElem?_eq_getElem h]
   rfl
  ·rw [if_neg e]
 ·rw [List.set_eq_of_length_le (by rw [List.length_map];omega)]
theorem IceAt.leap {C p:Addr}{H H':Hp}{g:IceG}{n:Nat}{a:Addr}{kvs kvs':List (Key×V)}(I:IceAt C H p g) (ha:g.lds[n]? = some (a,kvs)) (hn:∀x∈g.lds,x.1≠g.ye) (nd:(g.lds.map (·.1)).Nodup) (e:Ext a H H') (h:H' a=some (.dK kvs')):IceAt C H' p { g with lds:=vc g.lds n kvs' }:=by
 have hm:=List.mem_of_getElem? ha
 have h0:=I.lds _ hm
 have f:∀{c:Addr} {o:HO},H c=some o->(∀z,o≠.dK z)->H' c=some o:=λh n=>e _ _ h (jo h h0 (n _))
 have hl:n<g.lds.length:=(List.getElem?_eq_some_iff.mp ha).1
 refine ⟨f I.ob (by walk_at "w"),f I.va (by walk_at "w"),I.rs.keep λ_ _ q=>f q (by walk_at "w"),f I.cy (by walk_at "w"),I.rows.imp λ_ _ q=>f q (by walk_at "w"),f I.sl (by walk_at "w"),Paired.mapP I.slopes λv w ⟨a,ea,q⟩=>⟨a,ea,f q (by walk_at "w")⟩,e _ _ I.ye (λz=>hn _ hm z.symm),(by show H' g.le=_;rw [Vb];exact f I.le (by walk_at "w")),λx hx=>?_⟩
 have hx':x∈vc g.lds n kvs':=hx
 obtain ⟨i,hi,ex⟩:=List.mem_iff_getElem.mp hx'
 have hi2:i<g.lds.length:=by unfold vc at hi;rw [List.length_set] at hi;exact hi
 have ex2:(vc g.lds n kvs')[i]? = some x:=by rw [List.getElem?_eq_getElem hi,ex]
 unfold vc at ex2
 rw [List.getElem?_set] at ex2
 by_cases en:n=i
 ·rw [if_pos en,if_pos ()] at ex2
  rw [<- Option.some.inj ex2,List.getD_eq_getElem?_getD,ha]
  exact h
 ·rw [if_neg en] at ex2
  refine e _ _ (I.lds x (List.mem_of_getElem? ex2)) λz=>en ?_
  have h1:(g.lds.map (·.1))[n]? = some a:=by rw [List.getElem?_map,ha];rfl
  have h2:(g.lds.map (·.1))[i]? = some a:=by rw [List.getElem?_map,ex2,<- z];rfl
  have l1:=(List.getElem?_eq_some_iff.mp h1).1
  have l2:=(List.getElem?_eq_some_iff.mp h2).1
  exact (List.getElem?_inj l1 nd).mp (h1.trans h2.symm)
def ZN (C CN CY CS:Addr):Sp:=λvs H Q E=>∃(p:Addr) (g:IceG) (l y m:Int),vs=[.ref p,.int l,.int y,.int m]/\IceAt C H p g/\g.lds.length=g.slopes.length/\(∀x∈g.lds,x.1≠g.ye)/\(g.lds.map (·.1)).Nodup/\(∀x∈g.lds,x.2.length<=1000) /\
 (∀H' a kvs,0<=l->l<(g.slopes.length:Int)->0<=y->y<=99->1<=m->m<=9->g.lds[l.toNat]? = some (a,kvs)->Ext a H H'->IceAt C H' p { g with lds:=vc g.lds l.toNat (qR kvs (.inl y) (.int m)) }->Q .non H') /\
 (l<0\/(g.slopes.length:Int)<=l->E (.ref CN) none H)/\(0<=l->l<(g.slopes.length:Int)->y<0\/99<y->E (.ref CY) none H)/\(0<=l->l<(g.slopes.length:Int)->0<=y->y<=99->m<1\/9<m->E (.ref CS) none H)
theorem Jb:FnScope ["self","lane","year","many"] ["self","lane","year","many"] (j7 yn):=by walk_at "s"
theorem J4 {f C CN CY CS:Addr}{fd:FuncData}{u0:Tok}(nb:Nb2 mg) (T:IceC K C) (cl_Ice:Cls K C) (g_GREATEST_SURGE:mg "GREATEST_SURGE" = some (.int 9 u0)) (e_BadSurge:mg "BadSurge" = some (.ref CS)) (x_BadSurge:PySem.W.excIn K CS [.type "ValueError",.type "Exception",.type "BaseException",.type "object"] "ValueError.__new__" = true) (c_Ice__check_lane:CalMX P w K mg base 1 C "check_lane" ["self","lane"] (qW C CN)) (c_check_told:CalX P w K mg base 1 "check_told" ["year"] (yW CY)) (F:Fun K "surge" "Ice.surge" yn f fd):FnOk P w K mg base (CX1 P w) 2 f fd ["self","lane","year","many"] (ZN C CN CY CS):=by
 refine Fun.okX F Jb (λvs H Q E h=>?_) (λcdv A outer s H vs Q E hr h=>?_)
 ·obtain ⟨p,g,l,y,m,rfl,_⟩:=h
  rfl
 ·obtain ⟨p,g,l,y,m,rfl,I,hll,hn,nd,hk,k,kn,ky,ks⟩:=h
  refine ⟨_,(j4 (jN (xh (pv 0) cl_Ice c_Ice__check_lane (hr.mono ⋯) jQ (j0 (pv 1) j2)))
   (j4 (jN (qM c_check_told (hr.mono ⋯) jQ rfl (j0 (pv 2) j2)))
   (j4 (qi (xn (zi qJ qJ j6 (pv 3) (xk (v:=V.int 9) rfl g_GREATEST_SURGE ⟨_,rfl⟩))) (j9 (xy PySem.F.excBase_ValueError x_BadSurge e_BadSurge rfl zk rfl (j0 qh j2))) jA)
   (j9 (vk (qQ hr) (js (jh K) (qO K (pv 0)) (pv 1) (λ_ _=>rfl)) (pv 2) (pv 3) rfl))))),?_⟩
  left
  refine ⟨p,g.dx,_,rfl,I.ob,jO ∅,?_⟩
  left
  refine ⟨p,g,l,rfl,I,λl0 l1=>?_,λhb=>kn hb⟩
  left
  refine ⟨λh0 h1=>?_,λhb=>ky l0 l1 hb⟩
  have hi:l.toNat<g.lds.length:=()
  left
  refine qT (λm0=>?_) (λm0=>?_)
  ·left
   refine yb (λm1=>?_) (λm1=>?_)
   ·left
    exact ⟨by show 1<=sizeLine;decide,ks l0 l1 h0 h1 (.inr ())⟩
   ·left
    refine ⟨p,C,g.dx,_,_,rfl,I.ob,T.cl,T.nL,vO _ _ _ _ _,?_⟩
    left
    refine ⟨_,_,_,_,rfl,rfl,SqL.of I.le,xM l0 (v:=V.ref (g.lds[l.toNat]'hi).1) (by rw [List.getElem?_map,List.getElem?_eq_getElem hi];rfl),?_⟩
    left
    have h0':=I.lds _ (List.getElem_mem hi)
    refine ⟨_,_,rfl,J7.k (k:=.inl y) h0' (jc (hk _ (List.getElem_mem hi))),?_⟩
    exact k _ _ _ l0 l1 h0 h1 m0 m1 (List.getElem?_eq_getElem hi) Ext.put (I.leap (List.getElem?_eq_getElem hi) hn nd Ext.put j5)
  ·left
   refine yN ?_
   left
   exact ⟨by show 1<=sizeLine;decide,ks l0 l1 h0 h1 (.inl ())⟩
def kvI (q:Int×Int):Key×V:=(.inl q.1,.int q.2)
def jL:List (Int×Int)->Int->Int
 | [],_=>0
 | q::r,y=>if q.1=y then q.2 else jL r y
theorem uY:∀(ns:List (Int×Int)) (y:Int),y∈ns.map (·.1)->qK (ns.map kvI) (.inl y)=some (.int (jL ns y))
 | [],y,h=>by cases h
 | q::r,y,h=>by
  rw [List.map_cons]
  unfold qK jL
  by_cases e:q.1=y
  ·subst e
   simp [kvI,List.find?]
  ·have h':y∈r.map (·.1):=by
    rcases List.mem_cons.mp h with z | z
    ·exact absurd z.symm e
    ·exact z
   have ih:=uY r y h'
   unfold qK at ih
   simp [kvI,List.find?,e] at ih ⊢
   exact ih
theorem Xh:∀(ns:List (Int×Int)),(ns.map (·.1)).Nodup->(ns.map (·.1)).map (λy=>(y,jL ns y))=ns
 | [],_=>rfl
 | q::r,nd=>by
  rw [List.map_cons] at nd ⊢
  obtain ⟨h1,h2⟩:=List.nodup_cons.mp nd
  rw [List.map_cons]
  have e:jL (q::r) q.1=q.2:=by unfold jL;rw [if_pos rfl]
  rw [e]
  refine congrArg (q :: ·) ?_
  conv=>rhs;rw [<- Xh r h2]
  refine List.map_congr_left λy hy=>?_
  have hne:¬q.1=y:=λz=>h1 (z ▸ hy)
  show (y,jL (q::r) y)=_
  conv=>lhs;unfold jL
  rw [if_neg hne]
def zo (C CN:Addr):Sp:=λvs H Q E=>∃(p:Addr) (g:IceG) (l:Int),vs=[.ref p,.int l]/\IceAt C H p g/\g.lds.length=g.slopes.length/\(l<0\/(g.slopes.length:Int)<=l->E (.ref CN) none H) /\
 (0<=l->l<(g.slopes.length:Int)->∃(a:Addr) (ns:List (Int×Int)),g.lds[l.toNat]? = some (a,ns.map kvI)/\(ns.map (·.1)).Nodup/\ns.length<64 /\
  ∀o H' out (ms:List (Int×Int)),H o=none->H' o=some (.lst out)->Paired (λv (m:Int×Int)=>∃b,v=V.ref b/\H' b=some (.tup [.int m.1,.int m.2])) out ms->jf H H'->ms.Perm ns->(ms.map (·.1)).Pairwise (· <= ·)->Q (.ref o) H')
theorem ke:FnScope ["self","lane"] ["self","lane"] (j7 xU):=by walk_at "s"
theorem gR {f C CN:Addr}{fd:FuncData}(nb:Nb2 mg) (T:IceC K C) (cl_Ice:Cls K C) (c_Ice__check_lane:CalMX P w K mg base 1 C "check_lane" ["self","lane"] (qW C CN)) (F:Fun K "surges" "Ice.surges" xU f fd):FnOk P w K mg base (CX1 P w) 2 f fd ["self","lane"] (zo C CN):=by
 refine Fun.okX F ke (λvs H Q E h=>?_) (λcdv A outer s H vs Q E hr h=>?_)
 ·obtain ⟨p,g,l,rfl,_⟩:=h
  rfl
 ·obtain ⟨p,g,l,rfl,I,hll,kx,k⟩:=h
  refine ⟨_,(j4 (jN (xh (pv 0) cl_Ice c_Ice__check_lane (hr.mono ⋯) jQ (j0 (pv 1) j2)))
   (j9 (ji (jH (osc:=(j7 xU)) (ON:=["self","lane"]) (N:=["year","lane","self"]) (own:=1) (caps:=[1,0]) ⟨rfl,∅,∅,∅,rfl,∅⟩ rfl rfl rfl (jM K (jd (uH K rfl) rfl nb.b_sorted boot_sorted (j0 (js (jh K) (qO K (pv 0)) (pv 1) (λ_ _=>rfl)) j2))) (λ_ _ _ _ _=>(ja (i:=0) (show List.Nodup (["year","lane","self"]:List Str) by decide +kernel) rfl (Or.inl rfl))) (λ_ _ _ _ _=>ju) (λ_ _ _ _ _=>(qx (j0 (pv 0) (j0 (qG (qQ hr) (js (jh K) (qO K (pv 2)) (pv 1) (λ_ _=>rfl)) (pv 0) (λ_ _=>rfl)) j2)))))))),?_⟩
  left
  refine ⟨p,g.dx,_,rfl,I.ob,jO ∅,?_⟩
  left
  refine ⟨p,g,l,rfl,I,λl0 l1=>?_,λhb=>kx hb⟩
  obtain ⟨a,ns,ha,nd,h64,k⟩:=k l0 l1
  have hi:=(List.getElem?_eq_some_iff.mp ha).1
  have hm:=I.lds _ (List.mem_of_getElem? ha)
  have hat:atI (g.lds.map λx=>V.ref x.1) l=some (.ref a):=xM l0 (by rw [List.getElem?_map,ha];rfl)
  left
  refine ⟨p,C,g.dx,_,_,rfl,I.ob,T.cl,T.nL,vO _ _ _ _ _,?_⟩
  left
  refine ⟨_,_,_,_,rfl,rfl,SqL.of I.le,hat,?_⟩
  refine ⟨a,ns.map kvI,ns.map (·.1),rfl,hm,by rw [List.map_map,List.map_map];rfl,by rw [List.length_map];exact h64,λo H1 ks ho ho1 s1 hp hs=>?_⟩
  have hkl:ks.length<64:=by rw [hp.length_eq,List.length_map];exact h64
  refine ⟨o,rfl,⟨_,SqL.of ho1⟩,λacc hacc=>?_⟩
  refine jP (K:=K) (a:=o) (xs:=ks.map V.int) (acc:=acc) (λi σ H2=>∃(x:Option V) (out:List V),σ=[x,some (.int l),some (.ref p)]/\H2 acc=some (.lst out)/\out.length=i/\Paired (λv (m:Int×Int)=>∃b,v=V.ref b/\H2 b=some (.tup [.int m.1,.int m.2])) out ((ks.take i).map λy=>(y,jL ns y))/\Ext acc H1 H2) ?_ ?_ ?_ ?_
  ·exact ⟨none,[],rfl,j5,rfl,.nil,Ext.put⟩
  ·rintro i σ H2 hi ⟨x,out,rfl,h2,hz,r2,e2⟩
   exact SqL.of (e2 _ _ ho1 (j1 ho1 hacc))
  ·rintro i v σ H2 hv ⟨x,out,rfl,h2,hz,r2,e2⟩
   obtain ⟨y,rfl,hy⟩:=zw hv
   have hiy:=(List.getElem?_eq_some_iff.mp hy).1
   have hyn:y∈ns.map (·.1):=hp.mem_iff.mp (List.mem_of_getElem? hy)
   have t2:jf H H2:=λc o hc=>e2 _ _ (s1 _ _ hc) (j1 (s1 _ _ hc) hacc)
   have I2:=I.same t2
   left
   refine ⟨p,C,g.dx,_,_,rfl,I2.ob,T.cl,T.nL,vO _ _ _ _ _,?_⟩
   left
   refine ⟨_,_,_,_,rfl,rfl,SqL.of I2.le,hat,?_⟩
   left
   refine ⟨a,.int (jL ns y),rfl,by rw [<- uY ns y hyn];exact xY.k (k:=.inl y) (t2 _ _ hm),?_⟩
   left
   refine ⟨by show 2<=sizeLine;decide,λb H3 hb hb3 s3=>?_⟩
   have h3:=s3 _ _ h2
   have bacc:b≠acc:=(j1 h2 hb).symm
   refine ⟨out,h3,jc (),some (.int y),out++[.ref b],rfl,j5,by rw [List.length_append,hz];rfl,?_,λc o hc n=>by rw [j8 n];exact s3 _ _ (e2 c o hc n)⟩
   rw [qI (λy=>(y,jL ns y)) ks i y hy]
   exact Paired.snoc (Paired.mapP r2 λv m ⟨c,e,q⟩=>⟨c,e,by rw [j8 (jo (s3 _ _ q) h3 (by walk_at "z"))];exact s3 _ _ q⟩) ⟨b,rfl,by rw [j8 bacc];exact hb3⟩
  ·rintro σ H2 ⟨x,out,rfl,h2,hz,r2,e2⟩
   rw [List.length_map,List.take_length] at r2
   have t2:jf H H2:=λc o hc=>e2 _ _ (s1 _ _ hc) (j1 (s1 _ _ hc) hacc)
   refine k acc H2 out _ (s1.free hacc) h2 r2 t2 ?_ ?_
   ·have:=hp.map λy=>(y,jL ns y)
    rw [Xh ns nd] at this
    exact this
   ·rw [List.map_map]
    have:((λx:Int×Int=>x.1) ∘ λy=>(y,jL ns y))=id:=rfl
    rw [this,List.map_id]
    exact hs
def jn (st ad:Int):List (Int×Int)->Int->Int
 | [],goal=>if goal-ad > st then goal-ad else st
 | q::r,goal=>if goal-ad<q.1 then (if goal-ad > st then goal-ad else st) else jn q.1 (ad+q.2) r goal
def kM (H:Hp) (out:List V) (ms:List (Int×Int)):Prop:=Paired (λv (m:Int×Int)=>∃b,v=V.ref b/\H b=some (.tup [.int m.1,.int m.2])) out ms
theorem kM.same {H H':Hp}{out:List V}{ms:List (Int×Int)}(h:kM H out ms) (s:jf H H'):kM H' out ms:=Paired.mapP h λ_ _ ⟨b,e,q⟩=>⟨b,e,s _ _ q⟩
def gH:Sp:=λvs H Q _=>∃(p:Addr) (out:List V) (ms:List (Int×Int)) (goal:Int),vs=[.ref p,.int goal]/\H p=some (.lst out)/\kM H out ms/\∀H',jf H H'->Q (.int (jn 0 0 ms goal)) H'
theorem qU:FnScope ["surges","goal","start","added","year","many"] ["surges","goal"] (j7 vI):=by walk_at "s"
theorem Xg {f:Addr}{fd:FuncData}(nb:Nb2 mg) (F:Fun K "earliest" "earliest" vI f fd):FnOk P w K mg base CX0 1 f fd ["surges","goal"] gH:=by
 refine F.ok qU (λvs H Q E h=>?_) (λcdv A outer s H vs Q E hr h=>?_)
 ·obtain ⟨p,out,ms,goal,rfl,_⟩:=h
  rfl
 ·obtain ⟨p,out,ms,goal,rfl,hp,hr2,k⟩:=h
  have hlen:out.length=ms.length:=Paired.length hr2
  refine ⟨_,(j4 (jw 2 qU.nd j6)
   (j4 (jw 3 qU.nd j6)
   (j4 (xc PassesOwn.never rfl (jM K (pv 0)) (qf (n:=2) K rfl (jg (ja (i:=4) qU.nd rfl (Or.inl rfl)) (jg (ja (i:=5) qU.nd rfl (Or.inl rfl)) jY))) (j4 (qi (jK uy (jk qN (pv 1) (pv 3)) (pv 4) (jS _)) (j9 Ue) jA)
   (j4 (jw 2 qU.nd (pv 4))
   (j9 (Qc (i:=3) qU.nd rfl (Or.inl rfl) (pv 5) Zf)))))
   (j9 (ji (jd (zn rfl) rfl nb.b_max boot_max (j0 (pv 2) (j0 (jk qN (pv 1) (pv 3)) j2)))))))),?_⟩
  left
  refine ⟨⟨_,SqL.of hp⟩,?_⟩
  refine uK (K:=K) (a:=p) (xs:=out) (λi σ H2=>∃(st ad:Int) (v4 v5:Option V),σ=[some (.ref p),some (.int goal),some (.int st),some (.int ad),v4,v5]/\jf H H2/\jn st ad (ms.drop i) goal=jn 0 0 ms goal) ?_ ?_ ?_ ?_
  ·exact ⟨0,0,_,_,rfl,jf.refl _,by rw [List.drop_zero]⟩
  ·rintro i σ H2 hi ⟨st,ad,v4,v5,rfl,s2,e2⟩
   exact SqL.of (s2 _ _ hp)
  ·rintro i v σ H2 hv ⟨st,ad,v4,v5,rfl,s2,e2⟩
   obtain ⟨m,hm,b,rfl,hb⟩:=Paired.get hr2 hv
   have hi:=(List.getElem?_eq_some_iff.mp hm).1
   have ed:ms.drop i=m::ms.drop (i+1):=by
    rw [List.drop_eq_getElem_cons hi]
    have:=(List.getElem?_eq_some_iff.mp hm).2
    rw [this]
   rw [ed] at e2
   left
   refine ⟨b,_,rfl,SqT.of (s2 _ _ hb),rfl,?_⟩
   refine ⟨_,_,rfl,_,_,rfl,rfl,?_⟩
   left
   refine qT (λh1=>?_) (λh1=>?_)
   ·left
    refine ⟨_,_,rfl,?_⟩
    rw [show jn st ad (m::ms.drop (i+1)) goal=if goal-ad > st then goal-ad else st from by conv=>lhs;unfold jn;rw [if_pos h1]] at e2
    have k2:=k H2 s2
    rw [<- e2] at k2
    exact k2
   ·left
    refine ⟨_,_,_,_,rfl,s2,?_⟩
    rw [<- e2]
    conv=>rhs;unfold jn;rw [if_neg h1]
  ·rintro σ H2 ⟨st,ad,v4,v5,rfl,s2,e2⟩
   rw [hlen,List.drop_length] at e2
   left
   refine ⟨_,_,rfl,?_⟩
   have k2:=k H2 s2
   rw [<- e2] at k2
   exact k2
def Vx (C CN:Addr):Sp:=λvs H Q E=>∃(p:Addr) (g:IceG) (l mark:Int),vs=[.ref p,.int l,.int mark]/\IceAt C H p g/\g.lds.length=g.slopes.length/\(∀H',jf H H'->l<0\/(g.slopes.length:Int)<=l->E (.ref CN) none H') /\
 (0<=l->l<(g.slopes.length:Int)->∃(a:Addr) (ns:List (Int×Int)),g.lds[l.toNat]? = some (a,ns.map kvI)/\(ns.map (·.1)).Nodup/\ns.length<64 /\
  ∀ms:List (Int×Int),ms.Perm ns->(ms.map (·.1)).Pairwise (· <= ·)->∀fst gon:Int,fst=jn 0 0 ms mark->gon=jn 0 0 ms (mark+((g.slopes.getD l.toNat []).length:Int)) ->
   (fst<gon->∀t H',jf H H'->H' t=some (.tup [.int fst,.int (gon-1)])->Q (.ref t) H')/\(¬fst<gon->∀H',jf H H'->Q .non H'))
theorem wW:FnScope ["ice","lane","mark","surges","first","gone"] ["ice","lane","mark"] (j7 Z6):=by walk_at "s"
theorem Wx {f C CN:Addr}{fd:FuncData}(cl_Ice:Cls K C) (c_Ice__surges:CalMX P w K mg base 2 C "surges" ["self","lane"] (zo C CN)) (c_Ice__length:CalMX P w K mg base 2 C "length" ["self","lane"] (y8 C CN)) (c_earliest:Cal P w K mg base 1 "earliest" ["surges","goal"] gH) (F:Fun K "span" "span" Z6 f fd):FnOk P w K mg base (CX1 P w) 3 f fd ["ice","lane","mark"] (Vx C CN):=by
 refine Fun.okX F wW (λvs H Q E h=>?_) (λcdv A outer s H vs Q E hr h=>?_)
 ·obtain ⟨p,g,l,mark,rfl,_⟩:=h
  rfl
 ·obtain ⟨p,g,l,mark,rfl,I,hll,kx,k⟩:=h
  refine ⟨_,(j4 (jw 3 wW.nd (xh (pv 0) cl_Ice c_Ice__surges (hr.mono ⋯) jQ (j0 (pv 1) j2)))
   (j4 (jw 4 wW.nd (je c_earliest (hr.mono ⋯) rfl (j0 (pv 3) (j0 (pv 2) j2))))
   (j4 (jw 5 wW.nd (je c_earliest (hr.mono ⋯) rfl (j0 (pv 3) (j0 (jk jG (pv 2) (xh (pv 0) cl_Ice c_Ice__length (hr.mono ⋯) jQ (j0 (pv 1) j2))) j2))))
   (j9 (ji (Ur (jK uy (pv 4) (pv 5) (jS _)) (qx (j0 (pv 4) (j0 (jk qN (pv 5) j6) j2))) Ql)))))),?_⟩
  left
  refine ⟨p,g.dx,_,rfl,I.ob,jO ∅,?_⟩
  left
  refine ⟨p,g,l,rfl,I,hll,λhb=>kx H (jf.refl H) hb,λl0 l1=>?_⟩
  obtain ⟨a,ns,ha,nd,h64,k⟩:=k l0 l1
  refine ⟨a,ns,ha,nd,h64,λo H1 out ms ho ho1 hq s1 hp hs=>?_⟩
  have k:=k ms hp hs _ _ rfl rfl
  left
  refine ⟨o,out,ms,mark,rfl,ho1,hq,λH2 s2=>?_⟩
  left
  have t2:=s1.trans s2
  refine ⟨p,g.dx,_,rfl,t2 _ _ I.ob,jO ∅,?_⟩
  left
  refine ⟨p,g,l,rfl,I.same t2,λ_ _=>?_,λhb=>absurd hb ()⟩
  left
  refine ⟨o,out,ms,_,rfl,s2 _ _ ho1,kM.same hq s2,λH3 s3=>?_⟩
  have t3:=t2.trans s3
  left
  refine qT (λh1=>?_) (λh1=>?_)
  ·left
   refine ⟨by show 2<=sizeLine;decide,λt H4 ht ht4 s4=>?_⟩
   exact k.1 h1 t H4 (t3.trans s4) ht4
  ·left
   exact k.2 h1 H3 t3
def Zi:Sp:=λvs H Q _=>∃(L b:Addr),vs=[.ref b]/\qj L H b/\∀(y:Int) (H':Hp),0<=y->y<=99->qj L H' b->Ext b H H'->Q (.int y) H'
theorem Xx:FnScope ["_law_box_here"] ["_law_box_here"] (j7 vP):=by walk_at "s"
theorem Wi {v a b c:Int}(h0:0<=v) (h1:v<5) (ha:0<=a/\a<=99) (hb:0<=b/\b<=99) (hc:0<=c/\c<=99):∃n,atI [V.int a,V.int b,V.int c,V.int 99,V.int 0] v=some (V.int n)/\0<=n/\n<=99:=by
 have h:v=0\/v=1\/v=2\/v=3\/v=4:=()
 rcases h with rfl | rfl | rfl | rfl | rfl
 ·exact ⟨a,rfl,ha.1,ha.2⟩
 ·exact ⟨b,rfl,hb.1,hb.2⟩
 ·exact ⟨c,rfl,hc.1,hc.2⟩
 ·exact ⟨99,rfl,⋯,⋯⟩
 ·exact ⟨0,rfl,⋯,⋯⟩
theorem UL {f:Addr}{fd:FuncData}(c_law_take:Cal P w K mg base 2 "_law_take" ["_law_box_here","_law_size"] xV) (F:Fun K "_law_year" "_law_year" vP f fd):FnOk P w K mg base CX0 3 f fd ["_law_box_here"] Zi:=by
 refine F.ok Xx (λvs H Q E h=>?_) (λcdv A outer s H vs Q E hr h=>?_)
 ·obtain ⟨L,b,rfl,_⟩:=h
  rfl
 ·obtain ⟨L,b,rfl,B,k⟩:=h
  refine ⟨_,(j9 (ji (js (jh K) (jR (j0 (je c_law_take (hr.mono ⋯) rfl (j0 (pv 0) (j0 j6 j2))) (j0 (je c_law_take (hr.mono ⋯) rfl (j0 (pv 0) (j0 j6 j2))) (j0 (je c_law_take (hr.mono ⋯) rfl (j0 (pv 0) (j0 j6 j2))) (j0 j6 (j0 j6 j2)))))) (je c_law_take (hr.mono ⋯) rfl (j0 (pv 0) (j0 j6 j2))) (λ_ _=>rfl)))),?_⟩
  left
  refine ⟨L,b,_,rfl,B,⟨⋯,⋯⟩,λv1 H1 p1 q1 B1 X1=>?_⟩
  left
  refine ⟨L,b,_,rfl,B1,⟨⋯,⋯⟩,λv2 H2 p2 q2 B2 X2=>?_⟩
  left
  refine ⟨L,b,_,rfl,B2,⟨⋯,⋯⟩,λv3 H3 p3 q3 B3 X3=>?_⟩
  left
  refine ⟨by show 5<=sizeLine;decide,λl H4 hl hl4 s4=>?_⟩
  left
  refine ⟨L,b,_,rfl,B3.same s4,⟨⋯,⋯⟩,λv5 H5 p5 q5 B5 X5=>?_⟩
  obtain ⟨n,en,n0,n1⟩:=Wi p5 q5 (a:=v1) (b:=v2) (c:=v3) ⟨p1,()⟩ ⟨p2,()⟩ ⟨p3,()⟩
  refine ⟨_,_,_,_,rfl,rfl,SqL.of (X5 _ _ hl4 (B3.ne hl)),en,?_⟩
  exact k n H5 n0 n1 B5 ((((X1.trans X2).trans X3).trans (Ext.of_same s4)).trans X5)
def WV:Sp:=λvs H Q _=>∃(L b:Addr),vs=[.ref b]/\qj L H b/\∀(v:Int) (H':Hp),0<=v->v<10 ^ 40->qj L H' b->Ext b H H'->Q (.int v) H'
theorem Z4:FnScope ["_law_box_here"] ["_law_box_here"] (j7 uX):=by walk_at "s"
theorem W8 {v:Int}(a:0<=v) (b:v<4):∃n,atI [V.int 100,V.int (10 ^ 9),V.int (10 ^ 20),V.int (10 ^ 40-99)] v=some (V.int n)/\0<n/\n<=10 ^ 40:=by
 have h:v=0\/v=1\/v=2\/v=3:=()
 rcases h with rfl | rfl | rfl | rfl
 ·exact ⟨100,rfl,⋯,⋯⟩
 ·exact ⟨10 ^ 9,rfl,⋯,⋯⟩
 ·exact ⟨10 ^ 20,rfl,⋯,⋯⟩
 ·exact ⟨10 ^ 40-99,rfl,⋯,⋯⟩
theorem GO {f:Addr}{fd:FuncData}(nb:Nb2 mg) (c_law_take:Cal P w K mg base 2 "_law_take" ["_law_box_here","_law_size"] xV) (F:Fun K "_law_far" "_law_far" uX f fd):FnOk P w K mg base CX0 3 f fd ["_law_box_here"] WV:=by
 refine F.ok Z4 (λvs H Q E h=>?_) (λcdv A outer s H vs Q E hr h=>?_)
 ·obtain ⟨L,b,rfl,_⟩:=h
  rfl
 ·obtain ⟨L,b,rfl,B,k⟩:=h
  refine ⟨_,(j9 (ji (je c_law_take (hr.mono ⋯) rfl (j0 (pv 0) (j0 (js (jh K) (jR (j0 j6 (j0 (jk kH j6 j6) (j0 (jk kH j6 j6) (j0 (jk qN (jk kH j6 j6) j6) j2))))) (je c_law_take (hr.mono ⋯) rfl (j0 (pv 0) (j0 j6 j2))) (λ_ _=>rfl)) j2))))),?_⟩
  left
  refine ⟨by show 4<=sizeLine;decide,λl H1 hl hl1 s1=>?_⟩
  left
  refine ⟨L,b,_,rfl,B.same s1,⟨⋯,⋯⟩,λv H2 v0 v1 B2 X2=>?_⟩
  obtain ⟨n,en,n0,n1⟩:=W8 v0 v1
  have lb:l≠b:=B.ne hl
  refine ⟨l,_,v,_,rfl,rfl,SqL.of (X2 _ _ hl1 lb),en,?_⟩
  left
  refine ⟨L,b,n,rfl,B2,⟨n0,Int.lt_of_le_of_lt n1 ⋯⟩,λv2 H3 v20 v21 B3 X3=>?_⟩
  exact k v2 H3 v20 () B3 (λc o hc nc=>X3 _ _ (X2 _ _ (s1 _ _ hc) nc) nc)
def scK (p q sg gl ll:Addr):List (Key×V):=[(.inr "reaches",.ref p),(.inr "rows",.ref q),(.inr "single",.ref sg),(.inr "grounds",.ref gl),(.inr "leaps",.ref ll)]
theorem xD {k:Key}{v:V}{r:List (Key×V)}:qK ((k,v)::r) k=some v:=by
 unfold qK
 rw [List.find?_cons_of_pos (p:=λkv:Key×V=>decide (kv.1=k)) (a:=(k,v)) (decide_eq_true rfl)]
 rfl
theorem jx {k k':Key}{v:V}{r:List (Key×V)}(h:k'≠k):qK ((k',v)::r) k=qK r k:=by
 unfold qK
 rw [List.find?_cons_of_neg (p:=λkv:Key×V=>decide (kv.1=k)) (a:=(k',v)) (λz=>h (of_decide_eq_true z))]
theorem XU (p q sg gl ll:Addr):qK (scK p q sg gl ll) (.inr "reaches")=some (.ref p):=xD
theorem UZ (p q sg gl ll:Addr):qK (scK p q sg gl ll) (.inr "rows")=some (.ref q):=(jx (show (Sum.inr (Str.ofString "reaches"):Key)≠Sum.inr (Str.ofString "rows") by decide +kernel)).trans (xD)
theorem wg (p q sg gl ll:Addr):qK (scK p q sg gl ll) (.inr "single")=some (.ref sg):=(jx (show (Sum.inr (Str.ofString "reaches"):Key)≠Sum.inr (Str.ofString "single") by decide +kernel)).trans ((jx (show (Sum.inr (Str.ofString "rows"):Key)≠Sum.inr (Str.ofString "single") by decide +kernel)).trans (xD))
theorem yt (p q sg gl ll:Addr):qK (scK p q sg gl ll) (.inr "grounds")=some (.ref gl):=(jx (show (Sum.inr (Str.ofString "reaches"):Key)≠Sum.inr (Str.ofString "grounds") by decide +kernel)).trans ((jx (show (Sum.inr (Str.ofString "rows"):Key)≠Sum.inr (Str.ofString "grounds") by decide +kernel)).trans ((jx (show (Sum.inr (Str.ofString "single"):Key)≠Sum.inr (Str.ofString "grounds") by decide +kernel)).trans (xD)))
theorem QP (p q sg gl ll:Addr):qK (scK p q sg gl ll) (.inr "leaps")=some (.ref ll):=(jx (show (Sum.inr (Str.ofString "reaches"):Key)≠Sum.inr (Str.ofString "leaps") by decide +kernel)).trans ((jx (show (Sum.inr (Str.ofString "rows"):Key)≠Sum.inr (Str.ofString "leaps") by decide +kernel)).trans ((jx (show (Sum.inr (Str.ofString "single"):Key)≠Sum.inr (Str.ofString "leaps") by decide +kernel)).trans ((jx (show (Sum.inr (Str.ofString "grounds"):Key)≠Sum.inr (Str.ofString "leaps") by decide +kernel)).trans (xD))))
def jv (ns:List (Int×Int)) (y:Int):Int:=((ns.filter λq=>decide (q.1<=y)).map (·.2)).sum
theorem Jm:∀{ns:List (Int×Int)},(ns.map (·.1)).Nodup->∀{z:Int×Int},z∈ns->jL ns z.1=z.2
 | [],_,z,h=>by cases h
 | q::r,nd,z,h=>by
  rw [List.map_cons] at nd
  obtain ⟨h1,h2⟩:=List.nodup_cons.mp nd
  unfold jL
  rcases List.mem_cons.mp h with e | e
  ·rw [e,if_pos rfl]
  ·have ne:¬q.1=z.1:=λw=>h1 (by rw [w];exact List.mem_map_of_mem e)
   rw [if_neg ne]
   exact Jm h2 e
theorem Gx {ns:List (Int×Int)}{i:Nat}{q:Key×V}(h:(ns.map kvI)[i]? = some q):∃z,ns[i]? = some z/\q=kvI z:=by
 rw [List.getElem?_map] at h
 cases e:ns[i]? with
 | none=>rw [e] at h;cases h
 | some z=>rw [e] at h;cases h;exact ⟨z,rfl,rfl⟩
theorem Ve (y:Int):jv [] y=0:=rfl
theorem qa (q:Int×Int) (r:List (Int×Int)) (y:Int):jv (q::r) y=(if q.1<=y then q.2 else 0)+jv r y:=by
 unfold jv
 rw [List.filter_cons]
 by_cases h:q.1<=y
 ·rw [decide_eq_true h,if_pos rfl,if_pos h,List.map_cons,List.sum_cons]
 ·rw [decide_eq_false h,if_neg Bool.false_ne_true,if_neg h,Int.zero_add]
theorem yr {ms ns:List (Int×Int)}(p:ms.Perm ns) (y:Int):jv ms y=jv ns y:=by
 induction p with
 | nil=>rfl
 | cons q _ ih=>rw [qa,qa,ih]
 | swap a b r=>rw [qa,qa,qa,qa];omega
 | trans _ _ a b=>rw [a,b]
theorem JU {ns:List (Int×Int)}(h:∀q∈ns,0<=q.2) (y:Int):0<=jv ns y:=by
 induction ns with
 | nil=>exact Int.le_refl _
 | cons q r ih =>
  rw [qa]
  have:=h q (List.mem_cons_self ..)
  have:=ih λz hz=>h z (List.mem_cons_of_mem _ hz)
  by_cases e:q.1<=y
  ·rw [if_pos e];omega
  ·rw [if_neg e];omega
theorem Zl {ns:List (Int×Int)}{y:Int}(h:∀q∈ns,y<q.1):jv ns y=0:=by
 induction ns with
 | nil=>rfl
 | cons q r ih =>
  have a:=h q (List.mem_cons_self ..)
  rw [qa,if_neg (),ih λz hz=>h z (List.mem_cons_of_mem _ hz)]
  rfl
theorem ug:∀(ms:List (Int×Int)) (st ad goal:Int),(∀q∈ms,st<=q.1)->(ms.map (·.1)).Pairwise (· <= ·)->st<=jn st ad ms goal
 | [],st,ad,goal,_,_=>by unfold jn;split <;> omega
 | q::r,st,ad,goal,h,p=>by
  unfold jn
  have a:=h q (List.mem_cons_self ..)
  rw [List.map_cons,List.pairwise_cons] at p
  by_cases e:goal-ad<q.1
  ·rw [if_pos e];split <;> omega
  ·rw [if_neg e]
   have:=ug r q.1 (ad+q.2) goal (λz hz=>p.1 _ (List.mem_map_of_mem hz)) p.2
   omega
theorem w9:∀(ms:List (Int×Int)) (st ad goal y:Int),(∀q∈ms,st<=q.1/\0<=q.2)->(ms.map (·.1)).Pairwise (· < ·)->st<=y->(goal<=y+ad+jv ms y↔jn st ad ms goal<=y)
 | [],st,ad,goal,y,_,_,hy=>by rw [Ve];unfold jn;split <;> omega
 | q::r,st,ad,goal,y,h,p,hy=>by
  have a:=h q (List.mem_cons_self ..)
  have hr:∀z∈r,0<=z.2:=λz hz=>(h z (List.mem_cons_of_mem _ hz)).2
  rw [List.map_cons,List.pairwise_cons] at p
  have gt:∀z∈r,q.1<z.1:=λz hz=>p.1 _ (List.mem_map_of_mem hz)
  have sn:=JU hr y
  rw [qa]
  unfold jn
  by_cases hq:q.1<=y
  ·rw [if_pos hq]
   by_cases e:goal-ad<q.1
   ·rw [if_pos e];split <;> omega
   ·rw [if_neg e]
    have ih:=w9 r q.1 (ad+q.2) goal y (λz hz=>⟨Int.le_of_lt (gt z hz),hr z hz⟩) p.2 hq
    constructor
    ·intro z;exact ih.mp ()
    ·intro z;have:=ih.mpr z;omega
  ·rw [if_neg hq,Zl λz hz=>by have:=gt z hz;omega]
   by_cases e:goal-ad<q.1
   ·rw [if_pos e];split <;> omega
   ·rw [if_neg e]
    have g:=ug r q.1 (ad+q.2) goal (λz hz=>Int.le_of_lt (gt z hz)) (p.2.imp λh=>Int.le_of_lt h)
    omega
theorem qV:∀{l:List Int},l.Pairwise (· <= ·)->l.Nodup->l.Pairwise (· < ·)
 | [],_,_=>.nil
 | x::r,p,n=>by
  rw [List.pairwise_cons] at p ⊢
  obtain ⟨n1,n2⟩:=List.nodup_cons.mp n
  refine ⟨λy hy=>?_,qV p.2 n2⟩
  have:=p.1 y hy
  have:x≠y:=λe=>n1 (e ▸ hy)
  omega
def zm (CY:Addr):Sp:=λvs H Q E=>∃y:Int,vs=[.int y]/\(0<=y->y<=10 ^ 40->Q .non H)/\(y<0\/10 ^ 40<y->E (.ref CY) none H)
theorem gx:FnScope ["year"] ["year"] (j7 zV):=by walk_at "s"
theorem gp {f CY:Addr}{fd:FuncData}{u0:Tok}(g_LAST_ASKED:mg "LAST_ASKED" = some (.int 10000000000000000000000000000000000000000 u0)) (e_BadYear:mg "BadYear" = some (.ref CY)) (x_BadYear:PySem.W.excIn K CY [.type "ValueError",.type "Exception",.type "BaseException",.type "object"] "ValueError.__new__" = true) (F:Fun K "check_asked" "check_asked" zV f fd):FnOk P w K mg base (CX1 P w) 1 f fd ["year"] (zm CY):=by
 refine Fun.okX F gx (λvs H Q E h=>?_) (λcdv A outer s H vs Q E hr h=>?_)
 ·obtain ⟨y,rfl,_⟩:=h
  rfl
 ·obtain ⟨y,rfl,k,kx⟩:=h
  refine ⟨_,(j9 (qi (xn (zi qJ qJ j6 (pv 0) (xk (v:=V.int 10000000000000000000000000000000000000000) rfl g_LAST_ASKED ⟨_,rfl⟩))) (j9 (xy PySem.F.excBase_ValueError x_BadYear e_BadYear rfl zk rfl (j0 qh j2))) jA)),?_⟩
  left
  refine qT (λh0=>?_) (λh0=>?_)
  ·left
   refine yb (λh1=>?_) (λh1=>?_)
   ·left
    exact ⟨by show 1<=sizeLine;decide,kx (.inr ())⟩
   ·left
    exact k h0 h1
  ·left
   refine yN ?_
   left
   exact ⟨by show 1<=sizeLine;decide,kx (.inl ())⟩
def kR:Sp:=λvs H Q _=>∃(p:Addr) (out:List V) (ms:List (Int×Int)) (y:Int),vs=[.ref p,.int y]/\H p=some (.lst out)/\kM H out ms/\ms.length<=100/\(∀q∈ms,0<=q.2/\q.2<=9)/\∀H',jf H H'->Q (.int (y+jv ms y)) H'
theorem Zk:FnScope ["surges","year"] ["surges","year"] (j7 vv):=by walk_at "s"
theorem ZE {f:Addr}{fd:FuncData}(nb:Nb2 mg) (F:Fun K "ride_by" "ride_by" vv f fd):FnOk P w K mg base CX0 1 f fd ["surges","year"] kR:=by
 refine F.ok Zk (λvs H Q E h=>?_) (λcdv A outer s H vs Q E hr h=>?_)
 ·obtain ⟨p,out,ms,y,rfl,_⟩:=h
  rfl
 ·obtain ⟨p,out,ms,y,rfl,hp,hq,h100,h9,k⟩:=h
  have hlen:out.length=ms.length:=Paired.length hq
  refine ⟨_,(j9 (ji (jk jG (pv 1) (jd (QS K rfl) rfl nb.b_sum boot_sum (j0 (jH (osc:=(j7 vv)) (ON:=["surges","year"]) (N:=["when","many","year"]) (own:=2) (caps:=[1]) ⟨rfl,∅,∅,∅,rfl,∅⟩ rfl rfl rfl (jM K (pv 0)) (λ_ _ _ _ _=>(qf (n:=2) K rfl (jg (ja (i:=0) (show List.Nodup (["when","many","year"]:List Str) by decide +kernel) rfl (Or.inl rfl)) (jg (ja (i:=1) (show List.Nodup (["when","many","year"]:List Str) by decide +kernel) rfl (Or.inl rfl)) jY)))) (λ_ _ _ _ _=>(uJ (jK qJ (pv 0) (pv 2) (jS _)))) (λ_ _ _ _ _=>(pv 1))) j2))))),?_⟩
  left
  refine ⟨⟨_,SqL.of hp⟩,λacc hacc=>?_⟩
  refine jP (K:=K) (a:=p) (xs:=out) (acc:=acc) (λi σ H2=>∃x x2:Option V,σ=[x,x2,some (.int y)]/\H2 acc=some (.lst ((((ms.take i).filter λq=>decide (q.1<=y)).map (·.2)).map V.int))/\Ext acc H H2) ?_ ?_ ?_ ?_
  ·exact ⟨none,none,rfl,j5,Ext.put⟩
  ·rintro i σ H2 hi ⟨x,x2,rfl,h2,e2⟩
   exact SqL.of (e2 _ _ hp (j1 hp hacc))
  ·rintro i v σ H2 hv ⟨x,x2,rfl,h2,e2⟩
   obtain ⟨m,hm,b,rfl,hb⟩:=Paired.get hq hv
   have hi:=(List.getElem?_eq_some_iff.mp hm).1
   have hl2:((((ms.take i).filter λq=>decide (q.1<=y)).map (·.2)).map V.int).length<=100:=by
    rw [List.length_map,List.length_map]
    exact Nat.le_trans (List.length_filter_le _ _) (by rw [List.length_take];omega)
   left
   refine ⟨b,_,rfl,SqT.of (e2 _ _ hb (j1 hb hacc)),rfl,?_⟩
   refine ⟨_,_,rfl,_,_,rfl,rfl,?_⟩
   left
   refine qT (λle=>?_) (λle=>?_)
   ·left
    refine ⟨_,h2,Nat.lt_of_le_of_lt hl2 ⋯,_,_,rfl,?_,e2.trans Ext.put⟩
    rw [j5,List.take_add_one,hm,Option.toList_some,List.filter_append,List.filter_cons_of_pos (by rw [decide_eq_true le]),List.map_append,List.map_append]
    rfl
   ·refine ⟨_,_,rfl,?_,e2⟩
    rw [List.take_add_one,hm,Option.toList_some,List.filter_append,List.filter_cons_of_neg (by rw [decide_eq_false le];exact Bool.false_ne_true),List.filter_nil,List.append_nil]
    exact h2
  ·rintro σ H2 ⟨x,x2,rfl,h2,e2⟩
   rw [hlen,List.take_length] at h2
   left
   refine ⟨acc,_,rfl,SqL.of h2,?_,λn hn=>?_,?_⟩
   ·rw [List.length_map]
    exact Nat.le_trans (List.length_filter_le _ _) ()
   ·obtain ⟨z,hz,rfl⟩:=List.mem_map.mp hn
    have:=h9 z (List.mem_filter.mp hz).1
    exact ⟨this.1,Int.le_trans this.2 ⋯⟩
   ·exact ⟨_,_,rfl,rfl,k H2 λc o hc=>e2 c o hc (j1 hc hacc)⟩
def J8 (g:IceG) (l:Int) (ns:List (Int×Int)):Prop:=0<=l/\l<(g.slopes.length:Int)/\(∃a,g.lds[l.toNat]? = some (a,ns.map kvI))/\(ns.map (·.1)).Nodup/\ns.length<64/\∀q∈ns,0<=q.2/\q.2<=9
def Xq (C CN CY:Addr):Sp:=λvs H Q E=>∃(p:Addr) (g:IceG) (l y:Int),vs=[.ref p,.int l,.int y]/\IceAt C H p g/\g.lds.length=g.slopes.length/\(l<0\/(g.slopes.length:Int)<=l->E (.ref CN) none H) /\
 (0<=l->l<(g.slopes.length:Int)->∃ns,J8 g l ns/\(∀H',jf H H'->y<0\/10 ^ 40<y->E (.ref CY) none H')/\∀H',jf H H'->0<=y->y<=10 ^ 40->Q (.int (y+jv ns y)) H')
theorem Jg:FnScope ["ice","lane","year","surges"] ["ice","lane","year"] (j7 gU):=by walk_at "s"
theorem Vc {f C CN CY:Addr}{fd:FuncData}(cl_Ice:Cls K C) (c_Ice__surges:CalMX P w K mg base 2 C "surges" ["self","lane"] (zo C CN)) (c_check_asked:CalX P w K mg base 1 "check_asked" ["year"] (zm CY)) (c_ride_by:Cal P w K mg base 1 "ride_by" ["surges","year"] kR) (F:Fun K "ridden" "ridden" gU f fd):FnOk P w K mg base (CX1 P w) 3 f fd ["ice","lane","year"] (Xq C CN CY):=by
 refine Fun.okX F Jg (λvs H Q E h=>?_) (λcdv A outer s H vs Q E hr h=>?_)
 ·obtain ⟨p,g,l,y,rfl,_⟩:=h
  rfl
 ·obtain ⟨p,g,l,y,rfl,I,hll,kx,k⟩:=h
  refine ⟨_,(j4 (jw 3 Jg.nd (xh (pv 0) cl_Ice c_Ice__surges (hr.mono ⋯) jQ (j0 (pv 1) j2)))
   (j4 (jN (qM c_check_asked (hr.mono ⋯) jQ rfl (j0 (pv 2) j2)))
   (j9 (ji (je c_ride_by (hr.mono ⋯) rfl (j0 (pv 3) (j0 (pv 2) j2))))))),?_⟩
  left
  refine ⟨p,g.dx,_,rfl,I.ob,jO ∅,?_⟩
  left
  refine ⟨p,g,l,rfl,I,hll,λhb=>kx hb,λl0 l1=>?_⟩
  obtain ⟨ns,⟨_,_,⟨a,ha⟩,nd,h64,h9⟩,ky,k⟩:=k l0 l1
  refine ⟨a,ns,ha,nd,h64,λo H1 out ms ho ho1 hq s1 hp hs=>?_⟩
  left
  refine ⟨λy0 y1=>?_,λhb=>ky H1 s1 hb⟩
  left
  refine ⟨o,out,ms,y,rfl,ho1,hq,(by rw [hp.length_eq];omega),λq hq'=>h9 q (hp.mem_iff.mp hq'),λH2 s2=>?_⟩
  rw [yr hp]
  exact k H2 (s1.trans s2) y0 y1
def kvA (z:Int×Addr):Key×V:=(.inl z.1,.ref z.2)
def xJ {α:Type}(l:List (Int×α)) (y:Int) (a:α):List (Int×α):=if (l.any λz=>decide (z.1=y))=true then l.map (λz=>if z.1=y then (z.1,a) else z) else l++[(y,a)]
theorem gX {α:Type}(f:α->V) (l:List (Int×α)) (y:Int) (a:α):qR (l.map λz=>((.inl z.1,f z.2):Key×V)) (.inl y) (f a)=(xJ l y a).map λz=>((.inl z.1,f z.2):Key×V):=by
 have e:∀z:Int,decide ((Sum.inl z:Key)=Sum.inl y)=decide (z=y):=λz=>decide_eq_decide.mpr ⟨λh=>Sum.inl.inj h,λh=>by rw [h]⟩
 have e1:((l.map λz=>((.inl z.1,f z.2):Key×V)).any λkv=>decide (kv.1=(Sum.inl y:Key)))=l.any λz=>decide (z.1=y):=by
  rw [List.any_map]
  congr 1
  funext z
  exact e z.1
 unfold qR xJ
 rw [e1]
 by_cases h:(l.any λz=>decide (z.1=y))=true
 ·rw [if_pos h,if_pos h,List.map_map,List.map_map]
  refine List.map_congr_left λz _=>?_
  show (if (Sum.inl z.1:Key)=Sum.inl y then _ else _)=_
  by_cases hz:z.1=y
  ·rw [if_pos (by rw [hz])]
   show _=(λz:Int×α=>((.inl z.1,f z.2):Key×V)) (if z.1=y then (z.1,a) else z)
   rw [if_pos hz]
  ·rw [if_neg (λw=>hz (Sum.inl.inj w))]
   show _=(λz:Int×α=>((.inl z.1,f z.2):Key×V)) (if z.1=y then (z.1,a) else z)
   rw [if_neg hz]
 ·rw [if_neg h,if_neg h,List.map_append]
  rfl
theorem kU {α:Type}{l:List (Int×α)}{y:Int}{a:α}{z:Int×α}(h:z∈xJ l y a):z∈l\/z=(y,a):=by
 unfold xJ at h
 by_cases c:(l.any λz=>decide (z.1=y))=true
 ·rw [if_pos c] at h
  obtain ⟨u,hu,e⟩:=List.mem_map.mp h
  by_cases q:u.1=y
  ·rw [if_pos q,q] at e
   exact .inr e.symm
  ·rw [if_neg q] at e
   exact .inl (e ▸ hu)
 ·rw [if_neg c] at h
  rcases List.mem_append.mp h with q | q
  ·exact .inl q
  ·exact .inr (by simpa using q)
theorem ud {α:Type}(l:List (Int×α)) (y:Int) (a:α):(xJ l y a).length<=l.length+1:=by
 unfold xJ
 split
 ·rw [List.length_map];omega
 ·rw [List.length_append];exact Nat.le_refl _
theorem kg {α:Type}{l:List (Int×α)}{y:Int}{a:α}(h:(l.map (·.1)).Nodup):((xJ l y a).map (·.1)).Nodup:=by
 unfold xJ
 by_cases c:(l.any λz=>decide (z.1=y))=true
 ·rw [if_pos c,List.map_map]
  have:(l.map ((λx=>x.1) ∘ λz=>if z.1=y then (z.1,a) else z))=l.map (·.1):=List.map_congr_left λz _=>by
   show (if z.1=y then (z.1,a) else z).1=z.1
   split <;> rfl
  rw [this]
  exact h
 ·rw [if_neg c,List.map_append]
  refine wZ h λz=>c ?_
  obtain ⟨u,hu,e⟩:=List.mem_map.mp z
  exact List.any_eq_true.mpr ⟨u,hu,decide_eq_true e⟩
structure ScN where
 p:Addr
 q:Addr
 sg:Addr
 gl:Addr
 ll:Addr
 xs:List V
 ys:List V
 zs:List V
 rs:List Rch
 ts:List T3
 ws:List (List Int)
 sk:List (Int×Addr)
 lds:List (Addr×List (Int×Int))
structure ScAt (H:Hp) (sd:Addr) (c:ScN):Prop where
 sd:H sd=some (.dK (scK c.p c.q c.sg c.gl c.ll))
 p:H c.p=some (.lst c.xs)
 rv:jZ H c.xs c.rs
 q:H c.q=some (.lst c.ys)
 r3:jC H c.ys c.ts
 gl:H c.gl=some (.lst c.zs)
 gi:yD H c.zs (c.ws.map (jb c.rs))
 ll:H c.ll=some (.lst (c.lds.map λx=>V.ref x.1))
 sg:Rd H c.sg (.dK (c.sk.map kvA))
 sk:∀z∈c.sk,∃t,H z.2=some (yT t)/\good t=true
 ld:∀x∈c.lds,Rd H x.1 (.dK (x.2.map kvI))
structure ScOk (b:Addr) (c:ScN):Prop where
 gr:Grown c.rs
 l1:1<=c.rs.length
 l8:c.rs.length<=8
 t1:1<=c.ts.length
 t2:c.ts.length<=12
 tg:c.ts.all good=true
 ro:qe c.rs c.ws
 ldl:c.lds.length=c.ws.length
 nd:(c.lds.map (·.1)).Nodup
 ns:∀x∈c.lds,x.1≠c.sg
 pb:c.p≠b
 qb:c.q≠b
 gb:c.gl≠b
 lb:c.ll≠b
 zb:V.ref b∉c.zs
 k1:(c.sk.map (·.1)).Nodup
 k2:∀z∈c.sk,0<=z.1/\z.1<=99
 k3:c.sk.length<=10
 m1:∀x∈c.lds,(x.2.map (·.1)).Nodup
 m2:∀x∈c.lds,∀z∈x.2,0<=z.1/\z.1<=99/\1<=z.2/\z.2<=9
 m3:∀x∈c.lds,x.2.length<=10
def Fr3 (N M:Addr->Prop) (H H':Hp):Prop:=∀c o,H c=some o->¬N c->H' c=some o\/(M c/\∃ob kvs,o = .dK kvs/\H' c=some (.frz ob (.dK kvs)))
theorem Fr3.at {N M:Addr->Prop}{H H':Hp}(f:Fr3 N M H H') {c:Addr}{o:HO}(h:H c=some o) (n:¬N c) (d:∀kvs,o≠.dK kvs):H' c=some o:=by
 rcases f c o h n with h1 | ⟨_,ob,kvs,e,_⟩
 ·exact h1
 ·exact absurd e (d kvs)
theorem Fr3.rd {N M:Addr->Prop}{H H':Hp}(f:Fr3 N M H H') {c:Addr}{kvs:List (Key×V)}(n:¬N c) (h:Rd H c (.dK kvs)):Rd H' c (.dK kvs):=by
 rcases h with h | ⟨o,h⟩
 ·rcases f c _ h n with h1 | ⟨_,ob,kvs',e,h1⟩
  ·exact .inl h1
  ·cases e
   exact .inr ⟨ob,h1⟩
 ·exact .inr ⟨o,f.at h n (by walk_at "w")⟩
theorem pmM {α β:Type}{F G:α->β->Prop}:∀{l₁:List α}{l₂:List β},Paired F l₁ l₂->(∀v∈l₁,∀w,F v w->G v w)->Paired G l₁ l₂
 | _,_,.nil,_=>.nil
 | _,_,.cons q r,h=>.cons (h _ (List.mem_cons_self ..) _ q) (pmM r λv hv=>h v (List.mem_cons_of_mem _ hv))
theorem ScAt.keep {N M:Addr->Prop}{H H':Hp}{sd:Addr}{c:ScN}(S:ScAt H sd c) (f:Fr3 N M H H') (nT:∀a xs,H a=some (.tup xs)->¬N a) (nsd:¬N sd) (msd:¬M sd) (np:¬N c.p) (nq:¬N c.q) (ng:¬N c.gl) (nl:¬N c.ll) (nz:∀a,V.ref a∈c.zs->¬N a) (ns:¬N c.sg) (nd:∀x∈c.lds,¬N x.1):ScAt H' sd c:=by
 have t:∀a xs,H a=some (.tup xs)->H' a=some (.tup xs):=λa xs h=>f.at h (nT a xs h) (by walk_at "w")
 refine ⟨?_,f.at S.p np (by walk_at "w"),S.rv.keep t,f.at S.q nq (by walk_at "w"),S.r3.imp λ_ _ h=>t _ _ h,f.at S.gl ng (by walk_at "w"),pmM S.gi λv hv w ⟨a,ea,q⟩=>⟨a,ea,f.at q (nz a (ea ▸ hv)) (by walk_at "w")⟩,f.at S.ll nl (by walk_at "w"),f.rd ns S.sg,λz hz=>?_,λx hx=>f.rd (nd x hx) (S.ld x hx)⟩
 ·rcases f _ _ S.sd nsd with z | ⟨z,_⟩
  ·exact z
  ·exact absurd z msd
 ·obtain ⟨u,hu,g⟩:=S.sk z hz
  exact ⟨u,t _ _ hu,g⟩
theorem ScAt.same {H H':Hp}{sd:Addr}{c:ScN}(S:ScAt H sd c) (s:jf H H'):ScAt H' sd c :=
 S.keep (N:=λ_=>False) (M:=λ_=>False) (λc o h _=>.inl (s c o h)) (λ_ _ _ z=>z) id id id id id id (λ_ _=>id) id (λ_ _=>id)
theorem ScAt.ext {L b:Addr}{H H':Hp}{sd:Addr}{c:ScN}(S:ScAt H sd c) (O:ScOk b c) (B:qj L H b) (e:Ext b H H'):ScAt H' sd c:=by
 obtain ⟨_,_,_,_,_,hb,_⟩:=B
 have nr:∀{a:Addr} {kvs:List (Key×V)},Rd H a (.dK kvs)->¬a=b:=λh z=>by
  rcases h with h | ⟨o,h⟩
  ·exact absurd z (jo h hb (by walk_at "z"))
  ·exact absurd z (jo h hb (by walk_at "z"))
 exact S.keep (N:=λa=>a=b) (M:=λ_=>False) (λc o h n=>.inl (e c o h n)) (λa xs h z=>absurd z (jo h hb (by walk_at "z"))) (jo S.sd hb (by walk_at "z")) id O.pb O.qb O.gb O.lb (λa h z=>O.zb (z ▸ h)) (nr S.sg) λx hx=>nr (S.ld x hx)
def ScN.D (c:ScN) (a:Addr):Prop:=a=c.sg\/∃x∈c.lds,x.1=a
theorem GP {p q sg gl ll:Addr}{α:Type}{f:α->V}{l:List (Int×α)}:scK p q sg gl ll≠l.map λz=>((.inl z.1,f z.2):Key×V):=λz=>by
 cases l with
 | nil=>cases z
 | cons u r =>
  have:=congrArg (λl=>l.head?.map (·.1)) z
  cases this
theorem ZY {H:Hp}{sd a p q sg gl ll:Addr}{α:Type}{f:α->V}{l:List (Int×α)}(h:H sd=some (.dK (scK p q sg gl ll))) (r:Rd H a (.dK (l.map λz=>((.inl z.1,f z.2):Key×V)))):a≠sd:=λz=>by
 subst z
 rcases r with r | ⟨o,r⟩
 ·rw [r] at h
  have e:l.map (λz=>((.inl z.1,f z.2):Key×V))=scK p q sg gl ll:=by injection h with h;injection h
  exact GP e.symm
 ·rw [r] at h
  cases h
theorem ScAt.nD {H:Hp}{sd:Addr}{c:ScN}(S:ScAt H sd c):¬c.D sd:=λz=>by
 rcases z with z | ⟨x,hx,e⟩
 ·exact ZY (f:=V.ref) S.sd S.sg z.symm
 ·exact ZY (f:=V.int) S.sd (S.ld x hx) e
structure ScB (L b:Addr) (H H2:Hp) (sd:Addr) (c:ScN):Prop where
 S:ScAt H2 sd c
 O:ScOk b c
 r1:H2 c.sg=some (.dK (c.sk.map kvA))
 r2:∀x∈c.lds,H2 x.1=some (.dK (x.2.map kvI))
 B:qj L H2 b
 X:Ext b H H2
 f1:H c.sg=none
 f2:∀x∈c.lds,H x.1=none
theorem ScB.take {L b:Addr}{H H2 H3:Hp}{sd:Addr}{c:ScN}(S:ScB L b H H2 sd c) (B:qj L H3 b) (X:Ext b H2 H3):ScB L b H H3 sd c:=by
 have hb:∃xs,H2 b=some (.lst xs):=by
  obtain ⟨_,_,_,_,_,hb,_⟩:=S.B
  exact ⟨_,hb⟩
 obtain ⟨_,hb⟩:=hb
 exact ⟨S.S.ext S.O S.B X,S.O,X _ _ S.r1 (jo S.r1 hb (by walk_at "z")),λx hx=>X _ _ (S.r2 x hx) (jo (S.r2 x hx) hb (by walk_at "z")),B,S.X.trans X,S.f1,S.f2⟩
theorem ScB.same {L b:Addr}{H H2 H3:Hp}{sd:Addr}{c:ScN}(S:ScB L b H H2 sd c) (s:jf H2 H3):ScB L b H H3 sd c:=S.take (S.B.same s) (Ext.of_same s)
theorem zp {L b:Addr}{Ha Hb:Hp}(B:qj L Ha b) (e:Ext b Ha Hb):jj Ha Hb:=by
 obtain ⟨ns,a,r,c,d,h1,_⟩:=B
 exact jj.lst e h1
theorem ScB.single {L b:Addr}{H H2:Hp}{sd t:Addr}{c:ScN}{y:Int}{r:T3}(S:ScB L b H H2 sd c) (y0:0<=y) (y1:y<=99) (ht:H2 t=some (yT r)) (hg:good r=true) (hl:c.sk.length+1<=10) :
  ScB L b H (upd H2 c.sg (.dK (qR (c.sk.map kvA) (.inl y) (.ref t)))) sd { c with sk:=xJ c.sk y t }:=by
 have e:qR (c.sk.map kvA) (.inl y) (.ref t)=(xJ c.sk y t).map kvA:=gX V.ref c.sk y t
 rw [e]
 have nT:∀{a:Addr} {o:HO},H2 a=some o->(∀kvs,o≠.dK kvs)->(upd H2 c.sg (.dK ((xJ c.sk y t).map kvA))) a=some o:=λh n=>by rw [j8 (jo h S.r1 (n _))];exact h
 have sdn:sd≠c.sg:=(ZY (f:=V.ref) S.S.sd S.S.sg).symm
 have hb:∃xs,H2 b=some (.lst xs):=by
  obtain ⟨_,_,_,_,_,hb,_⟩:=S.B
  exact ⟨_,hb⟩
 obtain ⟨_,hb⟩:=hb
 have hL:∃xs,H2 L=some (.lst xs):=by
  obtain ⟨_,_,_,_,_,_,_,hL,_⟩:=S.B
  exact ⟨_,hL⟩
 obtain ⟨_,hL⟩:=hL
 refine ⟨⟨by rw [j8 sdn];exact S.S.sd,nT S.S.p (by walk_at "w"),S.S.rv.keep λ_ _ h=>nT h (by walk_at "w"),nT S.S.q (by walk_at "w"),S.S.r3.imp λ_ _ h=>nT h (by walk_at "w"),nT S.S.gl (by walk_at "w"),pmM S.S.gi λv hv w ⟨a,ea,q⟩=>⟨a,ea,nT q (by walk_at "w")⟩,nT S.S.ll (by walk_at "w"),.inl j5,λz hz=>?_,λx hx=>.inl (by rw [j8 (S.O.ns x hx)];exact S.r2 x hx)⟩,?_,j5,λx hx=>by rw [j8 (S.O.ns x hx)];exact S.r2 x hx,S.B.put (jo S.r1 hb (by walk_at "z")) (jo S.r1 hL (by walk_at "z")),λd o hd n=>?_,S.f1,S.f2⟩
 ·rcases kU hz with z | z
  ·obtain ⟨u,hu,g⟩:=S.S.sk _ z
   exact ⟨u,nT hu (by walk_at "w"),g⟩
  ·subst z
   exact ⟨r,nT ht (by walk_at "w"),hg⟩
 ·have O:=S.O
  exact ⟨O.gr,O.l1,O.l8,O.t1,O.t2,O.tg,O.ro,O.ldl,O.nd,O.ns,O.pb,O.qb,O.gb,O.lb,O.zb,kg O.k1,λz hz=>by
   rcases kU hz with q | q
   ·exact O.k2 z q
   ·subst q;exact ⟨y0,y1⟩,Nat.le_trans (ud _ _ _) hl,O.m1,O.m2,O.m3⟩
 ·rw [j8 (j1 hd S.f1)]
  exact S.X d o hd n
theorem uR {α β:Type}{l:List (α×β)}{n:Nat}{a:α}{u v:β}(nd:(l.map (·.1)).Nodup) (hn:l[n]? = some (a,u)) {x:α×β}(hx:x∈l.set n (a,v)):x=(a,v)\/(x∈l/\x.1≠a):=by
 obtain ⟨i,hi,e⟩:=List.mem_iff_getElem.mp hx
 have hi':i<l.length:=by rw [List.length_set] at hi;exact hi
 obtain ⟨hn1,hn2⟩:=List.getElem?_eq_some_iff.mp hn
 by_cases q:n=i
 ·subst q
  rw [List.getElem_set_self] at e
  exact .inl e.symm
 ·rw [List.getElem_set_ne q] at e
  refine .inr ⟨e ▸ List.getElem_mem hi',λz=>q ?_⟩
  have h1:(l.map (·.1))[n]'(by rw [List.length_map];exact hn1)=(l.map (·.1))[i]'(by rw [List.length_map];exact hi'):=by
   rw [List.getElem_map,List.getElem_map,hn2,e,z]
  rcases Nat.lt_trichotomy n i with g | g | g
  ·exact absurd h1 (List.pairwise_iff_getElem.mp nd n i _ _ g)
  ·exact g
  ·exact absurd h1.symm (List.pairwise_iff_getElem.mp nd i n _ _ g)
theorem Y6 {α β:Type}{l:List (α×β)}{n:Nat}{a:α}{u v:β}(hn:l[n]? = some (a,u)):(l.set n (a,v)).map (·.1)=l.map (·.1):=by
 obtain ⟨hn1,hn2⟩:=List.getElem?_eq_some_iff.mp hn
 rw [List.map_set]
 refine List.ext_getElem? λi=>?_
 rw [List.getElem?_set]
 by_cases q:n=i
 ·subst q
  rw [if_pos rfl,if_pos (by rw [List.length_map];exact hn1),List.getElem?_map,hn]
  rfl
 ·rw [if_neg q]
theorem ScB.leap {L b:Addr}{H H2:Hp}{sd a:Addr}{c:ScN}{n:Nat}{y m:Int}{ns:List (Int×Int)}(S:ScB L b H H2 sd c) (hn:c.lds[n]? = some (a,ns)) (y0:0<=y) (y1:y<=99) (m0:1<=m) (m1:m<=9) (hl:ns.length+1<=10) :
  ScB L b H (upd H2 a (.dK (qR (ns.map kvI) (.inl y) (.int m)))) sd { c with lds:=c.lds.set n (a,xJ ns y m) }:=by
 have e:qR (ns.map kvI) (.inl y) (.int m)=(xJ ns y m).map kvI:=gX V.int ns y m
 rw [e]
 have hm:=List.mem_of_getElem? hn
 have ra:=S.r2 _ hm
 have nT:∀{d:Addr} {o:HO},H2 d=some o->(∀kvs,o≠.dK kvs)->(upd H2 a (.dK ((xJ ns y m).map kvI))) d=some o:=λh n=>by rw [j8 (jo h ra (n _))];exact h
 have sdn:sd≠a:=(ZY (f:=V.int) S.S.sd (S.S.ld _ hm)).symm
 have hb:∃xs,H2 b=some (.lst xs):=by
  obtain ⟨_,_,_,_,_,hb,_⟩:=S.B
  exact ⟨_,hb⟩
 obtain ⟨_,hb⟩:=hb
 have hL:∃xs,H2 L=some (.lst xs):=by
  obtain ⟨_,_,_,_,_,_,_,hL,_⟩:=S.B
  exact ⟨_,hL⟩
 obtain ⟨_,hL⟩:=hL
 have fs:=Y6 (v:=xJ ns y m) hn
 have fs2:(c.lds.set n (a,xJ ns y m)).map (λx=>V.ref x.1)=c.lds.map λx=>V.ref x.1:=by
  have:=congrArg (List.map V.ref) fs
  rw [List.map_map,List.map_map] at this
  exact this
 have sg:c.sg≠a:=(S.O.ns _ hm).symm
 have r2:∀x∈c.lds.set n (a,xJ ns y m),(upd H2 a (.dK ((xJ ns y m).map kvI))) x.1=some (.dK (x.2.map kvI)):=λx hx=>by
  rcases uR S.O.nd hn hx with z | ⟨z,w⟩
  ·subst z
   exact j5
  ·rw [j8 w]
   exact S.r2 x z
 have mem:∀x∈c.lds.set n (a,xJ ns y m),∃x'∈c.lds,x'.1=x.1:=λx hx=>by
  have:x.1∈(c.lds.set n (a,xJ ns y m)).map (·.1):=List.mem_map_of_mem hx
  rw [fs] at this
  exact List.mem_map.mp this
 have O:=S.O
 refine ⟨⟨by rw [j8 sdn];exact S.S.sd,nT S.S.p (by walk_at "w"),S.S.rv.keep λ_ _ h=>nT h (by walk_at "w"),nT S.S.q (by walk_at "w"),S.S.r3.imp λ_ _ h=>nT h (by walk_at "w"),nT S.S.gl (by walk_at "w"),pmM S.S.gi λv hv w ⟨a,ea,q⟩=>⟨a,ea,nT q (by walk_at "w")⟩,?_,.inl (by show upd _ _ _ c.sg=_;rw [j8 sg];exact S.r1),λz hz=>?_,λx hx=>.inl (r2 x hx)⟩,⟨O.gr,O.l1,O.l8,O.t1,O.t2,O.tg,O.ro,?_,?_,?_,O.pb,O.qb,O.gb,O.lb,O.zb,O.k1,O.k2,O.k3,?_,?_,?_⟩,(by show upd _ _ _ c.sg=_;rw [j8 sg];exact S.r1),r2,S.B.put (jo ra hb (by walk_at "z")) (jo ra hL (by walk_at "z")),λd o hd n=>?_,S.f1,?_⟩
 ·show _=some (HO.lst ((c.lds.set n (a,xJ ns y m)).map λx=>V.ref x.1))
  rw [fs2]
  exact nT S.S.ll (by walk_at "w")
 ·obtain ⟨u,hu,g⟩:=S.S.sk _ hz
  exact ⟨u,nT hu (by walk_at "w"),g⟩
 ·show (c.lds.set n (a,xJ ns y m)).length=_
  rw [List.length_set]
  exact O.ldl
 ·show ((c.lds.set n (a,xJ ns y m)).map (·.1)).Nodup
  rw [fs]
  exact O.nd
 ·intro x hx
  obtain ⟨x',h1,h2⟩:=mem x hx
  rw [<- h2]
  exact O.ns x' h1
 ·intro x hx
  rcases uR S.O.nd hn hx with z | ⟨z,w⟩
  ·subst z;exact kg (O.m1 _ hm)
  ·exact O.m1 x z
 ·intro x hx
  rcases uR S.O.nd hn hx with z | ⟨z,w⟩
  ·subst z
   intro u hu
   rcases kU hu with q | q
   ·exact O.m2 _ hm u q
   ·subst q;exact ⟨y0,y1,m0,m1⟩
  ·exact O.m2 x z
 ·intro x hx
  rcases uR S.O.nd hn hx with z | ⟨z,w⟩
  ·subst z;exact Nat.le_trans (ud _ _ _) hl
  ·exact O.m3 x z
 ·rw [j8 (j1 hd (S.f2 _ hm))]
  exact S.X d o hd n
 ·intro x hx
  obtain ⟨x',h1,h2⟩:=mem x hx
  rw [<- h2]
  exact S.f2 x' h1
theorem put4 {p q sg gl:Addr}:qR (xg [] [(.inr "reaches",.ref p),(.inr "rows",.ref q),(.inr "single",.ref sg)]) (.inr "grounds") (.ref gl)=[((.inr "reaches",.ref p):Key×V),(.inr "rows",.ref q),(.inr "single",.ref sg),(.inr "grounds",.ref gl)]:=by
 have e1:(qR [] (.inr "reaches") (.ref p):List (Key×V))=[(.inr "reaches",.ref p)]:=yZ _ vf
 have e2:qR [((.inr "reaches",.ref p):Key×V)] (.inr "rows") (.ref q)=[(.inr "reaches",.ref p),(.inr "rows",.ref q)]:=yZ _ ((jx (show (Sum.inr (Str.ofString "reaches"):Key)≠Sum.inr (Str.ofString "rows") by decide +kernel)).trans vf)
 have e3:qR [((.inr "reaches",.ref p):Key×V),(.inr "rows",.ref q)] (.inr "single") (.ref sg)=[(.inr "reaches",.ref p),(.inr "rows",.ref q),(.inr "single",.ref sg)]:=yZ _ ((jx (show (Sum.inr (Str.ofString "reaches"):Key)≠Sum.inr (Str.ofString "single") by decide +kernel)).trans ((jx (show (Sum.inr (Str.ofString "rows"):Key)≠Sum.inr (Str.ofString "single") by decide +kernel)).trans vf))
 have e4:qR [((.inr "reaches",.ref p):Key×V),(.inr "rows",.ref q),(.inr "single",.ref sg)] (.inr "grounds") (.ref gl)=[((.inr "reaches",.ref p):Key×V),(.inr "rows",.ref q),(.inr "single",.ref sg),(.inr "grounds",.ref gl)]:=yZ _ ((jx (show (Sum.inr (Str.ofString "reaches"):Key)≠Sum.inr (Str.ofString "grounds") by decide +kernel)).trans ((jx (show (Sum.inr (Str.ofString "rows"):Key)≠Sum.inr (Str.ofString "grounds") by decide +kernel)).trans ((jx (show (Sum.inr (Str.ofString "single"):Key)≠Sum.inr (Str.ofString "grounds") by decide +kernel)).trans vf)))
 have e:xg [] [((.inr "reaches",.ref p):Key×V),(.inr "rows",.ref q),(.inr "single",.ref sg)]=[(.inr "reaches",.ref p),(.inr "rows",.ref q),(.inr "single",.ref sg)]:=by
  show qR (qR (qR ([]:List (Key×V)) (.inr "reaches") (.ref p)) (.inr "rows") (.ref q)) (.inr "single") (.ref sg)=_
  rw [e1,e2,e3]
 rw [e,e4]
theorem put5 {p q sg gl ll:Addr}:qR [((.inr "reaches",.ref p):Key×V),(.inr "rows",.ref q),(.inr "single",.ref sg),(.inr "grounds",.ref gl)] (.inr "leaps") (.ref ll)=scK p q sg gl ll :=
 yZ _ ((jx (show (Sum.inr (Str.ofString "reaches"):Key)≠Sum.inr (Str.ofString "leaps") by decide +kernel)).trans ((jx (show (Sum.inr (Str.ofString "rows"):Key)≠Sum.inr (Str.ofString "leaps") by decide +kernel)).trans ((jx (show (Sum.inr (Str.ofString "single"):Key)≠Sum.inr (Str.ofString "leaps") by decide +kernel)).trans ((jx (show (Sum.inr (Str.ofString "grounds"):Key)≠Sum.inr (Str.ofString "leaps") by decide +kernel)).trans vf))))
theorem QK (p q sg gl:Addr):qK [((.inr "reaches",.ref p):Key×V),(.inr "rows",.ref q),(.inr "single",.ref sg),(.inr "grounds",.ref gl)] (.inr "grounds")=some (.ref gl):=(jx (show (Sum.inr (Str.ofString "reaches"):Key)≠Sum.inr (Str.ofString "grounds") by decide +kernel)).trans ((jx (show (Sum.inr (Str.ofString "rows"):Key)≠Sum.inr (Str.ofString "grounds") by decide +kernel)).trans ((jx (show (Sum.inr (Str.ofString "single"):Key)≠Sum.inr (Str.ofString "grounds") by decide +kernel)).trans xD))
theorem ZP {rs:List Rch}(G:Grown rs):∀r∈rs,r.2.length<=12:=λr hr=>by
 obtain ⟨i,hi,e⟩:=List.mem_iff_getElem.mp hr
 have:=Q8 G.ok (List.getElem?_eq_getElem hi)
 rw [e] at this
 unfold okR at this
 rw [Bool.and_eq_true,Bool.and_eq_true] at this
 have:=of_decide_eq_true this.1.2
 omega
theorem WJ {v:Int}(a:0<=v) (b:v<3):∃n,atI [V.int 1,V.int 4,V.int 9] v=some (V.int n)/\0<n/\n<=9:=by
 have h:v=0\/v=1\/v=2:=()
 rcases h with rfl | rfl | rfl
 ·exact ⟨1,rfl,(),()⟩
 ·exact ⟨4,rfl,(),()⟩
 ·exact ⟨9,rfl,(),()⟩
theorem UT {v:Int}(a:0<=v) (b:v<3):∃n,atI [V.int 1,V.int 3,V.int 7] v=some (V.int n)/\0<n/\n<=7:=by
 have h:v=0\/v=1\/v=2:=()
 rcases h with rfl | rfl | rfl
 ·exact ⟨1,rfl,(),()⟩
 ·exact ⟨3,rfl,(),()⟩
 ·exact ⟨7,rfl,(),()⟩
theorem ET {v:Int}(a:0<=v) (b:v<2):∃n,atI [V.int 2,V.int 9] v=some (V.int n)/\0<n/\n<=9:=by
 have h:v=0\/v=1:=()
 rcases h with rfl | rfl
 ·exact ⟨2,rfl,(),()⟩
 ·exact ⟨9,rfl,(),()⟩
theorem JK {rs:List Rch}(L:xu rs) (h:1<=rs.length):1<=(jq rs).length:=by
 have:(rs.length-1)∈jq rs:=by
  refine List.mem_filter.mpr ⟨List.mem_range.mpr (),?_⟩
  unfold jU
  rw [decide_eq_false]
  ·rfl
  ·intro z
   have:=Zv L z
   omega
 exact List.length_pos_of_mem this
def ZQ:Sp:=λvs H Q _=>∃(L b:Addr),vs=[.ref b]/\qj L H b/\∀sd H' c,qj L H' b->Ext b H H'->ScAt H' sd c->ScOk b c->Q (.ref sd) H'
theorem qY:FnScope ["_law_box_here","_law_reaches_here","_law_scene_here","_law_turn","_law_lane"] ["_law_box_here"] (j7 zd):=by walk_at "s"
theorem Uj {f:Addr}{fd:FuncData}(nb:Nb2 mg) (c_law_take:Cal P w K mg base 2 "_law_take" ["_law_box_here","_law_size"] xV) (c_law_reaches:Cal P w K mg base 4 "_law_reaches" ["_law_box_here"] kS) (c_law_round:Cal P w K mg base 4 "_law_round" ["_law_box_here"] wE) (c_law_ground:Cal P w K mg base 1 "_law_ground" ["_law_reaches_here","_law_road"] (QG K)) (c_law_roads:Cal P w K mg base 1 "_law_roads" ["_law_reaches_here"] (Xm K)) (c_law_year:Cal P w K mg base 3 "_law_year" ["_law_box_here"] Zi) (c_law_weather:Cal P w K mg base 3 "_law_weather" ["_law_box_here"] wj)
  (F:Fun K "_law_scene" "_law_scene" zd f fd):FnOk P w K mg base CX0 5 f fd ["_law_box_here"] ZQ:=by
 refine F.ok qY (λvs H Q E h=>?_) (λcdv A outer s H vs Q E hr h=>?_)
 ·obtain ⟨L,b,rfl,_⟩:=h
  rfl
 ·obtain ⟨L,b,rfl,B,k⟩:=h
  refine ⟨_,(j4 (xP (i:=1) qY.nd rfl (Or.inr rfl) (je c_law_reaches (hr.mono ⋯) rfl (j0 (pv 0) j2)))
   (j4 (jw 2 qY.nd (Wh (kj qh (pv 1) (kj qh (je c_law_round (hr.mono ⋯) rfl (j0 (pv 0) j2)) (kj qh uo UC))) rfl rfl (λz=>by cases z) ⋯))
   (j4 (vk (qQ hr) (pv 2) qh (jH (osc:=(j7 zd)) (ON:=["_law_box_here","_law_reaches_here","_law_scene_here","_law_turn","_law_lane"]) (N:=["_law_road","_law_reaches_here"]) (own:=1) (caps:=[1]) ⟨rfl,∅,∅,∅,rfl,∅⟩ rfl rfl rfl (jM K (je c_law_roads (hr.mono ⋯) rfl (j0 (pv 1) j2))) (λ_ _ _ _ _=>(ja (i:=0) (show List.Nodup (["_law_road","_law_reaches_here"]:List Str) by decide +kernel) rfl (Or.inl rfl))) (λ_ _ _ _ _=>ju) (λ_ _ _ _ _=>(je c_law_ground (hr.mono ⋯) rfl (j0 (pv 1) (j0 (pv 0) j2))))) rfl)
   (uM (vk (qQ hr) (pv 2) qh (jH (osc:=(j7 zd)) (ON:=["_law_box_here","_law_reaches_here","_law_scene_here","_law_turn","_law_lane"]) (N:=["_law_ground_here"]) (own:=1) (caps:=[]) ⟨rfl,∅,∅,∅,rfl,∅⟩ rfl rfl rfl (jM K (qG (qQ hr) (pv 2) qh (λ_ _=>rfl))) (λ_ _ _ _ _=>(ja (i:=0) (show List.Nodup (["_law_ground_here"]:List Str) by decide +kernel) rfl (Or.inl rfl))) (λ_ _ _ _ _=>ju) (λ_ _ _ _ _=>uo)) rfl)
   (uM (xc PassesOwn.never rfl (qc rfl nb.b_range (j0 (je c_law_take (hr.mono ⋯) rfl (j0 (pv 0) (j0 (js (jh K) (jR (j0 j6 (j0 j6 (j0 j6 j2)))) (je c_law_take (hr.mono ⋯) rfl (j0 (pv 0) (j0 j6 j2))) (λ_ _=>rfl)) j2))) j2)) (ja (i:=3) qY.nd rfl (Or.inl rfl)) (j9 (vk (qQ hr) (qG (qQ hr) (pv 2) qh (λ_ _=>rfl)) (je c_law_year (hr.mono ⋯) rfl (j0 (pv 0) j2)) (je c_law_weather (hr.mono ⋯) rfl (j0 (pv 0) j2)) rfl)))
   (j4 (xc PassesOwn.never rfl (qc rfl nb.b_range (j0 (je c_law_take (hr.mono ⋯) rfl (j0 (pv 0) (j0 (js (jh K) (jR (j0 j6 (j0 j6 (j0 j6 j2)))) (je c_law_take (hr.mono ⋯) rfl (j0 (pv 0) (j0 j6 j2))) (λ_ _=>rfl)) j2))) j2)) (ja (i:=3) qY.nd rfl (Or.inl rfl)) (j4 (jw 4 qY.nd (je c_law_take (hr.mono ⋯) rfl (j0 (pv 0) (j0 (jd (jm K) rfl nb.b_len PySem.boot_len (j0 (qG (qQ hr) (pv 2) qh (λ_ _=>rfl)) j2)) j2))))
   (j9 (vk (qQ hr) (js (jh K) (qG (qQ hr) (pv 2) qh (λ_ _=>rfl)) (pv 4) (λ_ _=>rfl)) (je c_law_year (hr.mono ⋯) rfl (j0 (pv 0) j2)) (jk jG j6 (je c_law_take (hr.mono ⋯) rfl (j0 (pv 0) (j0 (js (jh K) (jR (j0 j6 (j0 j6 j2))) (je c_law_take (hr.mono ⋯) rfl (j0 (pv 0) (j0 j6 j2))) (λ_ _=>rfl)) j2)))) rfl))))
   (j9 (ji (pv 2))))))))),?_⟩
  left
  refine ⟨L,b,rfl,B,λp H1 xs rs B1 X1 hp hp1 r1 g1 l1 l8=>?_⟩
  have pb:p≠b:=B.ne hp
  left
  intro sd hsd
  have sdb:sd≠b:=B1.ne hsd
  have sd0:H sd=none:=X1.free hsd sdb
  left
  have Ba:qj L (upd H1 sd (.dK [])) b:=B1.put sdb (B1.neL hsd)
  refine ⟨L,b,rfl,Ba,λq Hb ys ts Bb Xb hq hqb r3b ht12 htg=>?_⟩
  have qb:q≠b:=Ba.ne hq
  have qsd:q≠sd:=λz=>by rw [z,j5] at hq;cases hq
  have sdB:Hb sd=some (.dK []):=Xb _ _ j5 sdb
  have pB:Hb p=some (.lst xs):=Xb _ _ (by rw [j8 (j1 hp1 hsd)];exact hp1) pb
  have rB:jZ Hb xs rs:=(r1.keep (jj.same (jf.new hsd))).keep (zp Ba Xb)
  have XB:Ext b H Hb:=(X1.trans (Ext.new hsd)).trans Xb
  left
  intro sg hsg
  have sgb:sg≠b:=Bb.ne hsg
  have sg0:H sg=none:=XB.free hsg sgb
  have sgsd:sg≠sd:=(j1 sdB hsg).symm
  left
  refine ⟨by rw [j8 sgsd.symm];exact sdB,[(.inr "reaches",.ref p),(.inr "rows",.ref q),(.inr "single",.ref sg)],rfl,by show 3<=15;decide,?_⟩
  have sC:jf Hb (upd Hb sg (.dK [])):=jf.new hsg
  have nD:∀{a:Addr} {o:HO},Hb a=some o->a≠sd->(upd (upd Hb sg (.dK [])) sd (.dK (xg [] [(.inr "reaches",.ref p),(.inr "rows",.ref q),(.inr "single",.ref sg)]))) a=some o:=λh n=>by rw [j8 n];exact sC _ _ h
  have dD:(upd (upd Hb sg (.dK [])) sd (.dK (xg [] [(.inr "reaches",.ref p),(.inr "rows",.ref q),(.inr "single",.ref sg)]))) sd=some (.dK (xg [] [(.inr "reaches",.ref p),(.inr "rows",.ref q),(.inr "single",.ref sg)])):=j5
  have pD:=nD pB (jo pB sdB (by walk_at "z"))
  have rD:jZ (upd (upd Hb sg (.dK [])) sd (.dK (xg [] [(.inr "reaches",.ref p),(.inr "rows",.ref q),(.inr "single",.ref sg)]))) xs rs:=rB.keep λ_ _ h=>nD h (jo h sdB (by walk_at "z"))
  have qD:=nD hqb qsd
  have r3D:jC (upd (upd Hb sg (.dK [])) sd (.dK (xg [] [(.inr "reaches",.ref p),(.inr "rows",.ref q),(.inr "single",.ref sg)]))) ys ts:=r3b.imp λ_ _ h=>nD h (jo h sdB (by walk_at "z"))
  have sgD:(upd (upd Hb sg (.dK [])) sd (.dK (xg [] [(.inr "reaches",.ref p),(.inr "rows",.ref q),(.inr "single",.ref sg)]))) sg=some (.dK []):=by rw [j8 sgsd];exact j5
  have BD:qj L (upd (upd Hb sg (.dK [])) sd (.dK (xg [] [(.inr "reaches",.ref p),(.inr "rows",.ref q),(.inr "single",.ref sg)]))) b:=(Bb.same sC).put sdb (B1.neL hsd)
  have XD:Ext b H (upd (upd Hb sg (.dK [])) sd (.dK (xg [] [(.inr "reaches",.ref p),(.inr "rows",.ref q),(.inr "single",.ref sg)]))):=λc o h n=>nD (XB c o h n) (j1 h sd0)
  clear nD sC hsg sdB pB rB XB hqb r3b Bb Xb hq Ba
  generalize (upd (upd Hb sg (.dK [])) sd (.dK (xg [] [(.inr "reaches",.ref p),(.inr "rows",.ref q),(.inr "single",.ref sg)])))=Hd at *
  have Ld:=qk g1.ok
  left
  refine ⟨p,xs,rs,rfl,pD,rD,Ld,(),λl He out ws hl hle w1 hR s1=>?_⟩
  left
  refine ⟨⟨_,SqL.of hle⟩,λgl hgl=>?_⟩
  have hlw:out.length=ws.length:=Paired.length w1
  have hws:ws.length<=6:=by rw [hR.length];exact g1.heads
  have h100:∀r∈rs,r.2.length<=100:=λr hr=>Nat.le_trans (ZP g1 r hr) ⋯
  have BE:=BD.same s1
  have glb:gl≠b:=BE.ne hgl
  refine jP (K:=K) (a:=l) (xs:=out) (acc:=gl) (λi σ H2=>∃(x:Option V) (zs:List V),σ=[x,some (.ref p)]/\H2 gl=some (.lst zs)/\zs.length=i/\Paired (λv (w:List Int)=>∃a,v=V.ref a/\H2 a=some (.lst (w.map V.int))/\He a=none/\a≠gl) zs ((ws.take i).map (jb rs))/\Ext gl He H2) ?_ ?_ ?_ ?_
  ·exact ⟨none,[],rfl,j5,rfl,.nil,Ext.put⟩
  ·rintro i σ H2 hi ⟨x,zs,rfl,h2,hz,r2,e2⟩
   exact SqL.of (e2 _ _ hle (j1 hle hgl))
  ·rintro i v σ H2 hv ⟨x,zs,rfl,h2,hz,r2,e2⟩
   obtain ⟨wy,hwy,a,rfl,ha1⟩:=Paired.get w1 hv
   have hi:=(List.getElem?_eq_some_iff.mp hwy).1
   obtain ⟨x',hx',ewy⟩:=hR.mem (List.mem_of_getElem? hwy)
   have ha2:=e2 _ _ ha1 (j1 ha1 hgl)
   have hr1:=s1 _ _ pD
   have hl':=uL Ld x' (xx hx')
   have:=xx hx'
   left
   refine ⟨p,a,xs,rs,wy,rfl,e2 _ _ hr1 (j1 hr1 hgl),(rD.keep (jj.same s1)).keep (jj.new e2 hgl),h100,ha2,by rw [ewy];exact ze Ld x' (xx hx'),by rw [ewy];omega,λt H3 ht ht3 s3=>?_⟩
   have ta:t≠gl:=(j1 h2 ht).symm
   refine ⟨zs,s3 _ _ h2,jc (),some (.ref a),zs++[.ref t],rfl,j5,by rw [List.length_append,hz];rfl,?_,λc o hc n=>by rw [j8 n];exact s3 _ _ (e2 c o hc n)⟩
   rw [qI (jb rs) ws i wy hwy]
   exact Paired.snoc (Paired.mapP r2 λv wy ⟨a,e,ha,h0,na⟩=>⟨a,e,by rw [j8 na];exact s3 _ _ ha,h0,na⟩) ⟨t,rfl,by rw [j8 ta];exact ht3,e2.free ht ta,ta⟩
  rintro σ H2 ⟨x,zs,rfl,h2,hz,r2,e2⟩
  rw [hlw,List.take_length] at r2
  have gi2:yD H2 zs (ws.map (jb rs)):=Paired.mapP r2 λv wy ⟨a,e,ha,h0,na⟩=>⟨a,e,ha⟩
  have zb:V.ref b∉zs:=λz=>by
   obtain ⟨_,a,e,_,h0,_⟩:=pm r2 _ z
   cases e
   exact absurd rfl (BE.ne h0)
  have s2:jf Hd H2:=λc o hc=>e2 _ _ (s1 _ _ hc) (j1 (s1 _ _ hc) hgl)
  have gl0:Hd gl=none:=s1.free hgl
  left
  refine ⟨sd,_,rfl,J7.k (k:=.inr "grounds") (s2 _ _ dD) (jc (Nat.le_trans (zZ _ _) (by show 0+3<=1000;decide))),?_⟩
  rw [put4]
  have nF:∀{a:Addr} {o:HO},H2 a=some o->(∀kvs,o≠.dK kvs)->(upd H2 sd (.dK [((.inr "reaches",.ref p):Key×V),(.inr "rows",.ref q),(.inr "single",.ref sg),(.inr "grounds",.ref gl)])) a=some o:=λh n=>by rw [j8 (jo h (s2 _ _ dD) (n _))];exact h
  have dF:(upd H2 sd (.dK [((.inr "reaches",.ref p):Key×V),(.inr "rows",.ref q),(.inr "single",.ref sg),(.inr "grounds",.ref gl)])) sd=some (.dK [((.inr "reaches",.ref p):Key×V),(.inr "rows",.ref q),(.inr "single",.ref sg),(.inr "grounds",.ref gl)]):=j5
  have pF:=nF (s2 _ _ pD) (by walk_at "w")
  have qF:=nF (s2 _ _ qD) (by walk_at "w")
  have rF:jZ (upd H2 sd (.dK [((.inr "reaches",.ref p):Key×V),(.inr "rows",.ref q),(.inr "single",.ref sg),(.inr "grounds",.ref gl)])) xs rs:=rD.keep λ_ _ h=>nF (s2 _ _ h) (by walk_at "w")
  have r3F:jC (upd H2 sd (.dK [((.inr "reaches",.ref p):Key×V),(.inr "rows",.ref q),(.inr "single",.ref sg),(.inr "grounds",.ref gl)])) ys ts:=r3D.imp λ_ _ h=>nF (s2 _ _ h) (by walk_at "w")
  have gF:=nF h2 (by walk_at "w")
  have giF:yD (upd H2 sd (.dK [((.inr "reaches",.ref p):Key×V),(.inr "rows",.ref q),(.inr "single",.ref sg),(.inr "grounds",.ref gl)])) zs (ws.map (jb rs)):=Paired.mapP gi2 λv wy ⟨a,e,ha⟩=>⟨a,e,nF ha (by walk_at "w")⟩
  have sgF:(upd H2 sd (.dK [((.inr "reaches",.ref p):Key×V),(.inr "rows",.ref q),(.inr "single",.ref sg),(.inr "grounds",.ref gl)])) sg=some (.dK []):=by rw [j8 sgsd];exact s2 _ _ sgD
  have BF:qj L (upd H2 sd (.dK [((.inr "reaches",.ref p):Key×V),(.inr "rows",.ref q),(.inr "single",.ref sg),(.inr "grounds",.ref gl)])) b:=(BD.same s2).put sdb (B1.neL hsd)
  have XF:Ext b H (upd H2 sd (.dK [((.inr "reaches",.ref p):Key×V),(.inr "rows",.ref q),(.inr "single",.ref sg),(.inr "grounds",.ref gl)])):=λc o h n=>by rw [j8 (j1 h sd0)];exact s2 _ _ (XD c o h n)
  clear nF gi2 s2 h2 r2 e2 BE hgl s1 w1 hle hl pD rD qD r3D sgD BD XD dD h100
  generalize (upd H2 sd (.dK [((.inr "reaches",.ref p):Key×V),(.inr "rows",.ref q),(.inr "single",.ref sg),(.inr "grounds",.ref gl)]))=Hf at *
  have hzw:zs.length<=6:=()
  refine ⟨λσ H5=>∃c,σ=[some (.ref b),some (.ref p),some (.ref sd),none,none]/\ScB L b H H5 sd c/\c.sk=[]/\∀x∈c.lds,x.2=[],?_,?_⟩
  ·left
   refine ⟨sd,.ref gl,rfl,by rw [<- QK p q sg gl];exact xY.k (k:=.inr "grounds") dF,?_⟩
   left
   refine ⟨⟨_,SqL.of gF⟩,λle hle=>?_⟩
   have leb:le≠b:=BF.ne hle
   refine jP (K:=K) (a:=gl) (xs:=zs) (acc:=le) (λi σ He=>∃(x:Option V) (lds:List (Addr×List (Int×Int))),σ=[x]/\He le=some (.lst (lds.map λx=>V.ref x.1))/\lds.length=i/\(∀x∈lds,He x.1=some (.dK [])/\x.2=[]/\Hf x.1=none/\x.1≠le)/\(lds.map (·.1)).Nodup/\Ext le Hf He) ?_ ?_ ?_ ?_
   ·exact ⟨none,[],rfl,j5,rfl,(λx z=>by cases z),List.nodup_nil,Ext.put⟩
   ·rintro i σ He hi ⟨x,lds,rfl,he,hl,hd,nn,e⟩
    exact SqL.of (e _ _ gF (j1 gF hle))
   ·rintro i v σ He hv ⟨x,lds,rfl,he,hl,hd,nn,e⟩
    have hi:=(List.getElem?_eq_some_iff.mp hv).1
    left
    intro d hd0
    have dl:d≠le:=(j1 he hd0).symm
    refine ⟨_,(by rw [j8 (Ne.symm dl)];exact he),by rw [List.length_map];exact jc (),some v,lds++[(d,[])],rfl,(by rw [j5,List.map_append];rfl),(by rw [List.length_append,hl];rfl),λy hy=>?_,?_,λc o hc n=>?_⟩
    ·rcases List.mem_append.mp hy with z | z
     ·obtain ⟨h1,h2,h3,h4⟩:=hd y z
      exact ⟨by rw [j8 h4,j8 (j1 h1 hd0)];exact h1,h2,h3,h4⟩
     ·obtain rfl:y=(d,[]):=by simpa using z
      exact ⟨by rw [j8 dl];exact j5,rfl,e.free hd0 dl,dl⟩
    ·rw [List.map_append]
     refine wZ nn λz=>?_
     obtain ⟨y,hy,ey⟩:=List.mem_map.mp z
     have:=(hd y hy).1
     rw [ey,hd0] at this
     cases this
    ·rw [j8 n,j8 (j1 (e c o hc n) hd0)]
     exact e c o hc n
   ·rintro σ He ⟨x,lds,rfl,he,hl,hd,nn,e⟩
    have sE:jf Hf He:=λc o h=>e c o h (j1 h hle)
    left
    refine ⟨sd,_,rfl,J7.k (k:=.inr "leaps") (sE _ _ dF) (by show 4<sizeLine;decide),?_⟩
    rw [put5]
    have nG:∀{a:Addr} {o:HO},He a=some o->(∀kvs,o≠.dK kvs)->(upd He sd (.dK (scK p q sg gl le))) a=some o:=λh n=>by rw [j8 (jo h (sE _ _ dF) (n _))];exact h
    have lG:∀x∈lds,(upd He sd (.dK (scK p q sg gl le))) x.1=some (.dK (x.2.map kvI)):=λx hx=>by
     obtain ⟨h1,h2,h3,h4⟩:=hd x hx
     rw [j8 (j1 dF h3).symm,h2]
     exact h1
    have sgG:(upd He sd (.dK (scK p q sg gl le))) sg=some (.dK []):=by rw [j8 sgsd];exact sE _ _ sgF
    refine ⟨⟨p,q,sg,gl,le,xs,ys,zs,rs,ts,ws,[],lds⟩,rfl,⟨⟨j5,nG (sE _ _ pF) (by walk_at "w"),rF.keep λ_ _ h=>nG (sE _ _ h) (by walk_at "w"),nG (sE _ _ qF) (by walk_at "w"),r3F.imp λ_ _ h=>nG (sE _ _ h) (by walk_at "w"),nG (sE _ _ gF) (by walk_at "w"),Paired.mapP giF λv wy ⟨a,e,ha⟩=>⟨a,e,nG (sE _ _ ha) (by walk_at "w")⟩,nG he (by walk_at "w"),.inl sgG,(λz hz=>by cases hz),λx hx=>.inl (lG x hx)⟩,
     ⟨g1,l1,l8,ht12.1,ht12.2,htg,hR,hl.trans (hz.trans hlw),nn,λx hx=>(j1 sgF (hd x hx).2.2.1).symm,pb,qb,glb,leb,zb,List.nodup_nil,(λz hz=>by cases hz),Nat.zero_le _,(λx hx=>by rw [(hd x hx).2.1];exact List.nodup_nil),(λx hx=>by rw [(hd x hx).2.1];intro z hz;cases hz),(λx hx=>by rw [(hd x hx).2.1];exact Nat.zero_le _)⟩,sgG,lG,(BF.same sE).put sdb (B1.neL hsd),λc o h n=>?_,sg0,λx hx=>?_⟩,rfl,λx hx=>(hd x hx).2.1⟩
    ·rw [j8 (j1 h sd0)]
     exact sE _ _ (XF c o h n)
    ·exact XF.free (hd x hx).2.2.1 (BF.ne (hd x hx).2.2.1)
  rintro σ H5 ⟨c,rfl,S5,k5,l5⟩
  clear dF pF qF rF r3F gF giF sgF BF XF zb hlw hws hz hzw
  refine ⟨λσ H6=>∃(x:Option V) (c:ScN),σ=[some (.ref b),some (.ref p),some (.ref sd),x,none]/\ScB L b H H6 sd c/\∀x∈c.lds,x.2=[],?_,?_⟩
  ·left
   refine ⟨by show 3<=sizeLine;decide,λl6 H6 hl6 hl66 s6=>?_⟩
   have S6:=S5.same s6
   have l6b:l6≠b:=S5.B.ne hl6
   left
   refine ⟨L,b,_,rfl,S6.B,⟨⋯,⋯⟩,λv7 H7 p7 q7 B7 X7=>?_⟩
   have S7:=S6.take B7 X7
   obtain ⟨n,hn,n0,n1⟩:=WJ p7 q7
   refine ⟨_,_,_,_,rfl,rfl,SqL.of (X7 _ _ hl66 l6b),hn,?_⟩
   left
   refine ⟨L,b,_,rfl,S7.B,⟨n0,()⟩,λv8 H8 p8 q8 B8 X8=>?_⟩
   have S8:=S7.take B8 X8
   left
   refine ⟨(),(),?_⟩
   refine xw (λi σ H2=>∃(x:Option V) (c:ScN),σ=[some (.ref b),some (.ref p),some (.ref sd),x,none]/\ScB L b H H2 sd c/\c.sk.length<=i/\∀x∈c.lds,x.2=[]) ?_ ?_ ?_
   ·exact ⟨none,c,rfl,S8,by rw [k5];exact Nat.le_refl _,l5⟩
   ·rintro i σ H2 hi ⟨x,c,rfl,S,hk,hl⟩
    left
    refine ⟨L,b,rfl,S.B,λt H9 r B9 X9 ht hg=>?_⟩
    have S9:=S.take B9 X9
    left
    refine ⟨sd,.ref c.sg,rfl,by rw [<- wg c.p c.q c.sg c.gl c.ll];exact xY.k (k:=.inr "single") S9.S.sd,?_⟩
    left
    refine ⟨L,b,rfl,S9.B,λy H10 y0 y1 B10 X10=>?_⟩
    have S10:=S9.take B10 X10
    refine ⟨c.sg,_,rfl,J7.k (k:=.inl y) S10.r1 (by rw [List.length_map];exact jc (by have:=S10.O.k3;omega)),?_⟩
    exact ⟨_,{ c with sk:=xJ c.sk y t },rfl,S10.single y0 y1 (X10 _ _ ht (S9.B.ne_tup ht)) hg (),Nat.le_trans (ud _ _ _) (),hl⟩
   ·rintro σ H2 ⟨x,c,rfl,S,hk,hl⟩
    exact ⟨x,c,rfl,S,hl⟩
  clear S5 k5 l5
  rintro σ H6 ⟨x,c,rfl,S6,l6⟩
  left
  refine ⟨by show 3<=sizeLine;decide,λl7 H7 hl7 hl77 s7=>?_⟩
  have S7:=S6.same s7
  have l7b:l7≠b:=S6.B.ne hl7
  left
  refine ⟨L,b,_,rfl,S7.B,⟨⋯,⋯⟩,λv8 H8 p8 q8 B8 X8=>?_⟩
  have S8:=S7.take B8 X8
  obtain ⟨n,hn,n0,n1⟩:=UT p8 q8
  refine ⟨_,_,_,_,rfl,rfl,SqL.of (X8 _ _ hl77 l7b),hn,?_⟩
  left
  refine ⟨L,b,_,rfl,S8.B,⟨n0,()⟩,λv9 H9 p9 q9 B9 X9=>?_⟩
  have S9:=S8.take B9 X9
  left
  refine ⟨(),(),?_⟩
  refine xw (λi σ H2=>∃(x y:Option V) (c:ScN),σ=[some (.ref b),some (.ref p),some (.ref sd),x,y]/\ScB L b H H2 sd c/\∀x∈c.lds,x.2.length<=i) ?_ ?_ ?_
  ·exact ⟨x,none,c,rfl,S9,λx hx=>by rw [l6 x hx];exact Nat.le_refl _⟩
  ·rintro i σ H2 hi ⟨x,y',c,rfl,S,hl⟩
   have hw1:1<=c.ws.length:=by
    rw [S.O.ro.length]
    exact JK (qk S.O.gr.ok) S.O.l1
   have hzl:c.zs.length=c.ws.length:=(Paired.length S.S.gi).trans (List.length_map _)
   have hw6:c.ws.length<=6:=by rw [S.O.ro.length];exact S.O.gr.heads
   left
   refine ⟨sd,.ref c.gl,rfl,by rw [<- yt c.p c.q c.sg c.gl c.ll];exact xY.k (k:=.inr "grounds") S.S.sd,?_⟩
   left
   refine ⟨c.gl,_,rfl,.inl (SqL.of S.S.gl),?_⟩
   left
   refine ⟨L,b,_,rfl,S.B,⟨(),()⟩,λln H10 ln0 ln1 B10 X10=>?_⟩
   have S10:=S.take B10 X10
   left
   refine ⟨by show 2<=sizeLine;decide,λl11 H11 hl11 hl11' s11=>?_⟩
   have S11:=S10.same s11
   have l11b:l11≠b:=S10.B.ne hl11
   left
   refine ⟨L,b,_,rfl,S11.B,⟨⋯,⋯⟩,λv12 H12 p12 q12 B12 X12=>?_⟩
   have S12:=S11.take B12 X12
   obtain ⟨n,hn,n0,n1⟩:=ET p12 q12
   refine ⟨_,_,_,_,rfl,rfl,SqL.of (X12 _ _ hl11' l11b),hn,?_⟩
   left
   refine ⟨L,b,_,rfl,S12.B,⟨n0,()⟩,λv13 H13 p13 q13 B13 X13=>?_⟩
   have S13:=S12.take B13 X13
   left
   have hll:ln.toNat<c.lds.length:=by rw [S.O.ldl];omega
   obtain ⟨⟨a,ns⟩,ha⟩:∃z,c.lds[ln.toNat]? = some z:=⟨_,List.getElem?_eq_getElem hll⟩
   refine ⟨sd,.ref c.ll,rfl,by rw [<- QP c.p c.q c.sg c.gl c.ll];exact xY.k (k:=.inr "leaps") S13.S.sd,?_⟩
   left
   refine ⟨_,_,_,_,rfl,rfl,SqL.of S13.S.ll,xM ln0 (v:=V.ref a) (by rw [List.getElem?_map,ha];rfl),?_⟩
   left
   refine ⟨L,b,rfl,S13.B,λy H14 y0 y1 B14 X14=>?_⟩
   have S14:=S13.take B14 X14
   have hns:=hl _ (List.mem_of_getElem? ha)
   refine ⟨a,_,rfl,J7.k (k:=.inl y) (S14.r2 _ (List.mem_of_getElem? ha)) (by rw [List.length_map];exact jc (by have:ns.length<=i:=hns;omega)),?_⟩
   have hns:ns.length<=i:=hns
   refine ⟨_,_,{ c with lds:=c.lds.set ln.toNat (a,xJ ns y (1+v13)) },rfl,S14.leap ha y0 y1 () () (),λx hx=>?_⟩
   rcases uR S.O.nd ha hx with z | ⟨z,_⟩
   ·subst z
    exact Nat.le_trans (ud _ _ _) ()
   ·exact Nat.le_succ_of_le (hl x z)
  ·rintro σ H2 ⟨x,y',c,rfl,S,hl⟩
   left
   exact k sd H2 c S.B S.X S.S S.O
theorem IceNew.made {C Pt p dx:Addr}{H H':Hp}{g:IceG}{o o':HO}(hp:H p=none) (hd:H dx=none) (I:IceNew C Pt (upd (upd H dx o) p o') H' p g):IceNew C Pt H H' p g:=by
 have s:jf H (upd (upd H dx o) p o'):=λc u h=>by rw [j8 (j1 h hp),j8 (j1 h hd)];exact h
 exact ⟨I.at_,λc u h n m=>I.keep c u (s c u h) n m,s.free I.va,s.free I.cy,s.free I.sl,s.free I.ye,s.free I.le,λa z=>s.free (I.zs a z),I.kvs,λx hx=>⟨s.free (I.lds x hx).1,(I.lds x hx).2⟩,I.ll,I.nd,I.ny,I.sl2⟩
structure IceFr (H:Hp) (p:Addr) (g:IceG):Prop where
 p:H p=none
 va:H g.va=none
 cy:H g.cy=none
 sl:H g.sl=none
 ye:H g.ye=none
 le:H g.le=none
 zs:∀a,V.ref a∈g.zs->H a=none
 lds:∀x∈g.lds,H x.1=none
theorem IceAt.stay {C p:Addr}{H H2 H3:Hp}{g:IceG}(I:IceAt C H2 p g) (F:IceFr H p g) (f:∀a o,H2 a=some o->H a=none->H3 a=some o) (t:jj H2 H3):IceAt C H3 p g :=
 ⟨f _ _ I.ob F.p,f _ _ I.va F.va,I.rs.keep t,f _ _ I.cy F.cy,I.rows.imp λ_ _ q=>t _ _ q,f _ _ I.sl F.sl,pmM I.slopes λv hv w ⟨a,ea,q⟩=>⟨a,ea,f _ _ q (F.zs a (ea ▸ hv))⟩,f _ _ I.ye F.ye,f _ _ I.le F.le,λx hx=>f _ _ (I.lds x hx) (F.lds x hx)⟩
theorem Fr3.ext {N M:Addr->Prop}{H H2 H3:Hp}{a:Addr}(f:Fr3 N M H H2) (e:Ext a H2 H3) (ha:H a=none):Fr3 N M H H3:=λc o h n=>by
 have ca:c≠a:=j1 h ha
 rcases f c o h n with q | ⟨m,ob,kvs,eo,q⟩
 ·exact .inl (e _ _ q ca)
 ·exact .inr ⟨m,ob,kvs,eo,e _ _ q ca⟩
theorem Fr3.same {N M:Addr->Prop}{H H2 H3:Hp}(f:Fr3 N M H H2) (e:jf H2 H3):Fr3 N M H H3:=λc o h n=>by
 rcases f c o h n with q | ⟨m,ob,kvs,eo,q⟩
 ·exact .inl (e _ _ q)
 ·exact .inr ⟨m,ob,kvs,eo,e _ _ q⟩
theorem Fr3.frz {N M:Addr->Prop}{H H2:Hp}{a:Addr}{ob:Obj}{kvs:List (Key×V)}(f:Fr3 N M H H2) (h:H2 a=some (.dK kvs)) (m:M a):Fr3 N M H (upd H2 a (.frz ob (.dK kvs))):=λc o hc n=>by
 by_cases e:c=a
 ·subst e
  rcases f c o hc n with q | ⟨_,ob',kvs',eo,q⟩
  ·rw [h] at q
   cases q
   exact .inr ⟨m,ob,kvs,rfl,j5⟩
  ·rw [h] at q
   cases q
 ·rw [j8 e]
  exact f c o hc n
theorem YR {H:Hp}{a:Addr}{ob:Obj}{kvs:List (Key×V)}(h:H a=some (.dK kvs)):jj H (upd H a (.frz ob (.dK kvs))):=λc xs q=>by rw [j8 (jo q h (by walk_at "z"))];exact q
theorem UH {H:Hp}{a Pt:Addr}{ob:Obj}{kvs:List (Key×V)}(T:qL H Pt) (h:H a=some (.dK kvs)):qL (upd H a (.frz ob (.dK kvs))) Pt:=by
 rcases T with q | ⟨c,q,q'⟩
 ·exact .inl (by rw [j8 (jo q h (by walk_at "z"))];exact q)
 ·exact .inr ⟨c,by rw [j8 (jo q h (by walk_at "z"))];exact q,by rw [j8 (jo q' h (by walk_at "z"))];exact q'⟩
theorem XH {H H':Hp}{a Pt:Addr}{kvs:List (Key×V)}(T:qL H Pt) (h:H a=some (.dK kvs)) (e:Ext a H H'):qL H' Pt:=by
 rcases T with q | ⟨c,q,q'⟩
 ·exact .inl (e _ _ q (jo q h (by walk_at "z")))
 ·exact .inr ⟨c,e _ _ q (jo q h (by walk_at "z")),e _ _ q' (jo q' h (by walk_at "z"))⟩
theorem Gw {ns:List (Int×Addr)}{i:Nat}{q:Key×V}(h:(ns.map kvA)[i]? = some q):∃z,ns[i]? = some z/\q=kvA z:=by
 rw [List.getElem?_map] at h
 cases e:ns[i]? with
 | none=>rw [e] at h;cases h
 | some z=>rw [e] at h;cases h;exact ⟨z,rfl,rfl⟩
theorem Jn:∀{ns:List (Int×Addr)},(ns.map (·.1)).Nodup->∀{z:Int×Addr},z∈ns->qK (ns.map kvA) (.inl z.1)=some (.ref z.2)
 | [],_,z,h=>by cases h
 | q::r,nd,z,h=>by
  rw [List.map_cons] at nd
  obtain ⟨h1,h2⟩:=List.nodup_cons.mp nd
  rw [List.map_cons]
  rcases List.mem_cons.mp h with e | e
  ·subst e
   exact xD
  ·have ne:¬q.1=z.1:=λw=>h1 (by rw [w];exact List.mem_map_of_mem e)
   show qK ((.inl q.1,.ref q.2)::r.map kvA) (.inl z.1)=_
   rw [jx (λw=>ne (Sum.inl.inj w))]
   exact Jn h2 e
theorem Vz {α:Type}{l:List (Int×α)}{y:Int}{a:α}(h:y∉l.map (·.1)):xJ l y a=l++[(y,a)]:=by
 unfold xJ
 rw [if_neg]
 intro z
 obtain ⟨u,hu,e⟩:=List.any_eq_true.mp z
 exact h (of_decide_eq_true e ▸ List.mem_map_of_mem hu)
theorem ZI {α:Type}{l:List (Int×α)}(nd:(l.map (·.1)).Nodup) {i:Nat}{z:Int×α}(h:l[i]? = some z):z.1∉(l.take i).map (·.1):=λm=>by
 obtain ⟨hi,e⟩:=List.getElem?_eq_some_iff.mp h
 obtain ⟨u,hu,eu⟩:=List.mem_map.mp m
 obtain ⟨j,hj,ej⟩:=List.mem_iff_getElem.mp hu
 rw [List.length_take] at hj
 rw [List.getElem_take] at ej
 have h1:(l.map (·.1))[j]'(by rw [List.length_map];omega)=(l.map (·.1))[i]'(by rw [List.length_map];exact hi):=by rw [List.getElem_map,List.getElem_map,ej,e,eu]
 exact absurd h1 (List.pairwise_iff_getElem.mp nd j i _ _ ())
theorem QD {α:Type}{f:α->V}{l:List (Int×α)}(nd:(l.map (·.1)).Nodup) {i:Nat}{z:Int×α}(h:l[i]? = some z):qR ((l.take i).map λz=>((.inl z.1,f z.2):Key×V)) (.inl z.1) (f z.2)=(l.take (i+1)).map λz=>((.inl z.1,f z.2):Key×V):=by
 rw [gX f,Vz (ZI nd h),List.take_add_one,h]
 rfl
structure LdN (g0:List (Addr×List (Key×V))) (cl:List (Addr×List (Int×Int))) (i n:Nat) (lds:List (Addr×List (Key×V))):Prop where
 fst:lds.map (·.1)=g0.map (·.1)
 at_:∀j x,lds[j]? = some x->∃y,cl[j]? = some y/\x.2=(if j<i then y.2 else if j=i then y.2.take n else []).map kvI
theorem LdN.len {g0 lds:List (Addr×List (Key×V))}{cl:List (Addr×List (Int×Int))}{i n:Nat}(h:LdN g0 cl i n lds):lds.length=g0.length:=by
 have:=congrArg List.length h.fst
 rwa [List.length_map,List.length_map] at this
theorem LdN.next {g0 lds:List (Addr×List (Key×V))}{cl:List (Addr×List (Int×Int))}{i n:Nat}{y:Addr×List (Int×Int)}(h:LdN g0 cl i n lds) (hy:cl[i]? = some y) (hn:y.2.length<=n):LdN g0 cl (i+1) 0 lds:=⟨h.fst,λj x hx=>by
 obtain ⟨u,hu,e⟩:=h.at_ j x hx
 refine ⟨u,hu,?_⟩
 rw [e]
 by_cases a:j<i
 ·rw [if_pos a,if_pos ()]
 ·rw [if_neg a]
  by_cases b:j=i
  ·subst b
   rw [hy] at hu
   cases hu
   rw [if_pos rfl,if_pos (),List.take_of_length_le hn]
  ·rw [if_neg b,if_neg ()]
   split
   ·rfl
   ·rfl⟩
theorem LdN.put {g0 lds:List (Addr×List (Key×V))}{cl:List (Addr×List (Int×Int))}{i n:Nat}{y:Addr×List (Int×Int)}{z:Int×Int}{a:Addr}{kvs:List (Key×V)}(h:LdN g0 cl i n lds) (hy:cl[i]? = some y) (nd:(y.2.map (·.1)).Nodup) (hz:y.2[n]? = some z) (ha:lds[i]? = some (a,kvs)):LdN g0 cl i (n+1) (vc lds i (qR kvs (.inl z.1) (.int z.2))):=by
 obtain ⟨u,hu,e⟩:=h.at_ i _ ha
 rw [hy] at hu
 cases hu
 rw [if_neg (Nat.lt_irrefl i),if_pos rfl] at e
 have e2:qR kvs (.inl z.1) (.int z.2)=(y.2.take (n+1)).map kvI:=by
  rw [show kvs=(y.2.take n).map kvI from e]
  exact QD (f:=V.int) nd hz
 refine ⟨?_,λj x hx=>?_⟩
 ·rw [<- h.fst]
  unfold vc
  rw [List.getD_eq_getElem?_getD,ha]
  exact Y6 ha
 ·unfold vc at hx
  rw [List.getElem?_set] at hx
  by_cases b:i=j
  ·subst b
   rw [if_pos rfl,if_pos (List.getElem?_eq_some_iff.mp ha).1] at hx
   cases hx
   exact ⟨y,hy,by rw [if_neg (Nat.lt_irrefl i),if_pos rfl];exact e2⟩
  ·rw [if_neg b] at hx
   obtain ⟨u,hu,e⟩:=h.at_ j x hx
   refine ⟨u,hu,?_⟩
   rw [e]
   by_cases c:j<i
   ·rw [if_pos c,if_pos c]
   ·rw [if_neg c,if_neg c,if_neg (λq=>b q.symm),if_neg (λq=>b q.symm)]
theorem ScAt.fr {Pt sd:Addr}{H H':Hp}{c:ScN}(S:ScAt H sd c) (T:qL H Pt) (f:Fr3 (λa=>a=Pt) c.D H H'):ScAt H' sd c:=by
 obtain ⟨ps,hP⟩:=T.ne
 have n:∀{a:Addr} {o:HO},H a=some o->(∀ps,o≠.tbl ps)->¬a=Pt:=λh q=>jo h hP (q _)
 have nr:∀{a:Addr} {kvs:List (Key×V)},Rd H a (.dK kvs)->¬a=Pt:=λh=>by
  rcases h with h | ⟨o,h⟩
  ·exact n h (by walk_at "w")
  ·exact n h (by walk_at "w")
 exact S.keep f (λa xs h=>n h (by walk_at "w")) (n S.sd (by walk_at "w")) S.nD (n S.p (by walk_at "w")) (n S.q (by walk_at "w")) (n S.gl (by walk_at "w")) (n S.ll (by walk_at "w")) (λa h=>by
  obtain ⟨w,a',e,q⟩:=pm S.gi _ h
  cases e
  exact n q (by walk_at "w")) (nr S.sg) λx hx=>nr (S.ld x hx)
theorem ScAt.inD {H:Hp}{sd a:Addr}{c:ScN}(S:ScAt H sd c) (h:c.D a):∃o,H a=some o:=by
 have r:∃kvs,Rd H a (.dK kvs):=by
  rcases h with h | ⟨x,hx,e⟩
  ·exact ⟨_,h ▸ S.sg⟩
  ·exact ⟨_,e ▸ S.ld x hx⟩
 obtain ⟨_,r | ⟨o,r⟩⟩:=r
 ·exact ⟨_,r⟩
 ·exact ⟨_,r⟩
theorem U1 {a:Addr}{kvs:List (Key×V)}{o:Obj}{H H4:Hp}(f:Fz a kvs o H H4):jj H H4:=λc xs q=>by
 rcases f.2 with rfl | ⟨h,rfl⟩
 ·exact q
 ·exact YR h c xs q
theorem Eu {N M:Addr->Prop}{a:Addr}{kvs:List (Key×V)}{o:Obj}{H H2 H4:Hp}(f:Fz a kvs o H2 H4) (r:Fr3 N M H H2) (m:M a):Fr3 N M H H4:=by
 rcases f.2 with rfl | ⟨h,rfl⟩
 ·exact r
 ·exact r.frz h m
theorem G5 {a Pt:Addr}{kvs:List (Key×V)}{o:Obj}{H H4:Hp}(f:Fz a kvs o H H4) (T:qL H Pt):qL H4 Pt:=by
 rcases f.2 with rfl | ⟨h,rfl⟩
 ·exact T
 ·exact UH T h
structure MdI (C Pt p:Addr) (c:ScN) (H H2:Hp) (g:IceG):Prop where
 I:IceAt C H2 p g
 F:IceFr H p g
 R:Fr3 (λa=>a=Pt) c.D H H2
 T:qL H2 Pt
theorem MdI.frz {C Pt p sd a:Addr}{c:ScN}{H H2 H4:Hp}{g:IceG}{kvs:List (Key×V)}{o:Obj}(M:MdI C Pt p c H H2 g) (S:ScAt H sd c) (h:c.D a) (f:Fz a kvs o H2 H4):MdI C Pt p c H H4 g:=by
 obtain ⟨_,ha⟩:=S.inD h
 exact ⟨M.I.stay M.F (λb u hb n=>f.at hb (j1 ha n).symm) (U1 f),M.F,Eu f M.R h,G5 f M.T⟩
theorem MdI.same {C Pt p:Addr}{c:ScN}{H H2 H4:Hp}{g:IceG}(M:MdI C Pt p c H H2 g) (s:jf H2 H4):MdI C Pt p c H H4 g:=⟨M.I.same s,M.F,M.R.same s,M.T.same s⟩
theorem LdN.mem {g0 lds:List (Addr×List (Key×V))}{cl:List (Addr×List (Int×Int))}{i n:Nat}(h:LdN g0 cl i n lds) {x:Addr×List (Key×V)}(hx:x∈lds):∃y∈g0,y.1=x.1:=by
 have:x.1∈g0.map (·.1):=h.fst ▸ List.mem_map_of_mem hx
 obtain ⟨y,hy,e⟩:=List.mem_map.mp this
 exact ⟨y,hy,e⟩
def Ud (C Pt:Addr):Sp:=λvs H Q _=>∃(sd b:Addr) (c:ScN),vs=[.ref sd]/\ScAt H sd c/\ScOk b c/\qL H Pt /\
 ∀p H' g,IceAt C H' p g->IceFr H p g->Fr3 (λa=>a=Pt) c.D H H'->qL H' Pt->g.rs=c.rs->g.rows=c.ts->g.slopes=c.ws.map (jb c.rs)->g.kvs=c.sk.map kvA->g.lds.length=c.lds.length->(∀(l:Nat) x,g.lds[l]? = some x->∃y,c.lds[l]? = some y/\x.2=y.2.map kvI)->(∀x∈g.lds,x.1≠g.ye)->(g.lds.map (·.1)).Nodup->Q (.ref p) H'
theorem xr:FnScope ["_law_scene_here","_law_ice","_law_year_here","_law_lane","_law_leaps"] ["_law_scene_here"] (j7 vW):=by walk_at "s"
theorem UY {f C CV CR CN CY CW CS Pt:Addr}{fd:FuncData}(nb:Nb2 mg) (cl_Ice:Cls K C) (c_Ice:MakX P w K mg base 8 C "Ice" ["self","reaches","rows"] (Ut C CV CR Pt)) (c_Ice__tell:CalMX P w K mg base 2 C "tell" ["self","year","row"] (Uh C CY CW)) (c_Ice__surge:CalMX P w K mg base 2 C "surge" ["self","lane","year","many"] (ZN C CN CY CS)) (F:Fun K "_law_made" "_law_made" vW f fd):FnOk P w K mg base CX0 10 f fd ["_law_scene_here"] (Ud C Pt):=by
 refine F.ok xr (λvs H Q E h=>?_) (λcdv A outer s H vs Q E hr h=>?_)
 ·obtain ⟨sd,b,c,rfl,_⟩:=h
  rfl
 ·obtain ⟨sd,b,c,rfl,S,O,T,k⟩:=h
  refine ⟨_,(j4 (jw 1 xr.nd (W0 c_Ice (hr.mono ⋯) gQ rfl (j0 (qt (qw K) rfl nb.b_list PyProof.Rows.boot_list (j0 (qG (qQ hr) (pv 0) qh (λ_ _=>rfl)) j2)) (j0 (qt (qw K) rfl nb.b_list PyProof.Rows.boot_list (j0 (qG (qQ hr) (pv 0) qh (λ_ _=>rfl)) j2)) j2))))
   (j4 (xc PassesOwn.never rfl (ZK (qG (qQ hr) (pv 0) qh (λ_ _=>rfl))) (ja (i:=2) xr.nd rfl (Or.inl rfl)) (j9 (jN (xh (pv 1) cl_Ice c_Ice__tell (hr.mono ⋯) gQ (j0 (pv 2) (j0 (qG (qQ hr) (qG (qQ hr) (pv 0) qh (λ_ _=>rfl)) (pv 2) (λ_ _=>rfl)) j2))))))
   (j4 (xc PassesOwn.never rfl (ZX K rfl nb.b_enumerate (j0 (qG (qQ hr) (pv 0) qh (λ_ _=>rfl)) j2)) (qf (n:=2) K rfl (jg (ja (i:=3) xr.nd rfl (Or.inl rfl)) (jg (ja (i:=4) xr.nd rfl (Or.inl rfl)) jY))) (j9 (xc PassesOwn.never rfl (ZK (pv 4)) (ja (i:=2) xr.nd rfl (Or.inl rfl)) (j9 (jN (xh (pv 1) cl_Ice c_Ice__surge (hr.mono ⋯) gQ (j0 (pv 3) (j0 (pv 2) (j0 (qG (qQ hr) (pv 4) (pv 2) (λ_ _=>rfl)) j2)))))))))
   (j9 (ji (pv 1)))))),?_⟩
  left
  refine ⟨sd,.ref c.p,rfl,by rw [<- XU c.p c.q c.sg c.gl c.ll];exact xY.k (k:=.inr "reaches") S.sd,?_⟩
  refine ⟨_,_,rfl,.inl (SqL.of S.p),λl1 H1 hl1 hl11 s1=>?_⟩
  have S1:=S.same s1
  left
  refine ⟨sd,.ref c.q,rfl,by rw [<- UZ c.p c.q c.sg c.gl c.ll];exact xY.k (k:=.inr "rows") S1.sd,?_⟩
  refine ⟨_,_,rfl,.inl (SqL.of S1.q),λl2 H2 hl2 hl22 s2=>?_⟩
  have S2:=S1.same s2
  have s12:=s1.trans s2
  left
  intro p dx hp hd hdp
  have s3:jf H2 (upd (upd H2 dx (.own p)) p (.ins C dx [])):=λc u h=>by rw [j8 (j1 h hp),j8 (j1 h hd)];exact h
  have S3:=S2.same s3
  have egr:gr c.ts=true:=by
   have:=O.t1
   have:=O.t2
   unfold gr
   rw [decide_eq_true (),O.tg]
   rfl
  have eg:=O.gr.good O.l1 O.l8
  refine ⟨p,dx,l1,l2,c.xs,c.ys,c.rs,c.ts,rfl,j5,s3 _ _ (s2 _ _ hl11),S3.rv,s3 _ _ hl22,S3.r3,λr hr=>Nat.le_trans (ZP O.gr r hr) ⋯,Nat.le_trans O.l8 ⋯,Nat.le_trans O.t2 ⋯,(T.same s12).same s3,λH4 g _ _ I e1 e2 e3 e4 T4=>?_,(λH' z _ _=>by rw [eg] at z;cases z),(λH' _ z _ _=>by rw [egr] at z;cases z)⟩
  have I:=I.made hp hd
  obtain ⟨ws,hR,esl⟩:=I.sl2
  rw [e1] at hR esl
  obtain rfl:=hR.unique O.ro
  have F4:IceFr H p g:=⟨s12.free hp,s12.free I.va,s12.free I.cy,s12.free I.sl,s12.free I.ye,s12.free I.le,λa z=>s12.free (I.zs a z),λx hx=>s12.free (I.lds x hx).1⟩
  have M4:MdI C Pt p c H H4 g:=⟨I.at_,F4,λa o h n=>.inl (I.keep a o (s12 _ _ h) (j1 h F4.p) n),T4⟩
  have ll4:g.lds.length=c.lds.length:=by rw [I.ll,esl,List.length_map,O.ldl]
  have nd4:=I.nd
  have ny4:=I.ny
  have kv4:=I.kvs
  have ld4:∀x∈g.lds,x.2=[]:=λx hx=>(I.lds x hx).2
  clear I S3 s3 S2 hl22 hl11 S1 T4
  refine ⟨rfl,?_⟩
  have S4:=S.fr T M4.R
  left
  refine ⟨sd,.ref c.sg,rfl,by rw [<- wg c.p c.q c.sg c.gl c.ll];exact xY.k (k:=.inr "single") S4.sd,?_⟩
  have hsgD:c.D c.sg:=.inl rfl
  refine JA (kvs:=c.sk.map kvA) S4.sg (λo i σ H5=>∃x:Option V,σ=[some (.ref sd),some (.ref p),x,none,none]/\H5 c.sg=some (.frz o (.dK (c.sk.map kvA)))/\MdI C Pt p c H H5 { g with kvs:=(c.sk.take i).map kvA }) ?_ ?_ ?_ ?_
  ·intro o H5 f5
   refine ⟨none,rfl,f5.1,?_⟩
   have:=M4.frz S hsgD f5
   have e:g={ g with kvs:=(c.sk.take 0).map kvA }:=by
    show g={ g with kvs:=[] }
    rw [<- kv4]
   rw [<- e]
   exact this
  ·rintro o i σ H5 hi ⟨x,rfl,h5,M5⟩
   exact h5
  ·rintro o i u σ H5 hq ⟨x,rfl,h5,M5⟩
   obtain ⟨z,hz,rfl⟩:=Gw hq
   have hm:=List.mem_of_getElem? hz
   have hi:i<c.sk.length:=(List.getElem?_eq_some_iff.mp hz).1
   have h10:=O.k3
   have S5:=S.fr T M5.R
   obtain ⟨r,hr3,hgr⟩:=S5.sk z hm
   obtain ⟨y0,y1⟩:=O.k2 z hm
   show Jq 2 (V.int z.1) _ _ _
   left
   refine ⟨p,g.dx,_,rfl,M5.I.ob,jO ∅,?_⟩
   left
   refine ⟨sd,.ref c.sg,rfl,by rw [<- wg c.p c.q c.sg c.gl c.ll];exact xY.k (k:=.inr "single") S5.sd,?_⟩
   left
   refine ⟨c.sg,.ref z.2,rfl,(by rw [<- Jn O.k1 hm];exact .inl ⟨_,.inl z.1,.inr ⟨o,h5⟩,rfl,rfl⟩),?_⟩
   refine ⟨p,z.2,_,z.1,r,rfl,M5.I,ny4,hr3,(by rw [List.length_map,List.length_take];omega),λH6 _ _ _ X6 I6=>?_,λhb=>absurd hb (),λ_ _ hb=>by rw [hgr] at hb;cases hb⟩
   have e:qR ((c.sk.take i).map kvA) (.inl z.1) (.ref z.2)=(c.sk.take (i+1)).map kvA:=QD (f:=V.ref) O.k1 hz
   obtain ⟨_,hsg0⟩:=S.inD hsgD
   refine ⟨_,rfl,X6 _ _ h5 (j1 hsg0 F4.ye),?_⟩
   rw [<- e]
   exact ⟨I6,⟨F4.p,F4.va,F4.cy,F4.sl,F4.ye,F4.le,F4.zs,F4.lds⟩,M5.R.ext X6 F4.ye,XH M5.T M5.I.ye X6⟩
  ·rintro o σ H5 ⟨x,rfl,h5,M5⟩
   rw [List.length_map,List.take_length] at M5
   have S5:=S.fr T M5.R
   left
   refine ⟨sd,.ref c.ll,rfl,by rw [<- QP c.p c.q c.sg c.gl c.ll];exact xY.k (k:=.inr "leaps") S5.sd,?_⟩
   left
   refine ⟨⟨_,SqL.of S5.ll⟩,?_⟩
   refine Uc (K:=K) (a:=c.ll) (xs:=c.lds.map λx=>V.ref x.1) (λi σ H6=>∃(x y z:Option V) (lds:List (Addr×List (Key×V))),σ=[some (.ref sd),some (.ref p),x,y,z]/\MdI C Pt p c H H6 { g with kvs:=c.sk.map kvA,lds:=lds }/\LdN g.lds c.lds i 0 lds) ?_ ?_ ?_ ?_
   ·refine ⟨x,none,none,g.lds,rfl,M5,rfl,λj x hx=>?_⟩
    have hj:=(List.getElem?_eq_some_iff.mp hx).1
    obtain ⟨y,hy⟩:∃y,c.lds[j]? = some y:=⟨_,List.getElem?_eq_getElem ()⟩
    refine ⟨y,hy,?_⟩
    rw [ld4 x (List.mem_of_getElem? hx),if_neg (Nat.not_lt_zero _)]
    split <;> rfl
   ·rintro i σ H6 hi ⟨x,y,z,lds,rfl,M6,L6⟩
    exact SqL.of (S.fr T M6.R).ll
   ·rintro i v σ H6 t hv ⟨x,y,z,lds,rfl,M6,L6⟩ ht
    rw [List.getElem?_map] at hv
    obtain ⟨⟨a,ns⟩,hy,ev⟩:=Option.map_eq_some_iff.mp hv
    subst ev
    have M7:=M6.same (jf.new (o:=.tup [.int i,.ref a]) ht)
    left
    refine ⟨t,_,rfl,SqT.of j5,rfl,?_⟩
    refine ⟨_,_,rfl,_,_,rfl,rfl,?_⟩
    left
    clear M6
    generalize upd H6 t (.tup [.int i,.ref a])=H7 at *
    have S7:=S.fr T M7.R
    have hm:=List.mem_of_getElem? hy
    have haD:c.D a:=.inr ⟨_,hm,rfl⟩
    obtain ⟨_,ha0⟩:=S.inD haD
    refine JA (kvs:=ns.map kvI) (S7.ld _ hm) (λo n σ H8=>∃(x:Option V) (lds:List (Addr×List (Key×V))),σ=[some (.ref sd),some (.ref p),x,some (.int i),some (.ref a)]/\H8 a=some (.frz o (.dK (ns.map kvI)))/\MdI C Pt p c H H8 { g with kvs:=c.sk.map kvA,lds:=lds }/\LdN g.lds c.lds i n lds) ?_ ?_ ?_ ?_
    ·intro o H8 f8
     exact ⟨x,lds,rfl,f8.1,M7.frz S haD f8,L6⟩
    ·rintro o n σ H8 hn ⟨x,lds,rfl,h8,M8,L8⟩
     exact h8
    ·clear L6 M7 S7
     rintro o n u σ H8 hq ⟨x,lds,rfl,h8,M8,L8⟩
     obtain ⟨z,hz,rfl⟩:=Gx hq
     have hzm:=List.mem_of_getElem? hz
     obtain ⟨y0,y1,m0,m1⟩:=O.m2 _ hm z hzm
     have hl8:=L8.len
     have hi8:i<lds.length:=by
      have:=(List.getElem?_eq_some_iff.mp hy).1
      omega
     have hsl:g.slopes.length=lds.length:=by rw [esl,List.length_map,hl8,ll4,O.ldl]
     show Jq 2 (V.int z.1) _ _ _
     left
     refine ⟨p,g.dx,_,rfl,M8.I.ob,jO ∅,?_⟩
     left
     refine ⟨a,.int z.2,rfl,(by rw [<- Jm (O.m1 _ hm) hzm,<- uY ns z.1 (List.mem_map_of_mem hzm)];exact .inl ⟨_,.inl z.1,.inr ⟨o,h8⟩,rfl,rfl⟩),?_⟩
     refine ⟨p,_,(i:Int),z.1,z.2,rfl,M8.I,hsl.symm,(λx hx=>by obtain ⟨y,hy,e⟩:=L8.mem hx;rw [<- e];exact ny4 y hy),(by show (lds.map (·.1)).Nodup;rw [L8.fst];exact nd4),(λx hx=>?_),λH9 a9 kvs9 _ _ _ _ _ _ ha9 X9 I9=>?_,(λhb=>absurd hb (by show ¬((i:Int)<0\/(g.slopes.length:Int)<=i);omega)),(λ_ _ hb=>absurd hb ()),λ_ _ _ _ hb=>absurd hb ()⟩
     ·obtain ⟨j,hj,ex⟩:=List.mem_iff_getElem.mp hx
      obtain ⟨y,hy,e⟩:=L8.at_ j x (by rw [List.getElem?_eq_getElem hj,ex])
      have h10:=O.m3 y (List.mem_of_getElem? hy)
      rw [e,List.length_map]
      split
      ·omega
      ·split
       ·rw [List.length_take];omega
       ·exact Nat.zero_le _
     ·have ha9:lds[i]? = some (a9,kvs9):=ha9
      have L9:=L8.put hy (O.m1 _ hm) hz ha9
      have a90:H a9=none:=M8.F.lds _ (List.mem_of_getElem? ha9)
      refine ⟨_,_,rfl,X9 _ _ h8 (j1 ha0 a90),⟨I9,⟨F4.p,F4.va,F4.cy,F4.sl,F4.ye,F4.le,F4.zs,λx hx=>?_⟩,M8.R.ext X9 a90,XH M8.T (M8.I.lds _ (List.mem_of_getElem? ha9)) X9⟩,L9⟩
      obtain ⟨y,hy,e⟩:=L9.mem hx
      rw [<- e]
      exact F4.lds y hy
    ·rintro o σ H8 ⟨x,lds,rfl,h8,M8,L8⟩
     exact ⟨x,_,_,lds,rfl,M8,L8.next hy (by rw [List.length_map];exact Nat.le_refl _)⟩
   ·rintro σ H6 ⟨x,y,z,lds,rfl,M6,L6⟩
    left
    refine k p H6 _ M6.I M6.F M6.R M6.T e1 e2 esl rfl (L6.len.trans ll4) (λl x hx=>?_) (λx hx=>?_) (by show (lds.map (·.1)).Nodup;rw [L6.fst];exact nd4)
    ·obtain ⟨y,hy,e⟩:=L6.at_ l x hx
     refine ⟨y,hy,?_⟩
     rw [e,if_pos (by rw [List.length_map];exact (List.getElem?_eq_some_iff.mp hy).1)]
    ·obtain ⟨y,hy,e⟩:=L6.mem hx
     rw [<- e]
     exact ny4 y hy
theorem wF {rs:List Rch}(h:zE rs=true):1<=rs.length/\rs.length<=8/\wq rs=true/\∀ws,qe rs ws->∀w∈ws,(jb rs w).length<=30:=by
 unfold zE at h
 rw [Bool.and_eq_true,Bool.and_eq_true,Bool.and_eq_true] at h
 obtain ⟨h1,h2,_,h4⟩:=h
 have h1:=of_decide_eq_true h1
 refine ⟨(),(),h2,λws hR w hw=>?_⟩
 obtain ⟨x,hx,e⟩:=hR.mem hw
 have:=of_decide_eq_true (List.all_eq_true.mp h4 x hx)
 have g:=gg rs w
 rw [<- e] at this
 omega
theorem kD {rs:List Rch}(G:Grown rs) {ws:List (List Int)}(R:qe rs ws) {w:List Int}(hw:w∈ws):1<=(jb rs w).length:=by
 obtain ⟨x,hx,e⟩:=R.mem hw
 have hl:=xx hx
 have o:=Q8 G.ok (List.getElem?_eq_getElem hl)
 unfold okR at o
 rw [Bool.and_eq_true,Bool.and_eq_true] at o
 have o:=of_decide_eq_true o.1.2
 have eh:y4 rs ((x:Int)).toNat=(rs[x]'hl).2:=by
  unfold y4
  rw [Int.toNat_natCast,List.getD_eq_getElem?_getD,List.getElem?_eq_getElem hl]
  rfl
 rw [e,zH (qk G.ok) hl]
 unfold jb
 rw [List.map_cons,List.flatten_cons,List.length_append,eh]
 omega
theorem Wp {L b Pt:Addr}{Ha Hb:Hp}(B:qj L Ha b) (e:Ext b Ha Hb) (T:qL Ha Pt):qL Hb Pt:=by
 obtain ⟨ns,a,r,c,d,h1,_⟩:=B
 exact T.ext h1 e
structure Lw (C L b sd p:Addr) (c:ScN) (g:IceG) (H0 H:Hp):Prop where
 B:qj L H b
 S:ScAt H sd c
 I:IceAt C H p g
 O:ScOk b c
 F:IceFr H0 p g
 B0:qj L H0 b
 S0:ScAt H0 sd c
theorem Lw.same {C L b sd p:Addr}{c:ScN}{g:IceG}{H0 H H':Hp}(W:Lw C L b sd p c g H0 H) (s:jf H H'):Lw C L b sd p c g H0 H':=⟨W.B.same s,W.S.same s,W.I.same s,W.O,W.F,W.B0,W.S0⟩
theorem Lw.take {C L b sd p:Addr}{c:ScN}{g:IceG}{H0 H H':Hp}(W:Lw C L b sd p c g H0 H) (B:qj L H' b) (X:Ext b H H'):Lw C L b sd p c g H0 H' :=
 ⟨B,W.S.ext W.O W.B X,W.I.stay W.F (λa o h n=>X a o h (W.B0.ne n)) (zp W.B X),W.O,W.F,W.B0,W.S0⟩
theorem Lw.start {C L b sd p Pt:Addr}{c:ScN}{g:IceG}{H2 H3:Hp}(S2:ScAt H2 sd c) (O:ScOk b c) (B2:qj L H2 b) (T2:qL H2 Pt) (I3:IceAt C H3 p g) (F3:IceFr H2 p g) (R3:Fr3 (λa=>a=Pt) c.D H2 H3):Lw C L b sd p c g H2 H3:=by
 refine ⟨?_,S2.fr T2 R3,I3,O,F3,B2,S2⟩
 obtain ⟨ps,hP⟩:=T2.ne
 obtain ⟨ns,a,r,c,d,h1,h2,h3,h4⟩:=B2
 exact ⟨ns,a,r,c,d,R3.at h1 (jo h1 hP (by walk_at "z")) (by walk_at "w"),h2,R3.at h3 (jo h3 hP (by walk_at "z")) (by walk_at "w"),h4⟩
structure Lk (c:ScN) (g:IceG):Prop where
 rs:g.rs=c.rs
 rows:g.rows=c.ts
 sl:g.slopes=c.ws.map (jb c.rs)
 kv:g.kvs=c.sk.map kvA
 ll:g.lds.length=c.lds.length
 ld:∀(l:Nat) x,g.lds[l]? = some x->∃y,c.lds[l]? = some y/\x.2=y.2.map kvI
 ny:∀x∈g.lds,x.1≠g.ye
 nd:(g.lds.map (·.1)).Nodup
structure LaneF (c:ScN) (g:IceG) (ln:Int) (wy:List Int) (da:Addr) (dn:List (Int×Int)):Prop where
 way:c.ws[ln.toNat]? = some wy
 sl:g.slopes.getD ln.toNat []=jb c.rs wy
 g1:1<=(jb c.rs wy).length
 g30:(jb c.rs wy).length<=30
 cd:c.lds[ln.toNat]? = some (da,dn)
 D:c.D da
 nd:(dn.map (·.1)).Nodup
 b:∀q∈dn,0<=q.1/\q.1<=99/\1<=q.2/\q.2<=9
 l10:dn.length<=10
 at_:J8 g ln dn
 l0:0<=ln
 l1:ln<(g.slopes.length:Int)
theorem Lk.lane {b:Addr}{c:ScN}{g:IceG}(k:Lk c g) (O:ScOk b c) {ln:Int}(h0:0<=ln) (h1:ln<(c.ws.length:Int)):∃wy da dn,LaneF c g ln wy da dn:=by
 have hi:ln.toNat<c.ws.length:=()
 have hwy:=List.getElem?_eq_getElem hi
 have hgs:g.slopes[ln.toNat]? = some (jb c.rs (c.ws[ln.toNat]'hi)):=by rw [k.sl,List.getElem?_map,hwy];rfl
 have hl:g.slopes.length=c.ws.length:=by rw [k.sl,List.length_map]
 obtain ⟨⟨da,dn⟩,hda⟩:∃z,c.lds[ln.toNat]? = some z:=⟨_,List.getElem?_eq_getElem (by rw [O.ldl];omega)⟩
 have hdm:=List.mem_of_getElem? hda
 obtain ⟨⟨da2,dk⟩,hda2⟩:∃z,g.lds[ln.toNat]? = some z:=⟨_,List.getElem?_eq_getElem (by rw [k.ll,O.ldl];omega)⟩
 obtain ⟨_,q1,q2⟩:=k.ld _ _ hda2
 rw [hda] at q1
 cases q1
 obtain rfl:dk=dn.map kvI:=q2
 have hm:=List.getElem_mem hi
 have h10:dn.length<=10:=O.m3 _ hdm
 exact ⟨_,da,dn,hwy,by rw [List.getD_eq_getElem?_getD,hgs];rfl,kD O.gr O.ro hm,(wF (O.gr.good O.l1 O.l8)).2.2.2 c.ws O.ro _ hm,hda,.inr ⟨_,hdm,rfl⟩,O.m1 _ hdm,O.m2 _ hdm,h10,⟨h0,(),⟨da2,hda2⟩,O.m1 _ hdm,(),λq hq=>by have:=O.m2 _ hdm q hq;omega⟩,h0,()⟩
theorem LaneF.pos {c:ScN}{g:IceG}{ln:Int}{wy:List Int}{da:Addr}{dn:List (Int×Int)}(L:LaneF c g ln wy da dn):∀q∈dn,0<=q.1/\0<=q.2:=λq hq=>by have:=L.b q hq;omega
theorem Zu {ns:List (Int×Int)}(h:∀q∈ns,0<=q.2) {y z:Int}(yz:y<=z):jv ns y<=jv ns z:=by
 induction ns with
 | nil=>exact Int.le_refl _
 | cons q r ih =>
  rw [qa,qa]
  have a:=h q (List.mem_cons_self ..)
  have b:=ih λz hz=>h z (List.mem_cons_of_mem _ hz)
  by_cases e:q.1<=y
  ·rw [if_pos e,if_pos ()];omega
  ·rw [if_neg e]
   split <;> omega
theorem vn {ns ms:List (Int×Int)}(p:ms.Perm ns) (s:(ms.map (·.1)).Pairwise (· <= ·)) (nd:(ns.map (·.1)).Nodup) (h:∀q∈ns,0<=q.1/\0<=q.2) (one len y:Int) (hy:0<=y):(0<=y+jv ns y-one/\y+jv ns y-one<len)↔(jn 0 0 ms one<=y/\y<jn 0 0 ms (one+len)):=by
 have hm:∀q∈ms,0<=q.1/\0<=q.2:=λq hq=>h q (p.mem_iff.mp hq)
 have ndm:(ms.map (·.1)).Nodup:=(p.map (·.1)).nodup_iff.mpr nd
 have st:=qV s ndm
 have key:∀goal:Int,(goal<=y+jv ns y↔jn 0 0 ms goal<=y):=λgoal=>by
  have:=w9 ms 0 0 goal y hm st hy
  rw [yr p,Int.add_zero] at this
  exact this
 have a:=key one
 have b:=key (one+len)
 constructor
 ·rintro ⟨c,d⟩
  refine ⟨a.mp (),?_⟩
  have:=mt b.mpr ()
  omega
 ·rintro ⟨c,d⟩
  have a':=a.mpr c
  have b':=mt b.mp ()
  omega
theorem wD {ns ms:List (Int×Int)}(p:ms.Perm ns) (s:(ms.map (·.1)).Pairwise (· <= ·)) (h:∀q∈ns,0<=q.1/\0<=q.2) (goal:Int):0<=jn 0 0 ms goal:=ug ms 0 0 goal (λq hq=>(h q (p.mem_iff.mp hq)).1) s
theorem Y8 {ns ms:List (Int×Int)}(p:ms.Perm ns) (s:(ms.map (·.1)).Pairwise (· <= ·)) (nd:(ns.map (·.1)).Nodup) (h:∀q∈ns,0<=q.1/\0<=q.2) (one len:Int) (hl:jn 0 0 ms one<jn 0 0 ms (one+len)):jn 0 0 ms (one+len)-1-jn 0 0 ms one<len:=by
 have f0:=wD p s h one
 have a:=(vn p s nd h one len _ f0).mpr ⟨Int.le_refl _,hl⟩
 have b:=(vn p s nd h one len (jn 0 0 ms (one+len)-1) ()).mpr ⟨(),()⟩
 have m:=Zu (λq hq=>(h q hq).2) (y:=jn 0 0 ms one) (z:=jn 0 0 ms (one+len)-1) ()
 omega
def VL:Sp:=λvs H Q _=>∃(L b sd:Addr) (c:ScN),vs=[.ref b,.ref sd]/\qj L H b/\ScAt H sd c/\ScOk b c/\1<=c.ws.length/\c.ws.length<=6/\(∀w∈c.ws,1<=(jb c.rs w).length/\(jb c.rs w).length<=30) /\
 ∀(ln n:Int) (w:List Int) (t:Addr) (H':Hp),0<=ln->ln<(c.ws.length:Int)->c.ws[ln.toNat]? = some w->0<=n->n<((jb c.rs w).length:Int)->qj L H' b->Ext b H H'->H t=none->H' t=some (.tup [.int ln,.int n])->Q (.ref t) H'
theorem wz:FnScope ["_law_box_here","_law_scene_here","_law_lane"] ["_law_box_here","_law_scene_here"] (j7 ua):=by walk_at "s"
theorem WF {f:Addr}{fd:FuncData}(nb:Nb2 mg) (c_law_take:Cal P w K mg base 2 "_law_take" ["_law_box_here","_law_size"] xV) (F:Fun K "_law_spot" "_law_spot" ua f fd):FnOk P w K mg base CX0 3 f fd ["_law_box_here","_law_scene_here"] VL:=by
 refine F.ok wz (λvs H Q E h=>?_) (λcdv A outer s H vs Q E hr h=>?_)
 ·obtain ⟨L,b,sd,c,rfl,_⟩:=h
  rfl
 ·obtain ⟨L,b,sd,c,rfl,B,S,O,hw1,hw6,hg,k⟩:=h
  have hzl:c.zs.length=c.ws.length:=(Paired.length S.gi).trans (List.length_map _)
  refine ⟨_,(j4 (jw 2 wz.nd (je c_law_take (hr.mono ⋯) rfl (j0 (pv 0) (j0 (jd (jm K) rfl nb.b_len PySem.boot_len (j0 (qG (qQ hr) (pv 1) qh (λ_ _=>rfl)) j2)) j2))))
   (j9 (ji (qx (j0 (pv 2) (j0 (je c_law_take (hr.mono ⋯) rfl (j0 (pv 0) (j0 (jd (jm K) rfl nb.b_len PySem.boot_len (j0 (js (jh K) (qG (qQ hr) (pv 1) qh (λ_ _=>rfl)) (pv 2) (λ_ _=>rfl)) j2)) j2))) j2)))))),?_⟩
  left
  refine ⟨sd,.ref c.gl,rfl,by rw [<- yt c.p c.q c.sg c.gl c.ll];exact xY.k (k:=.inr "grounds") S.sd,?_⟩
  left
  refine ⟨c.gl,_,rfl,.inl (SqL.of S.gl),?_⟩
  left
  refine ⟨L,b,_,rfl,B,⟨(),()⟩,λln H1 ln0 ln1 B1 X1=>?_⟩
  have S1:=S.ext O B X1
  have hi:ln.toNat<c.zs.length:=()
  obtain ⟨gw,hgw,ga,ega,hga⟩:=Paired.get S1.gi (List.getElem?_eq_getElem hi)
  rw [List.getElem?_map] at hgw
  obtain ⟨wy,hwy,rfl⟩:=Option.map_eq_some_iff.mp hgw
  have hgb:=hg wy (List.mem_of_getElem? hwy)
  left
  refine ⟨sd,.ref c.gl,rfl,by rw [<- yt c.p c.q c.sg c.gl c.ll];exact xY.k (k:=.inr "grounds") S1.sd,?_⟩
  left
  refine ⟨_,_,_,_,rfl,rfl,SqL.of S1.gl,xM ln0 (v:=V.ref ga) (by rw [List.getElem?_eq_getElem hi,ega]),?_⟩
  left
  refine ⟨ga,_,rfl,.inl (SqL.of hga),?_⟩
  rw [List.length_map]
  left
  refine ⟨L,b,_,rfl,B1,⟨(),()⟩,λn H2 n0 n1 B2 X2=>?_⟩
  left
  refine ⟨by show 2<=sizeLine;decide,λt H3 ht ht3 s3=>?_⟩
  have tb:t≠b:=B2.ne ht
  exact k ln n wy t H3 ln0 () hwy n0 n1 (B2.same s3) ((X1.trans X2).trans (Ext.of_same s3)) (X1.free (X2.free ht tb) tb) ht3
def chg (t:T3) (h:Int):Int:=if t.1<=h then t.2.1 else-t.2.2
def ki:Sp:=λvs H Q _=>∃(p:Addr) (t:T3) (h:Int),vs=[.ref p,.int h]/\H p=some (yT t)/\Q (.int (chg t h)) H
theorem vw:FnScope ["row","height","line","snow","sun"] ["row","height"] (j7 kF):=by walk_at "s"
theorem YD {f:Addr}{fd:FuncData}(F:Fun K "change" "change" kF f fd):FnOk P w K mg base CX0 1 f fd ["row","height"] ki:=by
 refine F.ok vw (λvs H Q E h=>?_) (λcdv A outer s H vs Q E hr h=>?_)
 ·obtain ⟨p,t,h,rfl,_⟩:=h
  rfl
 ·obtain ⟨p,t,h,rfl,hp,k⟩:=h
  unfold chg at k
  refine ⟨_,(j4 (xK (pv 0) (qf (n:=3) K rfl (jg (ja (i:=2) vw.nd rfl (Or.inl rfl)) (jg (ja (i:=3) vw.nd rfl (Or.inl rfl)) (jg (ja (i:=4) vw.nd rfl (Or.inl rfl)) jY)))))
   (j4 (qi (jK Uz (pv 1) (pv 2) (jS _)) (j9 (ji (pv 3))) jA)
   (j9 (ji (ya xN (pv 4)))))),?_⟩
  left
  refine ⟨p,_,rfl,SqT.of hp,rfl,?_⟩
  refine ⟨_,_,rfl,_,_,rfl,_,_,rfl,rfl,?_⟩
  left
  refine qT (λh1=>?_) (λh1=>?_)
  ·left
   rw [if_pos h1] at k
   exact k
  ·left
   rw [if_neg h1] at k
   exact k
def xR (H:Hp) (sk:List (Int×Addr)) (wr:List (Int×T3)):Prop:=Paired (λ(z:Int×Addr) (q:Int×T3)=>z.1=q.1/\H z.2=some (yT q.2)) sk wr
theorem xR.keep {H H':Hp}{sk:List (Int×Addr)}{wr:List (Int×T3)}(h:xR H sk wr) (t:jj H H'):xR H' sk wr:=Paired.mapP h λ_ _ ⟨e,q⟩=>⟨e,t _ _ q⟩
theorem xR.of {H:Hp}:∀{sk:List (Int×Addr)},(∀z∈sk,∃t,H z.2=some (yT t)/\good t=true)->∃wr,xR H sk wr
 | [],_=>⟨[],.nil⟩
 | z::r,h=>by
  obtain ⟨t,ht,_⟩:=h z (List.mem_cons_self ..)
  obtain ⟨wr,hw⟩:=xR.of (sk:=r) λu hu=>h u (List.mem_cons_of_mem _ hu)
  exact ⟨(z.1,t)::wr,.cons ⟨rfl,ht⟩ hw⟩
def qE (wr:List (Int×T3)) (ts:List T3) (y:Int):T3 :=
 match wr.find? λq=>decide (q.1=y) with
 | some q=>q.2
 | none=>ts.getD (y % (ts.length:Int)).toNat (0,0,0)
theorem QQ {H:Hp}:∀{sk:List (Int×Addr)}{wr:List (Int×T3)},xR H sk wr->∀y:Int,
  (∃a q,qK (sk.map kvA) (.inl y)=some (.ref a)/\(wr.find? λq=>decide (q.1=y))=some q/\H a=some (yT q.2))\/(qK (sk.map kvA) (.inl y)=none/\(wr.find? λq=>decide (q.1=y))=none)
 | _,_,.nil,y=>.inr ⟨rfl,rfl⟩
 | z::sk,q::wr,.cons ⟨e,h⟩ r,y=>by
  rw [List.map_cons]
  by_cases c:z.1=y
  ·subst c
   exact .inl ⟨z.2,q,xD,by rw [List.find?_cons_of_pos (by rw [decide_eq_true e.symm])],h⟩
  ·have e1:qK (kvA z::sk.map kvA) (.inl y)=qK (sk.map kvA) (.inl y):=jx λw=>c (Sum.inl.inj w)
   have e2:((q::wr).find? λq=>decide (q.1=y))=wr.find? λq=>decide (q.1=y):=List.find?_cons_of_neg (by rw [decide_eq_false (by rw [<- e];exact c)];exact Bool.false_ne_true)
   rw [e1,e2]
   exact QQ r y
theorem GZ {H:Hp}{ys:List V}{ts:List T3}(r:jC H ys ts) (h1:1<=ts.length) (y:Int):∃a,atI ys (y % (ys.length:Int))=some (.ref a)/\H a=some (yT (ts.getD (y % (ts.length:Int)).toNat (0,0,0))):=by
 have hl:ys.length=ts.length:=r.length
 have n0:(0:Int)<ts.length:=()
 have m0:=Int.emod_nonneg y (show (ts.length:Int)≠0 by omega)
 have m1:=Int.emod_lt_of_pos y n0
 have hi:(y % (ts.length:Int)).toNat<ys.length:=()
 obtain ⟨t,ht,a,ea,ha⟩:=r.get (List.getElem?_eq_getElem hi)
 refine ⟨a,?_,?_⟩
 ·rw [hl]
  exact xM m0 (by rw [List.getElem?_eq_getElem hi,ea])
 ·rw [List.getD_eq_getElem?_getD,ht]
  exact ha
def Vo (C:Addr):Sp:=λvs H Q _=>∃(p:Addr) (g:IceG) (y:Int) (sk:List (Int×Addr)) (wr:List (Int×T3)),vs=[.ref p,.int y]/\IceAt C H p g/\g.kvs=sk.map kvA/\xR H sk wr/\1<=g.rows.length/\g.rows.length<=1000/\∀t,H t=some (yT (qE wr g.rows y))->Q (.ref t) H
theorem Xi:FnScope ["self","year"] ["self","year"] (j7 vV):=by walk_at "s"
theorem Xl {f C:Addr}{fd:FuncData}(nb:Nb2 mg) (T:IceC K C) (F:Fun K "sky" "Ice.sky" vV f fd):FnOk P w K mg base CX0 1 f fd ["self","year"] (Vo C):=by
 refine F.ok Xi (λvs H Q E h=>?_) (λcdv A outer s H vs Q E hr h=>?_)
 ·obtain ⟨p,g,y,sk,wr,rfl,_⟩:=h
  rfl
 ·obtain ⟨p,g,y,sk,wr,rfl,I,ek,hw,h1,h2,k⟩:=h
  have hye:H g.ye=some (.dK (sk.map kvA)):=by rw [<- ek];exact I.ye
  obtain ⟨ra,hra,hrow⟩:=GZ I.rows h1 y
  refine ⟨_,(j9 (ji (kN (qQ hr) (qO K (pv 0)) (pv 1) (js (jh K) (qO K (pv 0)) (jk zq (pv 1) (jd (jm K) rfl nb.b_len PySem.boot_len (j0 (qO K (pv 0)) j2))) (λ_ _=>rfl)) ⟨rfl,rfl,rfl,rfl⟩))),?_⟩
  left
  refine ⟨p,C,g.dx,_,_,rfl,I.ob,T.cl,T.nY,yw _ _ _ _ _,?_⟩
  left
  refine ⟨.inl ⟨_,.inl hye⟩,?_⟩
  left
  refine ⟨p,C,g.dx,_,_,rfl,I.ob,T.cl,T.nC,vL _ _ _ _ _,?_⟩
  left
  refine ⟨p,C,g.dx,_,_,rfl,I.ob,T.cl,T.nC,vL _ _ _ _ _,?_⟩
  left
  refine ⟨g.cy,_,rfl,.inl (SqL.of I.cy),?_⟩
  have hl:g.ys.length=g.rows.length:=I.rows.length
  left
  refine ⟨_,_,_,_,rfl,rfl,SqL.of I.cy,hra,?_⟩
  rcases QQ hw y with ⟨a,q,e1,e2,h⟩ | ⟨e1,e2⟩
  ·refine ⟨some (.ref a),by rw [<- e1];exact xY.k (k:=.inl y) hye,?_⟩
   exact k a (by unfold qE;rw [e2];exact h)
  ·refine ⟨none,by rw [<- e1];exact xY.k (k:=.inl y) hye,?_⟩
   exact k ra (by unfold qE;rw [e2];exact hrow)
abbrev Q4:=Int×Int×Int×Int
abbrev tup4 (q:Q4):HO:=.tup [.int q.1,.int q.2.1,.int q.2.2.1,.int q.2.2.2]
def yB (H:Hp) (out:List V) (qs:List Q4):Prop:=Paired (λv (q:Q4)=>∃b,v=V.ref b/\H b=some (tup4 q)) out qs
theorem yB.keep {H H':Hp}{out:List V}{qs:List Q4}(h:yB H out qs) (t:jj H H'):yB H' out qs:=Paired.mapP h λ_ _ ⟨b,e,q⟩=>⟨b,e,t _ _ q⟩
def plc (ns:List (Int×Int)) (m y:Int):Int:=y+jv ns y-m
def zU (ns:List (Int×Int)) (gd:List Int) (wr:List (Int×T3)) (ts:List T3) (m y:Int):Int:=chg (qE wr ts y) (gd.getD (plc ns m y).toNat 0)
def yG (ns:List (Int×Int)) (gd:List Int) (wr:List (Int×T3)) (ts:List T3) (m fst:Int):Nat->Int
 | 0=>0
 | i+1=>yG ns gd wr ts m fst i+(if zU ns gd wr ts m (fst+(i:Int)) > - yG ns gd wr ts m fst i then zU ns gd wr ts m (fst+(i:Int)) else-yG ns gd wr ts m fst i)
def vh (ns:List (Int×Int)) (gd:List Int) (wr:List (Int×T3)) (ts:List T3) (m fst:Int) (i:Nat):Q4 :=
 (fst+(i:Int),plc ns m (fst+(i:Int)),(if zU ns gd wr ts m (fst+(i:Int)) > - yG ns gd wr ts m fst i then zU ns gd wr ts m (fst+(i:Int)) else-yG ns gd wr ts m fst i),yG ns gd wr ts m fst (i+1))
def gA (ns:List (Int×Int)) (gd:List Int) (wr:List (Int×T3)) (ts:List T3) (m fst:Int) (n:Nat):List Q4:=(List.range n).map (vh ns gd wr ts m fst)
def xp (ms:List (Int×Int)) (gd:List Int) (wr:List (Int×T3)) (ts:List T3) (m:Int):List Q4:=gA ms gd wr ts m (jn 0 0 ms m) (jn 0 0 ms (m+(gd.length:Int))-jn 0 0 ms m).toNat
theorem XS (ns:List (Int×Int)) (gd:List Int) (wr:List (Int×T3)) (ts:List T3) (m fst:Int) (n:Nat):gA ns gd wr ts m fst (n+1)=gA ns gd wr ts m fst n++[vh ns gd wr ts m fst n]:=by
 unfold gA
 rw [List.range_succ,List.map_append]
 rfl
theorem wB:∀{xs ys:List (Int×Int)},xs.Perm ys->(xs.map (·.1)).Pairwise (· < ·)->(ys.map (·.1)).Pairwise (· < ·)->xs=ys
 | [],ys,p,_,_=>p.nil_eq
 | x::r,[],p,_,_=>absurd p.length_eq (by simp)
 | x::r,y::t,p,hx,hy=>by
  rw [List.map_cons,List.pairwise_cons] at hx hy
  have e:x=y:=by
   rcases List.mem_cons.mp (p.mem_iff.mpr (List.mem_cons_self (a:=y) (l:=t))) with e | e
   ·exact e.symm
   ·rcases List.mem_cons.mp (p.mem_iff.mp (List.mem_cons_self (a:=x) (l:=r))) with e2 | e2
    ·exact e2
    ·have a:=hx.1 _ (List.mem_map_of_mem e)
     have b:=hy.1 _ (List.mem_map_of_mem e2)
     omega
  subst e
  rw [wB (List.Perm.cons_inv p) hx.2 hy.2]
theorem zW {ns ms os:List (Int×Int)}(nd:(ns.map (·.1)).Nodup) (p:ms.Perm ns) (s:(ms.map (·.1)).Pairwise (· <= ·)) (q:os.Perm ns) (t:(os.map (·.1)).Pairwise (· <= ·)):os=ms :=
 wB (q.trans p.symm) (qV t ((q.map (·.1)).nodup_iff.mpr nd)) (qV s ((p.map (·.1)).nodup_iff.mpr nd))
theorem vR:∀{ns:List (Int×Int)},(ns.map (·.1)).Nodup->∀y:Int,jv ns (y+1)=jv ns y+jL ns (y+1)
 | [],_,y=>rfl
 | q::r,nd,y=>by
  rw [List.map_cons] at nd
  obtain ⟨h1,h2⟩:=List.nodup_cons.mp nd
  have ih:=vR h2 y
  rw [qa,qa]
  unfold jL
  by_cases e:q.1=y+1
  ·have z:jL r (y+1)=0:=by
    have:∀{l:List (Int×Int)} {y:Int},y∉l.map (·.1)->jL l y=0:=λ{l}=>by
     induction l with
     | nil=>intro _ _;rfl
     | cons a t ih2 =>
      intro y hy
      rw [List.map_cons,List.mem_cons,not_or] at hy
      unfold jL
      rw [if_neg (λz=>hy.1 z.symm)]
      exact ih2 hy.2
    exact this (by rw [<- e];exact h1)
   rw [if_pos e,if_pos (),if_neg ()]
   omega
  ·rw [if_neg e]
   by_cases l:q.1<=y
   ·rw [if_pos l,if_pos ()];omega
   ·rw [if_neg l,if_neg ()];omega
theorem wt:∀(ns:List (Int×Int)) (y:Int),(qK (ns.map kvI) (.inl y)).getD (.int 0) = .int (jL ns y)
 | [],y=>rfl
 | q::r,y=>by
  rw [List.map_cons]
  unfold jL
  by_cases e:q.1=y
  ·subst e
   rw [if_pos rfl,show qK (kvI q::r.map kvI) (.inl q.1)=some (.int q.2) from xD]
   rfl
  ·rw [if_neg e,show qK (kvI q::r.map kvI) (.inl y)=qK (r.map kvI) (.inl y) from jx λw=>e (Sum.inl.inj w)]
   exact wt r y
def VC (C CN:Addr):Sp:=λvs H Q E=>∃(p:Addr) (g:IceG) (l m:Int) (sk:List (Int×Addr)) (wr:List (Int×T3)),vs=[.ref p,.int l,.int m]/\IceAt C H p g/\g.lds.length=g.slopes.length/\g.kvs=sk.map kvA/\xR H sk wr/\1<=g.rows.length/\g.rows.length<=1000 /\
 (∀H',jf H H'->l<0\/(g.slopes.length:Int)<=l->E (.ref CN) none H') /\
 (0<=l->l<(g.slopes.length:Int)->∃ns ms,J8 g l ns/\(∀q∈ns,0<=q.1)/\(g.slopes.getD l.toNat []).length<=100/\ms.Perm ns/\(ms.map (·.1)).Pairwise (· <= ·) /\
  ∀o H' out,H o=none->H' o=some (.lst out)->yB H' out (xp ms (g.slopes.getD l.toNat []) wr g.rows m)->jf H H'->Q (.ref o) H')
theorem x3:FnScope ["ice","lane","mark","years","first","last","surges","leaps","place","rows","lying","year","moved"] ["ice","lane","mark"] (j7 XM):=by walk_at "s"
theorem Wq {f C CN CP:Addr}{fd:FuncData}(nb:Nb2 mg) (b_dict:mg "dict" = none) (cl_Ice:Cls K C) (c_span:CalX P w K mg base 3 "span" ["ice","lane","mark"] (Vx C CN)) (c_Ice__surges:CalMX P w K mg base 2 C "surges" ["self","lane"] (zo C CN)) (c_ride_by:Cal P w K mg base 1 "ride_by" ["surges","year"] kR)
  (c_change:Cal P w K mg base 1 "change" ["row","height"] ki) (c_Ice__sky:CalM P w K mg base 1 C "sky" ["self","year"] (Vo C)) (c_Ice__height:CalMX P w K mg base 3 C "height" ["self","lane","place"] (wc C CN CP))
  (F:Fun K "life" "life" XM f fd):FnOk P w K mg base (CX1 P w) 4 f fd ["ice","lane","mark"] (VC C CN):=by
 refine Fun.okX F x3 (λvs H Q E h=>?_) (λcdv A outer s H vs Q E hr h=>?_)
 ·obtain ⟨p,g,l,m,sk,wr,rfl,_⟩:=h
  rfl
 ·obtain ⟨p,g,l,m,sk,wr,rfl,I,hll,ek,hw,hr1,hr2,kx,k⟩:=h
  refine ⟨_,(j4 (jw 3 x3.nd (qM c_span (hr.mono ⋯) jQ rfl (j0 (pv 0) (j0 (pv 1) (j0 (pv 2) j2)))))
   (j4 (qi (jK Za (pv 3) Ql (jS _)) (j9 (ji (jR j2))) jA)
   (j4 (xK (pv 3) (qf (n:=2) K rfl (jg (ja (i:=4) x3.nd rfl (Or.inl rfl)) (jg (ja (i:=5) x3.nd rfl (Or.inl rfl)) jY))))
   (j4 (jw 6 x3.nd (xh (pv 0) cl_Ice c_Ice__surges (hr.mono ⋯) jQ (j0 (pv 1) j2)))
   (j4 (jw 7 x3.nd (qt (hZ K rfl) rfl b_dict PyProof.Rows.boot_dict (j0 (pv 6) j2)))
   (j4 (jw 8 x3.nd (jk qN (je c_ride_by (hr.mono ⋯) rfl (j0 (pv 6) (j0 (pv 4) j2))) (pv 2)))
   (j4 (jw 9 x3.nd (jR j2))
   (j4 (jw 10 x3.nd j6)
   (j4 (Z9 (xc PassesOwn.never rfl (Jk rfl nb.b_range (j0 (pv 4) (j0 (jk jG (pv 5) j6) j2))) (ja (i:=11) x3.nd rfl (Or.inl rfl)) (j4 (jw 12 x3.nd (jd (zn rfl) rfl nb.b_max boot_max (j0 (ya xN (pv 10)) (j0 (je c_change (hr.mono ⋯) rfl (j0 (Ew (pv 0) cl_Ice c_Ice__sky (hr.mono ⋯) (j0 (pv 11) j2)) (j0 (xh (pv 0) cl_Ice c_Ice__height (hr.mono ⋯) gQ (j0 (pv 1) (j0 (pv 8) j2))) j2))) j2))))
   (j4 (Qc (i:=10) x3.nd rfl (Or.inl rfl) (pv 12) Zf)
   (j4 (jN (zP K PySem.F.plainAttrs_list PySem.F.slot_list_append PySem.F.type_list_append qy (pv 9) (j0 (qx (j0 (pv 11) (j0 (pv 8) (j0 (pv 12) (j0 (pv 10) j2))))) j2)))
   (j9 (Qc (i:=8) x3.nd rfl (Or.inl rfl) (jk jG j6 (kN (qQ hr) (pv 7) (jk jG (pv 11) j6) j6 ⟨rfl,rfl,rfl,rfl⟩)) Zf)))))))
   (j9 (ji (pv 9)))))))))))),?_⟩
  left
  refine ⟨p,g,l,m,rfl,I,hll,kx,λl0 l1=>?_⟩
  obtain ⟨ns,ms,⟨_,_,⟨a,ha⟩,nd,h64,h9⟩,hp0,g100,hp,hs,k⟩:=k l0 l1
  have hpos:∀q∈ns,0<=q.1/\0<=q.2:=λq hq=>⟨hp0 q hq,(h9 q hq).1⟩
  refine ⟨a,ns,ha,nd,h64,λos hos hss fst gon e1 e2=>?_⟩
  obtain rfl:=zW nd hp hs hos hss
  clear hos hss
  refine ⟨λhlt t H1 s1 ht1=>?_,λhlt H1 s1=>?_⟩
  ·have hn:(gon-1+1-fst).toNat=(gon-fst).toNat:=()
   have on:=λw hw=>vn hp hs nd hpos m (g.slopes.getD l.toNat []).length w hw
   have f0:=wD hp hs hpos m
   have spl:=Y8 hp hs nd hpos m (g.slopes.getD l.toNat []).length (by rw [<- e1,<- e2];exact hlt)
   unfold xp at k
   rw [<- e1,<- e2] at k spl
   rw [<- e1] at f0
   rw [<- e1,<- e2] at on
   have sper:=λy=>yr hp y
   have ndm:(os.map (·.1)).Nodup:=(hp.map (·.1)).nodup_iff.mpr nd
   have h9m:∀q∈os,0<=q.2/\q.2<=9:=λq hq=>h9 q (hp.mem_iff.mp hq)
   have hlm:os.length<64:=by rw [hp.length_eq];exact h64
   clear e1 e2
   generalize hgd:g.slopes.getD l.toNat []=gd at *
   left
   refine ⟨t,_,rfl,SqT.of ht1,rfl,?_⟩
   refine ⟨_,_,rfl,_,_,rfl,rfl,?_⟩
   left
   refine ⟨p,g.dx,_,rfl,s1 _ _ I.ob,jO ∅,?_⟩
   left
   refine ⟨p,g,l,rfl,I.same s1,hll,(λhb=>absurd hb ()),λ_ _=>⟨a,ns,ha,nd,h64,λso H2 out ms2 hso hso2 hq2 s2 hp2 hs2=>?_⟩⟩
   obtain rfl:=zW nd hp hs hp2 hs2
   left
   refine ⟨so,out,ms2,rfl,SqL.of hso2,hq2,ndm,(),λd H3 hd hd3 s3=>?_⟩
   have hd3:H3 d=some (.dK (ms2.map kvI)):=hd3
   left
   refine ⟨so,out,ms2,fst,rfl,s3 _ _ hso2,kM.same hq2 s3,(),h9m,λH4 s4=>?_⟩
   left
   refine ⟨Nat.zero_le _,λrw_ H5 hrw hrw5 s5=>?_⟩
   have S4:jf H H4:=((s1.trans s2).trans s3).trans s4
   have d4:=s4 _ _ hd3
   have rw0:H rw_=none:=S4.free hrw
   left
   refine ⟨_,_,rfl,?_⟩
   refine xw (λi σ H6=>∃(x y:Option V) (out6:List V),σ=[some (.ref p),some (.int l),some (.int m),some (.ref t),some (.int fst),some (.int (gon-1)),some (.ref so),some (.ref d),some (.int (plc ms2 m (fst+(i:Int)))),some (.ref rw_),some (.int (yG ms2 gd wr g.rows m fst i)),x,y]/\H6 rw_=some (.lst out6)/\out6.length=i/\yB H6 out6 (gA ms2 gd wr g.rows m fst i)/\Ext rw_ H4 H6) ?_ ?_ ?_
   ·refine ⟨none,none,[],?_,hrw5,rfl,.nil,λc o hc _=>s5 _ _ hc⟩
    rw [show fst+((0:Nat):Int)=fst by omega]
    rfl
   ·rintro i σ H6 hi ⟨x,y,out6,rfl,h6,hl6,r6,e6⟩
    rw [hn] at hi
    have y0:0<=fst+(i:Int):=()
    have onp:=(on _ y0).mpr ⟨(),()⟩
    rw [<- sper] at onp
    have onp:0<=plc ms2 m (fst+(i:Int))/\plc ms2 m (fst+(i:Int))<(gd.length:Int):=onp
    have s6:jf H4 H6:=λc o hc=>e6 c o hc (j1 hc hrw)
    have I6:=I.same (S4.trans s6)
    have hw6:xR H6 sk wr:=hw.keep (jj.same (S4.trans s6))
    left
    refine ⟨p,g.dx,_,rfl,I6.ob,jO ∅,?_⟩
    left
    refine ⟨p,g,fst+(i:Int),sk,wr,rfl,I6,ek,hw6,hr1,hr2,λtr htr=>?_⟩
    left
    refine ⟨p,g.dx,_,rfl,I6.ob,jO ∅,?_⟩
    left
    refine ⟨p,g,l,plc ms2 m (fst+(i:Int)),rfl,I6,λ_ _ _ _=>?_,(λhb=>absurd hb ()),λ_ _ hb=>absurd hb (by rw [hgd];omega)⟩
    rw [hgd]
    left
    refine ⟨tr,_,_,rfl,htr,?_⟩
    left
    refine ⟨_,_,rfl,?_⟩
    left
    refine ⟨.inl ⟨rfl,_,SqL.of h6⟩,?_⟩
    left
    refine ⟨by show 4<=sizeLine;decide,λtq H7 htq htq7 s7=>?_⟩
    refine ⟨_,_,_,rfl,rfl,s7 _ _ h6,jc (),?_⟩
    have d7:upd H7 rw_ (.lst (out6++[.ref tq])) d=some (.dK (ms2.map kvI)):=by rw [j8 (j1 d4 hrw)];exact s7 _ _ (s6 _ _ d4)
    have tqr:tq≠rw_:=(j1 h6 htq).symm
    left
    refine ⟨.inl ⟨_,.inl d7⟩,?_⟩
    left
    refine ⟨_,xY.k (k:=.inl (fst+(i:Int)+1)) d7,?_⟩
    rw [wt]
    left
    have epl:plc ms2 m (fst+((i+1:Nat):Int))=plc ms2 m (fst+(i:Int))+(1+jL ms2 (fst+(i:Int)+1)):=by
     have:=vR ndm (fst+(i:Int))
     rw [show fst+((i+1:Nat):Int)=fst+(i:Int)+1 by omega]
     unfold plc
     omega
    refine ⟨_,_,out6++[.ref tq],by rw [epl];rfl,j5,by rw [List.length_append,hl6];rfl,?_,λc o hc n=>by rw [j8 n];exact s7 _ _ (e6 c o hc n)⟩
    rw [XS]
    exact Paired.snoc (r6.keep λa xs q=>by rw [j8 (jo (s7 _ _ q) (s7 _ _ h6) (by walk_at "z"))];exact s7 _ _ q) ⟨tq,rfl,by rw [j8 tqr];exact htq7⟩
   ·rintro σ H6 ⟨x,y,out6,rfl,h6,hl6,r6,e6⟩
    rw [hn] at r6
    left
    exact k rw_ H6 out6 rw0 h6 r6 (S4.trans λc o hc=>e6 c o hc (j1 hc hrw))
  ·have hz:(gon-fst).toNat=0:=()
   unfold xp at k
   rw [<- e1,<- e2,hz] at k
   left
   refine ⟨Nat.zero_le _,λo H2 ho ho2 s2=>?_⟩
   exact k o H2 [] (s1.free ho) ho2 .nil (s1.trans s2)
theorem Q0 (xs:List V) (k:Nat):wm xs none (some (k:Int))=xs.take k:=by
 unfold wm
 rw [HT.sIx_none,HT.sIx_nat,List.drop_zero,Nat.sub_zero]
 by_cases h:k<=xs.length
 ·rw [Nat.min_eq_left h]
 ·rw [Nat.min_eq_right (),List.take_of_length_le (Nat.le_refl _)]
  exact (List.take_of_length_le ()).symm
theorem Jo (xs:List V) (k:Nat):wm xs (some (k:Int)) none=xs.drop k:=by
 unfold wm
 rw [HT.sIx_none,HT.sIx_nat]
 by_cases h:k<=xs.length
 ·rw [Nat.min_eq_left h]
  exact List.take_of_length_le (by rw [List.length_drop];omega)
 ·rw [Nat.min_eq_right (),List.drop_eq_nil_of_le (Nat.le_refl _),List.take_nil]
  exact (List.drop_eq_nil_of_le ()).symm
theorem kB {ms:List (Int×Int)}{gd:List Int}{wr:List (Int×T3)}{ts:List T3}{m:Int}{i:Nat}(h:i<(jn 0 0 ms (m+(gd.length:Int))-jn 0 0 ms m).toNat):(xp ms gd wr ts m)[i]? = some (vh ms gd wr ts m (jn 0 0 ms m) i):=by
 unfold xp gA
 rw [List.getElem?_map,List.getElem?_range h]
 rfl
theorem gh (ms:List (Int×Int)) (gd:List Int) (wr:List (Int×T3)) (ts:List T3) (m:Int):(xp ms gd wr ts m).length=(jn 0 0 ms (m+(gd.length:Int))-jn 0 0 ms m).toNat:=by
 unfold xp gA
 rw [List.length_map,List.length_range]
def QF (C CN CP CY:Addr):Sp:=λvs H Q E=>∃(p:Addr) (g:IceG) (l n y:Int) (sk:List (Int×Addr)) (wr:List (Int×T3)),vs=[.ref p,.int l,.int n,.int y]/\IceAt C H p g/\g.lds.length=g.slopes.length/\g.kvs=sk.map kvA/\xR H sk wr/\1<=g.rows.length/\g.rows.length<=1000 /\
 (l<0\/(g.slopes.length:Int)<=l->E (.ref CN) none H)/\(0<=l->l<(g.slopes.length:Int)->n<0\/((g.slopes.getD l.toNat []).length:Int)<=n->E (.ref CP) none H) /\
 (0<=l->l<(g.slopes.length:Int)->0<=n->n<((g.slopes.getD l.toNat []).length:Int)->∃ns ms,J8 g l ns/\(∀q∈ns,0<=q.1)/\(g.slopes.getD l.toNat []).length<=100/\ms.Perm ns/\(ms.map (·.1)).Pairwise (· <= ·)/\(∀H',jf H H'->y<0\/10 ^ 40<y->E (.ref CY) none H') /\
  (0<=y->y<=10 ^ 40->∀t a1 a2 out H',H t=none->H a1=none->H a2=none->H' t=some (.tup [.ref a1,.ref a2])->H' a1=some (.lst (out.take (y-jn 0 0 ms (y+jv ns y-n)).toNat))->H' a2=some (.lst (out.drop (y-jn 0 0 ms (y+jv ns y-n)).toNat))->yB H' out (xp ms (g.slopes.getD l.toNat []) wr g.rows (y+jv ns y-n))->jf H H'->Q (.ref t) H'))
theorem uZ:FnScope ["ice","lane","place","year","rows","lived"] ["ice","lane","place","year"] (j7 kE):=by walk_at "s"
theorem Yv {f C CN CP CY:Addr}{fd:FuncData}(cl_Ice:Cls K C) (c_Ice__check_place:CalMX P w K mg base 2 C "check_place" ["self","lane","place"] (yp C CN CP)) (c_ridden:CalX P w K mg base 3 "ridden" ["ice","lane","year"] (Xq C CN CY)) (c_life:CalX P w K mg base 4 "life" ["ice","lane","mark"] (VC C CN))
  (F:Fun K "parted" "parted" kE f fd):FnOk P w K mg base (CX1 P w) 5 f fd ["ice","lane","place","year"] (QF C CN CP CY):=by
 refine Fun.okX F uZ (λvs H Q E h=>?_) (λcdv A outer s H vs Q E hr h=>?_)
 ·obtain ⟨p,g,l,n,y,sk,wr,rfl,_⟩:=h
  rfl
 ·obtain ⟨p,g,l,n,y,sk,wr,rfl,I,hll,ek,hw,hr1,hr2,kl,kp,k⟩:=h
  refine ⟨_,(j4 (jN (xh (pv 0) cl_Ice c_Ice__check_place (hr.mono ⋯) jQ (j0 (pv 1) (j0 (pv 2) j2))))
   (j4 (jw 4 uZ.nd (qM c_life (hr.mono ⋯) jQ rfl (j0 (pv 0) (j0 (pv 1) (j0 (jk qN (qM c_ridden (hr.mono ⋯) jQ rfl (j0 (pv 0) (j0 (pv 1) (j0 (pv 3) j2)))) (pv 2)) j2)))))
   (j4 (jw 5 uZ.nd (jk qN (pv 3) (js (qo K) (js (jh K) (pv 4) j6 (λ_ _=>rfl)) j6 (λ_ _=>rfl))))
   (j9 (ji (qx (j0 (zx (xI K) (pv 4) yk (yy (pv 5))) (j0 (zx (xI K) (pv 4) (yy (pv 5)) yk) j2)))))))),?_⟩
  left
  refine ⟨p,g.dx,_,rfl,I.ob,jO ∅,?_⟩
  left
  refine ⟨p,g,l,n,rfl,I,λl0 l1 n0 n1=>?_,λhb=>kl hb,λl0 l1 hb=>kp l0 l1 hb⟩
  obtain ⟨ns,ms,hL,hp0,g100,hp,hs,ky,k⟩:=k l0 l1 n0 n1
  have hpos:∀q∈ns,0<=q.1/\0<=q.2:=λq hq=>⟨hp0 q hq,(hL.2.2.2.2.2 q hq).1⟩
  have nd:(ns.map (·.1)).Nodup:=hL.2.2.2.1
  left
  refine ⟨p,g,l,y,rfl,I,hll,(λhb=>absurd hb ()),λ_ _=>⟨ns,hL,ky,λH1 s1 y0 y1=>?_⟩⟩
  have k:=k y0 y1
  have e0:y+jv ns y-(y+jv ns y-n)=n:=()
  have onm:=(vn hp hs nd hpos (y+jv ns y-n) (g.slopes.getD l.toNat []).length y y0).mp (by rw [e0];exact ⟨n0,n1⟩)
  have hlo:=gh ms (g.slopes.getD l.toNat []) wr g.rows (y+jv ns y-n)
  have hg0:=kB (ms:=ms) (gd:=g.slopes.getD l.toNat []) (wr:=wr) (ts:=g.rows) (m:=y+jv ns y-n) (i:=0) ()
  obtain ⟨m,em⟩:∃m,y+jv ns y-n=m:=⟨_,rfl⟩
  rw [em] at k onm hlo hg0
  left
  refine ⟨p,g,l,m,sk,wr,by rw [<- em],I.same s1,hll,ek,hw.keep (jj.same s1),hr1,hr2,(λH' _ hb=>absurd hb ()),λ_ _=>⟨ns,ms,hL,hp0,g100,hp,hs,λo H2 out ho ho2 r2 s2=>?_⟩⟩
  have hol:out.length=(xp ms (g.slopes.getD l.toNat []) wr g.rows m).length:=Paired.length r2
  have h0:0<out.length:=()
  obtain ⟨q0,hq0,b0,ev0,hb0⟩:=Paired.get r2 (List.getElem?_eq_getElem h0)
  rw [hg0] at hq0
  have eq0:q0.1=jn 0 0 ms m:=by
   cases hq0
   show jn 0 0 ms m+((0:Nat):Int)=_
   omega
  have hb0:H2 b0=some (.tup [.int q0.1,.int q0.2.1,.int q0.2.2.1,.int q0.2.2.2]):=hb0
  left
  refine ⟨_,_,_,_,rfl,rfl,SqL.of ho2,xM ⋯ (v:=V.ref b0) (by show out[0]? = _;rw [List.getElem?_eq_getElem h0,ev0]),?_⟩
  left
  have ek2:y-q0.1=(((y-jn 0 0 ms m).toNat:Nat):Int):=by rw [eq0];omega
  refine ⟨_,_,rfl,SqL.of ho2,λa1 H3 ha1 ha13 s3=>?_⟩
  left
  refine ⟨_,_,rfl,SqL.of (s3 _ _ ho2),λa2 H4 ha2 ha24 s4=>?_⟩
  have ha13:H3 a1=some (.lst (out.take (y-jn 0 0 ms m).toNat)):=by rw [ha13,<- Q0,<- ek2]
  have ha24:H4 a2=some (.lst (out.drop (y-jn 0 0 ms m).toNat)):=by rw [ha24,<- Jo,<- ek2]
  left
  refine ⟨by show 2<=sizeLine;decide,λt H5 ht ht5 s5=>?_⟩
  have t2:=s1.trans s2
  have t3:=t2.trans s3
  exact k t a1 a2 out H5 ((t3.trans s4).free ht) (t2.free ha1) (t3.free ha2) ht5 (s5 _ _ (s4 _ _ ha13)) (s5 _ _ ha24) (r2.keep (jj.same (s3.trans (s4.trans s5)))) (t3.trans (s4.trans s5))
def Vt:Sp:=λvs H Q _=>∃(p:Addr) (xs:List V) (v:V),vs=[.ref p,v]/\H p=some (.lst xs)/\xs.length<=1000/\∀l H',H l=none->H' l=some (.lst (xs++[v]))->jf H H'->Q (.ref l) H'
theorem Wm:FnScope ["runs","run"] ["runs","run"] (j7 ZG):=by walk_at "s"
theorem Wb {f:Addr}{fd:FuncData}(nb:Nb2 mg) (F:Fun K "laid" "laid" ZG f fd):FnOk P w K mg base CX0 1 f fd ["runs","run"] Vt:=by
 refine F.ok Wm (λvs H Q E h=>?_) (λcdv A outer s H vs Q E hr h=>?_)
 ·obtain ⟨p,xs,v,rfl,_⟩:=h
  rfl
 ·obtain ⟨p,xs,v,rfl,hp,hl,k⟩:=h
  refine ⟨_,(j9 (ji (jk ur (pv 0) (jR (j0 (pv 1) j2))))),?_⟩
  left
  refine ⟨by show 1<=sizeLine;decide,λq H1 hq hq1 s1=>?_⟩
  refine ⟨p,q,xs,[v],rfl,rfl,s1 _ _ hp,hq1,?_,λl H2 hl2 hl22 s2=>?_⟩
  ·have:=jc hl
   rw [List.length_singleton];omega
  ·exact k l H2 (s1.free hl2) hl22 (s1.trans s2)
theorem uF {H:Hp}:∀{vs:List V}{v:V}{ts:List T3},jC H (vs++[v]) ts->∃ti t,ts=ti++[t]/\jC H vs ti/\Wt H v t
 | [],v,_,.cons r .nil=>⟨[],_,rfl,.nil,r⟩
 | x::vs,v,_,.cons r rs=>by
  obtain ⟨ti,t,e,a,b⟩:=uF rs
  exact ⟨_::ti,t,by rw [e];rfl,.cons r a,b⟩
theorem jC.same {H H':Hp}{vs:List V}{ts:List T3}(r:jC H vs ts) (s:jf H H'):jC H' vs ts:=r.imp λ_ _ q=>s _ _ q
theorem jC.keep {H H':Hp}{vs:List V}{ts:List T3}(r:jC H vs ts) (s:jj H H'):jC H' vs ts:=r.imp λ_ _ q=>s _ _ q
def muM:L2.St->Hp->Nat:=λσ _=>match σ with | _::some (.int m)::_=>m.toNat | _=>0
def Yi:Sp:=λvs H Q _=>∃(p:Addr) (xs:List V) (rs:List T3) (m:Int),vs=[.ref p,.int m]/\H p=some (.lst xs)/\jC H xs rs/\zO rs/\(jt rs).length<=900/\0<=m /\
 ∀t l o H' vl vo left off m',H l=none->H o=none->l≠o->H' t=some (.tup [.ref l,.ref o])->H' l=some (.lst vl)->jC H' vl left->H' o=some (.lst vo)->jC H' vo off->jf H H'->Tk rs m left off m'->(left=[]\/m'<=0)->Q (.ref t) H'
theorem zf:FnScope ["runs","many","left","off","year","place","hands","part"] ["runs","many"] (j7 Qi):=by walk_at "s"
theorem GG {rs left off:List T3}{m m':Int}(t:Tk rs m left off m'):left.length+off.length<=(jt rs).length:=by
 have h1:=uP t.gl
 have h2:=uP t.go
 rw [<- t.keys,List.length_append]
 rw [List.length_reverse] at h2
 omega
theorem VS {f:Addr}{fd:FuncData}(nb:Nb2 mg) (F:Fun K "taken" "taken" Qi f fd):FnOk P w K mg base CX0 1 f fd ["runs","many"] Yi:=by
 refine F.ok zf (λvs H Q E h=>?_) (λcdv A outer s H vs Q E hr h=>?_)
 ·obtain ⟨p,xs,rs,m,rfl,_⟩:=h
  rfl
 ·obtain ⟨p,xs,rs,m0,rfl,hp,hrw,hg,h9,hm0,k⟩:=h
  refine ⟨_,(j4 (jw 2 zf.nd (qt (qw K) rfl nb.b_list PyProof.Rows.boot_list (j0 (pv 0) j2)))
   (j4 (jw 3 zf.nd (jR j2))
   (j4 (gm PassesOwn.never (PW.pt (Ui (V6 K (pv 2)) (ZU (jK XA (pv 1) j6 (jS _))))) (j4 (xK (WG K PySem.F.plainAttrs_list PySem.F.slot_list_pop PySem.F.type_list_pop GV (pv 2)) (qf (n:=3) K rfl (jg (ja (i:=4) zf.nd rfl (Or.inl rfl)) (jg (ja (i:=5) zf.nd rfl (Or.inl rfl)) (jg (ja (i:=6) zf.nd rfl (Or.inl rfl)) jY)))))
   (j4 (jw 7 zf.nd (jd (vx rfl) rfl nb.b_min boot_min (j0 (pv 6) (j0 (pv 1) j2))))
   (j4 (jN (zP K PySem.F.plainAttrs_list PySem.F.slot_list_append PySem.F.type_list_append qy (pv 3) (j0 (qx (j0 (pv 4) (j0 (pv 5) (j0 (pv 7) j2)))) j2)))
   (j4 (qi (jK uy (pv 7) (pv 6) (jS _)) (j9 (jN (zP K PySem.F.plainAttrs_list PySem.F.slot_list_append PySem.F.type_list_append qy (pv 2) (j0 (qx (j0 (pv 4) (j0 (pv 5) (j0 (jk qN (pv 6) (pv 7)) j2)))) j2)))) jA)
   (j9 (Qc (i:=1) zf.nd rfl (Or.inl rfl) (pv 7) GI)))))))
   (j9 (ji (qx (j0 (pv 2) (j0 (pv 3) j2)))))))),?_⟩
  left
  refine ⟨_,_,rfl,.inl (SqL.of hp),λl H1 hl hl1 s1=>?_⟩
  left
  refine ⟨by show 0<=sizeLine;decide,λo H2 ho ho2 s2=>?_⟩
  have lo:l≠o:=j1 hl1 ho
  left
  refine gj (λσ H3=>∃(m:Int) (vl vo:List V) (left off:List T3) (v4 v5 v6 v7:Option V),σ=[some (.ref p),some (.int m),some (.ref l),some (.ref o),v4,v5,v6,v7]/\H3 l=some (.lst vl)/\jC H3 vl left/\H3 o=some (.lst vo)/\jC H3 vo off/\jf H H3/\Tk rs m0 left off m) muM ?_ ?_ ?_
  ·exact ⟨m0,xs,[],rs,[],_,_,_,_,rfl,s2 _ _ hl1,jC.same hrw (s1.trans s2),ho2,.nil,s1.trans s2,Tk.start hg hm0⟩
  ·rintro σ H3 ⟨m,vl,vo,left,off,v4,v5,v6,v7,rfl,hl3,rl3,ho3,ro3,s3,tk⟩
   have hlen:=GG tk
   have ol:=ro3.length
   have ll:=rl3.length
   left
   refine ⟨_,.inl ⟨vl,SqL.of hl3,rfl⟩,?_⟩
   rcases List.eq_nil_or_concat vl with e | ⟨vi,v,e⟩
   ·subst e
    refine we ?_
    cases rl3
    left
    refine ⟨by show 2<=sizeLine;decide,λt H4 ht ht4 s4=>?_⟩
    exact k t l o H4 [] vo [] off m hl (s1.free ho) lo ht4 (s4 _ _ hl3) .nil (s4 _ _ ho3) (jC.same ro3 s4) (s3.trans s4) tk (.inl rfl)
   ·rw [List.concat_eq_append] at e
    subst e
    refine iteP (by simp) ?_
    left
    refine qT (λhm=>?_) (λhm=>?_)
    ·obtain ⟨li,⟨y,pl,h⟩,rfl,rli,q,rfl,hq⟩:=uF rl3
     have ql:q≠l:=jo hq hl3 (by walk_at "z")
     left
     refine ⟨.inl ⟨rfl,_,SqL.of hl3⟩,l,_,_,rfl,rfl,hl3,(by simp:(vi++[V.ref q])[(vi++[V.ref q]).length-1]? = some (V.ref q)),?_⟩
     rw [List.dropLast_concat]
     have kt4:jj H3 (upd H3 l (.lst vi)):=jj.lst Ext.put hl3
     have hl4:upd H3 l (.lst vi) l=some (.lst vi):=j5
     have ho4:upd H3 l (.lst vi) o=some (.lst vo):=by rw [j8 lo.symm];exact ho3
     have s4:jf H (upd H3 l (.lst vi)):=λc ob hc=>by rw [j8 (j1 hc hl)];exact s3 _ _ hc
     have hq4:=kt4 _ _ hq
     generalize upd H3 l (.lst vi)=H4 at kt4 hl4 ho4 s4 hq4
     refine ⟨q,_,rfl,SqT.of hq4,rfl,?_⟩
     refine ⟨_,_,rfl,_,_,rfl,_,_,rfl,rfl,?_⟩
     left
     refine ⟨_,_,rfl,?_⟩
     left
     refine ⟨.inl ⟨rfl,_,SqL.of ho4⟩,?_⟩
     left
     refine ⟨by show 3<=sizeLine;decide,λq2 H5 hq2 hq25 s5=>?_⟩
     left
     refine ⟨o,vo,_,rfl,rfl,s5 _ _ ho4,jc (),?_⟩
     have oq2:o≠q2:=j1 ho4 hq2
     have kt6:jj H4 (upd H5 o (.lst (vo++[.ref q2]))):=(jj.same s5).trans (jj.lst Ext.put (s5 _ _ ho4))
     have ho6:upd H5 o (.lst (vo++[.ref q2])) o=some (.lst (vo++[.ref q2])):=j5
     have hl6:upd H5 o (.lst (vo++[.ref q2])) l=some (.lst vi):=by rw [j8 lo];exact s5 _ _ hl4
     have hoH:H o=none:=s1.free ho
     have s6:jf H (upd H5 o (.lst (vo++[.ref q2]))):=λc ob hc=>by rw [j8 (j1 hc hoH)];exact s5 _ _ (s4 _ _ hc)
     have hq26:upd H5 o (.lst (vo++[.ref q2])) q2=some (.tup [.int y,.int pl,.int (if m<h then m else h)]):=by rw [j8 oq2.symm];exact hq25
     generalize upd H5 o (.lst (vo++[.ref q2]))=H6 at kt6 ho6 hl6 s6 hq26
     left
     by_cases hmh:m<h
     ·rw [if_pos hmh] at hq26 ⊢
      refine qT (λ_=>?_) (λz=>absurd hmh z)
      left
      refine ⟨.inl ⟨rfl,_,SqL.of hl6⟩,?_⟩
      left
      refine ⟨by show 3<=sizeLine;decide,λq3 H7 hq3 hq37 s7=>?_⟩
      left
      have vil:vi.length<=900:=by
       have:=rli.length
       rw [List.length_append] at hlen
       omega
      refine ⟨l,vi,_,rfl,rfl,s7 _ _ hl6,jc (),?_⟩
      have kt8:jj H6 (upd H7 l (.lst (vi++[.ref q3]))):=(jj.same s7).trans (jj.lst Ext.put (s7 _ _ hl6))
      have lq3:l≠q3:=j1 hl6 hq3
      left
      refine ⟨⟨m-m,_,_,li++[(y,pl,h-m)],off++[(y,pl,m)],_,_,_,_,rfl,j5,?_,by rw [j8 lo.symm];exact s7 _ _ ho6,?_,λc ob hc=>by rw [j8 (j1 hc hl)];exact s7 _ _ (s6 _ _ hc),?_⟩,?_⟩
      ·exact jC.snoc (jC.keep rli (kt4.trans (kt6.trans kt8))) ⟨q3,rfl,by rw [j8 lq3.symm];exact hq37⟩
      ·exact jC.snoc (jC.keep ro3 (kt4.trans (kt6.trans kt8))) ⟨q2,rfl,kt8 _ _ hq26⟩
      ·rw [Int.sub_self]
       exact tk.part hm hmh
      ·show (m-m).toNat<m.toNat
       omega
     ·rw [if_neg hmh] at hq26 ⊢
      refine qT (λz=>absurd z ()) (λ_=>?_)
      left
      have h1:1<=h:=tk.gl.1 _ (List.mem_append_right _ List.mem_cons_self)
      refine ⟨⟨m-h,_,_,li,off++[(y,pl,h)],_,_,_,_,rfl,hl6,?_,ho6,?_,s6,?_⟩,?_⟩
      ·exact jC.keep rli (kt4.trans kt6)
      ·exact jC.snoc (jC.keep ro3 (kt4.trans kt6)) ⟨q2,rfl,hq26⟩
      ·exact tk.whole hm ()
      ·show (m-h).toNat<m.toNat
       omega
    ·left
     refine ⟨by show 2<=sizeLine;decide,λt H4 ht ht4 s4=>?_⟩
     exact k t l o H4 _ vo left off m hl (s1.free ho) lo ht4 (s4 _ _ hl3) (jC.same rl3 s4) (s4 _ _ ho3) (jC.same ro3 s4) (s3.trans s4) tk (.inr ())
  ·refine Wn (λσ H Q Q' h q=>?_) (λσ H Q Q' h q=>?_)
   ·obtain ⟨x,e1,b,tr,z⟩:=q
    exact ⟨x,e1,b,tr,h _ _ z⟩
   ·obtain ⟨x,e1,i,j,e2,e3,b,e4,z⟩:=q
    exact ⟨x,e1,i,j,e2,e3,b,e4,h _ _ z⟩
theorem yB.take {H:Hp}:∀(n:Nat) {out:List V}{qs:List Q4},yB H out qs->yB H (out.take n) (qs.take n)
 | 0,_,_,_=>.nil
 | _+1,_,_,.nil=>.nil
 | n+1,_,_,.cons a r=>.cons a (yB.take n r)
section
variable {L:List Q4}{dp mv pl:Nat->Int}{fst:Int}{n:Nat}
structure Col (L:List Q4) (dp mv pl:Nat->Int) (fst:Int) (n:Nat):Prop where
 len:L.length=n
 at_:∀i,i<n->L[i]? = some (fst+(i:Int),pl i,mv i,dp (i+1))
 step:∀i,dp (i+1)=dp i+mv i
end
theorem X0 (ms:List (Int×Int)) (gd:List Int) (wr:List (Int×T3)) (ts:List T3) (m:Int):Col (xp ms gd wr ts m) (yG ms gd wr ts m (jn 0 0 ms m)) (λi=>(vh ms gd wr ts m (jn 0 0 ms m) i).2.2.1) (λi=>plc ms m (jn 0 0 ms m+(i:Int))) (jn 0 0 ms m) (jn 0 0 ms (m+(gd.length:Int))-jn 0 0 ms m).toNat :=
 ⟨gh _ _ _ _ _,λi hi=>kB hi,λi=>rfl⟩
theorem J6 (ns:List (Int×Int)):∃ms:List (Int×Int),ms.Perm ns/\(ms.map (·.1)).Pairwise (· <= ·):=by
 refine ⟨ns.mergeSort (λa b=>decide (a.1<=b.1)),List.mergeSort_perm _ _,?_⟩
 rw [List.pairwise_map]
 exact (List.pairwise_mergeSort (λa b c h1 h2=>by simp at *;omega) (λa b=>by simp;omega) ns).imp λh=>by simpa using h
theorem xR.good {H:Hp}:∀{sk:List (Int×Addr)}{wr:List (Int×T3)},xR H sk wr->(∀z∈sk,∃t,H z.2=some (yT t)/\good t=true)->∀q∈wr,good q.2=true
 | _,_,.nil,_,q,hq=>by cases hq
 | z::r,x::t,.cons ⟨_,h⟩ tl,g,q,hq=>by
  rcases List.mem_cons.mp hq with e | e
  ·subst e
   obtain ⟨u,hu,gu⟩:=g z (List.mem_cons_self ..)
   rw [h] at hu
   have:yT q.2=yT u:=Option.some.inj hu
   have e1:q.2.1=u.1:=by injection this with this;injection this with a b;exact V.int.inj a
   have e2:q.2.2.1=u.2.1:=by injection this with this;injection this with a b;injection b with b c;exact V.int.inj b
   have e3:q.2.2.2=u.2.2:=by injection this with this;injection this with a b;injection b with b c;injection c with c d;exact V.int.inj c
   rw [show q.2=u from Prod.ext e1 (Prod.ext e2 e3)]
   exact gu
  ·exact xR.good tl (λz hz=>g z (List.mem_cons_of_mem _ hz)) q e
theorem Vu {wr:List (Int×T3)}{ts:List T3}(h1:∀q∈wr,good q.2=true) (h2:ts.all good=true) (h3:1<=ts.length) (y:Int):good (qE wr ts y)=true:=by
 unfold qE
 cases e:wr.find? λq=>decide (q.1=y) with
 | some q=>exact h1 q (List.mem_of_find?_eq_some e)
 | none =>
  have m0:=Int.emod_nonneg y (show (ts.length:Int)≠0 by omega)
  have m1:=Int.emod_lt_of_pos y (show (0:Int)<ts.length by omega)
  have hi:(y % (ts.length:Int)).toNat<ts.length:=()
  show good (ts.getD (y % (ts.length:Int)).toNat (0,0,0))=true
  rw [List.getD_eq_getElem?_getD,List.getElem?_eq_getElem hi]
  exact List.all_eq_true.mp h2 _ (List.getElem_mem hi)
theorem Zm {t:T3}(g:good t=true) (h:Int):chg t h<=9:=by
 unfold good at g
 have:=of_decide_eq_true g
 unfold chg
 split <;> omega
theorem ve (ns:List (Int×Int)) (gd:List Int) (wr:List (Int×T3)) (ts:List T3) (m fst:Int):∀i,0<=yG ns gd wr ts m fst i
 | 0=>Int.le_refl _
 | i+1=>by
  have:=ve ns gd wr ts m fst i
  show 0<=yG ns gd wr ts m fst i+(if zU ns gd wr ts m (fst+(i:Int)) > - yG ns gd wr ts m fst i then zU ns gd wr ts m (fst+(i:Int)) else-yG ns gd wr ts m fst i)
  split <;> omega
def ZS (ks:List K2) (q:Q4):List K2:=if 0<q.2.2.1 then ks++List.replicate q.2.2.1.toNat (q.1,q.2.1) else ks.take (ks.length-(- q.2.2.1).toNat)
def vE (rows:List Q4):List K2:=rows.foldl ZS []
theorem ku {W:List Q4}{i:Nat}{q:Q4}(h:W[i]? = some q):vE (W.take (i+1))=ZS (vE (W.take i)) q:=by
 unfold vE
 rw [List.take_succ,h,List.foldl_append]
 rfl
theorem Wj {rs:List T3}(g:zO rs) {r:T3}(h:r∈rs):Uw r∈jt rs:=by
 unfold jt
 rw [List.mem_flatMap]
 have:=g.1 r h
 exact ⟨r,h,List.mem_replicate.mpr ⟨(),rfl⟩⟩
theorem UE {rs left off:List T3}{m m':Int}(t:Tk rs m left off m') (e:left=[]\/m'<=0):jt left=(jt rs).take ((jt rs).length-m.toNat):=by
 have h1:=t.cnt
 have h2:=t.m0'
 have h3:=congrArg List.length t.keys
 rw [List.length_append] at h3
 rcases e with rfl | e
 ·have:jt ([]:List T3)=[]:=rfl
  rw [this] at h3 ⊢
  rw [show (jt rs).length-m.toNat=0 by rw [List.length_nil] at h3;omega]
  rfl
 ·have e2:(jt rs).length-m.toNat=(jt left).length:=()
  rw [e2,<- t.keys,List.take_left]
theorem YC {rs:List T3}{r:T3}(g:zO rs) (h1:1<=r.2.2) (h:∀k∈jt rs,k.1<r.1):zO (rs++[r]):=by
 refine ⟨λx hx=>?_,List.pairwise_append.mpr ⟨g.2,List.pairwise_singleton _ _,λa ha b hb=>?_⟩⟩
 ·rcases List.mem_append.mp hx with z | z
  ·exact g.1 x z
  ·rw [List.mem_singleton.mp z];exact h1
 ·rw [List.mem_singleton.mp hb]
  exact h _ (Wj g ha)
def Zp (C:Addr):Sp:=λvs H Q E=>∃(p:Addr) (g:IceG) (l n y:Int) (sk:List (Int×Addr)) (wr:List (Int×T3)),vs=[.ref p,.int l,.int n,.int y]/\IceAt C H p g/\g.lds.length=g.slopes.length/\g.kvs=sk.map kvA/\xR H sk wr/\1<=g.rows.length/\g.rows.length<=1000/\(∀z,good (qE wr g.rows z)=true) /\
 0<=l/\l<(g.slopes.length:Int)/\0<=n/\n<((g.slopes.getD l.toNat []).length:Int)/\0<=y/\y<=10 ^ 40/\∃ns ms,J8 g l ns/\(∀q∈ns,0<=q.1)/\(g.slopes.getD l.toNat []).length<=100/\ms.Perm ns/\(ms.map (·.1)).Pairwise (· <= ·) /\
  ∀L i,L=xp ms (g.slopes.getD l.toNat []) wr g.rows (y+jv ns y-n)->i=(y-jn 0 0 ms (y+jv ns y-n)).toNat->∀o out rs H',H o=none->H' o=some (.lst out)->jC H' out rs->zO rs->jt rs=vE (L.take (i+1))->(jt rs).length<=900->jf H H'->Q (.ref o) H'
theorem xW:FnScope ["ice","lane","place","year","ahead","onward","runs","when","where","moved","lying"] ["ice","lane","place","year"] (j7 XW):=by walk_at "s"
theorem Wg {f C CN CP CY:Addr}{fd:FuncData}(nb:Nb2 mg) (c_parted:CalX P w K mg base 5 "parted" ["ice","lane","place","year"] (QF C CN CP CY)) (c_laid:Cal P w K mg base 1 "laid" ["runs","run"] Vt) (c_taken:Cal P w K mg base 1 "taken" ["runs","many"] Yi)
  (F:Fun K "pile" "pile" XW f fd):FnOk P w K mg base (CX1 P w) 6 f fd ["ice","lane","place","year"] (Zp C):=by
 refine Fun.okX F xW (λvs H Q E h=>?_) (λcdv A outer s H vs Q E hr h=>?_)
 ·obtain ⟨p,g,l,n,y,sk,wr,rfl,_⟩:=h
  rfl
 ·obtain ⟨p,g,l,n,y,sk,wr,rfl,I,hll,ek,hw,hr1,hr2,sg,l0,l1,n0,n1,y0,y1,ns,ms,hL,hp0,g100,hp,hs,k⟩:=h
  refine ⟨_,(j4 (xK (qM c_parted (hr.mono ⋯) jQ rfl (j0 (pv 0) (j0 (pv 1) (j0 (pv 2) (j0 (pv 3) j2))))) (qf (n:=2) K rfl (jg (ja (i:=4) xW.nd rfl (Or.inl rfl)) (jg (ja (i:=5) xW.nd rfl (Or.inl rfl)) jY))))
   (j4 (jw 6 xW.nd (jR j2))
   (j4 (Z9 (xc PassesOwn.never rfl (jM K (jk ur (pv 4) (zx (xI K) (pv 5) yk (yy j6)))) (qf (n:=4) K rfl (jg (ja (i:=7) xW.nd rfl (Or.inl rfl)) (jg (ja (i:=8) xW.nd rfl (Or.inl rfl)) (jg (ja (i:=9) xW.nd rfl (Or.inl rfl)) (jg (ja (i:=10) xW.nd rfl (Or.inl rfl)) jY))))) (j9 (qi (jK XA (pv 9) j6 (jS _)) (j9 (jw 6 xW.nd (je c_laid (hr.mono ⋯) rfl (j0 (pv 6) (j0 (qx (j0 (pv 7) (j0 (pv 8) (j0 (pv 9) j2)))) j2))))) (j9 (jw 6 xW.nd (js (qo K) (je c_taken (hr.mono ⋯) rfl (j0 (pv 6) (j0 (ya xN (pv 9)) j2))) j6 (λ_ _=>rfl))))))))
   (j9 (ji (pv 6)))))),?_⟩
  left
  refine ⟨p,g,l,n,y,sk,wr,rfl,I,hll,ek,hw,hr1,hr2,(λhb=>absurd hb ()),(λ_ _ hb=>absurd hb ()),λ_ _ _ _=>⟨ns,ms,hL,hp0,g100,hp,hs,(λH' s' hb=>absurd hb ()),λ_ _ t a1 a2 out H1 ht ha1 ha2 ht1 ha11 ha21 r1 s1=>?_⟩⟩
  have hpos:∀q∈ns,0<=q.1/\0<=q.2:=λq hq=>⟨hp0 q hq,(hL.2.2.2.2.2 q hq).1⟩
  have nd:(ns.map (·.1)).Nodup:=hL.2.2.2.1
  have e0:y+jv ns y-(y+jv ns y-n)=n:=()
  have onm:=(vn hp hs nd hpos (y+jv ns y-n) (g.slopes.getD l.toNat []).length y y0).mp (by rw [e0];exact ⟨n0,n1⟩)
  have CL:=X0 ms (g.slopes.getD l.toNat []) wr g.rows (y+jv ns y-n)
  have spl:=Y8 hp hs nd hpos (y+jv ns y-n) (g.slopes.getD l.toNat []).length ()
  have mv9:∀i,(vh ms (g.slopes.getD l.toNat []) wr g.rows (y+jv ns y-n) (jn 0 0 ms (y+jv ns y-n)) i).2.2.1<=9:=λi=>by
   have h1:=ve ms (g.slopes.getD l.toNat []) wr g.rows (y+jv ns y-n) (jn 0 0 ms (y+jv ns y-n)) i
   have h2:zU ms (g.slopes.getD l.toNat []) wr g.rows (y+jv ns y-n) (jn 0 0 ms (y+jv ns y-n)+(i:Int))<=9:=Zm (sg _) _
   show (if zU ms (g.slopes.getD l.toNat []) wr g.rows (y+jv ns y-n) (jn 0 0 ms (y+jv ns y-n)+(i:Int)) > - yG ms (g.slopes.getD l.toNat []) wr g.rows (y+jv ns y-n) (jn 0 0 ms (y+jv ns y-n)) i then _ else _)<=9
   split <;> omega
  have k:=k _ _ rfl rfl
  generalize yG ms (g.slopes.getD l.toNat []) wr g.rows (y+jv ns y-n) (jn 0 0 ms (y+jv ns y-n))=dp at CL
  generalize y+jv ns y-n=m at *
  generalize hmv:(λi=>(vh ms (g.slopes.getD l.toNat []) wr g.rows m (jn 0 0 ms m) i).2.2.1)=mv at CL
  have mvb:∀i,mv i<=9:=λi=>by rw [<- hmv];exact mv9 i
  generalize (λi:Nat=>plc ms m (jn 0 0 ms m+(i:Int)))=pl at CL
  generalize xp ms (g.slopes.getD l.toNat []) wr g.rows m=L at *
  generalize hfst:jn 0 0 ms m=fst at *
  generalize jn 0 0 ms (m+((g.slopes.getD l.toNat []).length:Int))=gon at *
  generalize hkk:(y-fst).toNat=kk at *
  have hkN:kk<(gon-fst).toNat:=()
  have hol:out.length=(gon-fst).toNat:=(Paired.length r1).trans CL.len
  left
  refine ⟨t,_,rfl,SqT.of ht1,rfl,?_⟩
  refine ⟨_,_,rfl,_,_,rfl,rfl,?_⟩
  left
  refine ⟨Nat.zero_le _,λr0 H2 hr0 hr02 s2=>?_⟩
  have hr00:H r0=none:=s1.free hr0
  left
  refine ⟨_,_,rfl,SqL.of (s2 _ _ ha21),λa3 H3 ha3 ha33 s3=>?_⟩
  have ha33:H3 a3=some (.lst ((out.drop kk).take 1)):=by rw [ha33];exact congrArg (λz=>some (HO.lst z)) (Q0 (out.drop kk) 1)
  refine ⟨a1,a3,_,_,rfl,rfl,s3 _ _ (s2 _ _ ha11),ha33,by rw [List.length_take,List.length_take,List.length_drop];exact Nat.le_of_lt (jc ()),λa4 H4 ha4 ha44 s4=>?_⟩
  have eo:out.take kk++(out.drop kk).take 1=out.take (kk+1):=by rw [List.take_add]
  rw [eo] at ha44
  have s14:jf H1 H4:=s2.trans (s3.trans s4)
  have rt:yB H4 (out.take (kk+1)) (L.take (kk+1)):=(yB.take _ r1).keep (jj.same s14)
  have hlt:(out.take (kk+1)).length=kk+1:=by rw [List.length_take];omega
  have hr04:=s4 _ _ (s3 _ _ hr02)
  left
  refine ⟨⟨_,SqL.of ha44⟩,?_⟩
  refine uK (K:=K) (a:=a4) (xs:=out.take (kk+1)) (λi σ H6=>∃(x7 x8 x9 x10:Option V) (ra:Addr) (xs:List V) (rs:List T3),σ=[some (.ref p),some (.int l),some (.int n),some (.int y),some (.ref a1),some (.ref a2),some (.ref ra),x7,x8,x9,x10]/\H ra=none/\H6 ra=some (.lst xs)/\jC H6 xs rs/\zO rs/\jt rs=vE ((L.take (kk+1)).take i)/\(∀q∈jt rs,q.1<fst+(i:Int))/\(jt rs).length<=9*i/\jf H4 H6) ?_ ?_ ?_ ?_
  ·exact ⟨_,_,_,_,r0,[],[],rfl,hr00,hr04,.nil,⟨λ_ h=>(by cases h),.nil⟩,rfl,λ_ h=>(by cases h),Nat.le_refl _,jf.refl _⟩
  ·rintro i σ H6 hi ⟨x7,x8,x9,x10,ra,xs,rs,rfl,hra,h6,r6,g6,e6,y6,l6,s6⟩
   exact SqL.of (s6 _ _ ha44)
  ·rintro i v σ H6 hv ⟨x7,x8,x9,x10,ra,xs,rs,rfl,hra,h6,r6,g6,e6,y6,l6,s6⟩
   obtain ⟨q,hq,bq,rfl,hbq⟩:=Paired.get rt hv
   have hi:i<kk+1:=by rw [<- hlt];exact (List.getElem?_eq_some_iff.mp hv).1
   have ek':=ku hq
   rw [<- e6] at ek'
   rw [List.getElem?_take_of_lt hi,CL.at_ i ()] at hq
   have hq:=Option.some.inj hq
   subst hq
   have m9:=mvb i
   have xl:xs.length=rs.length:=r6.length
   have gl:=uP g6
   have hbq:H4 bq=some (.tup [.int (fst+(i:Int)),.int (pl i),.int (mv i),.int (dp (i+1))]):=hbq
   unfold ZS at ek'
   have ek':vE ((L.take (kk+1)).take (i+1))=if 0<mv i then jt rs++List.replicate (mv i).toNat (fst+(i:Int),pl i) else (jt rs).take ((jt rs).length-(- mv i).toNat):=ek'
   left
   refine ⟨bq,_,rfl,SqT.of (s6 _ _ hbq),rfl,?_⟩
   refine ⟨_,_,rfl,_,_,rfl,_,_,rfl,_,_,rfl,rfl,?_⟩
   left
   refine qT (λz=>?_) (λz=>?_)
   ·rw [if_pos z] at ek'
    left
    refine ⟨by show 3<=sizeLine;decide,λtq H7 htq htq7 s7=>?_⟩
    left
    refine ⟨ra,xs,.ref tq,rfl,s7 _ _ h6,(),λl8 H8 hl8 hl88 s8=>?_⟩
    have e1:jt (rs++[(fst+(i:Int),pl i,mv i)])=jt rs++List.replicate (mv i).toNat (fst+(i:Int),pl i):=by
     rw [qq]
     congr 1
     exact List.append_nil _
    refine ⟨_,_,_,_,l8,xs++[.ref tq],rs++[(fst+(i:Int),pl i,mv i)],rfl,s1.free (s14.free (s6.free (s7.free hl8))),hl88,?_,YC g6 z y6,e1.trans ek'.symm,λq hq=>?_,?_,s6.trans (s7.trans s8)⟩
    ·exact jC.snoc (jC.same r6 (s7.trans s8)) ⟨tq,rfl,s8 _ _ htq7⟩
    ·rw [e1] at hq
     rcases List.mem_append.mp hq with h | h
     ·have:=y6 q h
      omega
     ·rw [(List.mem_replicate.mp h).2]
      show fst+(i:Int)<_
      omega
    ·rw [e1,List.length_append,List.length_replicate]
     omega
   ·rw [if_neg z] at ek'
    left
    refine ⟨ra,xs,rs,- mv i,rfl,h6,r6,g6,(),(),λt9 l9 o9 H9 vl vo left off m' hl9 ho9 lo9 ht9 hl99 rl9 ho99 ro9 s9 tk fin=>?_⟩
    have e1:=(UE tk fin).trans ek'.symm
    have hsub:∀q∈jt left,q∈jt rs:=λq hq=>by rw [<- tk.keys];exact List.mem_append_left _ hq
    have hle:(jt left).length<=(jt rs).length:=by rw [<- tk.keys,List.length_append];omega
    left
    refine ⟨_,_,_,_,l9,vl,left,rfl,s1.free (s14.free (s6.free hl9)),hl99,rl9,tk.gl,e1,λq hq=>?_,(),s6.trans s9⟩
    have:=y6 q (hsub q hq)
    omega
  ·rintro σ H6 ⟨x7,x8,x9,x10,ra,xs,rs,rfl,hra,h6,r6,g6,e6,y6,l6,s6⟩
   rw [hlt,List.take_take,Nat.min_self] at e6
   left
   exact k ra xs rs H6 hra h6 r6 g6 e6 () (s1.trans (s14.trans s6))
theorem Jl:∀(sk:List (Int×Addr)) (y:Int),y∈sk.map (·.1)->∃r,qK (sk.map kvA) (.inl y)=some (.ref r)
 | [],y,h=>by cases h
 | q::r,y,h=>by
  rw [List.map_cons]
  unfold qK
  by_cases e:q.1=y
  ·subst e
   exact ⟨q.2,by simp [kvA,List.find?]⟩
  ·have h':y∈r.map (·.1):=by
    rcases List.mem_cons.mp h with z | z
    ·exact absurd z.symm e
    ·exact z
   obtain ⟨a,ih⟩:=Jl r y h'
   unfold qK at ih
   refine ⟨a,?_⟩
   simp [kvA,List.find?,e] at ih ⊢
   exact ih
def Yd (C:Addr):Sp:=λvs H Q _=>∃(p:Addr) (g:IceG) (sk:List (Int×Addr)),vs=[.ref p]/\IceAt C H p g/\g.kvs=sk.map kvA/\sk.length<64 /\
 ∀o H' out (ks:List Int),H o=none->H' o=some (.lst out)->Paired (λv (y:Int)=>∃b r,v=V.ref b/\H' b=some (.tup [.int y,.ref r])) out ks->jf H H'->ks.Perm (sk.map (·.1))->Q (.ref o) H'
theorem Qq:FnScope ["self"] ["self"] (j7 zD):=by walk_at "s"
theorem Qd {f C:Addr}{fd:FuncData}(nb:Nb2 mg) (T:IceC K C) (F:Fun K "told" "Ice.told" zD f fd):FnOk P w K mg base CX0 2 f fd ["self"] (Yd C):=by
 refine F.ok Qq (λvs H Q E h=>?_) (λcdv A outer s H vs Q E hr h=>?_)
 ·obtain ⟨p,g,sk,rfl,_⟩:=h
  rfl
 ·obtain ⟨p,g,sk,rfl,I,ek,h64,k⟩:=h
  have hm:H g.ye=some (.dK (sk.map kvA)):=by rw [<- ek];exact I.ye
  refine ⟨_,(j9 (ji (jH (osc:=(j7 zD)) (ON:=["self"]) (N:=["year","self"]) (own:=1) (caps:=[0]) ⟨rfl,∅,∅,∅,rfl,∅⟩ rfl rfl rfl (jM K (jd (uH K rfl) rfl nb.b_sorted boot_sorted (j0 (qO K (pv 0)) j2))) (λ_ _ _ _ _=>(ja (i:=0) (show List.Nodup (["year","self"]:List Str) by decide +kernel) rfl (Or.inl rfl))) (λ_ _ _ _ _=>ju) (λ_ _ _ _ _=>(qx (j0 (pv 0) (j0 (qG (qQ hr) (qO K (pv 1)) (pv 0) (λ_ _=>rfl)) j2))))))),?_⟩
  left
  refine ⟨p,C,g.dx,_,_,rfl,I.ob,T.cl,T.nY,yw _ _ _ _ _,?_⟩
  left
  refine ⟨g.ye,sk.map kvA,sk.map (·.1),rfl,hm,by rw [List.map_map,List.map_map];rfl,by rw [List.length_map];exact h64,λo H1 ks ho ho1 s1 hp hs=>?_⟩
  have hkl:ks.length<64:=by rw [hp.length_eq,List.length_map];exact h64
  refine ⟨o,rfl,⟨_,SqL.of ho1⟩,λacc hacc=>?_⟩
  refine jP (K:=K) (a:=o) (xs:=ks.map V.int) (acc:=acc) (λi σ H2=>∃(x:Option V) (out:List V),σ=[x,some (.ref p)]/\H2 acc=some (.lst out)/\out.length=i/\Paired (λv (y:Int)=>∃b r,v=V.ref b/\H2 b=some (.tup [.int y,.ref r])) out (ks.take i)/\Ext acc H1 H2) ?_ ?_ ?_ ?_
  ·exact ⟨none,[],rfl,j5,rfl,.nil,Ext.put⟩
  ·rintro i σ H2 hi ⟨x,out,rfl,h2,hz,r2,e2⟩
   exact SqL.of (e2 _ _ ho1 (j1 ho1 hacc))
  ·rintro i v σ H2 hv ⟨x,out,rfl,h2,hz,r2,e2⟩
   obtain ⟨y,rfl,hy⟩:=zw hv
   have hiy:=(List.getElem?_eq_some_iff.mp hy).1
   have hyn:y∈sk.map (·.1):=hp.mem_iff.mp (List.mem_of_getElem? hy)
   obtain ⟨rr,hrr⟩:=Jl sk y hyn
   have t2:jf H H2:=λc o hc=>e2 _ _ (s1 _ _ hc) (j1 (s1 _ _ hc) hacc)
   have I2:=I.same t2
   left
   refine ⟨p,C,g.dx,_,_,rfl,I2.ob,T.cl,T.nY,yw _ _ _ _ _,?_⟩
   left
   refine ⟨g.ye,.ref rr,rfl,by rw [<- hrr];exact xY.k (k:=.inl y) (t2 _ _ hm),?_⟩
   left
   refine ⟨by show 2<=sizeLine;decide,λb H3 hb hb3 s3=>?_⟩
   have h3:=s3 _ _ h2
   have bacc:b≠acc:=(j1 h2 hb).symm
   refine ⟨out,h3,jc (),some (.int y),out++[.ref b],rfl,j5,by rw [List.length_append,hz];rfl,?_,λc o hc n=>by rw [j8 n];exact s3 _ _ (e2 c o hc n)⟩
   rw [List.take_add_one,hy]
   exact Paired.snoc (Paired.mapP r2 λv m ⟨c,r,e,q⟩=>⟨c,r,e,by rw [j8 (jo (s3 _ _ q) h3 (by walk_at "z"))];exact s3 _ _ q⟩) ⟨b,rr,rfl,by rw [j8 bacc];exact hb3⟩
  ·rintro σ H2 ⟨x,out,rfl,h2,hz,r2,e2⟩
   rw [List.length_map,List.take_length] at r2
   exact k acc H2 out ks (s1.free hacc) h2 r2 (λc o hc=>e2 _ _ (s1 _ _ hc) (j1 (s1 _ _ hc) hacc)) hp
def JB (C:Addr):Sp:=λvs H Q _=>∃(p:Addr) (g:IceG) (l:Int) (sk:List (Int×Addr)) (ns:List (Int×Int)),vs=[.ref p,.int l]/\IceAt C H p g/\g.lds.length=g.slopes.length/\g.kvs=sk.map kvA/\sk.length<64/\(∀z∈sk,0<=z.1)/\J8 g l ns/\(∀q∈ns,0<=q.1) /\
 ∀M H',-1<=M->(M = -1\/M∈sk.map (·.1)\/M∈ns.map (·.1))->(∀z∈sk,z.1<=M)->(∀q∈ns,q.1<=M)->jf H H'->Q (.int (M+1+((g.slopes.getD l.toNat []).length:Int))) H'
theorem k7:FnScope ["ice","lane","told"] ["ice","lane"] (j7 yd):=by walk_at "s"
theorem XO {f C CN:Addr}{fd:FuncData}(nb:Nb2 mg) (cl_Ice:Cls K C) (c_Ice__told:CalM P w K mg base 2 C "told" ["self"] (Yd C)) (c_Ice__surges:CalMX P w K mg base 2 C "surges" ["self","lane"] (zo C CN)) (c_Ice__length:CalMX P w K mg base 2 C "length" ["self","lane"] (y8 C CN))
  (F:Fun K "settled" "settled" yd f fd):FnOk P w K mg base (CX1 P w) 3 f fd ["ice","lane"] (JB C):=by
 refine Fun.okX F k7 (λvs H Q E h=>?_) (λcdv A outer s H vs Q E hr h=>?_)
 ·obtain ⟨p,g,l,sk,ns,rfl,_⟩:=h
  rfl
 ·obtain ⟨p,g,l,sk,ns,rfl,I,hll,ek,hk64,hk0,⟨l0,l1,⟨a,ha⟩,nd,h64,h9⟩,hn0,k⟩:=h
  refine ⟨_,(j4 (jw 2 k7.nd (jk ur (jH (osc:=(j7 yd)) (ON:=["ice","lane","told"]) (N:=["year","row"]) (own:=2) (caps:=[]) ⟨rfl,∅,∅,∅,rfl,∅⟩ rfl rfl rfl (jM K (WU (pv 0) cl_Ice c_Ice__told (hr.mono ⋯))) (λ_ _ _ _ _=>(qf (n:=2) K rfl (jg (ja (i:=0) (show List.Nodup (["year","row"]:List Str) by decide +kernel) rfl (Or.inl rfl)) (jg (ja (i:=1) (show List.Nodup (["year","row"]:List Str) by decide +kernel) rfl (Or.inl rfl)) jY)))) (λ_ _ _ _ _=>ju) (λ_ _ _ _ _=>(pv 0))) (jH (osc:=(j7 yd)) (ON:=["ice","lane","told"]) (N:=["year","many"]) (own:=2) (caps:=[]) ⟨rfl,∅,∅,∅,rfl,∅⟩ rfl rfl rfl (jM K (xh (pv 0) cl_Ice c_Ice__surges (hr.mono ⋯) jQ (j0 (pv 1) j2))) (λ_ _ _ _ _=>(qf (n:=2) K rfl (jg (ja (i:=0) (show List.Nodup (["year","many"]:List Str) by decide +kernel) rfl (Or.inl rfl)) (jg (ja (i:=1) (show List.Nodup (["year","many"]:List Str) by decide +kernel) rfl (Or.inl rfl)) jY)))) (λ_ _ _ _ _=>ju) (λ_ _ _ _ _=>(pv 0)))))
   (j9 (ji (jk jG (jk jG (Wa K rfl rfl nb.b_max (j0 (pv 2) j2) (ya xN j6)) j6) (xh (pv 0) cl_Ice c_Ice__length (hr.mono ⋯) jQ (j0 (pv 1) j2)))))),?_⟩
  left
  refine ⟨p,g.dx,_,rfl,I.ob,jO ∅,?_⟩
  left
  refine ⟨p,g,sk,rfl,I,ek,hk64,λo1 H1 out1 ks ho1 ho11 r1 s1 hks=>?_⟩
  have hol1:out1.length=ks.length:=Paired.length r1
  have hkl:ks.length<64:=by rw [hks.length_eq,List.length_map];exact hk64
  left
  refine ⟨⟨_,SqL.of ho11⟩,λacc hacc=>?_⟩
  refine jP (K:=K) (a:=o1) (xs:=out1) (acc:=acc) (λi σ H2=>∃x0 x1:Option V,σ=[x0,x1]/\H2 acc=some (.lst ((ks.take i).map V.int))/\Ext acc H1 H2) ?_ ?_ ?_ ?_
  ·exact ⟨none,none,rfl,j5,Ext.put⟩
  ·rintro i σ H2 hi ⟨x0,x1,rfl,h2,e2⟩
   exact SqL.of (e2 _ _ ho11 (j1 ho11 hacc))
  ·rintro i v σ H2 hv ⟨x0,x1,rfl,h2,e2⟩
   obtain ⟨y,hy,bq,rr,rfl,hbq⟩:=Paired.get r1 hv
   have hi:i<ks.length:=(List.getElem?_eq_some_iff.mp hy).1
   have hbq2:=e2 _ _ hbq (j1 hbq hacc)
   left
   refine ⟨bq,_,rfl,SqT.of hbq2,rfl,?_⟩
   refine ⟨_,_,rfl,_,_,rfl,rfl,?_⟩
   left
   refine ⟨_,h2,by rw [List.length_map,List.length_take];exact jc (),_,_,rfl,?_,e2.trans Ext.put⟩
   rw [j5,List.take_add_one,hy,List.map_append]
   rfl
  rintro σ H2 ⟨x0,x1,rfl,h2,e2⟩
  have s2:jf H1 H2:=λc o hc=>e2 c o hc (j1 hc hacc)
  rw [hol1,List.take_length] at h2
  have t2:=s1.trans s2
  left
  refine ⟨p,g.dx,_,rfl,t2 _ _ I.ob,jO ∅,?_⟩
  left
  refine ⟨p,g,l,rfl,I.same t2,hll,(λhb=>absurd hb ()),λ_ _=>⟨a,ns,ha,nd,h64,λo3 H3 out3 ms ho3 ho33 r3 s3 hp hs=>?_⟩⟩
  have hol3:out3.length=ms.length:=Paired.length r3
  have hml:ms.length<64:=by rw [hp.length_eq];exact h64
  left
  refine ⟨⟨_,SqL.of ho33⟩,λac2 hac2=>?_⟩
  refine jP (K:=K) (a:=o3) (xs:=out3) (acc:=ac2) (λi σ H4=>∃x0 x1:Option V,σ=[x0,x1]/\H4 ac2=some (.lst (((ms.take i).map (·.1)).map V.int))/\Ext ac2 H3 H4) ?_ ?_ ?_ ?_
  ·exact ⟨none,none,rfl,j5,Ext.put⟩
  ·rintro i σ H4 hi ⟨x0,x1,rfl,h4,e4⟩
   exact SqL.of (e4 _ _ ho33 (j1 ho33 hac2))
  ·rintro i v σ H4 hv ⟨x0,x1,rfl,h4,e4⟩
   obtain ⟨q,hq,bq,rfl,hbq⟩:=Paired.get r3 hv
   have hi:i<ms.length:=(List.getElem?_eq_some_iff.mp hq).1
   have hbq2:=e4 _ _ hbq (j1 hbq hac2)
   left
   refine ⟨bq,_,rfl,SqT.of hbq2,rfl,?_⟩
   refine ⟨_,_,rfl,_,_,rfl,rfl,?_⟩
   left
   refine ⟨_,h4,by rw [List.length_map,List.length_map,List.length_take];exact jc (),_,_,rfl,?_,e4.trans Ext.put⟩
   rw [j5,List.take_add_one,hq,List.map_append,List.map_append]
   rfl
  rintro σ H4 ⟨x0,x1,rfl,h4,e4⟩
  have s4:jf H3 H4:=λc o hc=>e4 c o hc (j1 hc hac2)
  rw [hol3,List.take_length] at h4
  refine ⟨acc,ac2,_,_,rfl,rfl,s4 _ _ (s3 _ _ h2),h4,by rw [List.length_map,List.length_map,List.length_map];exact Nat.le_of_lt (jc ()),λa5 H5 ha5 ha55 s5=>?_⟩
  have ha55:H5 a5=some (.lst ((ks++ms.map (·.1)).map V.int)):=by rw [ha55,List.map_append]
  have t5:jf H H5:=t2.trans (s3.trans (s4.trans s5))
  have mk1:∀y,y∈ks↔y∈sk.map (·.1):=λy=>hks.mem_iff
  have mk2:∀y,y∈ms.map (·.1)↔y∈ns.map (·.1):=λy=>(hp.map (·.1)).mem_iff
  left
  refine ⟨a5,ks++ms.map (·.1),_,rfl,rfl,SqL.of ha55,λhnil=>?_,λM hM hle=>?_⟩
  ·left
   refine ⟨p,g.dx,_,rfl,t5 _ _ I.ob,jO ∅,?_⟩
   left
   refine ⟨p,g,l,rfl,I.same t5,λ_ _=>?_,λhb=>absurd hb ()⟩
   left
   obtain ⟨h1,h2⟩:=List.append_eq_nil_iff.mp hnil
   refine k (-1) H5 (Int.le_refl _) (.inl rfl) (λz hz=>?_) (λq hq=>?_) t5
   ·have:=(mk1 z.1).mpr (List.mem_map_of_mem hz)
    rw [h1] at this
    cases this
   ·have:=(mk2 q.1).mpr (List.mem_map_of_mem hq)
    rw [h2] at this
    cases this
  ·left
   refine ⟨p,g.dx,_,rfl,t5 _ _ I.ob,jO ∅,?_⟩
   left
   refine ⟨p,g,l,rfl,I.same t5,λ_ _=>?_,λhb=>absurd hb ()⟩
   left
   have hM':M∈sk.map (·.1)\/M∈ns.map (·.1):=(List.mem_append.mp hM).imp (mk1 M).mp (mk2 M).mp
   have hM0:0<=M:=by
    rcases hM' with h | h
    ·obtain ⟨z,hz,rfl⟩:=List.mem_map.mp h
     exact hk0 z hz
    ·obtain ⟨z,hz,rfl⟩:=List.mem_map.mp h
     exact hn0 z hz
   exact k M H5 () (.inr hM') (λz hz=>hle _ (List.mem_append_left _ ((mk1 z.1).mpr (List.mem_map_of_mem hz)))) (λq hq=>hle _ (List.mem_append_right _ ((mk2 q.1).mpr (List.mem_map_of_mem hq)))) t5
abbrev QC:=Int×Int×Int×List Int
def zC (t:T3) (d gd:List Int):List Int:=List.zipWith (λx h=>if chg t h > -x then chg t h else -x) d gd
def jz (s:Nat) (d:List Int):List Int:=List.replicate s 0++d.take (d.length-s)
def zj (gd:List Int) (t:T3) (s:Nat) (d:List Int):QC :=
 (((zC t (jz s d) gd).filter λx=>decide (0<x)).sum,((zC t (jz s d) gd).filter λx=>decide (0<x)).sum-(zC t (jz s d) gd).sum,(d.drop (d.length-s)).sum,List.zipWith (· + ·) (jz s d) (zC t (jz s d) gd))
def qg (ns:List (Int×Int)) (len:Nat) (y:Int):Nat:=(min (1+jL ns y) (len:Int)).toNat
def qS (ns:List (Int×Int)) (gd:List Int) (wr:List (Int×T3)) (ts:List T3) (fst:Int):Nat->List Int
 | 0=>List.replicate gd.length 0
 | i+1=>(zj gd (qE wr ts (fst+(i:Int))) (qg ns gd.length (fst+(i:Int))) (qS ns gd wr ts fst i)).2.2.2
def jr (ns:List (Int×Int)) (gd:List Int) (wr:List (Int×T3)) (ts:List T3) (fst:Int) (i:Nat):QC:=zj gd (qE wr ts (fst+(i:Int))) (qg ns gd.length (fst+(i:Int))) (qS ns gd wr ts fst i)
def qH (ns:List (Int×Int)) (gd:List Int) (wr:List (Int×T3)) (ts:List T3) (fst:Int) (n:Nat):List QC:=(List.range n).map (jr ns gd wr ts fst)
theorem xS {s:Nat}{d:List Int}(h:s<=d.length):(jz s d).length=d.length:=by
 unfold jz
 rw [List.length_append,List.length_replicate,List.length_take]
 omega
theorem uw {t:T3}{d gd:List Int}(h:d.length=gd.length):(zC t d gd).length=gd.length:=by
 unfold zC
 rw [List.length_zipWith]
 omega
theorem yP (ns:List (Int×Int)) (len:Nat) (y:Int):qg ns len y<=len:=by
 unfold qg
 omega
theorem qA (ns:List (Int×Int)) (gd:List Int) (wr:List (Int×T3)) (ts:List T3) (fst:Int):∀i,(qS ns gd wr ts fst i).length=gd.length
 | 0=>List.length_replicate
 | i+1=>by
  have ih:=qA ns gd wr ts fst i
  have h1:=yP ns gd.length (fst+(i:Int))
  show (List.zipWith (· + ·) (jz _ _) (zC _ (jz _ _) gd)).length=_
  rw [List.length_zipWith,uw (by rw [xS (),ih]),xS (),ih,Nat.min_self]
theorem vm {s:Nat}{d:List Int}{x:Int}(h:x∈jz s d):x=0\/x∈d:=by
 rcases List.mem_append.mp h with z | z
 ·exact .inl (List.mem_replicate.mp z).2
 ·exact .inr (List.mem_of_mem_take z)
theorem JR {t:T3}(gt:good t=true) {B:Int}:∀{d gd:List Int},(∀x∈d,0<=x/\x<=B)->∀z∈zC t d gd,- B<=z/\z<=9\/(0<=z/\z<=9)
 | [],_,_,z,hz=>by cases hz
 | _::_,[],_,z,hz=>by cases hz
 | x::d,h::gd,hb,z,hz=>by
  have h0:=hb x (List.mem_cons_self ..)
  have c9:=Zm gt h
  rcases List.mem_cons.mp (show z∈(if chg t h > -x then chg t h else -x)::zC t d gd from hz) with e | e
  ·rw [e]
   refine .inl ?_
   split <;> omega
  ·exact JR gt (λy hy=>hb y (List.mem_cons_of_mem _ hy)) z e
theorem Yb {t:T3}(gt:good t=true) {B:Int}:∀{d gd:List Int},(∀x∈d,0<=x/\x<=B)->∀z∈List.zipWith (· + ·) d (zC t d gd),0<=z/\z<=B+9
 | [],_,_,z,hz=>by cases hz
 | _::_,[],_,z,hz=>by cases hz
 | x::d,h::gd,hb,z,hz=>by
  have h0:=hb x (List.mem_cons_self ..)
  have c9:=Zm gt h
  rcases List.mem_cons.mp (show z∈(x+(if chg t h > -x then chg t h else -x))::List.zipWith (· + ·) d (zC t d gd) from hz) with e | e
  ·rw [e]
   split <;> omega
  ·exact Yb gt (λy hy=>hb y (List.mem_cons_of_mem _ hy)) z e
theorem gy {ns:List (Int×Int)}{gd:List Int}{wr:List (Int×T3)}{ts:List T3}{fst:Int}(sg:∀z,good (qE wr ts z)=true):∀i,∀x∈qS ns gd wr ts fst i,0<=x/\x<=9*(i:Int)
 | 0,x,hx=>by rw [(List.mem_replicate.mp hx).2];omega
 | i+1,x,hx=>by
  have ih:=gy (ns:=ns) (gd:=gd) (fst:=fst) sg i
  have:=Yb (sg (fst+(i:Int))) (B:=9*(i:Int)) (gd:=gd) (d:=jz (qg ns gd.length (fst+(i:Int))) (qS ns gd wr ts fst i)) (λy hy=>by
   rcases vm hy with e | e
   ·omega
   ·exact ih y e) x hx
  omega
theorem uE (ns:List (Int×Int)) (gd:List Int) (wr:List (Int×T3)) (ts:List T3) (fst:Int) (n:Nat):qH ns gd wr ts fst (n+1)=qH ns gd wr ts fst n++[jr ns gd wr ts fst n]:=by
 unfold qH
 rw [List.range_succ,List.map_append]
 rfl
theorem VA {xs:List V}{s:Nat}(h:1<=s) (h2:s<=xs.length):wm xs (some (- (s:Int))) none=xs.drop (xs.length-s):=by
 unfold wm
 rw [HT.sIx_none,show HT.sIx xs.length 0 (some (- (s:Int)))=xs.length-s by show (if-(s:Int)<0 then (- (s:Int)+(xs.length:Int)).toNat else _)=_;rw [if_pos ()];omega]
 exact List.take_of_length_le (by rw [List.length_drop];exact Nat.le_refl _)
theorem Ug {xs:List V}{s:Nat}(h:1<=s) (h2:s<=xs.length):wm xs none (some (- (s:Int)))=xs.take (xs.length-s):=by
 unfold wm
 rw [HT.sIx_none,show HT.sIx xs.length xs.length (some (- (s:Int)))=xs.length-s by show (if-(s:Int)<0 then (- (s:Int)+(xs.length:Int)).toNat else _)=_;rw [if_pos ()];omega,List.drop_zero,Nat.sub_zero]
def uz (H:Hp) (out:List V) (qs:List QC):Prop:=Paired (λv (q:QC)=>∃b dl,v=V.ref b/\H b=some (.tup [.int q.1,.int q.2.1,.int q.2.2.1,.ref dl])/\H dl=some (.lst (q.2.2.2.map V.int))) out qs
theorem wX:∀{ns:List (Int×Int)},(∀q∈ns,0<=q.2/\q.2<=9)->∀y,0<=jL ns y/\jL ns y<=9
 | [],_,y=>by unfold jL;omega
 | q::r,h,y=>by
  have h0:=h q (List.mem_cons_self ..)
  have ih:=wX (λz hz=>h z (List.mem_cons_of_mem _ hz)) y
  unfold jL
  split <;> omega
theorem Vr {α β γ:Type}(f:α->β->γ) {xs:List α}{ys:List β}{i:Nat}{x:α}{y:β}(h1:xs[i]? = some x) (h2:ys[i]? = some y):(List.zipWith f xs ys).take (i+1)=(List.zipWith f xs ys).take i++[f x y]:=by
 rw [List.take_add_one,List.getElem?_zipWith,h1,h2]
 rfl
def gv (C:Addr):Sp:=λvs H Q _=>∃(p:Addr) (g:IceG) (l fst last:Int) (sk:List (Int×Addr)) (wr:List (Int×T3)) (ns ms:List (Int×Int)) (gd:List Int),vs=[.ref p,.int l,.int fst,.int last]/\IceAt C H p g/\g.lds.length=g.slopes.length/\g.kvs=sk.map kvA/\xR H sk wr/\1<=g.rows.length/\g.rows.length<=1000/\(∀z,good (qE wr g.rows z)=true)/\J8 g l ns/\ms.Perm ns/\(ms.map (·.1)).Pairwise (· <= ·)/\g.slopes.getD l.toNat []=gd/\1<=gd.length/\gd.length<=100/\(last+1-fst).toNat<=900 /\
 ∀o out H',H o=none->H' o=some (.lst out)->uz H' out (qH ms gd wr g.rows fst (last+1-fst).toNat)->jf H H'->Q (.ref o) H'
theorem qr:FnScope ["ice","lane","first","last","slope","leaps","depths","rows","year","steps","gone","weather","moved","fallen"] ["ice","lane","first","last"] (j7 xE):=by walk_at "s"
theorem V3 {f C CN CP:Addr}{fd:FuncData}(nb:Nb2 mg) (b_dict:mg "dict" = none) (cl_Ice:Cls K C) (c_Ice__surges:CalMX P w K mg base 2 C "surges" ["self","lane"] (zo C CN)) (c_Ice__length:CalMX P w K mg base 2 C "length" ["self","lane"] (y8 C CN)) (c_change:Cal P w K mg base 1 "change" ["row","height"] ki) (c_Ice__sky:CalM P w K mg base 1 C "sky" ["self","year"] (Vo C)) (c_Ice__height:CalMX P w K mg base 3 C "height" ["self","lane","place"] (wc C CN CP))
  (F:Fun K "course" "course" xE f fd):FnOk P w K mg base (CX1 P w) 4 f fd ["ice","lane","first","last"] (gv C):=by
 refine Fun.okX F qr (λvs H Q E h=>?_) (λcdv A outer s H vs Q E hr h=>?_)
 ·obtain ⟨p,g,l,fst,last,sk,wr,ns,ms,gd,rfl,_⟩:=h
  rfl
 ·obtain ⟨p,g,l,fst,last,sk,wr,ns,ms,gd,rfl,I,hll,ek,hw,hr1,hr2,sg,⟨l0,l1,⟨a,ha⟩,nd,h64,h9⟩,hp,hs,hgd,g1,g100,hn,k⟩:=h
  have ndm:(ms.map (·.1)).Nodup:=(hp.map (·.1)).nodup_iff.mpr nd
  have hlm:ms.length<64:=by rw [hp.length_eq];exact h64
  refine ⟨_,(j4 (vy (j:=4) (osc:=(j7 xE)) (ON:=["ice","lane","first","last","slope","leaps","depths","rows","year","steps","gone","weather","moved","fallen"]) (N:=["place","lane","ice"]) (own:=1) (caps:=[1,0]) ⟨rfl,∅,∅,∅,rfl,∅⟩ qr.nd rfl (Or.inl rfl) rfl rfl rfl (qc rfl nb.b_range (j0 (xh (pv 0) cl_Ice c_Ice__length (hr.mono ⋯) jQ (j0 (pv 1) j2)) j2)) (λ_ _ _ _ _=>(ja (i:=0) (show List.Nodup (["place","lane","ice"]:List Str) by decide +kernel) rfl (Or.inl rfl))) (λ_ _ _ _ _=>ju) (λ_ _ _ _ _=>(xh (pv 2) cl_Ice c_Ice__height (hr.mono ⋯) gQ (j0 (pv 1) (j0 (pv 0) j2)))))
   (j4 (jw 5 qr.nd (qt (hZ K rfl) rfl b_dict PyProof.Rows.boot_dict (j0 (xh (pv 0) cl_Ice c_Ice__surges (hr.mono ⋯) jQ (j0 (pv 1) j2)) j2)))
   (j4 (vy (j:=6) (osc:=(j7 xE)) (ON:=["ice","lane","first","last","slope","leaps","depths","rows","year","steps","gone","weather","moved","fallen"]) (N:=["height"]) (own:=1) (caps:=[]) ⟨rfl,∅,∅,∅,rfl,∅⟩ qr.nd rfl (Or.inl rfl) rfl rfl rfl (jM K (pv 4)) (λ_ _ _ _ _=>(ja (i:=0) (show List.Nodup (["height"]:List Str) by decide +kernel) rfl (Or.inl rfl))) (λ_ _ _ _ _=>ju) (λ_ _ _ _ _=>j6))
   (j4 (jw 7 qr.nd (jR j2))
   (j4 (Z9 (xc PassesOwn.never rfl (Jk rfl nb.b_range (j0 (pv 2) (j0 (jk jG (pv 3) j6) j2))) (ja (i:=8) qr.nd rfl (Or.inl rfl)) (j4 (jw 9 qr.nd (jd (vx rfl) rfl nb.b_min boot_min (j0 (jk jG j6 (kN (qQ hr) (pv 5) (pv 8) j6 ⟨rfl,rfl,rfl,rfl⟩)) (j0 (jd (jm K) rfl nb.b_len PySem.boot_len (j0 (pv 4) j2)) j2))))
   (j4 (jw 10 qr.nd (jd (xO K rfl) rfl nb.b_sum boot_sum (j0 (zx (xI K) (pv 6) (yy (ya xN (pv 9))) yk) j2)))
   (j4 (jw 6 qr.nd (jk ur (jH (osc:=(j7 xE)) (ON:=["ice","lane","first","last","slope","leaps","depths","rows","year","steps","gone","weather","moved","fallen"]) (N:=["step"]) (own:=1) (caps:=[]) ⟨rfl,∅,∅,∅,rfl,∅⟩ rfl rfl rfl (qc rfl nb.b_range (j0 (pv 9) j2)) (λ_ _ _ _ _=>(ja (i:=0) (show List.Nodup (["step"]:List Str) by decide +kernel) rfl (Or.inl rfl))) (λ_ _ _ _ _=>ju) (λ_ _ _ _ _=>j6)) (zx (xI K) (pv 6) yk (yy (ya xN (pv 9))))))
   (j4 (xP (i:=11) qr.nd rfl (Or.inr rfl) (Ew (pv 0) cl_Ice c_Ice__sky (hr.mono ⋯) (j0 (pv 8) j2)))
   (j4 (vy (j:=12) (osc:=(j7 xE)) (ON:=["ice","lane","first","last","slope","leaps","depths","rows","year","steps","gone","weather","moved","fallen"]) (N:=["lying","height","weather"]) (own:=2) (caps:=[11]) ⟨rfl,∅,∅,∅,rfl,∅⟩ qr.nd rfl (Or.inl rfl) rfl rfl rfl (JN K rfl nb.b_zip (j0 (pv 6) (j0 (pv 4) j2))) (λ_ _ _ _ _=>(qf (n:=2) K rfl (jg (ja (i:=0) (show List.Nodup (["lying","height","weather"]:List Str) by decide +kernel) rfl (Or.inl rfl)) (jg (ja (i:=1) (show List.Nodup (["lying","height","weather"]:List Str) by decide +kernel) rfl (Or.inl rfl)) jY)))) (λ_ _ _ _ _=>ju) (λ_ _ _ _ _=>(jd (zn rfl) rfl nb.b_max boot_max (j0 (ya xN (pv 0)) (j0 (je c_change (hr.mono ⋯) rfl (j0 (pv 2) (j0 (pv 1) j2))) j2)))))
   (j4 (vy (j:=6) (osc:=(j7 xE)) (ON:=["ice","lane","first","last","slope","leaps","depths","rows","year","steps","gone","weather","moved","fallen"]) (N:=["lying","hands"]) (own:=2) (caps:=[]) ⟨rfl,∅,∅,∅,rfl,∅⟩ qr.nd rfl (Or.inl rfl) rfl rfl rfl (JN K rfl nb.b_zip (j0 (pv 6) (j0 (pv 12) j2))) (λ_ _ _ _ _=>(qf (n:=2) K rfl (jg (ja (i:=0) (show List.Nodup (["lying","hands"]:List Str) by decide +kernel) rfl (Or.inl rfl)) (jg (ja (i:=1) (show List.Nodup (["lying","hands"]:List Str) by decide +kernel) rfl (Or.inl rfl)) jY)))) (λ_ _ _ _ _=>ju) (λ_ _ _ _ _=>(jk jG (pv 0) (pv 1))))
   (j4 (jw 13 qr.nd (jd (xO K rfl) rfl nb.b_sum boot_sum (j0 (jH (osc:=(j7 xE)) (ON:=["ice","lane","first","last","slope","leaps","depths","rows","year","steps","gone","weather","moved","fallen"]) (N:=["hands"]) (own:=1) (caps:=[]) ⟨rfl,∅,∅,∅,rfl,∅⟩ rfl rfl rfl (jM K (pv 12)) (λ_ _ _ _ _=>(ja (i:=0) (show List.Nodup (["hands"]:List Str) by decide +kernel) rfl (Or.inl rfl))) (λ_ _ _ _ _=>(uJ (jK XA (pv 0) j6 (jS _)))) (λ_ _ _ _ _=>(pv 0))) j2)))
   (j9 (jN (zP K PySem.F.plainAttrs_list PySem.F.slot_list_append PySem.F.type_list_append qy (pv 7) (j0 (qx (j0 (pv 13) (j0 (jk qN (pv 13) (jd (xO K rfl) rfl nb.b_sum boot_sum (j0 (pv 12) j2))) (j0 (pv 10) (j0 (pv 6) j2))))) j2)))))))))))))
   (j9 (ji (pv 7)))))))),?_⟩
  left
  refine ⟨p,g.dx,_,rfl,I.ob,jO ∅,?_⟩
  left
  refine ⟨p,g,l,rfl,I,λ_ _=>?_,λhb=>absurd hb ()⟩
  rw [hgd]
  left
  refine ⟨(),(),λsl hsl=>?_⟩
  refine qB (lo:=0) (n:=((gd.length:Nat):Int).toNat) (acc:=sl) (λi σ H1=>∃x:Option V,σ=[x,some (.int l),some (.ref p)]/\H1 sl=some (.lst ((gd.take i).map V.int))/\Ext sl H H1) ?_ ?_ ?_
  ·exact ⟨none,rfl,j5,Ext.put⟩
  ·rintro i σ H1 hi ⟨x,rfl,h1,e1⟩
   have hi':i<gd.length:=by rw [Int.toNat_natCast] at hi;exact hi
   have s1:jf H H1:=λc o hc=>e1 c o hc (j1 hc hsl)
   left
   refine ⟨p,g.dx,_,rfl,s1 _ _ I.ob,jO ∅,?_⟩
   left
   refine ⟨p,g,l,0+(i:Int),rfl,I.same s1,λ_ _ _ _=>?_,(λhb=>absurd hb ()),λ_ _ hb=>absurd hb (by rw [hgd];omega)⟩
   rw [hgd]
   refine ⟨_,h1,by rw [List.length_map,List.length_take];exact jc (),_,rfl,?_,e1.trans Ext.put⟩
   rw [j5,List.take_add_one,List.getElem?_eq_getElem hi',List.map_append,show (0+(i:Int)).toNat=i by omega,List.getD_eq_getElem?_getD,List.getElem?_eq_getElem hi']
   rfl
  rintro σ H1 ⟨x,rfl,h1,e1⟩
  have s1:jf H H1:=λc o hc=>e1 c o hc (j1 hc hsl)
  rw [Int.toNat_natCast,List.take_length] at h1
  left
  refine ⟨p,g.dx,_,rfl,s1 _ _ I.ob,jO ∅,?_⟩
  left
  refine ⟨p,g,l,rfl,I.same s1,hll,(λhb=>absurd hb ()),λ_ _=>⟨a,ns,ha,nd,h64,λso H2 out ms2 hso hso2 hq2 s2 hp2 hs2=>?_⟩⟩
  obtain rfl:=zW nd hp hs hp2 hs2
  left
  refine ⟨so,out,ms2,rfl,SqL.of hso2,hq2,ndm,(),λd H3 hd hd3 s3=>?_⟩
  have hd3:H3 d=some (.dK (ms2.map kvI)):=hd3
  have h3:=s3 _ _ (s2 _ _ h1)
  left
  refine ⟨⟨_,SqL.of h3⟩,λd0 hd0=>?_⟩
  refine jP (K:=K) (a:=sl) (xs:=gd.map V.int) (acc:=d0) (λi σ H4=>∃x:Option V,σ=[x]/\H4 d0=some (.lst ((List.replicate i (0:Int)).map V.int))/\Ext d0 H3 H4) ?_ ?_ ?_ ?_
  ·exact ⟨none,rfl,j5,Ext.put⟩
  ·rintro i σ H4 hi ⟨x,rfl,h4,e4⟩
   exact SqL.of (e4 _ _ h3 (j1 h3 hd0))
  ·rintro i v σ H4 hv ⟨x,rfl,h4,e4⟩
   have hi:i<gd.length:=by have:=(List.getElem?_eq_some_iff.mp hv).1;rw [List.length_map] at this;exact this
   left
   refine ⟨_,h4,by rw [List.length_map,List.length_replicate];exact jc (),_,rfl,?_,e4.trans Ext.put⟩
   rw [j5,List.replicate_succ',List.map_append]
   rfl
  rintro σ H4 ⟨x,rfl,h4,e4⟩
  have s4:jf H3 H4:=λc o hc=>e4 c o hc (j1 hc hd0)
  rw [List.length_map] at h4
  have t4:jf H H4:=s1.trans (s2.trans (s3.trans s4))
  have hsl4:=s4 _ _ h3
  have hdk4:=s4 _ _ hd3
  left
  refine ⟨Nat.zero_le _,λrw_ H5 hrw hrw5 s5=>?_⟩
  have rw0:H rw_=none:=t4.free hrw
  left
  refine ⟨_,_,rfl,?_⟩
  refine xw (λi σ H6=>∃(x8 x9 x10 x11 x12 x13:Option V) (dl:Addr) (out6:List V),σ=[some (.ref p),some (.int l),some (.int fst),some (.int last),some (.ref sl),some (.ref d),some (.ref dl),some (.ref rw_),x8,x9,x10,x11,x12,x13]/\dl≠rw_/\H6 dl=some (.lst ((qS ms2 gd wr g.rows fst i).map V.int))/\H6 rw_=some (.lst out6)/\out6.length=i/\Paired (λv (q:QC)=>∃b dl,v=V.ref b/\H6 b=some (.tup [.int q.1,.int q.2.1,.int q.2.2.1,.ref dl])/\H6 dl=some (.lst (q.2.2.2.map V.int))/\dl≠rw_) out6 (qH ms2 gd wr g.rows fst i)/\Ext rw_ H4 H6) ?_ ?_ ?_
  ·exact ⟨_,_,_,_,_,_,d0,[],rfl,j1 h4 hrw,s5 _ _ h4,hrw5,rfl,.nil,λc o hc _=>s5 _ _ hc⟩
  ·rintro i σ H6 hi ⟨x8,x9,x10,x11,x12,x13,dl,out6,rfl,dlr,hdl,h6,hl6,r6,e6⟩
   have hdlen:=qA ms2 gd wr g.rows fst i
   have hdb:=gy (ns:=ms2) (gd:=gd) (fst:=fst) sg i
   have s6:jf H4 H6:=λc o hc=>e6 c o hc (j1 hc hrw)
   have I6:=I.same (t4.trans s6)
   have hw6:xR H6 sk wr:=hw.keep (jj.same (t4.trans s6))
   have hsl6:=s6 _ _ hsl4
   have hdk6:=s6 _ _ hdk4
   have h9m:∀q∈ms2,0<=q.2/\q.2<=9:=λq hq=>h9 q (hp.mem_iff.mp hq)
   have vb:=wX h9m (fst+(i:Int))
   have hcr:jr ms2 gd wr g.rows fst i=zj gd (qE wr g.rows (fst+(i:Int))) (qg ms2 gd.length (fst+(i:Int))) (qS ms2 gd wr g.rows fst i):=rfl
   have hdn:qS ms2 gd wr g.rows fst (i+1)=(zj gd (qE wr g.rows (fst+(i:Int))) (qg ms2 gd.length (fst+(i:Int))) (qS ms2 gd wr g.rows fst i)).2.2.2:=rfl
   have es:(if ((gd.length:Nat):Int)<1+jL ms2 (fst+(i:Int)) then ((gd.length:Nat):Int) else 1+jL ms2 (fst+(i:Int)))=((qg ms2 gd.length (fst+(i:Int)):Nat):Int):=by
    unfold qg
    split <;> omega
   have hs1:1<=qg ms2 gd.length (fst+(i:Int)):=by unfold qg;omega
   have hs2:=yP ms2 gd.length (fst+(i:Int))
   have sgi:=sg (fst+(i:Int))
   generalize qg ms2 gd.length (fst+(i:Int))=sN at *
   generalize qS ms2 gd wr g.rows fst i=dep at *
   have hi900:i<900:=()
   left
   refine ⟨.inl ⟨_,.inl hdk6⟩,?_⟩
   left
   refine ⟨_,xY.k (k:=.inl (fst+(i:Int))) hdk6,?_⟩
   rw [wt]
   left
   refine ⟨_,_,rfl,.inl (SqL.of hsl6),?_⟩
   rw [List.length_map]
   left
   refine ⟨_,_,rfl,?_⟩
   rw [es]
   left
   refine ⟨_,_,rfl,SqL.of hdl,λa7 H7 ha7 ha77 s7=>?_⟩
   rw [VA hs1 (by rw [List.length_map,hdlen];exact hs2),List.length_map,<- List.map_drop] at ha77
   left
   refine ⟨a7,_,rfl,SqL.of ha77,by rw [List.length_drop];omega,λn hn'=>by have:=hdb n (List.mem_of_mem_drop hn');omega,?_⟩
   left
   refine ⟨(),(),λz0 hz0=>?_⟩
   refine qB (lo:=0) (n:=((sN:Nat):Int).toNat) (acc:=z0) (λj σ H8=>∃x:Option V,σ=[x]/\H8 z0=some (.lst ((List.replicate j (0:Int)).map V.int))/\Ext z0 H7 H8) ?_ ?_ ?_
   ·exact ⟨none,rfl,j5,Ext.put⟩
   ·rintro j σ H8 hj ⟨x,rfl,h8,e8⟩
    rw [Int.toNat_natCast] at hj
    left
    refine ⟨_,h8,by rw [List.length_map,List.length_replicate];exact jc (),_,rfl,?_,e8.trans Ext.put⟩
    rw [j5,List.replicate_succ',List.map_append]
    rfl
   rintro σ H8 ⟨x,rfl,h8,e8⟩
   have s8:jf H7 H8:=λc o hc=>e8 c o hc (j1 hc hz0)
   rw [Int.toNat_natCast] at h8
   have hdl8:=s8 _ _ (s7 _ _ hdl)
   left
   refine ⟨_,_,rfl,SqL.of hdl8,λa9 H9 ha9 ha99 s9=>?_⟩
   rw [Ug hs1 (by rw [List.length_map,hdlen];exact hs2),List.length_map,<- List.map_take] at ha99
   refine ⟨z0,a9,_,_,rfl,rfl,s9 _ _ h8,ha99,by rw [List.length_map,List.length_map,List.length_replicate,List.length_take];exact Nat.le_of_lt (jc ()),λd1 H10 hd1 hd10 s10=>?_⟩
   have hd10:H10 d1=some (.lst ((jz sN dep).map V.int)):=by rw [hd10,<- List.map_append];rfl
   have s610:jf H6 H10:=s7.trans (s8.trans (s9.trans s10))
   have I10:=I6.same s610
   left
   refine ⟨p,g.dx,_,rfl,I10.ob,jO ∅,?_⟩
   left
   refine ⟨p,g,fst+(i:Int),sk,wr,rfl,I10,ek,hw6.keep (jj.same s610),hr1,hr2,λtr htr=>?_⟩
   have hsl10:=s610 _ _ hsl6
   have hshl:=xS (d:=dep) (s:=sN) ()
   have hshb:∀x∈jz sN dep,0<=x/\x<=9*(i:Int):=λx hx=>by
    rcases vm hx with e | e
    ·omega
    ·exact hdb x e
   have hmvl:=uw (t:=qE wr g.rows (fst+(i:Int))) (d:=jz sN dep) (gd:=gd) ()
   have hmvb:=JR sgi (B:=9*(i:Int)) (gd:=gd) hshb
   have lmax:∀x h:Int,(if chg (qE wr g.rows (fst+(i:Int))) h > -x then chg (qE wr g.rows (fst+(i:Int))) h else -x)=(λx h=>if chg (qE wr g.rows (fst+(i:Int))) h > -x then chg (qE wr g.rows (fst+(i:Int))) h else -x) x h:=λ_ _=>rfl
   left
   refine ⟨false,false,_,_,rfl,⟨_,SqL.of hd10⟩,⟨_,SqL.of hsl10⟩,λmo hmo=>?_⟩
   refine vj (K:=K) (t0:=false) (u0:=false) (a:=d1) (b:=sl) (xs:=(jz sN dep).map V.int) (ys:=gd.map V.int) (acc:=mo) (by rw [List.length_map,List.length_map];omega) (λj σ H11=>∃x0 x1:Option V,σ=[x0,x1,some (.ref tr)]/\H11 mo=some (.lst (((zC (qE wr g.rows (fst+(i:Int))) (jz sN dep) gd).take j).map V.int))/\Ext mo H10 H11) ?_ ?_ ?_ ?_
   ·exact ⟨none,none,rfl,j5,Ext.put⟩
   ·rintro j σ H11 hj ⟨x0,x1,rfl,h11,e11⟩
    exact ⟨SqL.of (e11 _ _ hd10 (j1 hd10 hmo)),SqL.of (e11 _ _ hsl10 (j1 hsl10 hmo))⟩
   ·rintro j x y σ H11 tp hx hy ⟨x0,x1,rfl,h11,e11⟩ htp
    obtain ⟨xv,rfl,hxv⟩:=zw hx
    obtain ⟨yv,rfl,hyv⟩:=zw hy
    have hj:j<gd.length:=(List.getElem?_eq_some_iff.mp hyv).1
    have e12:Ext mo H10 (upd H11 tp (.tup [.int xv,.int yv])):=λc o hc n=>(jf.new htp) _ _ (e11 c o hc n)
    have h12:=(jf.new (o:=.tup [.int xv,.int yv]) htp) _ _ h11
    have htp':upd H11 tp (.tup [.int xv,.int yv]) tp=some (.tup [.int xv,.int yv]):=j5
    generalize upd H11 tp (.tup [.int xv,.int yv])=H12 at *
    have htr12:=e12 _ _ htr (j1 htr hmo)
    left
    refine ⟨tp,_,rfl,SqT.of htp',rfl,?_⟩
    refine ⟨_,_,rfl,_,_,rfl,rfl,?_⟩
    left
    refine ⟨tr,_,_,rfl,htr12,?_⟩
    left
    refine ⟨_,_,rfl,?_⟩
    refine ⟨_,h12,by rw [List.length_map,List.length_take];exact jc (),_,_,rfl,?_,e12.trans Ext.put⟩
    rw [j5]
    unfold zC
    rw [Vr _ hxv hyv,List.map_append]
    rfl
   rintro σ H11 ⟨x0,x1,rfl,h11,e11⟩
   have s11:jf H10 H11:=λc o hc=>e11 c o hc (j1 hc hmo)
   rw [List.length_map,List.take_of_length_le ()] at h11
   generalize hmvg:zC (qE wr g.rows (fst+(i:Int))) (jz sN dep) gd=mvs at *
   have hd11:=s11 _ _ hd10
   left
   refine ⟨false,false,_,_,rfl,⟨_,SqL.of hd11⟩,⟨_,SqL.of h11⟩,λd2 hd2=>?_⟩
   refine vj (K:=K) (t0:=false) (u0:=false) (a:=d1) (b:=mo) (xs:=(jz sN dep).map V.int) (ys:=mvs.map V.int) (acc:=d2) (by rw [List.length_map,List.length_map];omega) (λj σ H12=>∃x0 x1:Option V,σ=[x0,x1]/\H12 d2=some (.lst (((List.zipWith (· + ·) (jz sN dep) mvs).take j).map V.int))/\Ext d2 H11 H12) ?_ ?_ ?_ ?_
   ·exact ⟨none,none,rfl,j5,Ext.put⟩
   ·rintro j σ H12 hj ⟨x0,x1,rfl,h12,e12⟩
    exact ⟨SqL.of (e12 _ _ hd11 (j1 hd11 hd2)),SqL.of (e12 _ _ h11 (j1 h11 hd2))⟩
   ·rintro j x y σ H12 tp hx hy ⟨x0,x1,rfl,h12,e12⟩ htp
    obtain ⟨xv,rfl,hxv⟩:=zw hx
    obtain ⟨yv,rfl,hyv⟩:=zw hy
    have hj:j<mvs.length:=(List.getElem?_eq_some_iff.mp hyv).1
    have e13:Ext d2 H11 (upd H12 tp (.tup [.int xv,.int yv])):=λc o hc n=>(jf.new htp) _ _ (e12 c o hc n)
    have h13:=(jf.new (o:=.tup [.int xv,.int yv]) htp) _ _ h12
    have htp':upd H12 tp (.tup [.int xv,.int yv]) tp=some (.tup [.int xv,.int yv]):=j5
    generalize upd H12 tp (.tup [.int xv,.int yv])=H13 at *
    left
    refine ⟨tp,_,rfl,SqT.of htp',rfl,?_⟩
    refine ⟨_,_,rfl,_,_,rfl,rfl,?_⟩
    left
    refine ⟨_,h13,by rw [List.length_map,List.length_take];exact jc (by rw [List.length_zipWith];omega),_,_,rfl,?_,e13.trans Ext.put⟩
    rw [j5,Vr _ hxv hyv,List.map_append]
    rfl
   rintro σ H12 ⟨x0,x1,rfl,h12,e12⟩
   have s12:jf H11 H12:=λc o hc=>e12 c o hc (j1 hc hd2)
   rw [List.length_map,List.take_of_length_le (by rw [List.length_zipWith];omega)] at h12
   have hmo12:=s12 _ _ h11
   left
   refine ⟨⟨_,SqL.of hmo12⟩,λfa hfa=>?_⟩
   refine jP (K:=K) (a:=mo) (xs:=mvs.map V.int) (acc:=fa) (λj σ H13=>∃x:Option V,σ=[x]/\H13 fa=some (.lst (((mvs.take j).filter λx=>decide (0<x)).map V.int))/\Ext fa H12 H13) ?_ ?_ ?_ ?_
   ·exact ⟨none,rfl,j5,Ext.put⟩
   ·rintro j σ H13 hj ⟨x,rfl,h13,e13⟩
    exact SqL.of (e13 _ _ hmo12 (j1 hmo12 hfa))
   ·rintro j v σ H13 hv ⟨x,rfl,h13,e13⟩
    obtain ⟨mv,rfl,hmv⟩:=zw hv
    have hj:j<mvs.length:=(List.getElem?_eq_some_iff.mp hmv).1
    have etk:mvs.take (j+1)=mvs.take j++[mv]:=by rw [List.take_add_one,hmv];rfl
    left
    refine qT (λhle=>?_) (λhle=>?_)
    ·left
     refine ⟨_,h13,by rw [List.length_map];exact Nat.lt_of_le_of_lt (List.length_filter_le _ _) (jc (by rw [List.length_take];omega)),_,rfl,?_,e13.trans Ext.put⟩
     rw [j5,etk,List.filter_append,List.filter_cons_of_pos (by rw [decide_eq_true hle]),List.map_append]
     rfl
    ·refine ⟨_,rfl,?_,e13⟩
     rw [etk,List.filter_append,List.filter_cons_of_neg (by rw [decide_eq_false hle];exact Bool.false_ne_true),List.filter_nil,List.append_nil]
     exact h13
   rintro σ H13 ⟨x,rfl,h13,e13⟩
   have s13:jf H12 H13:=λc o hc=>e13 c o hc (j1 hc hfa)
   rw [List.length_map,List.take_of_length_le (Nat.le_refl _)] at h13
   have mvb2:∀n∈mvs,-(2 ^ 20)<=n/\n<=2 ^ 20:=λn hn'=>by have:=hmvb n hn';omega
   left
   refine ⟨fa,_,rfl,SqL.of h13,Nat.le_trans (List.length_filter_le _ _) (),λn hn'=>mvb2 n (List.mem_filter.mp hn').1,?_⟩
   have s613:jf H6 H13:=s610.trans (s11.trans (s12.trans s13))
   have h613:=s613 _ _ h6
   left
   refine ⟨.inl ⟨rfl,_,SqL.of h613⟩,?_⟩
   left
   refine ⟨mo,mvs,rfl,SqL.of (s13 _ _ hmo12),(),mvb2,?_⟩
   left
   refine ⟨by show 4<=sizeLine;decide,λtq H14 htq htq4 s14=>?_⟩
   refine ⟨_,_,_,rfl,rfl,s14 _ _ h613,jc (),?_⟩
   have s614:=s613.trans s14
   have hd14:=s14 _ _ (s13 _ _ h12)
   have d2r:d2≠rw_:=(j1 (s11 _ _ (s610 _ _ h6)) hd2).symm
   have tqr:tq≠rw_:=(j1 h613 htq).symm
   have hrow:jr ms2 gd wr g.rows fst i=((mvs.filter λx=>decide (0<x)).sum,(mvs.filter λx=>decide (0<x)).sum-mvs.sum,(dep.drop (dep.length-sN)).sum,List.zipWith (· + ·) (jz sN dep) mvs):=by
    rw [hcr,<- hmvg]
    rfl
   refine ⟨_,_,_,_,_,_,d2,out6++[.ref tq],rfl,d2r,?_,j5,by rw [List.length_append,hl6];rfl,?_,λc o hc n=>by rw [j8 n];exact s614 _ _ (e6 c o hc n)⟩
   ·rw [j8 d2r,hd14,hdn,<- hmvg]
    rfl
   ·rw [uE,hrow]
    refine Paired.snoc (Paired.mapP r6 λv q ⟨b',dl',e,q1,q2,q3⟩=>⟨b',dl',e,?_,?_,q3⟩) ⟨tq,d2,rfl,by rw [j8 tqr];exact htq4,by rw [j8 d2r];exact hd14,d2r⟩
    ·rw [j8 (jo q1 h6 (by walk_at "z"))]
     exact s614 _ _ q1
    ·rw [j8 q3]
     exact s614 _ _ q2
  ·rintro σ H6 ⟨x8,x9,x10,x11,x12,x13,dl,out6,rfl,dlr,hdl,h6,hl6,r6,e6⟩
   left
   exact k rw_ out6 H6 rw0 h6 (Paired.mapP r6 λv q ⟨b',dl',e,q1,q2,_⟩=>⟨b',dl',e,q1,q2⟩) (t4.trans λc o hc=>e6 c o hc (j1 hc hrw))
def jJ:Nat->QC->Int
 | 0,q=>q.1
 | 1,q=>q.2.1
 | _,q=>q.2.2.1
theorem UB {k:Nat}(h:k<3) (q:QC) (dl:Addr):atI [.int q.1,.int q.2.1,.int q.2.2.1,.ref dl] (k:Int)=some (V.int (jJ k q)):=by
 match k,h with
 | 0,_=>rfl
 | 1,_=>rfl
 | 2,_=>rfl
def ZW:Sp:=λvs H Q _=>∃(a:Addr) (k:Nat) (out:List V) (qs:List QC),vs=[.ref a,.int (k:Int)]/\k<3/\H a=some (.lst out)/\uz H out qs/\qs.length<=1000/\(∀q∈qs,-(2 ^ 20)<=jJ k q/\jJ k q<=2 ^ 20)/\∀H',jf H H'->Q (.int (qs.map (jJ k)).sum) H'
theorem Uo:FnScope ["rows","part"] ["rows","part"] (j7 wV):=by walk_at "s"
theorem VD {f:Addr}{fd:FuncData}(nb:Nb2 mg) (F:Fun K "total" "total" wV f fd):FnOk P w K mg base CX0 1 f fd ["rows","part"] ZW:=by
 refine F.ok Uo (λvs H Q E h=>?_) (λcdv A outer s H vs Q E hr h=>?_)
 ·obtain ⟨a,k,out,qs,rfl,_⟩:=h
  rfl
 ·obtain ⟨a,k,out,qs,rfl,hk,ha,hq,hl,hb,kk⟩:=h
  have hol:out.length=qs.length:=Paired.length hq
  refine ⟨_,(j9 (ji (jd (xO K rfl) rfl nb.b_sum boot_sum (j0 (jH (osc:=(j7 wV)) (ON:=["rows","part"]) (N:=["row","part"]) (own:=1) (caps:=[1]) ⟨rfl,∅,∅,∅,rfl,∅⟩ rfl rfl rfl (jM K (pv 0)) (λ_ _ _ _ _=>(ja (i:=0) (show List.Nodup (["row","part"]:List Str) by decide +kernel) rfl (Or.inl rfl))) (λ_ _ _ _ _=>ju) (λ_ _ _ _ _=>(js (qo K) (pv 0) (pv 1) (λ_ _=>rfl)))) j2)))),?_⟩
  left
  refine ⟨⟨_,SqL.of ha⟩,λacc hacc=>?_⟩
  refine jP (K:=K) (a:=a) (xs:=out) (acc:=acc) (λi σ H1=>∃x0:Option V,σ=[x0,some (.int (k:Int))]/\H1 acc=some (.lst (((qs.take i).map (jJ k)).map V.int))/\Ext acc H H1) ?_ ?_ ?_ ?_
  ·exact ⟨none,rfl,j5,Ext.put⟩
  ·rintro i σ H1 hi ⟨x0,rfl,h1,e1⟩
   exact SqL.of (e1 _ _ ha (j1 ha hacc))
  ·rintro i v σ H1 hv ⟨x0,rfl,h1,e1⟩
   obtain ⟨q,hy,bq,dl,rfl,hbq,hdl⟩:=Paired.get hq hv
   have hi:i<qs.length:=(List.getElem?_eq_some_iff.mp hy).1
   have hbq1:=e1 _ _ hbq (j1 hbq hacc)
   left
   refine ⟨bq,_,(k:Int),_,rfl,rfl,SqT.of hbq1,UB hk q dl,?_⟩
   refine ⟨_,h1,by rw [List.length_map,List.length_map,List.length_take];exact jc (),_,rfl,?_,e1.trans Ext.put⟩
   rw [j5,List.take_add_one,hy,List.map_append,List.map_append]
   rfl
  rintro σ H1 ⟨x0,rfl,h1,e1⟩
  have s1:jf H H1:=λc o hc=>e1 c o hc (j1 hc hacc)
  rw [hol,List.take_length] at h1
  left
  refine ⟨acc,_,rfl,SqL.of h1,by rw [List.length_map];exact hl,λn hn=>?_,?_⟩
  ·obtain ⟨q,hq',rfl⟩:=List.mem_map.mp hn
   exact hb q hq'
  exact kk _ s1
theorem Xu:∀{xs:List Int}{a b:Int}{n:Nat},a<=0->0<=b->(∀x∈xs,a<=x/\x<=b)->xs.length<=n->a*(n:Int)<=xs.sum/\xs.sum<=b*(n:Int)
 | [],a,b,n,ha,hb,_,_=>⟨Int.mul_nonpos_of_nonpos_of_nonneg ha (Int.natCast_nonneg n),Int.mul_nonneg hb (Int.natCast_nonneg n)⟩
 | x::xs,a,b,0,_,_,_,hn=>absurd hn (Nat.not_succ_le_zero _)
 | x::xs,a,b,n+1,ha,hb,h,hn=>by
  have h0:=h x (List.mem_cons_self ..)
  have ih:=Xu (n:=n) ha hb (λz hz=>h z (List.mem_cons_of_mem _ hz)) (by rw [List.length_cons] at hn;omega)
  rw [List.sum_cons,show ((n+1:Nat):Int)=(n:Int)+1 from rfl,Int.mul_add,Int.mul_add,Int.mul_one,Int.mul_one]
  omega
theorem Vk {ns:List (Int×Int)}{gd:List Int}{wr:List (Int×T3)}{ts:List T3}{fst:Int}(sg:∀z,good (qE wr ts z)=true) (hg:gd.length<=100) {i:Nat}(hi:i<900) {k:Nat} : -(2 ^ 20)<=jJ k (jr ns gd wr ts fst i)/\jJ k (jr ns gd wr ts fst i)<=2 ^ 20:=by
 have hd:=gy (ns:=ns) (gd:=gd) (fst:=fst) sg i
 have hdl:=qA ns gd wr ts fst i
 have hs:=yP ns gd.length (fst+(i:Int))
 unfold jr
 generalize qS ns gd wr ts fst i=d at *
 generalize qg ns gd.length (fst+(i:Int))=s at *
 have gt:=sg (fst+(i:Int))
 generalize qE wr ts (fst+(i:Int))=t at *
 have hsb:∀x∈jz s d,0<=x/\x<=9*(i:Int):=λx hx=>by
  rcases vm hx with e | e
  ·omega
  ·exact hd x e
 have hml:(zC t (jz s d) gd).length=gd.length:=uw (by rw [xS (),hdl])
 have hm:∀z∈zC t (jz s d) gd,-8100<=z/\z<=9:=λz hz=>by
  have:=JR gt (gd:=gd) hsb z hz
  omega
 have b1:=Xu (n:=100) (a:=-8100) (b:=9) () () hm ()
 have b2:=Xu (n:=100) (a:=0) (b:=9) (xs:=(zC t (jz s d) gd).filter λx=>decide (0<x)) () () (λz hz=>by
  obtain ⟨h1,h2⟩:=List.mem_filter.mp hz
  have:=hm z h1
  have:=of_decide_eq_true h2
  omega) (Nat.le_trans (List.length_filter_le _ _) ())
 have b3:=Xu (n:=100) (a:=0) (b:=8100) (xs:=d.drop (d.length-s)) () () (λz hz=>by
  have:=hd z (List.mem_of_mem_drop hz)
  omega) (by rw [List.length_drop];omega)
 match k with
 | 0=>show _<=(zj gd t s d).1/\(zj gd t s d).1<=_;unfold zj;dsimp only;omega
 | 1=>show _<=(zj gd t s d).2.1/\(zj gd t s d).2.1<=_;unfold zj;dsimp only;omega
 | k+2=>show _<=(zj gd t s d).2.2.1/\(zj gd t s d).2.2.1<=_;unfold zj;dsimp only;omega
theorem Paired.takeP {α β:Type}{R:α->β->Prop}:∀{xs:List α}{ys:List β}(n:Nat),Paired R xs ys->Paired R (xs.take n) (ys.take n)
 | _,_,0,_=>by rw [List.take_zero,List.take_zero];exact .nil
 | _,_,n+1,.nil=>by rw [List.take_nil,List.take_nil];exact .nil
 | _,_,n+1,.cons h r=>.cons h (Paired.takeP n r)
theorem Paired.dropP {α β:Type}{R:α->β->Prop}:∀{xs:List α}{ys:List β}(n:Nat),Paired R xs ys->Paired R (xs.drop n) (ys.drop n)
 | _,_,0,h=>h
 | _,_,n+1,.nil=>by rw [List.drop_nil,List.drop_nil];exact .nil
 | _,_,n+1,.cons h r=>Paired.dropP n r
theorem uz.same {H H':Hp}{out:List V}{qs:List QC}(h:uz H out qs) (s:jf H H'):uz H' out qs:=Paired.mapP h λ_ _ ⟨b,dl,e,q,d⟩=>⟨b,dl,e,s _ _ q,s _ _ d⟩
def soR (st many y:Int):Int:=(if y-st > 0 then y-st else 0) / many
def soU (st many y:Int):Int:=y-soR st many y*many
def soP (rows:List QC) (st many y:Int) (k:Nat):Int:=((rows.take (soU st many y+1).toNat).map (jJ k)).sum+soR st many y*((rows.drop st.toNat).map (jJ k)).sum
def soL (rows:List QC) (st many y:Int):Int:=((rows.getD (soU st many y).toNat (0,0,0,[])).2.2.2).sum
theorem Ei {st many y:Int}(h0:0<=st) (hm:0<many) (hy:0<=y):0<=soR st many y/\soR st many y<=y/\0<=soU st many y/\soU st many y<st+many:=by
 unfold soU soR
 by_cases z:y-st > 0
 ·rw [if_pos z]
  have h1:=Int.emod_nonneg (y-st) (show many≠0 by omega)
  have h2:=Int.emod_lt_of_pos (y-st) hm
  have h3:=Int.mul_ediv_add_emod (y-st) many
  rw [Int.mul_comm] at h3
  have h4:(y-st) / many<=y-st:=Int.ediv_le_self _ ()
  have h5:0<=(y-st) / many:=Int.ediv_nonneg () ()
  omega
 ·rw [if_neg z,Int.zero_ediv,Int.zero_mul]
  omega
theorem wI {sk:List (Int×Addr)}{ns:List (Int×Int)}{M N:Int}(h1 : -1<=M) (h2:M = -1\/M∈sk.map (·.1)\/M∈ns.map (·.1)) (h3:∀z∈sk,z.1<=N) (h4:∀q∈ns,q.1<=N) (h5 : -1<=N):M<=N:=by
 rcases h2 with h | h | h
 ·omega
 ·obtain ⟨z,hz,rfl⟩:=List.mem_map.mp h
  exact h3 z hz
 ·obtain ⟨z,hz,rfl⟩:=List.mem_map.mp h
  exact h4 z hz
def wU (C:Addr):Sp:=λvs H Q _=>∃(p:Addr) (g:IceG) (l y M:Int) (sk:List (Int×Addr)) (wr:List (Int×T3)) (ns ms:List (Int×Int)) (gd:List Int),vs=[.ref p,.int l,.int y]/\IceAt C H p g/\g.ys.length=g.rows.length/\g.lds.length=g.slopes.length/\g.kvs=sk.map kvA/\sk.length<64/\(∀z∈sk,0<=z.1)/\xR H sk wr/\1<=g.rows.length/\g.rows.length<=600/\(∀z,good (qE wr g.rows z)=true)/\J8 g l ns/\(∀q∈ns,0<=q.1)/\ms.Perm ns/\(ms.map (·.1)).Pairwise (· <= ·)/\g.slopes.getD l.toNat []=gd/\1<=gd.length/\gd.length<=100 /\
 -1<=M/\(M = -1\/M∈sk.map (·.1)\/M∈ns.map (·.1))/\(∀z∈sk,z.1<=M)/\(∀q∈ns,q.1<=M)/\M<=99/\0<=y/\y<=10 ^ 40 /\
 ∀t H' st rows,st=M+1+(gd.length:Int)->rows=qH ms gd wr g.rows 0 (st+(g.rows.length:Int)).toNat->H t=none->H' t=some (.tup [.int (soP rows st (g.rows.length:Int) y 0),.int (soP rows st (g.rows.length:Int) y 1),.int (soP rows st (g.rows.length:Int) y 2),.int (soL rows st (g.rows.length:Int) y)])->jf H H'->Q (.ref t) H'
theorem xa:FnScope ["ice","lane","year","start","many","rounds","rows","up_to","fallen","melted","gone"] ["ice","lane","year"] (j7 uc):=by walk_at "s"
theorem Yz {f C CN CY:Addr}{fd:FuncData}(nb:Nb2 mg) (cl_Ice:Cls K C) (c_Ice__check_lane:CalMX P w K mg base 1 C "check_lane" ["self","lane"] (qW C CN)) (c_check_asked:CalX P w K mg base 1 "check_asked" ["year"] (zm CY)) (c_settled:CalX P w K mg base 3 "settled" ["ice","lane"] (JB C)) (c_Ice__rows:CalM P w K mg base 1 C "rows" ["self"] (ZL C)) (c_course:CalX P w K mg base 4 "course" ["ice","lane","first","last"] (gv C)) (c_total:Cal P w K mg base 1 "total" ["rows","part"] ZW)
  (F:Fun K "so_far" "so_far" uc f fd):FnOk P w K mg base (CX1 P w) 5 f fd ["ice","lane","year"] (wU C):=by
 refine Fun.okX F xa (λvs H Q E h=>?_) (λcdv A outer s H vs Q E hr h=>?_)
 ·obtain ⟨p,g,l,y,M,sk,wr,ns,ms,gd,rfl,_⟩:=h
  rfl
 ·obtain ⟨p,g,l,y,M,sk,wr,ns,ms,gd,rfl,I,hyl,hll,ek,hk64,hk0,hw,hr1,hr2,sg,LD,hn0,hp,hs,hgd,g1,g100,hM1,hMi,hMs,hMn,hM99,y0,y1,k⟩:=h
  obtain ⟨l0,l1,_⟩:=id LD
  obtain ⟨st,est⟩:∃st,st=M+1+(gd.length:Int):=⟨_,rfl⟩
  obtain ⟨rows,erows⟩:∃rows,rows=qH ms gd wr g.rows 0 (st+(g.rows.length:Int)).toNat:=⟨_,rfl⟩
  have ub:=Ei (st:=st) (many:=(g.rows.length:Int)) (y:=y) () () y0
  have k':=λt H'=>k t H' st rows est erows
  clear k
  have hrl:rows.length=(st+(g.rows.length:Int)).toNat:=by rw [erows];unfold qH;rw [List.length_map,List.length_range]
  have hrb:∀q∈rows,∀k,-(2 ^ 20)<=jJ k q/\jJ k q<=2 ^ 20:=λq hq k=>by
   rw [erows] at hq
   obtain ⟨i,hi,rfl⟩:=List.mem_map.mp hq
   exact Vk sg g100 (by have:=List.mem_range.mp hi;omega)
  have hdb:∀q∈rows,q.2.2.2.length=gd.length/\∀x∈q.2.2.2,0<=x/\x<=9*900:=λq hq=>by
   rw [erows] at hq
   obtain ⟨i,hi,rfl⟩:=List.mem_map.mp hq
   refine ⟨qA ms gd wr g.rows 0 (i+1),λx hx=>?_⟩
   have:=gy (ns:=ms) (gd:=gd) (fst:=0) sg (i+1) x hx
   have:=List.mem_range.mp hi
   omega
  refine ⟨_,(j4 (jN (xh (pv 0) cl_Ice c_Ice__check_lane (hr.mono ⋯) jQ (j0 (pv 1) j2)))
   (j4 (jN (qM c_check_asked (hr.mono ⋯) jQ rfl (j0 (pv 2) j2)))
   (j4 (xP (i:=3) xa.nd rfl (Or.inr rfl) (qM c_settled (hr.mono ⋯) jQ rfl (j0 (pv 0) (j0 (pv 1) j2))))
   (j4 (jw 4 xa.nd (jd (jm K) rfl nb.b_len PySem.boot_len (j0 (WU (pv 0) cl_Ice c_Ice__rows (hr.mono ⋯)) j2)))
   (j4 (xP (i:=5) xa.nd rfl (Or.inr rfl) (jk yI (jd (zn rfl) rfl nb.b_max boot_max (j0 j6 (j0 (jk qN (pv 2) (pv 3)) j2))) (pv 4)))
   (j4 (xP (i:=6) xa.nd rfl (Or.inr rfl) (qM c_course (hr.mono ⋯) jQ rfl (j0 (pv 0) (j0 (pv 1) (j0 j6 (j0 (jk qN (jk jG (pv 3) (pv 4)) j6) j2))))))
   (j4 (xP (i:=7) xa.nd rfl (Or.inr rfl) (zx (xI K) (pv 6) yk (yy (jk jG (jk qN (pv 2) (jk yM (pv 5) (pv 4))) j6))))
   (j4 (xK (jH (osc:=(j7 uc)) (ON:=["ice","lane","year","start","many","rounds","rows","up_to","fallen","melted","gone"]) (N:=["part","up_to","rounds","rows","start"]) (own:=1) (caps:=[7,5,6,3]) ⟨rfl,∅,∅,∅,rfl,∅⟩ rfl rfl rfl (qc rfl nb.b_range (j0 j6 j2)) (λ_ _ _ _ _=>(ja (i:=0) (show List.Nodup (["part","up_to","rounds","rows","start"]:List Str) by decide +kernel) rfl (Or.inl rfl))) (λ_ _ _ _ _=>ju) (λ_ _ _ _ _=>(jk jG (je c_total (hr.mono ⋯) rfl (j0 (pv 1) (j0 (pv 0) j2))) (jk yM (pv 2) (je c_total (hr.mono ⋯) rfl (j0 (zx (xI K) (pv 3) (yy (pv 4)) yk) (j0 (pv 0) j2))))))) (UK (n:=3) K rfl (jg (ja (i:=8) xa.nd rfl (Or.inl rfl)) (jg (ja (i:=9) xa.nd rfl (Or.inl rfl)) (jg (ja (i:=10) xa.nd rfl (Or.inl rfl)) jY)))))
   (j9 (ji (qx (j0 (pv 8) (j0 (pv 9) (j0 (pv 10) (j0 (jd (xO K rfl) rfl nb.b_sum boot_sum (j0 (js (qo K) (js (jh K) (pv 7) (ya xN j6) (λ_ _=>rfl)) j6 (λ_ _=>rfl)) j2)) j2))))))))))))))),?_⟩
  left
  refine ⟨p,g.dx,_,rfl,I.ob,jO ∅,?_⟩
  left
  refine ⟨p,g,l,rfl,I,λ_ _=>?_,λhb=>absurd hb ()⟩
  left
  refine ⟨λ_ _=>?_,λhb=>absurd hb ()⟩
  left
  refine ⟨p,g,l,sk,ns,rfl,I,hll,ek,hk64,hk0,LD,hn0,λN H1 hN1 hNi hNs hNn s1=>?_⟩
  obtain rfl:N=M:=Int.le_antisymm (wI hN1 hNi hMs hMn hM1) (wI hM1 hMi hNs hNn hN1)
  rw [hgd,<- est]
  have I1:=I.same s1
  left
  refine ⟨p,g.dx,_,rfl,I1.ob,jO ∅,?_⟩
  left
  refine ⟨p,g,rfl,I1,λlr H2 hlr hlr2 s2=>?_⟩
  have I2:=I1.same s2
  left
  refine ⟨lr,_,rfl,.inl (SqL.of hlr2),?_⟩
  rw [hyl]
  left
  refine ⟨_,_,rfl,?_⟩
  left
  simp only [JZ,List.append_nil]
  rw [show (if y-st > 0 then y-st else 0) / (g.rows.length:Int)=soR st (g.rows.length:Int) y from rfl]
  have eU:y-soR st (g.rows.length:Int) y*(g.rows.length:Int)=soU st (g.rows.length:Int) y:=rfl
  unfold soP soL at k'
  generalize soU st (g.rows.length:Int) y=U at *
  generalize soR st (g.rows.length:Int) y=R at *
  refine ⟨p,g,l,0,st+(g.rows.length:Int)-1,sk,wr,ns,ms,gd,rfl,I2,hll,ek,hw.keep (jj.same (s1.trans s2)),hr1,(),sg,LD,hp,hs,hgd,g1,g100,(),λo out H3 ho ho3 r3 s3=>?_⟩
  rw [show (st+(g.rows.length:Int)-1+1-0).toNat=(st+(g.rows.length:Int)).toNat by omega,<- erows] at r3
  have hol:out.length=rows.length:=Paired.length r3
  left
  refine ⟨_,_,rfl,SqL.of ho3,λa4 H4 ha4 ha44 s4=>?_⟩
  rw [eU,show U+1=(((U+1).toNat:Nat):Int) by omega,Q0] at ha44
  have r4:=uz.same r3 s4
  have ho4:=s4 _ _ ho3
  left
  refine ⟨⋯,⋯,λacc hacc=>?_⟩
  have htl:(rows.take (U+1).toNat).length<=1000:=by rw [List.length_take];omega
  have hdl:(rows.drop st.toNat).length<=900:=by rw [List.length_drop];omega
  refine qB (lo:=0) (n:=(3:Int).toNat) (acc:=acc) (λj σ H5=>∃x:Option V,σ=[x,some (.ref a4),some (.int R),some (.ref o),some (.int st)]/\H5 acc=some (.lst ((List.range j).map λk=>V.int (((rows.take (U+1).toNat).map (jJ k)).sum+R*((rows.drop st.toNat).map (jJ k)).sum)))/\Ext acc H4 H5) ?_ ?_ ?_
  ·exact ⟨none,rfl,j5,Ext.put⟩
  ·rintro j σ H5 hj ⟨x,rfl,h5,e5⟩
   have hj3:j<3:=hj
   have s5:jf H4 H5:=λc o hc=>e5 c o hc (j1 hc hacc)
   left
   refine ⟨a4,j,_,_,by rw [Int.zero_add];rfl,hj3,s5 _ _ ha44,Paired.takeP _ (uz.same r4 s5),htl,λq hq=>hrb q (List.mem_of_mem_take hq) j,λH6 s6=>?_⟩
   have s46:=s5.trans s6
   left
   refine ⟨_,_,rfl,SqL.of (s46 _ _ ho4),λa7 H7 ha7 ha77 s7=>?_⟩
   rw [show st=((st.toNat:Nat):Int) by omega,Jo] at ha77
   have s47:=s46.trans s7
   left
   refine ⟨a7,j,_,_,by rw [Int.zero_add];rfl,hj3,ha77,Paired.dropP _ (uz.same r4 s47),(),λq hq=>hrb q (List.mem_of_mem_drop hq) j,λH8 s8=>?_⟩
   have sb:=Xu (n:=900) (a:=-(2 ^ 20)) (b:=2 ^ 20) (xs:=(rows.drop st.toNat).map (jJ j)) ⋯ ⋯ (λx hx=>by
    obtain ⟨q,hq,rfl⟩:=List.mem_map.mp hx
    exact hrb q (List.mem_of_mem_drop hq) j) (by rw [List.length_map];exact hdl)
   have s58:=s6.trans (s7.trans s8)
   left
   refine ⟨_,s58 _ _ h5,by rw [List.length_map,List.length_range];exact jc (),_,rfl,?_,λc o hc n=>by rw [j8 n];exact s58 _ _ (e5 c o hc n)⟩
   rw [j5,List.range_succ,List.map_append]
   rfl
  rintro σ H5 ⟨x,rfl,h5,e5⟩
  have s5:jf H4 H5:=λc o hc=>e5 c o hc (j1 hc hacc)
  refine ⟨acc,_,rfl,SqL.of h5,rfl,?_⟩
  refine ⟨_,_,rfl,_,_,rfl,_,_,rfl,rfl,?_⟩
  left
  have hi:U.toNat<out.length:=()
  obtain ⟨q,hq,b,dl,eb,hb,hd⟩:=Paired.get (uz.same r4 s5) (List.getElem?_eq_getElem hi)
  have hqm:q∈rows:=List.mem_of_getElem? hq
  obtain ⟨hq1,hq2⟩:=hdb q hqm
  rw [show rows.getD U.toNat (0,0,0,[])=q by rw [List.getD_eq_getElem?_getD,hq];rfl] at k'
  refine ⟨_,_,_,_,rfl,rfl,SqL.of (s5 _ _ ha44),(by rw [show (U+1).toNat=U.toNat+1 by omega,List.take_add_one,List.getElem?_eq_getElem hi,eb];exact kX _ _),?_⟩
  left
  refine ⟨dl,_,rfl,SqL.of hd,(),λn hn=>by have:=hq2 n hn;omega,?_⟩
  left
  refine ⟨by show 4<=sizeLine;decide,λt H6 ht ht6 s6=>?_⟩
  have sA:=s1.trans (s2.trans (s3.trans (s4.trans s5)))
  exact k' t H6 (sA.free ht) ht6 (sA.trans s6)
theorem XI {st many y k:Int}(hm:0<many) (h:st<=y) (hk:0<=k):soR st many (y+k*many)=soR st many y+k:=by
 have h1:∀z,st<=z->soR st many z=(z-st) / many:=λz hz=>by
  unfold soR
  by_cases q:z-st > 0
  ·rw [if_pos q]
  ·rw [if_neg q,show z-st=0 by omega]
 have h2:0<=k*many:=Int.mul_nonneg hk ()
 rw [h1 _ (),h1 _ h,show y+k*many-st=y-st+k*many by omega,Int.add_mul_ediv_right _ _ ()]
theorem Xc {st many y k:Int}(hm:0<many) (h:st<=y) (hk:0<=k):soU st many (y+k*many)=soU st many y:=by
 unfold soU
 rw [XI hm h hk,Int.add_mul]
 omega
def soS (rows:List QC) (st:Int) (j:Nat):Int:=((rows.drop st.toNat).map (jJ j)).sum
theorem Vv {rows:List QC}{st many y k:Int}{j:Nat}(hm:0<many) (h:st<=y) (hk:0<=k):soP rows st many (y+k*many) j=soP rows st many y j+k*soS rows st j:=by
 unfold soP soS
 rw [Xc hm h hk,XI hm h hk,Int.add_mul]
 omega
theorem VT {rows:List QC}{st many y k:Int}(hm:0<many) (h:st<=y) (hk:0<=k):soL rows st many (y+k*many)=soL rows st many y:=by
 unfold soL
 rw [Xc hm h hk]
theorem wx:∀{xs ys:List Int},xs.length=ys.length->(List.zipWith (· + ·) xs ys).sum=xs.sum+ys.sum
 | [],[],_=>rfl
 | [],_::_,h=>by cases h
 | _::_,[],h=>by cases h
 | x::xs,y::ys,h=>by
  have ih:=wx (xs:=xs) (ys:=ys) (Nat.succ.inj h)
  rw [List.zipWith_cons_cons,List.sum_cons,List.sum_cons,List.sum_cons,ih]
  omega
theorem Ji (n:Nat):(List.replicate n (0:Int)).sum=0:=by
 induction n with
 | zero=>rfl
 | succ n ih=>rw [List.replicate_succ,List.sum_cons,ih];rfl
theorem YF {gd:List Int}{t:T3}{s:Nat}{d:List Int}(hl:d.length=gd.length) (hs:s<=d.length):(zj gd t s d).1+d.sum=(zj gd t s d).2.1+(zj gd t s d).2.2.1+(zj gd t s d).2.2.2.sum:=by
 have hsl:=xS hs
 have hm:=uw (t:=t) (d:=jz s d) (gd:=gd) ()
 have e1:(jz s d).sum=(d.take (d.length-s)).sum:=by
  unfold jz
  rw [List.sum_append,Ji,Int.zero_add]
 have e2:d.sum=(d.take (d.length-s)).sum+(d.drop (d.length-s)).sum:=by rw [<- List.sum_append,List.take_append_drop]
 unfold zj
 dsimp only
 rw [wx (),e1]
 omega
theorem uA (ns:List (Int×Int)) (gd:List Int) (wr:List (Int×T3)) (ts:List T3) (fst:Int):∀n,((qH ns gd wr ts fst n).map (jJ 0)).sum=((qH ns gd wr ts fst n).map (jJ 1)).sum+((qH ns gd wr ts fst n).map (jJ 2)).sum+(qS ns gd wr ts fst n).sum
 | 0=>by show (0:Int)=0+0+(List.replicate gd.length (0:Int)).sum;rw [Ji];rfl
 | n+1=>by
  have ih:=uA ns gd wr ts fst n
  have hd:=qA ns gd wr ts fst n
  have rk:=YF (t:=qE wr ts (fst+(n:Int))) (s:=qg ns gd.length (fst+(n:Int))) hd (by rw [hd];exact yP _ _ _)
  rw [uE,List.map_append,List.map_append,List.map_append,List.sum_append,List.sum_append,List.sum_append]
  have e:∀k,(List.map (jJ k) [jr ns gd wr ts fst n]).sum=jJ k (jr ns gd wr ts fst n):=λk=>by rw [List.map_cons,List.map_nil,List.sum_cons];exact Int.add_zero _
  rw [e,e,e]
  show _+(jr ns gd wr ts fst n).1=_+(jr ns gd wr ts fst n).2.1+(_+(jr ns gd wr ts fst n).2.2.1)+(jr ns gd wr ts fst n).2.2.2.sum
  unfold jr
  omega
theorem YK {ns:List (Int×Int)}{len:Nat}{y:Int}(h:0<=jL ns y) (hl:1<=len):1<=qg ns len y:=by
 unfold qg
 omega
theorem Vs {s:Nat}{d d':List Int}(hl:d.length=d'.length) (hs:1<=s) {i p:Nat}(hp:p<i+1) (h:∀q,q<i->d[q]? = d'[q]?):(jz s d)[p]? = (jz s d')[p]?:=by
 unfold jz
 rw [List.getElem?_append,List.getElem?_append,List.length_replicate]
 by_cases z:p<s
 ·rw [if_pos z,if_pos z]
 ·rw [if_neg z,if_neg z,hl,List.getElem?_take,List.getElem?_take,h (p-s) ()]
theorem GW {gd:List Int}{t:T3}{s:Nat}{d d':List Int}(hl:d.length=d'.length) (hs:1<=s) {i p:Nat}(hp:p<i+1) (h:∀q,q<i->d[q]? = d'[q]?):(zj gd t s d).2.2.2[p]? = (zj gd t s d').2.2.2[p]?:=by
 have e:=Vs hl hs hp h
 show (List.zipWith (· + ·) (jz s d) (zC t (jz s d) gd))[p]? = (List.zipWith (· + ·) (jz s d') (zC t (jz s d') gd))[p]?
 unfold zC
 rw [List.getElem?_zipWith,List.getElem?_zipWith,List.getElem?_zipWith,List.getElem?_zipWith,e]
theorem km {ns:List (Int×Int)}{gd:List Int}{wr:List (Int×T3)}{ts:List T3}(hv:∀y,0<=jL ns y) (h1:1<=gd.length) (fst:Int) (a:Nat):∀i p:Nat,p<i->(qS ns gd wr ts (fst+(a:Int)) i)[p]? = (qS ns gd wr ts fst (a+i))[p]?
 | 0,p,hp=>absurd hp (Nat.not_lt_zero _)
 | i+1,p,hp=>by
  have ih:=km (wr:=wr) (ts:=ts) hv h1 fst a i
  have e:fst+(a:Int)+(i:Int)=fst+((a+i:Nat):Int):=()
  show (zj gd (qE wr ts (fst+(a:Int)+(i:Int))) _ _).2.2.2[p]? = (zj gd (qE wr ts (fst+((a+i:Nat):Int))) _ _).2.2.2[p]?
  rw [e]
  exact GW (by rw [qA,qA]) (YK (hv _) h1) hp ih
theorem yR {ns:List (Int×Int)}{gd:List Int}{wr:List (Int×T3)}{ts:List T3}(hv:∀y,0<=jL ns y) (h1:1<=gd.length) (fst:Int) (a i:Nat) (hi:gd.length<=i):qS ns gd wr ts (fst+(a:Int)) i=qS ns gd wr ts fst (a+i):=by
 refine List.ext_getElem? λp=>?_
 by_cases z:p<i
 ·exact km hv h1 fst a i p z
 ·rw [List.getElem?_eq_none (by rw [qA];omega),List.getElem?_eq_none (by rw [qA];omega)]
theorem Xs {ns:List (Int×Int)}{gd:List Int}{wr:List (Int×T3)}{ts:List T3}(hv:∀y,0<=jL ns y) (h1:1<=gd.length) (fst:Int) (a i:Nat) (hi:gd.length<=i):jr ns gd wr ts (fst+(a:Int)) i=jr ns gd wr ts fst (a+i):=by
 unfold jr
 rw [yR hv h1 fst a i hi,show fst+(a:Int)+(i:Int)=fst+((a+i:Nat):Int) by omega]
section
variable {ns:List (Int×Int)}{gd:List Int}{wr:List (Int×T3)}{ts:List T3}{M:Int}{c:Nat}
theorem zA:∀{ns:List (Int×Int)},(∀q∈ns,q.1<=M)->∀{y:Int},M<y->jL ns y=0
 | [],_,y,_=>rfl
 | q::r,h,y,hy=>by
  have h0:=h q (List.mem_cons_self ..)
  have ih:=zA (λz hz=>h z (List.mem_cons_of_mem _ hz)) hy
  unfold jL
  rw [if_neg (),ih]
theorem Jx (hn:∀q∈ns,q.1<=M) (sh:∀z,M<z->qE wr ts (z+(c:Int))=qE wr ts z) {fst:Int}(hf:M<fst):∀i,qS ns gd wr ts (fst+(c:Int)) i=qS ns gd wr ts fst i
 | 0=>rfl
 | i+1=>by
  have ih:=Jx hn sh hf i
  show (zj gd (qE wr ts (fst+(c:Int)+(i:Int))) (qg ns gd.length (fst+(c:Int)+(i:Int))) (qS ns gd wr ts (fst+(c:Int)) i)).2.2.2=(zj gd (qE wr ts (fst+(i:Int))) (qg ns gd.length (fst+(i:Int))) (qS ns gd wr ts fst i)).2.2.2
  unfold qg
  rw [ih,zA hn (show M<fst+(c:Int)+(i:Int) by omega),zA hn (show M<fst+(i:Int) by omega),show fst+(c:Int)+(i:Int)=fst+(i:Int)+(c:Int) by omega,sh _ ()]
theorem Vi (hv:∀y,0<=jL ns y) (h1:1<=gd.length) (hn:∀q∈ns,q.1<=M) (sh:∀z,M<z->qE wr ts (z+(c:Int))=qE wr ts z) {i:Nat}(hi:M+1+(gd.length:Int)<=(i:Int)) (hM : -1<=M):qS ns gd wr ts 0 (i+c)=qS ns gd wr ts 0 i:=by
 have e1:=yR (wr:=wr) (ts:=ts) hv h1 0 (i-gd.length) gd.length (Nat.le_refl _)
 have e2:=yR (wr:=wr) (ts:=ts) hv h1 0 (i-gd.length+c) gd.length (Nat.le_refl _)
 rw [show i-gd.length+gd.length=i by omega] at e1
 rw [show i-gd.length+c+gd.length=i+c by omega] at e2
 rw [<- e1,<- e2,show (0:Int)+((i-gd.length+c:Nat):Int)=0+((i-gd.length:Nat):Int)+(c:Int) by omega]
 exact Jx hn sh () _
theorem YB (hv:∀y,0<=jL ns y) (h1:1<=gd.length) (hn:∀q∈ns,q.1<=M) (sh:∀z,M<z->qE wr ts (z+(c:Int))=qE wr ts z) {i:Nat}(hi:M+1+(gd.length:Int)<=(i:Int)) (hM : -1<=M):jr ns gd wr ts 0 (i+c)=jr ns gd wr ts 0 i:=by
 unfold jr qg
 rw [Vi hv h1 hn sh hi hM,zA hn (show M<0+((i+c:Nat):Int) by omega),zA hn (show M<0+(i:Int) by omega),show (0:Int)+((i+c:Nat):Int)=0+(i:Int)+(c:Int) by omega,sh _ ()]
end
def za (f:Nat->Int) (n:Nat):Int:=((List.range n).map f).sum
theorem wd (f:Nat->Int) (n:Nat):za f (n+1)=za f n+f n:=by
 unfold za
 rw [List.range_succ,List.map_append,List.sum_append,List.map_cons,List.map_nil,List.sum_cons]
 show _+(f n+0)=_
 omega
theorem kt {f:Nat->Int}{s c:Nat}(h:∀i,s<=i->f (i+c)=f i):∀k,za f (s+k+c)-za f (s+k)=za f (s+c)-za f s
 | 0=>rfl
 | k+1=>by
  have ih:=kt h k
  have e:=h (s+k) ()
  rw [show s+(k+1)+c=s+k+c+1 by omega,show s+(k+1)=s+k+1 by omega,wd,wd,e]
  omega
theorem Yx (f:Nat->Int) (s n:Nat) (h:s<=n):(((List.range n).map f).drop s).sum=za f n-za f s:=by
 have e:((List.range n).map f).sum=(((List.range n).map f).take s).sum+(((List.range n).map f).drop s).sum:=by rw [<- List.sum_append,List.take_append_drop]
 have e2:((List.range n).map f).take s=(List.range s).map f:=by rw [<- List.map_take,List.take_range,Nat.min_eq_left h]
 unfold za
 rw [e2] at e
 omega
theorem Z2 {q:Nat->QC}{s c:Nat}(hc:0<c) (h:∀i,s<=i->q (i+c)=q i) (j:Nat):∀k y:Nat,y<s+c+k->soP ((List.range (s+c)).map q) (s:Int) (c:Int) (y:Int) j=za (λi=>jJ j (q i)) (y+1)
 | 0,y,hy=>by
  have eR:soR (s:Int) (c:Int) (y:Int)=0:=by
   unfold soR
   by_cases z:(y:Int)-(s:Int) > 0
   ·rw [if_pos z]
    exact Int.ediv_eq_zero_of_lt () ()
   ·rw [if_neg z,Int.zero_ediv]
  unfold soP soU
  rw [eR,Int.zero_mul,Int.zero_mul,Int.add_zero,Int.sub_zero,show ((y:Int)+1).toNat=y+1 by omega,<- List.map_take,List.take_range,Nat.min_eq_left (),List.map_map]
  rfl
 | k+1,y,hy=>by
  by_cases z:y<s+c
  ·exact Z2 hc h j 0 y ()
  ·have ih:=Z2 hc h j k (y-c) ()
   have e:=Vv (rows:=(List.range (s+c)).map q) (st:=(s:Int)) (many:=(c:Int)) (y:=((y-c:Nat):Int)) (k:=1) (j:=j) () () ()
   rw [show ((y-c:Nat):Int)+1*(c:Int)=(y:Int) by omega,ih,Int.one_mul] at e
   rw [e]
   unfold soS
   rw [Int.toNat_natCast,List.map_drop,List.map_map,Yx _ _ _ ()]
   have r:=kt (f:=λi=>jJ j (q i)) (s:=s) (c:=c) (λi hi=>by show jJ j (q (i+c))=_;rw [h i hi]) (y-c+1-s)
   rw [show s+(y-c+1-s)+c=y+1 by omega,show s+(y-c+1-s)=y-c+1 by omega] at r
   show _+(za (λi=>jJ j (q i)) _-za (λi=>jJ j (q i)) _)=_
   omega
theorem kW {q:Nat->QC}{s c:Nat}(hc:0<c) (h:∀i,s<=i->q (i+c)=q i):∀k y:Nat,y<s+c+k->soL ((List.range (s+c)).map q) (s:Int) (c:Int) (y:Int)=(q y).2.2.2.sum
 | 0,y,hy=>by
  have eR:soR (s:Int) (c:Int) (y:Int)=0:=by
   unfold soR
   by_cases z:(y:Int)-(s:Int) > 0
   ·rw [if_pos z]
    exact Int.ediv_eq_zero_of_lt () ()
   ·rw [if_neg z,Int.zero_ediv]
  unfold soL soU
  rw [eR,Int.zero_mul,Int.sub_zero,Int.toNat_natCast,List.getD_eq_getElem?_getD,List.getElem?_map,List.getElem?_range ()]
  rfl
 | k+1,y,hy=>by
  by_cases z:y<s+c
  ·exact kW hc h 0 y ()
  ·have ih:=kW hc h k (y-c) ()
   have e:=VT (rows:=(List.range (s+c)).map q) (st:=(s:Int)) (many:=(c:Int)) (y:=((y-c:Nat):Int)) (k:=1) () () ()
   rw [show ((y-c:Nat):Int)+1*(c:Int)=(y:Int) by omega,ih] at e
   rw [e,show q y=q (y-c) by have:=h (y-c) ();rw [show y-c+c=y by omega] at this;exact this]
theorem Ws {ms:List (Int×Int)}{gd:List Int}{wr:List (Int×T3)}{ts:List T3}(hs:(ms.map (·.1)).Pairwise (· < ·)) (hb:∀q∈ms,0<=q.1/\0<=q.2) (hv:∀y,0<=jL ms y):∀(y n:Nat) (m:Int),n<gd.length->m=(y:Int)+jv ms (y:Int)-(n:Int)->jn 0 0 ms m<=(y:Int)/\(qS ms gd wr ts 0 (y+1))[n]? = some (yG ms gd wr ts m (jn 0 0 ms m) ((y:Int)-jn 0 0 ms m+1).toNat):=by
 have nd:(ms.map (·.1)).Nodup:=hs.imp λh=>()
 have iff:∀(m z:Int),0<=z->(m<=z+jv ms z↔jn 0 0 ms m<=z):=λm z hz=>by
  have:=w9 ms 0 0 m z (λq hq=>hb q hq) hs hz
  rw [Int.add_zero] at this
  exact this
 have e0:∀m,0<=jn 0 0 ms m:=λm=>ug ms 0 0 m (λq hq=>(hb q hq).1) (hs.imp λh=>())
 have one:∀(y n:Nat) (m d0:Int),n<gd.length->m=(y:Int)+jv ms (y:Int)-(n:Int)->jn 0 0 ms m<=(y:Int)->d0=yG ms gd wr ts m (jn 0 0 ms m) ((y:Int)-jn 0 0 ms m).toNat->(jz (qg ms gd.length (0+(y:Int))) (qS ms gd wr ts 0 y))[n]? = some d0->(qS ms gd wr ts 0 (y+1))[n]? = some (yG ms gd wr ts m (jn 0 0 ms m) ((y:Int)-jn 0 0 ms m+1).toNat):=λy n m d0 hn hm hE hd hsh=>by
  show (List.zipWith (· + ·) (jz _ _) (zC _ (jz _ _) gd))[n]? = _
  unfold zC
  rw [List.getElem?_zipWith,List.getElem?_zipWith,hsh,List.getElem?_eq_getElem hn]
  have hw:zU ms gd wr ts m (y:Int)=chg (qE wr ts (0+(y:Int))) gd[n]:=by
   unfold zU plc
   rw [show ((y:Int)+jv ms (y:Int)-m).toNat=n by omega,Int.zero_add,List.getD_eq_getElem?_getD,List.getElem?_eq_getElem hn]
   rfl
  rw [show ((y:Int)-jn 0 0 ms m+1).toNat=((y:Int)-jn 0 0 ms m).toNat+1 by omega]
  unfold yG
  rw [<- hd,show jn 0 0 ms m+(((y:Int)-jn 0 0 ms m).toNat:Int)=(y:Int) by omega,hw]
 intro y
 induction y with
 | zero =>
  intro n m hn hm
  have hE:jn 0 0 ms m<=((0:Nat):Int):=(iff m _ ()).mp ()
  have:=e0 m
  refine ⟨hE,one 0 n m 0 hn hm hE (by rw [show (((0:Nat):Int)-jn 0 0 ms m).toNat=0 by omega];rfl) ?_⟩
  have hz:∀x∈jz (qg ms gd.length (0+((0:Nat):Int))) (qS ms gd wr ts 0 0),x=0:=λx hx=>by
   rcases vm hx with e | e
   ·exact e
   ·exact (List.mem_replicate.mp e).2
  have hl:(jz (qg ms gd.length (0+((0:Nat):Int))) (qS ms gd wr ts 0 0)).length=gd.length:=by rw [xS (by rw [qA];exact yP _ _ _),qA]
  rw [List.getElem?_eq_getElem (),hz _ (List.getElem_mem _)]
 | succ y ih =>
  intro n m hn hm
  have hE:jn 0 0 ms m<=((y+1:Nat):Int):=(iff m _ ()).mp ()
  have st:=vR nd (y:Int)
  rw [show (y:Int)+1=((y+1:Nat):Int) by omega] at st
  have hv1:=hv ((y+1:Nat):Int)
  have hS:qg ms gd.length (0+((y+1:Nat):Int))=(min (1+jL ms ((y+1:Nat):Int)) (gd.length:Int)).toNat:=by unfold qg;rw [Int.zero_add]
  obtain ⟨s,es⟩:∃s,qg ms gd.length (0+((y+1:Nat):Int))=s:=⟨_,rfl⟩
  rw [es] at hS
  by_cases z:n<s
  ·have hE2:jn 0 0 ms m=((y+1:Nat):Int):=by
    have:¬jn 0 0 ms m<=(y:Int):=λh=>absurd ((iff m (y:Int) ()).mpr h) ()
    omega
   refine ⟨hE,one (y+1) n m 0 hn hm hE (by rw [hE2,Int.sub_self];rfl) ?_⟩
   rw [es]
   unfold jz
   rw [List.getElem?_append_left (by rw [List.length_replicate];exact z),List.getElem?_replicate,if_pos z]
  ·obtain ⟨hE1,hI⟩:=ih (n-s) m () ()
   refine ⟨hE,one (y+1) n m _ hn hm hE rfl ?_⟩
   rw [es]
   unfold jz
   rw [List.getElem?_append_right (by rw [List.length_replicate];omega),List.length_replicate,List.getElem?_take,qA,if_pos (),hI,show (((y+1:Nat):Int)-jn 0 0 ms m).toNat=((y:Int)-jn 0 0 ms m+1).toNat by omega]
theorem QR {wr:List (Int×T3)}{ts:List T3}{M y:Int}(hW:∀q∈wr,q.1<=M) (hy:M<y):qE wr ts y=ts.getD (y % (ts.length:Int)).toNat (0,0,0):=by
 unfold qE
 rw [List.find?_eq_none.mpr λq hq z=>by have:=hW q hq;have:=of_decide_eq_true z;omega]
theorem Ys {wr:List (Int×T3)}{ts:List T3}{M y k:Int}(hW:∀q∈wr,q.1<=M) (hy:M<y) (hk:0<=k*(ts.length:Int)):qE wr ts (y+k*(ts.length:Int))=qE wr ts y:=by
 rw [QR hW (),QR hW hy,Int.add_mul_emod_self_right]
theorem xR.keys {H:Hp}:∀{sk:List (Int×Addr)}{wr:List (Int×T3)},xR H sk wr->wr.map (·.1)=sk.map (·.1)
 | _,_,.nil=>rfl
 | _,_,.cons ⟨h,_⟩ r=>by rw [List.map_cons,List.map_cons,xR.keys r,h]
def Jy (C:Addr):Sp:=λvs H Q _=>∃(p:Addr) (g:IceG) (l y:Int) (sk:List (Int×Addr)) (wr:List (Int×T3)) (ns ms:List (Int×Int)) (gd:List Int),vs=[.ref p,.int l,.int y]/\IceAt C H p g/\g.lds.length=g.slopes.length/\g.kvs=sk.map kvA/\xR H sk wr/\1<=g.rows.length/\g.rows.length<=1000/\(∀z,good (qE wr g.rows z)=true)/\J8 g l ns/\ms.Perm ns/\(ms.map (·.1)).Pairwise (· <= ·)/\g.slopes.getD l.toNat []=gd/\1<=gd.length/\gd.length<=100/\0<=y /\
 ∀b dl q H',q=jr ms gd wr g.rows 0 y.toNat->q.2.2.2.length=gd.length->(∀x∈q.2.2.2,0<=x/\x<=9*900)->H' b=some (.tup [.int q.1,.int q.2.1,.int q.2.2.1,.ref dl])->H' dl=some (.lst (q.2.2.2.map V.int))->jf H H'->Q (.ref b) H'
theorem Xv:FnScope ["ice","lane","year"] ["ice","lane","year"] (j7 vZ):=by walk_at "s"
theorem QB {f C CN:Addr}{fd:FuncData}(nb:Nb2 mg) (cl_Ice:Cls K C) (c_Ice__length:CalMX P w K mg base 2 C "length" ["self","lane"] (y8 C CN)) (c_course:CalX P w K mg base 4 "course" ["ice","lane","first","last"] (gv C))
  (F:Fun K "year_row" "year_row" vZ f fd):FnOk P w K mg base (CX1 P w) 5 f fd ["ice","lane","year"] (Jy C):=by
 refine Fun.okX F Xv (λvs H Q E h=>?_) (λcdv A outer s H vs Q E hr h=>?_)
 ·obtain ⟨p,g,l,y,sk,wr,ns,ms,gd,rfl,_⟩:=h
  rfl
 ·obtain ⟨p,g,l,y,sk,wr,ns,ms,gd,rfl,I,hll,ek,hw,hr1,hr2,sg,LD,hp,hs,hgd,g1,g100,y0,k⟩:=h
  obtain ⟨l0,l1,_,_,_,h9⟩:=id LD
  have hv:∀z,0<=jL ms z:=λz=>(wX (λq hq=>h9 q (hp.mem_iff.mp hq)) z).1
  refine ⟨_,(j9 (ji (js (jh K) (qM c_course (hr.mono ⋯) jQ rfl (j0 (pv 0) (j0 (pv 1) (j0 (jd (zn rfl) rfl nb.b_max boot_max (j0 j6 (j0 (jk qN (pv 2) (xh (pv 0) cl_Ice c_Ice__length (hr.mono ⋯) jQ (j0 (pv 1) j2))) j2))) (j0 (pv 2) j2))))) (ya xN j6) (λ_ _=>rfl)))),?_⟩
  left
  refine ⟨p,g.dx,_,rfl,I.ob,jO ∅,?_⟩
  left
  refine ⟨p,g,l,rfl,I,λ_ _=>?_,λhb=>absurd hb ()⟩
  rw [hgd]
  left
  refine ⟨_,_,rfl,?_⟩
  left
  simp only [JZ,List.append_nil]
  obtain ⟨fst,efst⟩:∃fst,(if y-(gd.length:Int) > 0 then y-(gd.length:Int) else 0)=fst:=⟨_,rfl⟩
  rw [efst]
  have hf:fst=0/\y<=(gd.length:Int)\/fst=y-(gd.length:Int)/\(gd.length:Int)<y:=by
   rw [<- efst]
   split <;> omega
  clear efst
  obtain ⟨i,ei⟩:∃i,(y+1-fst).toNat=i+1:=⟨(y-fst).toNat,()⟩
  have hrow:jr ms gd wr g.rows fst i=jr ms gd wr g.rows 0 y.toNat:=by
   rcases hf with ⟨rfl,h⟩ | ⟨rfl,h⟩
   ·rw [show i=y.toNat by omega]
   ·have e:=Xs (wr:=wr) (ts:=g.rows) hv g1 0 (y-(gd.length:Int)).toNat gd.length (Nat.le_refl _)
    rw [show (0:Int)+((y-(gd.length:Int)).toNat:Int)=y-(gd.length:Int) by omega,show (y-(gd.length:Int)).toNat+gd.length=y.toNat by omega] at e
    rw [show i=gd.length by omega]
    exact e
  refine ⟨p,g,l,fst,y,sk,wr,ns,ms,gd,rfl,I,hll,ek,hw,hr1,hr2,sg,LD,hp,hs,hgd,g1,g100,(),λo out H3 ho ho3 r3 s3=>?_⟩
  rw [ei] at r3
  have hol:out.length=i+1:=(Paired.length r3).trans (by unfold qH;rw [List.length_map,List.length_range])
  obtain ⟨q,hq,b,dl,eb,hb,hd⟩:=Paired.get r3 (List.getElem?_eq_getElem (show i<out.length by omega))
  have hq:jr ms gd wr g.rows fst i=q:=by
   unfold qH at hq
   rw [List.getElem?_map,List.getElem?_range ()] at hq
   exact Option.some.inj hq
  have eo:out=out.take i++[V.ref b]:=by
   have:=List.take_of_length_le (Nat.le_of_eq hol)
   rw [List.take_add_one,List.getElem?_eq_getElem (show i<out.length by omega),eb] at this
   exact this.symm
  have hdp:q.2.2.2=qS ms gd wr g.rows fst (i+1):=by rw [<- hq];rfl
  left
  refine ⟨_,_,_,_,rfl,rfl,SqL.of ho3,(by rw [eo];exact kX _ _),?_⟩
  refine k b dl q H3 (hq.symm.trans hrow) (by rw [hdp,qA]) (λx hx=>?_) hb hd s3
  have:=gy (ns:=ms) (gd:=gd) (fst:=fst) sg (i+1) x (by rw [<- hdp];exact hx)
  omega
def U0 (C:Addr):Sp:=λvs H Q _=>∃(p:Addr) (g:IceG) (l y:Int) (sk:List (Int×Addr)) (wr:List (Int×T3)) (ns ms:List (Int×Int)) (gd:List Int),vs=[.ref p,.int l,.int y]/\IceAt C H p g/\g.lds.length=g.slopes.length/\g.kvs=sk.map kvA/\xR H sk wr/\1<=g.rows.length/\g.rows.length<=1000/\(∀z,good (qE wr g.rows z)=true)/\J8 g l ns/\ms.Perm ns/\(ms.map (·.1)).Pairwise (· <= ·)/\g.slopes.getD l.toNat []=gd/\1<=gd.length/\gd.length<=100/\0<=y/\y<=10 ^ 40 /\
 ∀t q H',q=jr ms gd wr g.rows 0 y.toNat->H t=none->H' t=some (.tup [.int q.1,.int q.2.1,.int q.2.2.1,.int q.2.2.2.sum])->jf H H'->Q (.ref t) H'
theorem uh:FnScope ["ice","lane","year","fallen","melted","gone","depths"] ["ice","lane","year"] (j7 ZC):=by walk_at "s"
theorem WL {f C CN CY:Addr}{fd:FuncData}(nb:Nb2 mg) (cl_Ice:Cls K C) (c_Ice__check_lane:CalMX P w K mg base 1 C "check_lane" ["self","lane"] (qW C CN)) (c_check_asked:CalX P w K mg base 1 "check_asked" ["year"] (zm CY)) (c_year_row:CalX P w K mg base 5 "year_row" ["ice","lane","year"] (Jy C))
  (F:Fun K "sums" "sums" ZC f fd):FnOk P w K mg base (CX1 P w) 6 f fd ["ice","lane","year"] (U0 C):=by
 refine Fun.okX F uh (λvs H Q E h=>?_) (λcdv A outer s H vs Q E hr h=>?_)
 ·obtain ⟨p,g,l,y,sk,wr,ns,ms,gd,rfl,_⟩:=h
  rfl
 ·obtain ⟨p,g,l,y,sk,wr,ns,ms,gd,rfl,I,hll,ek,hw,hr1,hr2,sg,LD,hp,hs,hgd,g1,g100,y0,y1,k⟩:=h
  obtain ⟨l0,l1,_⟩:=id LD
  refine ⟨_,(j4 (jN (xh (pv 0) cl_Ice c_Ice__check_lane (hr.mono ⋯) jQ (j0 (pv 1) j2)))
   (j4 (jN (qM c_check_asked (hr.mono ⋯) jQ rfl (j0 (pv 2) j2)))
   (j4 (xK (qM c_year_row (hr.mono ⋯) jQ rfl (j0 (pv 0) (j0 (pv 1) (j0 (pv 2) j2)))) (qf (n:=4) K rfl (jg (ja (i:=3) uh.nd rfl (Or.inl rfl)) (jg (ja (i:=4) uh.nd rfl (Or.inl rfl)) (jg (ja (i:=5) uh.nd rfl (Or.inl rfl)) (jg (ja (i:=6) uh.nd rfl (Or.inl rfl)) jY))))))
   (j9 (ji (qx (j0 (pv 3) (j0 (pv 4) (j0 (pv 5) (j0 (jd (xO K rfl) rfl nb.b_sum boot_sum (j0 (pv 6) j2)) j2)))))))))),?_⟩
  left
  refine ⟨p,g.dx,_,rfl,I.ob,jO ∅,?_⟩
  left
  refine ⟨p,g,l,rfl,I,λ_ _=>?_,λhb=>absurd hb ()⟩
  left
  refine ⟨λ_ _=>?_,λhb=>absurd hb ()⟩
  left
  refine ⟨p,g,l,y,sk,wr,ns,ms,gd,rfl,I,hll,ek,hw,hr1,hr2,sg,LD,hp,hs,hgd,g1,g100,y0,λb dl q H1 eq hql hqb hb hd s1=>?_⟩
  refine ⟨b,_,rfl,SqT.of hb,rfl,?_⟩
  refine ⟨_,_,rfl,_,_,rfl,_,_,rfl,_,_,rfl,rfl,?_⟩
  left
  refine ⟨dl,_,rfl,SqL.of hd,(),λn hn=>by have:=hqb n hn;omega,?_⟩
  left
  refine ⟨by show 4<=sizeLine;decide,λt H6 ht ht6 s6=>?_⟩
  exact k t q H6 eq (s1.free ht) ht6 (s1.trans s6)
theorem uf {L:List Q4}{dp mv pl:Nat->Int}{fst:Int}{n:Nat}(CL:Col L dp mv pl fst n) (h0:dp 0=0) (hd:∀i,0<=dp i):∀i,i<=n->((vE (L.take i)).length:Int)=dp i
 | 0,_=>by rw [List.take_zero];exact h0.symm
 | i+1,h=>by
  have ih:=uf CL h0 hd i ()
  have st:=CL.step i
  have d1:=hd (i+1)
  rw [ku (CL.at_ i ())]
  unfold ZS
  dsimp only
  split
  ·rw [List.length_append,List.length_replicate]
   omega
  ·rw [List.length_take]
   omega
theorem kP:∀{rs:List T3},(∀r∈rs,1<=r.2.2)->(rs.map (·.2.2)).sum=((jt rs).length:Int)
 | [],_=>rfl
 | r::rs,h=>by
  have h0:=h r (List.mem_cons_self ..)
  have ih:=kP (rs:=rs) λx hx=>h x (List.mem_cons_of_mem _ hx)
  rw [List.map_cons,List.sum_cons,zK,List.length_append,List.length_replicate,ih]
  omega
theorem Zh {ns ms:List (Int×Int)}{gd:List Int}{wr:List (Int×T3)}{ts:List T3}(hp:ms.Perm ns) (hs:(ms.map (·.1)).Pairwise (· <= ·)) (nd:(ns.map (·.1)).Nodup) (hb:∀q∈ns,0<=q.1/\0<=q.2) (hv:∀y,0<=jL ms y) {y n:Nat}(hn:n<gd.length) {rs:List T3}(g:zO rs)
  (e:jt rs=vE ((xp ms gd wr ts ((y:Int)+jv ns (y:Int)-(n:Int))).take (((y:Int)-jn 0 0 ms ((y:Int)+jv ns (y:Int)-(n:Int))).toNat+1))):(qS ms gd wr ts 0 (y+1))[n]? = some (rs.map (·.2.2)).sum:=by
 have ndm:(ms.map (·.1)).Nodup:=(hp.map (·.1)).nodup_iff.mpr nd
 obtain ⟨h1,h2⟩:=Ws (gd:=gd) (wr:=wr) (ts:=ts) (qV hs ndm) (λq hq=>hb q (hp.mem_iff.mp hq)) hv y n ((y:Int)+jv ns (y:Int)-(n:Int)) hn (by rw [yr hp])
 have CL:=X0 ms gd wr ts ((y:Int)+jv ns (y:Int)-(n:Int))
 have onm:=(vn hp hs nd hb ((y:Int)+jv ns (y:Int)-(n:Int)) (gd.length:Int) (y:Int) ()).mp ()
 have kl:=uf CL rfl (ve ms gd wr ts _ _) (((y:Int)-jn 0 0 ms ((y:Int)+jv ns (y:Int)-(n:Int))).toNat+1) ()
 rw [h2,kP g.1,e,kl,show ((y:Int)-jn 0 0 ms ((y:Int)+jv ns (y:Int)-(n:Int))+1).toNat=((y:Int)-jn 0 0 ms ((y:Int)+jv ns (y:Int)-(n:Int))).toNat+1 by omega]
theorem Yl:∀(ks:List Int),(∀x∈ks,0<=x)->∃M,-1<=M/\(M = -1\/M∈ks)/\∀x∈ks,x<=M
 | [],_=>⟨-1,Int.le_refl _,.inl rfl,λ_ h=>by cases h⟩
 | k::ks,h=>by
  obtain ⟨M,h1,h2,h3⟩:=Yl ks λx hx=>h x (List.mem_cons_of_mem _ hx)
  have h0:=h k (List.mem_cons_self ..)
  by_cases z:M<=k
  ·refine ⟨k,(),.inr (List.mem_cons_self ..),λx hx=>?_⟩
   rcases List.mem_cons.mp hx with rfl | hx
   ·exact Int.le_refl _
   ·exact Int.le_trans (h3 x hx) z
  ·refine ⟨M,h1,h2.imp id (List.mem_cons_of_mem _),λx hx=>?_⟩
   rcases List.mem_cons.mp hx with rfl | hx
   ·omega
   ·exact h3 x hx
theorem YA {ms:List (Int×Int)}{gd:List Int}{wr:List (Int×T3)}{ts:List T3}{M:Int}(hv:∀y,0<=jL ms y) (h1:1<=gd.length) (hn:∀q∈ms,q.1<=M) (hW:∀q∈wr,q.1<=M) (hM : -1<=M) (ht:1<=ts.length) {st:Int}(est:st=M+1+(gd.length:Int)) (y:Nat) :
  (∀j,soP (qH ms gd wr ts 0 (st+(ts.length:Int)).toNat) st (ts.length:Int) (y:Int) j=za (λi=>jJ j (jr ms gd wr ts 0 i)) (y+1))/\soL (qH ms gd wr ts 0 (st+(ts.length:Int)).toNat) st (ts.length:Int) (y:Int)=(qS ms gd wr ts 0 (y+1)).sum:=by
 obtain ⟨s,rfl⟩:∃s:Nat,st=(s:Int):=⟨st.toNat,()⟩
 have sh:∀z,M<z->qE wr ts (z+(ts.length:Int))=qE wr ts z:=λz hz=>by
  have:=Ys (ts:=ts) (k:=1) hW hz ()
  rw [Int.one_mul] at this
  exact this
 have ag:∀i,s<=i->jr ms gd wr ts 0 (i+ts.length)=jr ms gd wr ts 0 i:=λi hi=>YB hv h1 hn sh () hM
 rw [show ((s:Int)+(ts.length:Int)).toNat=s+ts.length by omega]
 exact ⟨λj=>Z2 () ag j (y+1) y (),kW () ag (y+1) y ()⟩
theorem YM (ms:List (Int×Int)) (gd:List Int) (wr:List (Int×T3)) (ts:List T3) (n:Nat):za (λi=>jJ 0 (jr ms gd wr ts 0 i)) n=za (λi=>jJ 1 (jr ms gd wr ts 0 i)) n+za (λi=>jJ 2 (jr ms gd wr ts 0 i)) n+(qS ms gd wr ts 0 n).sum:=by
 have e:=uA ms gd wr ts 0 n
 unfold qH at e
 rw [List.map_map,List.map_map,List.map_map] at e
 exact e
theorem Ye:∀{rs:List T3},(∀r∈rs,1<=r.2.2)->∀{r:T3},r∈rs->r.2.2<=((jt rs).length:Int)
 | [],_,r,h=>by cases h
 | x::rs,h,r,hr=>by
  have h0:=h x (List.mem_cons_self ..)
  rw [zK,List.length_append,List.length_replicate]
  rcases List.mem_cons.mp hr with rfl | hr
  ·omega
  ·have:=Ye (rs:=rs) (λx hx=>h x (List.mem_cons_of_mem _ hx)) hr
   omega
theorem at4 (A:Nat->Int) (x:V) {j:Nat}(h:j<3):atI [V.int (A 0),V.int (A 1),V.int (A 2),x] (0+(j:Int))=some (V.int (A j)):=by
 match j,h with
 | 0,_=>rfl
 | 1,_=>rfl
 | 2,_=>rfl
theorem Wr {v a b:Int}(h0:0<=v) (h1:v<3) (ha:0<=a/\a<=99) (hb:0<=b/\b<10 ^ 40):∃n:Nat,atI [V.int a,V.int b,V.int (10 ^ 40)] v=some (V.int (n:Int))/\(n:Int)<=10 ^ 40:=by
 have h:v=0\/v=1\/v=2:=()
 rcases h with rfl | rfl | rfl
 ·exact ⟨a.toNat,by rw [Int.toNat_of_nonneg ha.1];rfl,()⟩
 ·exact ⟨b.toNat,by rw [Int.toNat_of_nonneg hb.1];rfl,()⟩
 ·exact ⟨10 ^ 40,rfl,⋯⟩
theorem xq:FnScope ["_law_script","_law_box_here","_law_scene_here","_law_ice","_law_turn","_law_lane","_law_place","_law_year_here","_law_told","_law_own","_law_before","_law_lying","_law_spot_here"] ["_law_script"] (j7 vg):=by walk_at "s"
theorem GM {f C Pt:Addr}{fd:FuncData}(nb:Nb2 mg)
  (c_law_box:Cal P w K mg base 1 "_law_box" ["_law_script"] (VP K)) (c_law_take:Cal P w K mg base 2 "_law_take" ["_law_box_here","_law_size"] xV) (c_law_scene:Cal P w K mg base 5 "_law_scene" ["_law_box_here"] ZQ) (c_law_made:Cal P w K mg base 10 "_law_made" ["_law_scene_here"] (Ud C Pt))
  (c_law_spot:Cal P w K mg base 3 "_law_spot" ["_law_box_here","_law_scene_here"] VL) (c_law_year:Cal P w K mg base 3 "_law_year" ["_law_box_here"] Zi) (c_law_far:Cal P w K mg base 3 "_law_far" ["_law_box_here"] WV)
  (c_law_alike:Cal P w K mg base 3 "_law_alike" ["_law_found","_law_due"] (Wo 2)) (c_so_far:CalX P w K mg base 5 "so_far" ["ice","lane","year"] (wU C)) (c_sums:CalX P w K mg base 6 "sums" ["ice","lane","year"] (U0 C)) (c_pile:CalX P w K mg base 6 "pile" ["ice","lane","place","year"] (Zp C))
  (F:Fun K "law" "law" vg f fd):FnOk P w K mg base CX0 11 f fd ["_law_script"] (XX K Pt):=by
 refine F.ok xq (λvs H Q E h=>?_) (λcdv A outer s H vs Q E hr h=>?_)
 ·obtain ⟨a,ns,rfl,_⟩:=h
  rfl
 ·obtain ⟨a,ns,rfl,hS,h63,hPt,k⟩:=h
  have T0:qL H Pt:=.inl hPt
  refine ⟨_,(j4 (jw 1 xq.nd (je c_law_box (hr.mono ⋯) rfl (j0 (pv 0) j2)))
   (j4 (jw 2 xq.nd (je c_law_scene (hr.mono ⋯) rfl (j0 (pv 1) j2)))
   (j4 (jw 3 xq.nd (je c_law_made (hr.mono ⋯) rfl (j0 (pv 2) j2)))
   (uM (xc PassesOwn.never rfl (qc rfl nb.b_range (j0 j6 j2)) (ja (i:=4) xq.nd rfl (Or.inl rfl)) (j4 (xK (je c_law_spot (hr.mono ⋯) rfl (j0 (pv 1) (j0 (pv 2) j2))) (qf (n:=2) K rfl (jg (ja (i:=5) xq.nd rfl (Or.inl rfl)) (jg (ja (i:=6) xq.nd rfl (Or.inl rfl)) jY))))
   (j4 (jw 7 xq.nd (js (jh K) (jR (j0 (je c_law_year (hr.mono ⋯) rfl (j0 (pv 1) j2)) (j0 (je c_law_far (hr.mono ⋯) rfl (j0 (pv 1) j2)) (j0 (jk kH j6 j6) j2)))) (je c_law_take (hr.mono ⋯) rfl (j0 (pv 1) (j0 j6 j2))) (λ_ _=>rfl)))
   (j4 (jw 8 xq.nd (je c_so_far.cal (hr.mono ⋯) rfl (j0 (pv 3) (j0 (pv 5) (j0 (pv 7) j2)))))
   (j4 (xP (i:=9) xq.nd rfl (Or.inr rfl) (je c_sums.cal (hr.mono ⋯) rfl (j0 (pv 3) (j0 (pv 5) (j0 (pv 7) j2)))))
   (j4 (xP (i:=10) xq.nd rfl (Or.inr rfl) (qx (j0 j6 (j0 j6 (j0 j6 (j0 j6 j2))))))
   (uM (qi (jK XA (pv 7) j6 (jS _)) (j9 (xP (i:=10) xq.nd rfl (Or.inr rfl) (je c_so_far.cal (hr.mono ⋯) rfl (j0 (pv 3) (j0 (pv 5) (j0 (jk qN (pv 7) j6) j2)))))) jA)
   (j4 (qi (jK Y3 (js (qo K) (pv 8) j6 (λ_ _=>rfl)) (jk jG (jk jG (js (qo K) (pv 8) j6 (λ_ _=>rfl)) (js (qo K) (pv 8) j6 (λ_ _=>rfl))) (js (qo K) (pv 8) j6 (λ_ _=>rfl))) (jS _)) (j9 (ji wL)) jA)
   (j4 (qi (xn (zR (je c_law_alike (hr.mono ⋯) rfl (j0 (pv 8) (j0 (jk Um (qt (xz K) rfl nb.b_tuple PyProof.Rows.boot_tuple (j0 (jH (osc:=(j7 vg)) (ON:=["_law_script","_law_box_here","_law_scene_here","_law_ice","_law_turn","_law_lane","_law_place","_law_year_here","_law_told","_law_own","_law_before","_law_lying","_law_spot_here"]) (N:=["_law_at","_law_before","_law_own"]) (own:=1) (caps:=[10,9]) ⟨rfl,∅,∅,∅,rfl,∅⟩ rfl rfl rfl (qc rfl nb.b_range (j0 j6 j2)) (λ_ _ _ _ _=>(ja (i:=0) (show List.Nodup (["_law_at","_law_before","_law_own"]:List Str) by decide +kernel) rfl (Or.inl rfl))) (λ_ _ _ _ _=>ju) (λ_ _ _ _ _=>(jk jG (js (qo K) (pv 1) (pv 0) (λ_ _=>rfl)) (js (qo K) (pv 2) (pv 0) (λ_ _=>rfl))))) j2)) (qx (j0 (js (qo K) (pv 9) j6 (λ_ _=>rfl)) j2))) j2))))) (j9 (ji wL)) jA)
   (j4 (jw 11 xq.nd j6)
   (j4 (xc PassesOwn.never rfl (qc rfl nb.b_range (j0 (jd (jm K) rfl nb.b_len PySem.boot_len (j0 (js (jh K) (qG (qQ hr) (pv 2) qh (λ_ _=>rfl)) (pv 5) (λ_ _=>rfl)) j2)) j2)) (ja (i:=12) xq.nd rfl (Or.inl rfl)) (j9 (jw 11 xq.nd (jk jG (pv 11) (jd (xO K rfl) rfl nb.b_sum boot_sum (j0 (jH (osc:=(j7 vg)) (ON:=["_law_script","_law_box_here","_law_scene_here","_law_ice","_law_turn","_law_lane","_law_place","_law_year_here","_law_told","_law_own","_law_before","_law_lying","_law_spot_here"]) (N:=["_law_when","_law_where","_law_many"]) (own:=3) (caps:=[]) ⟨rfl,∅,∅,∅,rfl,∅⟩ rfl rfl rfl (jM K (je c_pile.cal (hr.mono ⋯) rfl (j0 (pv 3) (j0 (pv 5) (j0 (pv 12) (j0 (pv 7) j2)))))) (λ_ _ _ _ _=>(qf (n:=3) K rfl (jg (ja (i:=0) (show List.Nodup (["_law_when","_law_where","_law_many"]:List Str) by decide +kernel) rfl (Or.inl rfl)) (jg (ja (i:=1) (show List.Nodup (["_law_when","_law_where","_law_many"]:List Str) by decide +kernel) rfl (Or.inl rfl)) (jg (ja (i:=2) (show List.Nodup (["_law_when","_law_where","_law_many"]:List Str) by decide +kernel) rfl (Or.inl rfl)) jY))))) (λ_ _ _ _ _=>ju) (λ_ _ _ _ _=>(pv 2))) j2))))))
   (j9 (qi (xn (zR (je c_law_alike (hr.mono ⋯) rfl (j0 (js (qo K) (pv 9) j6 (λ_ _=>rfl)) (j0 (pv 11) j2))))) (j9 (ji wL)) jA)))))))))))))
   (j9 (ji wL)))))),?_⟩
  left
  refine ⟨a,ns,rfl,hS,λL b H1 hb B1 s1=>?_⟩
  have T1:=T0.same s1
  left
  refine ⟨L,b,rfl,B1,λsd H2 c B2 X2 S2 O=>?_⟩
  have T2:=Wp B1 X2 T1
  left
  refine ⟨sd,b,c,rfl,S2,O,T2,λp H3 g I3 F3 R3 T3 er et es ek el ld ny nd=>?_⟩
  have W3:Lw C L b sd p c g H2 H3:=Lw.start S2 O B2 T2 I3 F3 R3
  have kk:Lk c g:=⟨er,et,es,ek,el,ld,ny,nd⟩
  clear I3 R3 T3 er et es ek el ld ny nd
  have hw1:1<=c.ws.length:=by
   rw [O.ro.length]
   exact JK (qk O.gr.ok) O.l1
  have hw6:c.ws.length<=6:=by rw [O.ro.length];exact O.gr.heads
  have hg30:∀w∈c.ws,1<=(jb c.rs w).length/\(jb c.rs w).length<=30:=λw hw=>⟨kD O.gr O.ro hw,(wF (O.gr.good O.l1 O.l8)).2.2.2 c.ws O.ro w hw⟩
  have hll:g.lds.length=g.slopes.length:=by rw [kk.ll,O.ldl,kk.sl,List.length_map]
  have t1:=O.t1
  have t2:=O.t2
  obtain ⟨wr,hwr⟩:=xR.of W3.S.sk
  have wgood:=hwr.good W3.S.sk
  have sgood:=λy=>Vu wgood O.tg t1 y
  have hzl:c.zs.length=c.ws.length:=(Paired.length W3.S.gi).trans (List.length_map _)
  have hsl:g.slopes.length=c.ws.length:=by rw [kk.sl,List.length_map]
  have hgd:∀{H':Hp},ScAt H' sd c->xY H' sd (.str "grounds") (some (.ref c.gl)):=λS'=>by rw [<- yt c.p c.q c.sg c.gl c.ll];exact xY.k (k:=.inr "grounds") S'.sd
  have k3:=O.k3
  have hwk:=hwr.keys
  have pileC:∀(H3:Hp) (l n y:Int) (wy:List Int) (da:Addr) (dn ms:List (Int×Int)) (Q':VK),Lw C L b sd p c g H2 H3->xR H3 c.sk wr->LaneF c g l wy da dn->ms.Perm dn->(ms.map (·.1)).Pairwise (· <= ·)->0<=n->n<((jb c.rs wy).length:Int)->0<=y->y<=10 ^ 40->(∀o out rs H4,H3 o=none->H4 o=some (.lst out)->jC H4 out rs->zO rs->jt rs=vE ((xp ms (jb c.rs wy) wr c.ts (y+jv dn y-n)).take ((y-jn 0 0 ms (y+jv dn y-n)).toNat+1))->(jt rs).length<=900->jf H3 H4->Q' (.ref o) H4)->Zp C [.ref p,.int l,.int n,.int y] H3 Q' E0:=λH3 l n y wy da dn ms Q' W' hw' LF hp hs n0 n1 y0 y1 kq=>by
   have g30:=LF.g30
   refine ⟨p,g,l,n,y,c.sk,wr,rfl,W'.I,hll,kk.kv,hw',by rw [kk.rows];exact t1,by rw [kk.rows];omega,by rw [kk.rows];exact sgood,LF.l0,LF.l1,n0,by rw [LF.sl];exact n1,y0,y1,dn,ms,LF.at_,(λq hq=>(LF.pos q hq).1),by rw [LF.sl];omega,hp,hs,λL' i eL ei=>?_⟩
   rw [LF.sl,kk.rows] at eL
   subst eL ei
   exact kq
  have soC:∀(H3:Hp) (l:Int) (y:Nat) (wy:List Int) (da:Addr) (dn ms:List (Int×Int)) (Q':VK),Lw C L b sd p c g H2 H3->xR H3 c.sk wr->LaneF c g l wy da dn->ms.Perm dn->(ms.map (·.1)).Pairwise (· <= ·)->(∀z,0<=jL ms z)->(y:Int)<=10 ^ 40->(∀t H4,H3 t=none->H4 t=some (.tup [.int (za (λi=>jJ 0 (jr ms (jb c.rs wy) wr c.ts 0 i)) (y+1)),.int (za (λi=>jJ 1 (jr ms (jb c.rs wy) wr c.ts 0 i)) (y+1)),.int (za (λi=>jJ 2 (jr ms (jb c.rs wy) wr c.ts 0 i)) (y+1)),.int (qS ms (jb c.rs wy) wr c.ts 0 (y+1)).sum])->jf H3 H4->Q' (.ref t) H4)->wU C [.ref p,.int l,.int (y:Int)] H3 Q' E0:=λH3 l y wy da dn ms Q' W' hw' LF hp hs hv y1 kq=>by
   have g30:=LF.g30
   have g1:=LF.g1
   obtain ⟨M,hM1,hMi,hMa⟩:=Yl (c.sk.map (·.1)++dn.map (·.1)) λx hx=>by
    rcases List.mem_append.mp hx with h | h
    ·obtain ⟨z,hz,rfl⟩:=List.mem_map.mp h
     exact (O.k2 z hz).1
    ·obtain ⟨z,hz,rfl⟩:=List.mem_map.mp h
     exact (LF.b z hz).1
   have hMs:∀z∈c.sk,z.1<=M:=λz hz=>hMa _ (List.mem_append_left _ (List.mem_map_of_mem hz))
   have hMd:∀q∈dn,q.1<=M:=λz hz=>hMa _ (List.mem_append_right _ (List.mem_map_of_mem hz))
   have hMi:M = -1\/M∈c.sk.map (·.1)\/M∈dn.map (·.1):=hMi.imp id List.mem_append.mp
   have hM99:M<=99:=by
    rcases hMi with h | h | h
    ·omega
    ·obtain ⟨z,hz,rfl⟩:=List.mem_map.mp h
     exact (O.k2 z hz).2
    ·obtain ⟨z,hz,rfl⟩:=List.mem_map.mp h
     have:=LF.b z hz
     omega
   have hMw:∀q∈wr,q.1<=M:=λq hq=>by
    have:q.1∈c.sk.map (·.1):=by rw [<- hwk];exact List.mem_map_of_mem hq
    obtain ⟨z,hz,e⟩:=List.mem_map.mp this
    rw [<- e]
    exact hMs z hz
   refine ⟨p,g,l,y,M,c.sk,wr,dn,ms,jb c.rs wy,rfl,W'.I,Paired.length W'.I.rows,hll,kk.kv,(),(λz hz=>(O.k2 z hz).1),hw',by rw [kk.rows];exact t1,by rw [kk.rows];omega,by rw [kk.rows];exact sgood,LF.at_,(λq hq=>(LF.b q hq).1),hp,hs,LF.sl,LF.g1,(),hM1,hMi,hMs,hMd,hM99,(),y1,λt H' st' rows' e1 e2=>?_⟩
   rw [kk.rows] at *
   obtain ⟨q1,q2⟩:=YA (wr:=wr) (ts:=c.ts) hv g1 (λq hq=>hMd q (hp.mem_iff.mp hq)) hMw hM1 t1 e1 y
   rw [e2,q1,q1,q1,q2]
   exact kq t H'
  left
  refine ⟨λσ H9=>True,?_,?_⟩
  ·left
   refine ⟨⋯,⋯,?_⟩
   refine xw (λi σ H4=>∃v4 v5 v6 v7 v8 v9 v10 v11 v12:Option V,σ=[some (.ref a),some (.ref b),some (.ref sd),some (.ref p),v4,v5,v6,v7,v8,v9,v10,v11,v12]/\Lw C L b sd p c g H2 H4/\xR H4 c.sk wr) ?_ ?_ ?_
   ·exact ⟨_,_,_,_,_,_,_,_,_,rfl,W3,hwr⟩
   ·clear W3 hwr
    rintro i σ H4 hi ⟨v4,v5,v6,v7,v8,v9,v10,v11,v12,rfl,W4,hw4⟩
    left
    refine ⟨L,b,sd,c,rfl,W4.B,W4.S,O,hw1,hw6,hg30,λln n wy t H5 ln0 ln1 hwy n0 n1 B5 X5 ht ht5=>?_⟩
    have W5:=W4.take B5 X5
    have hw5:=hw4.keep (zp W4.B X5)
    clear W4 hw4
    obtain ⟨wy',da,dn,LF⟩:=kk.lane O ln0 ln1
    obtain rfl:wy'=wy:=Option.some.inj (LF.way.symm.trans hwy)
    obtain ⟨ms,hp,hs⟩:=J6 dn
    have l10:=LF.l10
    have g30:=LF.g30
    have g1:=LF.g1
    have hv:∀z,0<=jL ms z:=λz=>(wX (λq hq=>by have:=LF.b q (hp.mem_iff.mp hq);omega) z).1
    left
    refine ⟨t,_,rfl,SqT.of ht5,rfl,?_⟩
    refine ⟨_,_,rfl,_,_,rfl,rfl,?_⟩
    left
    refine ⟨L,b,rfl,W5.B,λy1 H6 y10 y11 B6 X6=>?_⟩
    have W6:=W5.take B6 X6
    have hw6':=hw5.keep (zp W5.B X6)
    clear W5 hw5
    left
    refine ⟨L,b,rfl,W6.B,λy2 H7 y20 y21 B7 X7=>?_⟩
    have W7:=W6.take B7 X7
    have hw7:=hw6'.keep (zp W6.B X7)
    clear W6 hw6'
    left
    refine ⟨by show 3<=sizeLine;decide,λyl H8 hyl hyl8 s8=>?_⟩
    left
    refine ⟨L,b,_,rfl,W7.B.same s8,⟨⋯,⋯⟩,λyv H9 yv0 yv1 B9 X9=>?_⟩
    have W9:=(W7.same s8).take B9 X9
    have hw9:=(hw7.keep (jj.same s8)).keep (zp (W7.B.same s8) X9)
    obtain ⟨y,ey,hyD⟩:=Wr yv0 yv1 ⟨y10,y11⟩ ⟨y20,y21⟩
    refine ⟨_,_,_,_,rfl,rfl,SqL.of (X9 _ _ hyl8 (W7.B.ne hyl)),ey,?_⟩
    clear W7 hw7 hyl8 ey
    have soD:∀(H3:Hp) (y:Nat) (Q':VK),jf H9 H3->(y:Int)<=10 ^ 40->_->wU C [.ref p,.int ln,.int (y:Int)] H3 Q' E0:=λH3 y Q' s3 y1 kq=>soC H3 ln y wy' da dn ms Q' (W9.same s3) (hw9.keep (jj.same s3)) LF hp hs hv y1 kq
    have hK:=YM ms (jb c.rs wy') wr c.ts (y+1)
    have hS:=λj=>wd (λi=>jJ j (jr ms (jb c.rs wy') wr c.ts 0 i)) y
    have hD:(jr ms (jb c.rs wy') wr c.ts 0 y).2.2.2=qS ms (jb c.rs wy') wr c.ts 0 (y+1):=rfl
    have hS0:∀j,za (λi=>jJ j (jr ms (jb c.rs wy') wr c.ts 0 i)) 0=0:=λj=>rfl
    clear soC
    left
    simp only [JZ,List.append_nil]
    refine soD H9 y _ (jf.refl _) hyD λf1 H10 hf1 hf10 s10=>?_
    left
    simp only [JZ,List.append_nil]
    refine ⟨p,g,ln,(y:Int),c.sk,wr,dn,ms,jb c.rs wy',rfl,(W9.same s10).I,hll,kk.kv,hw9.keep (jj.same s10),by rw [kk.rows];exact t1,by rw [kk.rows];omega,by rw [kk.rows];exact sgood,LF.at_,hp,hs,LF.sl,g1,(),(),hyD,λf2 q H11 eq hf2 hf21 s11=>?_⟩
    rw [kk.rows,Int.toNat_natCast] at eq
    rw [<- eq] at hD
    rw [hD] at hf21
    have hf11:=s11 _ _ hf10
    have s911:=s10.trans s11
    left
    refine ⟨by show 4<=sizeLine;decide,λz0 H12 hz0 hz02 s12=>?_⟩
    left
    refine ⟨λσ H13=>∃(f3:Addr) (x:V),σ=[some (.ref a),some (.ref b),some (.ref sd),some (.ref p),some (.int (0+(i:Int))),some (.int ln),some (.int n),some (.int (y:Int)),some (.ref f1),some (.ref f2),some (.ref f3),v11,v12]/\H13 f3=some (.tup [.int (za (λi=>jJ 0 (jr ms (jb c.rs wy') wr c.ts 0 i)) y),.int (za (λi=>jJ 1 (jr ms (jb c.rs wy') wr c.ts 0 i)) y),.int (za (λi=>jJ 2 (jr ms (jb c.rs wy') wr c.ts 0 i)) y),x])/\jf H12 H13,?_,?_⟩
    ·left
     refine qT (λz=>?_) (λz=>?_)
     ·obtain ⟨y',rfl⟩:∃y',y=y'+1:=⟨y-1,()⟩
      left
      simp only [JZ,List.append_nil]
      rw [show ((y'+1:Nat):Int)-1=(y':Int) by omega]
      refine soD H12 y' _ (s911.trans s12) () λf3 H13 hf3 hf33 s13=>?_
      left
      exact ⟨f3,_,rfl,hf33,s13⟩
     ·obtain rfl:y=0:=()
      left
      exact ⟨z0,_,rfl,by rw [hS0,hS0,hS0];exact hz02,jf.refl _⟩
    rintro σ H13 ⟨f3,x,rfl,hf33,s13⟩
    have s1113:=s12.trans s13
    have hf13:=s1113 _ _ hf11
    have hf23:=s1113 _ _ hf21
    have W13:=W9.same (s911.trans s1113)
    have hw13:=hw9.keep (jj.same (s911.trans s1113))
    have eP:∀j,jJ j (jr ms (jb c.rs wy') wr c.ts 0 y)=jJ j q:=λj=>by rw [eq]
    rw [hS,hS,hS,eP,eP,eP] at hf13 hK
    have hf23:H13 f2=some (.tup [.int (jJ 0 q),.int (jJ 1 q),.int (jJ 2 q),.int (qS ms (jb c.rs wy') wr c.ts 0 (y+1)).sum]):=hf23
    clear hS hS0 eP soD W9 hw9 hf10 hf21 hf11 hz02 eq
    have hdl:=qA ms (jb c.rs wy') wr c.ts 0 (y+1)
    have hdp:∀{j:Nat} {rs:List T3},j<(jb c.rs wy').length->zO rs->jt rs=vE ((xp ms (jb c.rs wy') wr c.ts ((y:Int)+jv dn (y:Int)-(j:Int))).take (((y:Int)-jn 0 0 ms ((y:Int)+jv dn (y:Int)-(j:Int))).toNat+1))->(qS ms (jb c.rs wy') wr c.ts 0 (y+1))[j]? = some (rs.map (·.2.2)).sum:=λhj gr e=>Zh hp hs LF.nd LF.pos hv hj gr e
    generalize qS ms (jb c.rs wy') wr c.ts 0 (y+1)=dep at *
    generalize eA:(λj=>za (λi=>jJ j (jr ms (jb c.rs wy') wr c.ts 0 i)) y)=A at *
    have eA':∀j,za (λi=>jJ j (jr ms (jb c.rs wy') wr c.ts 0 i)) y=A j:=λj=>by rw [<- eA]
    rw [eA',eA',eA'] at hf13 hf33 hK
    generalize eB:(λj=>jJ j q)=B at *
    have eB':∀j,jJ j q=B j:=λj=>by rw [<- eB]
    rw [eB',eB',eB'] at hf13 hf23 hK
    clear eA eA' eB eB' hD
    left
    refine yb (λz=>absurd (congrArg V.int hK) z) (λ_=>?_)
    left
    refine ⟨⋯,⋯,λacc hacc=>?_⟩
    refine qB (lo:=0) (n:=(3:Int).toNat) (acc:=acc) (λj σ H5=>∃x:Option V,σ=[x,some (.ref f3),some (.ref f2)]/\H5 acc=some (.lst ((List.range j).map λk=>V.int (A k+B k)))/\Ext acc H13 H5) ?_ ?_ ?_
    ·exact ⟨none,rfl,j5,Ext.put⟩
    ·rintro j σ H5 hj ⟨x,rfl,h5,e5⟩
     have hj3:j<3:=hj
     have s5:jf H13 H5:=λc o hc=>e5 c o hc (j1 hc hacc)
     left
     refine ⟨_,_,_,_,rfl,rfl,SqT.of (s5 _ _ hf33),at4 A _ hj3,?_⟩
     left
     refine ⟨_,_,_,_,rfl,rfl,SqT.of (s5 _ _ hf23),at4 B _ hj3,?_⟩
     left
     refine ⟨_,h5,by rw [List.length_map,List.length_range];exact jc (),_,rfl,?_,e5.trans Ext.put⟩
     rw [j5,List.range_succ,List.map_append]
     rfl
    rintro σ H14 ⟨x',rfl,h14,e14⟩
    have s14:jf H13 H14:=λc o hc=>e14 c o hc (j1 hc hacc)
    have h14:H14 acc=some (.lst [.int (A 0+B 0),.int (A 1+B 1),.int (A 2+B 2)]):=h14
    refine ⟨acc,_,rfl,SqL.of h14,λu1 H15 hu1 hu15 s15=>?_⟩
    left
    refine ⟨_,_,_,_,rfl,rfl,SqT.of ((s14.trans s15) _ _ hf23),rfl,?_⟩
    left
    refine ⟨by show 1<=sizeLine;decide,λu2 H16 hu2 hu26 s16=>?_⟩
    refine ⟨u1,u2,_,_,rfl,rfl,s16 _ _ hu15,hu26,by show 4<=sizeLine;decide,λu3 H17 s17 hu37=>?_⟩
    left
    have s1317:=s14.trans (s15.trans (s16.trans s17))
    refine ⟨_,_,.tuple [.int (A 0+B 0),.int (A 1+B 1),.int (A 2+B 2),.int dep.sum],rfl,.tup (s1317 _ _ hf13) (.cons (.int _) (.cons (.int _) (.cons (.int _) (.cons (.int _) .nil)))),.tup hu37 (.cons (.int _) (.cons (.int _) (.cons (.int _) (.cons (.int _) .nil)))),rfl,λH18 s18=>?_⟩
    have sB:=s1317.trans s18
    have W18:=W13.same sB
    have hw18:=hw13.keep (jj.same sB)
    have hf28:=sB _ _ hf23
    clear W13 hw13
    have hi':ln.toNat<c.zs.length:=()
    obtain ⟨gw,hgw,ga,ega,hga⟩:=Paired.get W18.S.gi (List.getElem?_eq_getElem hi')
    rw [List.getElem?_map,LF.way] at hgw
    have hgw:=Option.some.inj hgw
    subst hgw
    left
    refine ⟨sd,.ref c.gl,rfl,hgd W18.S,?_⟩
    left
    refine ⟨_,_,_,_,rfl,rfl,SqL.of W18.S.gl,xM ln0 (v:=V.ref ga) (by rw [List.getElem?_eq_getElem hi',ega]),?_⟩
    left
    refine ⟨ga,_,rfl,.inl (SqL.of hga),?_⟩
    rw [List.length_map]
    left
    refine ⟨(),(),?_⟩
    refine xw (λj σ H19=>∃v12':Option V,σ=[some (.ref a),some (.ref b),some (.ref sd),some (.ref p),some (.int (0+(i:Int))),some (.int ln),some (.int n),some (.int (y:Int)),some (.ref f1),some (.ref f2),some (.ref f3),some (.int (dep.take j).sum),v12']/\jf H18 H19) ?_ ?_ ?_
    ·exact ⟨_,rfl,jf.refl _⟩
    ·rintro j σ H19 hj ⟨v12',rfl,s19⟩
     have hj':j<(jb c.rs wy').length:=by rw [Int.toNat_natCast] at hj;exact hj
     left
     simp only [JZ,List.append_nil]
     rw [show (0:Int)+(j:Int)=(j:Int) by omega]
     refine pileC H19 ln (j:Int) (y:Int) wy' da dn ms _ (W18.same s19) (hw18.keep (jj.same s19)) LF hp hs () () () hyD λo1 out1 rs1 H20 ho1 ho10 r1 gr e1 k1 s20=>?_
     have hd:=hdp hj' gr e1
     have hl1:=uP gr
     have hms:=kP gr.1
     have hol1:out1.length=rs1.length:=Paired.length r1
     have hrb:∀r∈rs1,1<=r.2.2/\r.2.2<=900:=λr hr=>⟨gr.1 r hr,by
      have:=Ye gr.1 hr
      omega⟩
     left
     refine ⟨⟨_,SqL.of ho10⟩,λac2 hac2=>?_⟩
     refine jP (K:=K) (a:=o1) (xs:=out1) (acc:=ac2) (λm σ H21=>∃x0 x1 x2:Option V,σ=[x0,x1,x2]/\H21 ac2=some (.lst (((rs1.take m).map (·.2.2)).map V.int))/\Ext ac2 H20 H21) ?_ ?_ ?_ ?_
     ·exact ⟨none,none,none,rfl,j5,Ext.put⟩
     ·rintro m σ H21 hm ⟨x0,x1,x2,rfl,h21,e21⟩
      exact SqL.of (e21 _ _ ho10 (j1 ho10 hac2))
     ·rintro m v σ H21 hm ⟨x0,x1,x2,rfl,h21,e21⟩
      obtain ⟨r,hr',bq,rfl,hbq⟩:=Paired.get r1 hm
      have hmi:=(List.getElem?_eq_some_iff.mp hr').1
      have hbq':=e21 _ _ hbq (j1 hbq hac2)
      left
      refine ⟨bq,_,rfl,SqT.of hbq',rfl,?_⟩
      refine ⟨_,_,rfl,_,_,rfl,_,_,rfl,rfl,?_⟩
      left
      refine ⟨_,h21,by rw [List.length_map,List.length_map,List.length_take];exact jc (),_,_,_,rfl,?_,e21.trans Ext.put⟩
      rw [j5,List.take_add_one,hr',List.map_append,List.map_append]
      rfl
     rintro σ H21 ⟨x0,x1,x2,rfl,h21,e21⟩
     have s21:jf H20 H21:=λc o hc=>e21 c o hc (j1 hc hac2)
     rw [hol1,List.take_length] at h21
     left
     refine ⟨ac2,_,rfl,SqL.of h21,by rw [List.length_map];omega,λx hx=>?_,?_⟩
     ·obtain ⟨r,hr',rfl⟩:=List.mem_map.mp hx
      have:=hrb r hr'
      omega
     left
     have es:(dep.take (j+1)).sum=(dep.take j).sum+(rs1.map (·.2.2)).sum:=by
      rw [List.take_add_one,hd,List.sum_append]
      show _+(_+0)=_
      omega
     rw [es]
     exact ⟨_,rfl,s19.trans (s20.trans s21)⟩
    ·rintro σ H19 ⟨v12',rfl,s19⟩
     rw [Int.toNat_natCast,<- hdl,List.take_length]
     left
     refine ⟨_,_,_,_,rfl,rfl,SqT.of (s19 _ _ hf28),rfl,?_⟩
     left
     refine ⟨_,_,.int dep.sum,rfl,.int _,.int _,rfl,λH20 s20=>?_⟩
     left
     have sC:=s19.trans s20
     exact ⟨_,_,_,_,_,_,_,_,_,rfl,W18.same sC,hw18.keep (jj.same sC)⟩
   ·rintro σ H9 ⟨v4,v5,v6,v7,v8,v9,v10,v11,v12,rfl,W9,hw9⟩
    trivial
  ·rintro σ H9 _
   left
   exact k H9
end
local macro_rules | `(tactic| walk_at "1")=>`(tactic| exact fun _ _ _ _ _ _ _ hl=>bnd1 hl fun _=>rfl)
local macro_rules | `(tactic| walk_at "2")=>`(tactic| exact fun _ _ _ _ _ _ _ hl=>bnd2 hl fun _ _=>rfl)
local macro_rules | `(tactic| walk_at "3")=>`(tactic| exact fun _ _ _ _ _ _ _ hl=>bnd3 hl fun _ _ _=>rfl)
local macro_rules | `(tactic| walk_at "4")=>`(tactic| exact fun _ _ _ _ _ _ _ hl=>bnd4 hl fun _ _ _ _=>rfl)
local macro_rules | `(tactic| walk_at "5")=>`(tactic| exact fun _ _ _ _ _ _ _ hl=>bnd5 hl fun _ _ _ _ _=>rfl)
local macro_rules | `(tactic| walk_at "6")=>`(tactic| exact fun _ _ _ _ _ _ _ hl=>bnd6 hl fun _ _ _ _ _ _=>rfl)
theorem Gn {l:PySem.W.OpenLaw}{w:World}{K:PySem.W.Frag}{h:Heap}{mg:Str->Option Value}{fa:Addr}(X:K.In h) (G:h.Ns mainGlobals mg) (hfa:mg "law" = some (.ref fa))
  {CI:Addr}
  {C0:Addr}
  {C1:Addr}
  {C2:Addr}
  {C3:Addr}
  {C4:Addr}
  {C5:Addr}
  {C6:Addr}
  {u0:Tok}
  {u1:Tok}
  {u2:Tok}
  {u3:Tok}
  {u4:Tok}
  {u5:Tok}
  {u6:Tok}
  {u7:Tok}
  {u8:Tok}
  {u9:Tok}
  {u10:Tok}
  (aCI:PySem.W.nsIn K mainGlobals "Ice" = some (some (.ref CI))) (pgI:PySem.W.plainGet K CI Str.empty=true) (hdI:PySem.W.hasDictIn K CI=true) (poI:PySem.W.plainOver K CI=true) (saI:PySem.W.findIn K (.ref CI) "__setattr__" = some (some (.builtin "object.__setattr__"))) (mkI:PySem.W.makesIn K CI=true) (kcI:PySem.W.keepIn K (.ref CI)=true)
  (na0:PySem.W.findIn K (.ref CI) "valley" = some none)
  (na1:PySem.W.findIn K (.ref CI) "cycle" = some none)
  (na2:PySem.W.findIn K (.ref CI) "slopes" = some none)
  (na3:PySem.W.findIn K (.ref CI) "years" = some none)
  (na4:PySem.W.findIn K (.ref CI) "leaps" = some none)
  (a1:gN K "leads_on" vK)
  (a2:gN K "is_reach" yq)
  (a3:gN K "way_down" vU)
  (a4:PySem.W.nsIn K mainGlobals "lanes" = some (some (.ref f4))) (l4:K.lookup f4=some ⟨oc4,od4,.func (PySem.W.fnOf "lanes" "lanes" (qd qZ) (jV qZ) (j7 qZ) .none kV4 dc4 pm4 an4 (.ref cL) ct4),sl4⟩) (c4:PySem.W.codeIn K (.ref cL) "lanes" = true) (k4:PySem.W.keepIn K (.ref f4)=true) (hdL:PySem.W.codeHdIn K cL 142=true)
  (a5:gN K "way_of" gY)
  (a6:gN K "count_places" xF)
  (a7:gN K "fits" JT)
  (a8:gN K "is_valley" zL)
  (a9:gN K "heights" vt)
  (a10:gN K "is_weather" ym)
  (a11:gN K "change" kF)
  (a12:gN K "is_round" yj)
  (a13:gN K "check_round" y3)
  (a14:gN K "check_told" yx)
  (a15:gM K CI "__init__" "Ice.__init__" qP)
  (a16:gM K CI "check_lane" "Ice.check_lane" xH)
  (a17:gM K CI "check_place" "Ice.check_place" xo)
  (a18:gM K CI "length" "Ice.length" zY)
  (a19:gM K CI "height" "Ice.height" zS)
  (a20:gM K CI "sky" "Ice.sky" vV)
  (a21:gM K CI "tell" "Ice.tell" yJ)
  (a22:gM K CI "surge" "Ice.surge" yn)
  (a23:gM K CI "surges" "Ice.surges" xU)
  (a24:gN K "check_asked" zV)
  (a25:gM K CI "rows" "Ice.rows" yS)
  (a26:gM K CI "told" "Ice.told" zD)
  (a27:gN K "settled" yd)
  (a28:gN K "course" xE)
  (a29:gN K "total" wV)
  (a30:gN K "so_far" uc)
  (a31:gN K "year_row" vZ)
  (a32:gN K "sums" ZC)
  (a33:gN K "laid" ZG)
  (a34:gN K "taken" Qi)
  (a35:gN K "ride_by" vv)
  (a36:gN K "earliest" vI)
  (a37:gN K "span" Z6)
  (a38:gN K "ridden" gU)
  (a39:gN K "life" XM)
  (a40:gN K "parted" kE)
  (a41:gN K "pile" XW)
  (a42:gN K "_law_box" uV)
  (a43:gN K "_law_mixed" yQ)
  (a44:gN K "_law_take" vM)
  (a45:gN K "_law_whole" yY)
  (a46:gN K "_law_alike" zh)
  (a49:gN K "_law_far" uX)
  (a50:gN K "_law_weather" zT)
  (a51:gN K "_law_round" zN)
  (a52:gN K "_law_ground_drawn" qu)
  (a53:gN K "_law_reaches" xj)
  (a54:gN K "_law_roads" zc)
  (a55:gN K "_law_ground" yi)
  (a56:gN K "_law_year" vP)
  (a57:gN K "_law_scene" zd)
  (a58:gN K "_law_made" vW)
  (a59:gN K "_law_spot" ua)
  (a60:PySem.W.nsIn K mainGlobals "law" = some (some (.ref f60))) (l60:K.lookup f60=some ⟨oc60,od60,.func (PySem.W.fnOf "law" "law" (qd vg) (jV vg) (j7 vg) .none kV60 dc60 pm60 an60 cd60 ct60),sl60⟩) (c60:PySem.W.codeIn K cd60 "law" = true) (k60:PySem.W.keepIn K (.ref f60)=true)
  (ec0:gE K "BadValley" C0)
  (ec1:gE K "BadRound" C1)
  (ec2:gE K "NoLane" C2)
  (ec3:gE K "BadYear" C3)
  (ec4:gE K "BadWeather" C4)
  (ec5:gE K "BadSurge" C5)
  (ec6:gE K "NoPlace" C6)
  (z0:PySem.W.nsIn K mainGlobals "len" = some none)
  (z1:PySem.W.nsIn K mainGlobals "range" = some none)
  (z2:PySem.W.nsIn K mainGlobals "isinstance" = some none)
  (z3:PySem.W.nsIn K mainGlobals "int" = some none)
  (z4:PySem.W.nsIn K mainGlobals "bool" = some none)
  (z5:PySem.W.nsIn K mainGlobals "str" = some none)
  (z6:PySem.W.nsIn K mainGlobals "list" = some none)
  (z7:PySem.W.nsIn K mainGlobals "tuple" = some none)
  (z8:PySem.W.nsIn K mainGlobals "min" = some none)
  (z9:PySem.W.nsIn K mainGlobals "max" = some none)
  (z10:PySem.W.nsIn K mainGlobals "all" = some none)
  (z11:PySem.W.nsIn K mainGlobals "zip" = some none)
  (z12:PySem.W.nsIn K mainGlobals "enumerate" = some none)
  (z13:PySem.W.nsIn K mainGlobals "sorted" = some none)
  (z14:PySem.W.nsIn K mainGlobals "sum" = some none)
  (z15:PySem.W.nsIn K mainGlobals "dict" = some none)
  (q0:PySem.W.nsIn K mainGlobals "MOST_REACHES" = some (some (.int 8 u0)))
  (q1:PySem.W.nsIn K mainGlobals "MOST_HEIGHTS" = some (some (.int 12 u1)))
  (q2:PySem.W.nsIn K mainGlobals "GREATEST_HEIGHT" = some (some (.int 99 u2)))
  (q3:PySem.W.nsIn K mainGlobals "MOST_LANES" = some (some (.int 6 u3)))
  (q4:PySem.W.nsIn K mainGlobals "LONGEST_LANE" = some (some (.int 30 u4)))
  (q5:PySem.W.nsIn K mainGlobals "HIGHEST_LINE" = some (some (.int 100 u5)))
  (q6:PySem.W.nsIn K mainGlobals "MOST_HANDS" = some (some (.int 9 u6)))
  (q7:PySem.W.nsIn K mainGlobals "MOST_ROWS" = some (some (.int 12 u7)))
  (q8:PySem.W.nsIn K mainGlobals "LAST_TOLD" = some (some (.int 99 u8)))
  (q9:PySem.W.nsIn K mainGlobals "LAST_ASKED" = some (some (.int 10000000000000000000000000000000000000000 u9)))
  (q10:PySem.W.nsIn K mainGlobals "GREATEST_SURGE" = some (some (.int 9 u10)))
  : ∃fd:FuncData,(∀(s:Shared) (v:Value),BindsTo s fd ⟨[v],[]⟩ [("_law_script",v)])/\∀base:Heap,K.In base->base.Ns mainGlobals mg->Bm mg base->FnOk l.prog w K mg base CX0 11 fa fd ["_law_script"] (XX K 142):=by
 have e:=hfa.symm.trans (PySem.W.mg_of X G a60)
 cases e
 have nb:Nb2 mg:={ b_len:=PySem.W.mg_none_of X G z0,b_range:=PySem.W.mg_none_of X G z1,b_isinstance:=PySem.W.mg_none_of X G z2,b_int:=PySem.W.mg_none_of X G z3,b_bool:=PySem.W.mg_none_of X G z4,b_str:=PySem.W.mg_none_of X G z5,b_list:=PySem.W.mg_none_of X G z6,b_tuple:=PySem.W.mg_none_of X G z7,b_min:=PySem.W.mg_none_of X G z8,b_max:=PySem.W.mg_none_of X G z9,b_all:=PySem.W.mg_none_of X G z10,b_zip:=PySem.W.mg_none_of X G z11,b_enumerate:=PySem.W.mg_none_of X G z12,b_sorted:=PySem.W.mg_none_of X G z13,b_sum:=PySem.W.mg_none_of X G z14 }
 have b_dict:=PySem.W.mg_none_of X G z15
 have g_MOST_REACHES:=PySem.W.mg_of X G q0
 have g_MOST_HEIGHTS:=PySem.W.mg_of X G q1
 have g_GREATEST_HEIGHT:=PySem.W.mg_of X G q2
 have g_MOST_LANES:=PySem.W.mg_of X G q3
 have g_LONGEST_LANE:=PySem.W.mg_of X G q4
 have g_HIGHEST_LINE:=PySem.W.mg_of X G q5
 have g_MOST_HANDS:=PySem.W.mg_of X G q6
 have g_MOST_ROWS:=PySem.W.mg_of X G q7
 have g_LAST_TOLD:=PySem.W.mg_of X G q8
 have g_LAST_ASKED:=PySem.W.mg_of X G q9
 have g_GREATEST_SURGE:=PySem.W.mg_of X G q10
 have e_BadValley:=PySem.W.mg_of X G ec0.e
 have x_BadValley:=ec0.x
 have e_BadRound:=PySem.W.mg_of X G ec1.e
 have x_BadRound:=ec1.x
 have e_NoLane:=PySem.W.mg_of X G ec2.e
 have x_NoLane:=ec2.x
 have e_BadYear:=PySem.W.mg_of X G ec3.e
 have x_BadYear:=ec3.x
 have e_BadWeather:=PySem.W.mg_of X G ec4.e
 have x_BadWeather:=ec4.x
 have e_BadSurge:=PySem.W.mg_of X G ec5.e
 have x_BadSurge:=ec5.x
 have e_NoPlace:=PySem.W.mg_of X G ec6.e
 have x_NoPlace:=ec6.x
 have cl_Ice:Cls K CI:=⟨pgI,hdI,poI,saI⟩
 have T_Ice:IceC K CI:=⟨cl_Ice,na0,na1,na2,na3,na4⟩
 refine ⟨PySem.W.fnOf "law" "law" (qd vg) (jV vg) (j7 vg) .none kV60 dc60 pm60 an60 cd60 ct60,λs v=>.of_eq rfl,λbase hKb _ hBm=>?_⟩
 have CH:=PySem.W.codeHd_of_K hKb hdL
 have z:Zt l.prog w K mg base:=⟨X,G⟩
 have c_leads_on:=a1.cal z (by walk_at "2") (Xr)
 have c_is_reach:=a2.cal z (by walk_at "2") (Qx nb g_MOST_HEIGHTS g_GREATEST_HEIGHT c_leads_on)
 have c_way_down:=a3.cal z (by walk_at "2") (QN nb)
 have c_lanes:Cal l.prog w K mg base 5 "lanes" ["reaches"] (uU K 142):=Cal.mkC (st:=qZ) X G a4 l4 c4 k4 (by walk_at "1") (VM nb c_way_down CH hBm l4 c4)
 have c_way_of:=a5.calX z (by walk_at "2") (Yw nb e_NoLane x_NoLane c_lanes)
 have c_count_places:=a6.cal z (by walk_at "2") (wQ nb)
 have c_fits:=a7.cal z (by walk_at "2") (WC nb g_MOST_LANES g_LONGEST_LANE c_count_places)
 have c_is_valley:=a8.cal z (by walk_at "1") (Qm nb g_MOST_REACHES c_is_reach c_lanes c_fits)
 have c_heights:=a9.calX z (by walk_at "2") (Z8 nb c_way_of)
 have c_is_weather:=a10.cal z (by walk_at "1") (Je g_HIGHEST_LINE g_MOST_HANDS)
 have c_change:=a11.cal z (by walk_at "2") (YD)
 have c_is_round:=a12.cal z (by walk_at "1") (QL nb.toNb g_MOST_ROWS c_is_weather)
 have c_check_round:=a13.calX z (by walk_at "1") (kz nb e_BadRound x_BadRound c_is_round)
 have c_check_told:=a14.calX z (by walk_at "1") (Ja g_LAST_TOLD e_BadYear x_BadYear)
 have c_Ice:=a15.mak z mkI kcI aCI (by walk_at "3") (w5 nb T_Ice e_BadValley x_BadValley c_is_valley c_check_round c_lanes c_heights.cal)
 have c_Ice__check_lane:=a16.calX z (by walk_at "2") (vH nb T_Ice e_NoLane x_NoLane)
 have c_Ice__check_place:=a17.calX z (by walk_at "3") (vA nb T_Ice e_NoPlace x_NoPlace cl_Ice c_Ice__check_lane)
 have c_Ice__length:=a18.calX z (by walk_at "2") (gP nb T_Ice cl_Ice c_Ice__check_lane)
 have c_Ice__height:=a19.calX z (by walk_at "3") (kQ nb T_Ice cl_Ice c_Ice__check_place)
 have c_Ice__sky:=a20.cal z (by walk_at "2") (Xl nb T_Ice)
 have c_Ice__tell:=a21.calX z (by walk_at "3") (JY nb T_Ice e_BadWeather x_BadWeather c_check_told c_is_weather)
 have c_Ice__surge:=a22.calX z (by walk_at "4") (J4 nb T_Ice cl_Ice g_GREATEST_SURGE e_BadSurge x_BadSurge c_Ice__check_lane c_check_told)
 have c_Ice__surges:=a23.calX z (by walk_at "2") (gR nb T_Ice cl_Ice c_Ice__check_lane)
 have c_check_asked:=a24.calX z (by walk_at "1") (gp g_LAST_ASKED e_BadYear x_BadYear)
 have c_Ice__rows:=a25.cal z (by walk_at "1") (Qu nb T_Ice)
 have c_Ice__told:=a26.cal z (by walk_at "1") (Qd nb T_Ice)
 have c_settled:=a27.calX z (by walk_at "2") (XO nb cl_Ice c_Ice__told c_Ice__surges c_Ice__length)
 have c_course:=a28.calX z (by walk_at "4") (V3 nb b_dict cl_Ice c_Ice__surges c_Ice__length c_change c_Ice__sky c_Ice__height)
 have c_total:=a29.cal z (by walk_at "2") (VD nb)
 have c_so_far:=a30.calX z (by walk_at "3") (Yz nb cl_Ice c_Ice__check_lane c_check_asked c_settled c_Ice__rows c_course c_total)
 have c_year_row:=a31.calX z (by walk_at "3") (QB nb cl_Ice c_Ice__length c_course)
 have c_sums:=a32.calX z (by walk_at "3") (WL nb cl_Ice c_Ice__check_lane c_check_asked c_year_row)
 have c_laid:=a33.cal z (by walk_at "2") (Wb nb)
 have c_taken:=a34.cal z (by walk_at "2") (VS nb)
 have c_ride_by:=a35.cal z (by walk_at "2") (ZE nb)
 have c_earliest:=a36.cal z (by walk_at "2") (Xg nb)
 have c_span:=a37.calX z (by walk_at "3") (Wx cl_Ice c_Ice__surges c_Ice__length c_earliest)
 have c_ridden:=a38.calX z (by walk_at "3") (Vc cl_Ice c_Ice__surges c_check_asked c_ride_by)
 have c_life:=a39.calX z (by walk_at "3") (Wq nb b_dict cl_Ice c_span c_Ice__surges c_ride_by c_change c_Ice__sky c_Ice__height)
 have c_parted:=a40.calX z (by walk_at "4") (Yv cl_Ice c_Ice__check_place c_ridden c_life)
 have c_pile:=a41.calX z (by walk_at "4") (Wg nb c_parted c_laid c_taken)
 have c_law_box:=a42.cal z (by walk_at "1") (E7 nb.toNb)
 have c_law_mixed:=a43.cal z (by walk_at "2") (VG)
 have c_law_take:=a44.cal z (by walk_at "2") (Wd nb.toNb c_law_mixed)
 have c_law_whole:=a45.cal z (by walk_at "1") (VI nb)
 have c_law_alike:=a46.cal z (by walk_at "2") (V1)
 have c_law_alike:=a46.cal z (by walk_at "2") (JF 0 nb c_law_whole c_law_alike)
 have c_law_alike:=a46.cal z (by walk_at "2") (JF 1 nb c_law_whole c_law_alike)
 have c_law_far:=a49.cal z (by walk_at "1") (GO nb c_law_take)
 have c_law_weather:=a50.cal z (by walk_at "1") (XT c_law_take)
 have c_law_round:=a51.cal z (by walk_at "1") (U6 nb.toNb c_law_take c_law_weather)
 have c_law_ground_drawn:=a52.cal z (by walk_at "3") (wR nb c_law_take)
 have c_law_reaches:=a53.cal z (by walk_at "1") (Zz nb c_law_take c_law_ground_drawn)
 have c_law_roads:=a54.cal z (by walk_at "1") (Uv nb)
 have c_law_ground:=a55.cal z (by walk_at "2") (YW)
 have c_law_year:=a56.cal z (by walk_at "1") (UL c_law_take)
 have c_law_scene:=a57.cal z (by walk_at "1") (Uj nb c_law_take c_law_reaches c_law_round c_law_ground c_law_roads c_law_year c_law_weather)
 have c_law_made:=a58.cal z (by walk_at "1") (UY nb cl_Ice c_Ice c_Ice__tell c_Ice__surge)
 have c_law_spot:=a59.cal z (by walk_at "2") (WF nb c_law_take)
 exact GM nb c_law_box c_law_take c_law_scene c_law_made c_law_spot c_law_year c_law_far c_law_alike c_so_far c_sums c_pile (vJ (st:=vg) l60 c60 k60)
end K34
end
open PySem PySem.W PyProof.Rows
set_option maxRecDepth 100000 in
set_option maxHeartbeats 0 in
theorem PySem.Challenge.cw_firnfall_k34_whole_what_fell_is_what_mel_holds : PySem.Challenge.rw_firnfall_k34_whole_what_fell_is_what_mel.Holds := by
 w_on
 refine holds_law HO.ws λsaid=>?_
 refine holds_open (q:=HO.view) (loose:=HO.loose) (N:=9000) (Xt:=HO.xt) (XP:=XL HO.view [])
  (Yf:=Hook.obs (kmHook HO.frag.heap_1 HO.asL HO.asE [142])) (Ya:=Hook.val (kmHook HO.frag.heap_1 HO.asL HO.asE [142])) (YP:=Hook.says (kmHook HO.frag.heap_1 HO.asL HO.asE [142]))
  HO.left (Hook.of (kmHook HO.frag.heap_1 HO.asL HO.asE [142])) (Hook.keeps (kmHook HO.frag.heap_1 HO.asL HO.asE [142]))
  (λs e=>xl_of s (Bool.and_eq_true_iff.mp e).1) XL.keeps rfl rfl rfl
  (λs e=>recFacts_of (Bool.and_eq_true_iff.mp e).2) rfl
  (by first | assumption | decide +kernel) (by decide +kernel) ⟨rfl,rfl,rfl,rfl,rfl,by decide +kernel⟩ ?hw ?hc
 (case hw=>w_witness2)
 k_fill
 refine L2.UP (l:=PySem.Challenge.rw_firnfall_k34_whole_what_fell_is_what_mel) 11 144 142 ⟨rfl,⋯,⋯⟩ rfl rfl (λw h Y=>⟨PySem.W.km_in_of Y,PySem.W.km_tabs_of Y 142 (by simp)⟩) (λ_=>by kernel_rfl) (λ_=>by kernel_rfl) ?F
 case F =>
  intro w mg fa h KX G hmg
  refine' K34.Gn KX G hmg ..
  all_goals try first | refine' L2.gN.mk ?_ ?_ ?_ ?_ | refine' L2.gM.mk ?_ ?_ ?_ ?_ ?_ | refine' L2.gE.mk ?_ ?_ ?_
  all_goals try show _=_
  all_goals try k_is
  all_goals kernel_rfl
