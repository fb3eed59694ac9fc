import PyProof.Rows.All
import Wide.All
import OpenK.AllK
import Wide.FinOn
import Lean
import PyProof.EqAt
import PyProof.EqKinds
import PyProof.TupleCall
import PyProof.AttrMissHeap
import KE.KDictOf
import PyProof.Rows.MinMaxN
import PySem.Challenge.RW_firnfall_k18_whole_far_years_come_round
set_option Elab.async false
set_option linter.all false
set_option maxRecDepth 100000
set_option maxHeartbeats 0
section
namespace HO
open PySem PySem.W PyProof.Rows PySem.Calls PySem.Spec
def view:Program:={ PySem.Challenge.pw_firnfall_k18_whole_far_years_come_round with main:={ PySem.Challenge.pw_firnfall_k18_whole_far_years_come_round.main with body:=(PySem.Challenge.pw_firnfall_k18_whole_far_years_come_round.main.body).drop 74 } }
def loose:List Str:=[Str.ofString "_wall",Str.ofString "laid",Str.ofString "taken",Str.ofString "FirnError",Str.ofString "BadValley",Str.ofString "BadRound",Str.ofString "BadWeather",Str.ofString "BadYear",Str.ofString "BadSurge",Str.ofString "NoLane",Str.ofString "NoPlace",Str.ofString "MOST_REACHES",Str.ofString "MOST_HEIGHTS",Str.ofString "GREATEST_HEIGHT",Str.ofString "MOST_LANES",Str.ofString "LONGEST_LANE",Str.ofString "is_valley",Str.ofString "is_reach",Str.ofString "leads_on",Str.ofString "fits",Str.ofString "lanes",Str.ofString "way_down",Str.ofString "way_of",Str.ofString "count_places",Str.ofString "heights",Str.ofString "HIGHEST_LINE",Str.ofString "MOST_HANDS",Str.ofString "MOST_ROWS",Str.ofString "is_weather",Str.ofString "is_round",Str.ofString "change",Str.ofString "LAST_TOLD",Str.ofString "LAST_ASKED",Str.ofString "GREATEST_SURGE",Str.ofString "check_told",Str.ofString "check_asked",Str.ofString "check_round",Str.ofString "Ice",Str.ofString "ride_by",Str.ofString "earliest",Str.ofString "ridden",Str.ofString "mark",Str.ofString "span",Str.ofString "life",Str.ofString "parted",Str.ofString "pile",Str.ofString "_law_box",Str.ofString "_law_mixed",Str.ofString "_law_take",Str.ofString "_law_whole",Str.ofString "_law_alike",Str.ofString "_law_weather",Str.ofString "_law_round",Str.ofString "_law_ground_drawn",Str.ofString "_law_reaches",Str.ofString "_law_roads",Str.ofString "_law_ground",Str.ofString "_law_year",Str.ofString "_law_scene",Str.ofString "_law_made",Str.ofString "_law_row",Str.ofString "_law_wish",Str.ofString "_law_runs",Str.ofString "_law_news",Str.ofString "_law_spot",Str.ofString "_law_top"]
section
local macro_rules | `(tactic| o_head $H)=>`(tactic| (have hook:=$H;assumption))
theorem frag (hyp:(OpenLaw.row PySem.Challenge.rw_firnfall_k18_whole_far_years_come_round).Holds):(OpenLaw.row PySem.Challenge.rw_firnfall_k18_whole_far_years_come_round).Holds:=by
 k_head
end
def asL:List Addr:=[2,3,15,17,18,20,21,22,24,25,27,28,29,31,32,34,35,36,43,44,45,46,49,56,57,58,61,68,69,70,73,80,81,82,85,92,93,94,97,104,105,106,109,116,117,118,121,128,129,130,133,136,137,138,141,142,143,145,146,148,149,150,153,154,155,158,159,160,162,163,165,166,167,169,170,172,173,174,177,178,179,182,183,184,186,187,189,190,191,194,195,196,198,199,201,202,203,205,206,208,209,210,212,213,215,216,217,219,220,222,223,231,234,235,236,238,239,241,242,243,245,246,248,249,250,252,253,255,256,257,259,260,262,263,264,266,267,269,270,271,273,274,276,277,278,280,281,283,284,285,287,288,290,291,292,294,295,297,298,299,301,302,304,305,306,308,309,311,312,313,315,316,318,319,320,323,324,325,328,329,330,332,333,335,336,337,339,340,342,343,344,346,347,349,350,351,352,353,354,355,358,361,362,363,365,366,368,369,370,372,373,375,376,377,379,380,382,383,384,386,387,389,390,391,393,394,396,397,398,400,401,403,404,405,407,408,410,411,412,414,415,417,418,419,421,422,424,425,426,428,429,431,432,433,435,436,438,439,440,443,444,445,447,448,450,451,452,455,456,457,460,461,462,465,466,467,470,471,472,474,475,477,478,479,481,482,484,485,486,489,490,491,493,494,496,497,498,500,501,503,504,505,507,508,510,511,512,514,515,517,518,519,521,522,524,525,526,528,529,531,532,533,536,537,538,541,542]
theorem asE (P:Params):asL=(frag.heap_1 P).map (·.1):=by kernel_rfl
noncomputable def top (w:World) (os:OsState):Option Shared:=PySem.W.Fast.tw14082659384304107361 PySem.W.Fast.tw14364793385576792824 PySem.Challenge.pw_firnfall_k18_whole_far_years_come_round w (boot_heap w.params).objs.size ((boot_heap w.params).nsMap mainGlobals "__annotations__") 9000 ⟨boot_heap w.params,Array.mk [],boot_drawn,boot_toks,os⟩ (topStub PySem.Challenge.pw_firnfall_k18_whole_far_years_come_round)
def xt (s:Shared):Bool:=xlAt view [] s && recOk (RowW.records (OpenRow.toRowW (OpenLaw.row PySem.Challenge.rw_firnfall_k18_whole_far_years_come_round))) s
theorem ran2 (w:World) (os:OsState):(top w os).map (fun s=>(asL.map s.heap.get?,[156].map s.heap.get?))=some ((frag.heap_1 w.params).map fun p=>some p.2,[156].map fun _=>some (tabObj #[])):=by kernel_rfl
theorem ws:OpenLaw.wellSaid PySem.Challenge.rw_firnfall_k18_whole_far_years_come_round=true:=by kernel_rfl
theorem ran1 (w:World) (os:OsState):(top w os).map (fun s=>openSeen view loose (importedModules PySem.Challenge.pw_firnfall_k18_whole_far_years_come_round.main.body) xt true s)=some (openGood view loose):=by kernel_rfl
theorem ran0 (w:World) (os:OsState):(top w os).map (fun s=>staticsOk (importedModules PySem.Challenge.pw_firnfall_k18_whole_far_years_come_round.main.body) (boot_heap w.params) s.heap && namesBound PySem.Challenge.pw_firnfall_k18_whole_far_years_come_round s.heap && gensDone s && laidKept (boot_heap w.params) s.heap)=some true:=by kernel_rfl
theorem We (w:World) (os:OsState):topRun treeTable PySem.Challenge.pw_firnfall_k18_whole_far_years_come_round w (boot_heap w.params).objs.size ((boot_heap w.params).nsMap mainGlobals "__annotations__") 9000 ⟨boot_heap w.params,Array.mk [],boot_drawn,boot_toks,os⟩ (topStub PySem.Challenge.pw_firnfall_k18_whole_far_years_come_round)=top w os:=by
 rw [PySem.W.Fast.te14082659384304107361,PySem.W.Fast.te14364793385576792824]
 rfl
theorem WV (w:World):((boot_heap w.params).isNs mainGlobals && (Array.mk []:Array GenState).size == 0)=true:=by kernel_rfl
theorem JF {tb:String->Option Builtin}{p:Program}{w:World}{N:Nat}{s:Shared}{h:Heap}{gs d k os}(hb:(h.isNs mainGlobals && gs.size == 0)=true) (hr:topRun tb p w h.objs.size (h.nsMap mainGlobals "__annotations__") N ⟨h,gs,d,k,os⟩ (topStub p)=some s) (hl:(staticsOk (importedModules p.main.body) h s.heap && namesBound p s.heap && gensDone s && laidKept h s.heap)=true):topFrom tb p w N ⟨h,gs,d,k,os⟩=some s:=by
 unfold topFrom
 rw [hb]
 show ((topRun tb p w h.objs.size (h.nsMap mainGlobals "__annotations__") N ⟨h,gs,d,k,os⟩ (topStub p)).bind _)=_
 rw [hr]
 show (match staticsOk (importedModules p.main.body) h s.heap && namesBound p s.heap && gensDone s && laidKept h s.heap with | true=>some s | false=>none)=_
 rw [hl]
theorem Yd {tb:String->Option Builtin}{p:Program}{w:World}{N:Nat}{s₀ s:Shared}(a:fencedOpening tb p w N=some s₀) (t:topFrom tb p w N s₀=some s):openEnds tb p w N=some s:=by
 unfold openEnds
 rw [a]
 exact t
theorem left:LeftO (OpenLaw.row PySem.Challenge.rw_firnfall_k18_whole_far_years_come_round).prog view loose xt (Hook.obs (kmHook frag.heap_1 asL asE [156])) (Hook.val (kmHook frag.heap_1 asL asE [156])) 9000:=fun w=>by
 obtain ⟨⟨h,gs,d,k,os⟩,a,b⟩:=Option.map_eq_some_iff.mp (boot_open (p:=PySem.Challenge.pw_firnfall_k18_whole_far_years_come_round) (N:=9000) (by kernel_rfl) (by decide) (fun s=>by kernel_rfl) w)
 obtain ⟨rfl,rfl,rfl,rfl⟩:h=boot_heap w.params/\gs=Array.mk []/\d=boot_drawn/\k=boot_toks:=by simpa using b
 have h0:=ran0 w os
 have h1:=ran1 w os
 have h2:=ran2 w os
 cases e:top w os with
 | none=>rw [e] at h1;cases h1
 | some s =>
  rw [e] at h0 h1 h2
  have l1:(staticsOk (importedModules PySem.Challenge.pw_firnfall_k18_whole_far_years_come_round.main.body) (boot_heap w.params) s.heap && namesBound PySem.Challenge.pw_firnfall_k18_whole_far_years_come_round s.heap && gensDone s && laidKept (boot_heap w.params) s.heap)=true:=Option.some.inj h0
  have l2:openSeen view loose (importedModules PySem.Challenge.pw_firnfall_k18_whole_far_years_come_round.main.body) xt true s=openGood view loose:=Option.some.inj h1
  obtain ⟨m1,m2⟩:=Prod.mk.inj (Option.some.inj h2)
  have m5:asL.map s.heap.get? = (frag.heap_1 w.params).map fun p=>some p.2:=m1
  have t:=Yd a (JF (WV w) ((We w os).trans e) l1)
  show (openEnds treeTable PySem.Challenge.pw_firnfall_k18_whole_far_years_come_round w 9000).map _=_
  rw [t]
  show some (openSeen view loose (importedModules PySem.Challenge.pw_firnfall_k18_whole_far_years_come_round.main.body) xt true s,(asL.map s.heap.get?,[156].map s.heap.get?))=some (openGood view loose,_)
  rw [l2,m5,m2]
  rfl
end HO
end
namespace L2
open PySem PySem.Spec PyProof.Rows
abbrev Key:=Sum Int Str
def gy:Key->Value->Bool
 | .inl k,v=>Value.isInt k v
 | .inr x,v=>Value.isStrOf x v
def keyH (w:World):Key->Int
 | .inl k=>hashInt k
 | .inr x=>hashStr w x
theorem qq:∀ {k:Key}{v:Value},gy k v=true->(∃ i t,k=Sum.inl i/\v=Value.int i t)\/(∃ x t,k=Sum.inr x/\v=Value.str x t)
 | .inl i,v,h=>by
  obtain ⟨t,e⟩:=Value.isInt_shape (k:=i) (v:=v) h
  exact .inl ⟨i,t,rfl,e⟩
 | .inr x,v,h=>by
  obtain ⟨t,e⟩:=Value.isStrOf_shape (x:=x) (v:=v) h
  exact .inr ⟨x,t,rfl,e⟩
theorem ZW (i:Int) (t:Tok):gy (.inl i) (.int i t)=true:=by simp [gy,Value.isInt]
theorem ZZ (x:Str) (t:Tok):gy (.inr x) (.str x t)=true:=by simp [gy,Value.isStrOf]
theorem Wh (a b:Int):decide ((Sum.inl a:Key)=Sum.inl b)=(a == b):=by
 by_cases e:a=b
 ·subst e;simp
 ·have h:¬ (Sum.inl a:Key)=Sum.inl b:=fun q=>e (Sum.inl.inj q)
  rw [decide_eq_false h]
  exact (beq_eq_false_iff_ne.mpr e).symm
theorem WM (a b:Str):decide ((Sum.inr a:Key)=Sum.inr b)=decide (a=b):=by
 by_cases e:a=b
 ·subst e;simp
 ·have h:¬ (Sum.inr a:Key)=Sum.inr b:=fun q=>e (Sum.inr.inj q)
  rw [decide_eq_false h,decide_eq_false e]
theorem G9 (a:Int) (b:Str):decide ((Sum.inl a:Key)=Sum.inr b)=false:=decide_eq_false (fun q=>nomatch q)
theorem WU (a:Str) (b:Int):decide ((Sum.inr a:Key)=Sum.inl b)=false:=decide_eq_false (fun q=>nomatch q)
def jC (prog:Program) (w:World):PySem.KeyKind prog w Key where
 is:=gy
 hash:=keyH w
 inj:=fun v a b ha hb=>by
  rcases qq ha with ⟨i,t,rfl,rfl⟩ | ⟨x,t,rfl,rfl⟩
  ·rcases qq hb with ⟨j,u,rfl,e⟩ | ⟨y,u,rfl,e⟩
   ·injection e with e1 _;rw [e1]
   ·exact nomatch e
  ·rcases qq hb with ⟨j,u,rfl,e⟩ | ⟨y,u,rfl,e⟩
   ·exact nomatch e
   ·injection e with e1 _;rw [e1]
 byValue:=fun k v h=>by
  rcases qq h with ⟨i,t,rfl,rfl⟩ | ⟨x,t,rfl,rfl⟩ <;> rfl
 pyHash:=fun hv h=>by
  rcases qq hv with ⟨i,t,rfl,rfl⟩ | ⟨x,t,rfl,rfl⟩
  ·exact wpAny_pyHash_int h
  ·exact wpAny_pyHash_str h
 eqBool:=fun hu hv h=>by
  rcases qq hu with ⟨i,t,rfl,rfl⟩ | ⟨x,t,rfl,rfl⟩
  ·rcases qq hv with ⟨j,u,rfl,rfl⟩ | ⟨y,u,rfl,rfl⟩
   ·rw [Wh] at h;exact wpAny_eqBool_int h
   ·rw [G9] at h;exact SeqAt.EqAt.int_str i t y u _ _ _ _ h
  ·rcases qq hv with ⟨j,u,rfl,rfl⟩ | ⟨y,u,rfl,rfl⟩
   ·rw [WU] at h;exact SeqAt.EqAt.str_int x t j u _ _ _ _ h
   ·rw [WM] at h;exact wpAny_eqBool_str h
 «strs»:=fun k x t v h=>by
  rcases qq h with ⟨i,u,rfl,e⟩ | ⟨y,u,rfl,e⟩
  ·exact nomatch e
  ·injection e with e1 _
   subst e1
   cases v <;> rfl
theorem Qj (prog:Program) (w:World) (i:Int) (t:Tok):(jC prog w).is (.inl i) (.int i t)=true:=ZW i t
theorem JU (prog:Program) (w:World) (x:Str) (t:Tok):(jC prog w).is (.inr x) (.str x t)=true:=ZZ x t
end L2
namespace L2
open PySem PySem.Spec PyProof.Rows
inductive V where
 | non | bl (b:Bool) | int (i:Int) | str (x:Str) | byt (b:Array UInt8) | flt (b:UInt64) | ref (a:Addr) | ty (n:String)
 deriving DecidableEq
def jB:V->Value->Prop
 | .non,u=>u=Value.none
 | .bl b,u=>u=Value.bool b
 | .int i,u=>∃ t,u=Value.int i t
 | .str x,u=>∃ t,u=Value.str x t
 | .byt b,u=>∃ t,u=Value.bytes b t
 | .flt b,u=>∃ t,u=Value.float b t
 | .ref a,u=>u=Value.ref a
 | .ty n,u=>u=Value.type n
abbrev jz:List V->List Value->Prop:=Paired jB
theorem jz.length {xs:List V}{us:List Value}(r:jz xs us):xs.length=us.length:=Paired.length r
theorem jz.get:∀ {xs:List V}{us:List Value}{i:Nat}{x:V},jz xs us->xs[i]? = some x->∃ u,us[i]? = some u/\jB x u
 | _,_,_,_,.nil,e=>by simp at e
 | _,_,0,_,.cons r _,e=>by simp at e;subst e;exact ⟨_,rfl,r⟩
 | _,_,i+1,x,.cons _ t,e=>by
  obtain ⟨u,h1,h2⟩:=jz.get (i:=i) (x:=x) t (by simpa using e)
  exact ⟨u,by simpa using h1,h2⟩
theorem jz.set {x:V}{u:Value}(r:jB x u):∀ {xs:List V}{us:List Value}(i:Nat),jz xs us->jz (xs.set i x) (us.set i u)
 | _,_,_,.nil=>.nil
 | _,_,0,.cons _ t=>.cons r t
 | _,_,i+1,.cons q t=>.cons q (jz.set r i t)
theorem jz.append:∀ {xs ys:List V}{us ws:List Value},jz xs us->jz ys ws->jz (xs++ys) (us++ws)
 | _,_,_,_,.nil,s=>s
 | _,_,_,_,.cons r t,s=>.cons r (jz.append t s)
theorem jz.take:∀ {xs:List V}{us:List Value}(n:Nat),jz xs us->jz (xs.take n) (us.take n)
 | _,_,0,_=>.nil
 | _,_,_+1,.nil=>.nil
 | _,_,n+1,.cons r t=>.cons r (jz.take n t)
theorem jz.drop:∀ {xs:List V}{us:List Value}(n:Nat),jz xs us->jz (xs.drop n) (us.drop n)
 | _,_,0,r=>r
 | _,_,_+1,.nil=>.nil
 | _,_,n+1,.cons _ t=>jz.drop n t
def yh:Option V->Option Value->Prop
 | some v,some u=>jB v u
 | none,none=>True
 | _,_=>False
def KV {κ:Type}:List (κ×V)->List (κ×Value)->Prop:=Paired fun (p:κ×V) (q:κ×Value)=>p.1=q.1/\jB p.2 q.2
def kV:Key->V
 | .inl i=>.int i
 | .inr x=>.str x
inductive HO where
  | lst (xs:List V)
  | tup (xs:List V)
  | dK (kvs:List (Key×V)) | dT (kvs:List (List Key×V))
  | set (S:Int->Bool) (n:Nat)
  | ins (C dx:Addr) (fs:List (Str×V))
  | own (x:Addr)
  | xd (fs:List (Str×V))
  | met (f x:Addr)
  | rng (lo hi:Int)
  | frz (o:Obj) (u:HO)
  | tbl (ps:Array Value)
  | ext (φ:Heap->Prop)
abbrev Hp:=Addr->Option HO
def upd (H:Hp) (a:Addr) (o:HO):Hp:=fun b=>if b=a then some o else H b
theorem j6 {H:Hp}{a:Addr}{o:HO}:upd H a o a=some o:=by unfold upd;rw [if_pos rfl]
theorem j5 {H:Hp}{a b:Addr}{o:HO}(h:b≠a):upd H a o b=H b:=by unfold upd;rw [if_neg h]
theorem jp {H:Hp}{a b:Addr}{o u:HO}(h:H a=some o) (h':H b=some u) (d:o≠u):a≠b:=by
 intro e;subst e;rw [h] at h';exact d (Option.some.inj h')
theorem j1 {H:Hp}{a b:Addr}{o:HO}(h:H a=some o) (h':H b=none):a≠b:=by
 intro e;subst e;rw [h] at h';cases h'
section
variable (P:Program) (w:World)
def qe (H:Hp) (h:Heap) (a:Addr):HO->Prop
 | .lst xs=>xs.length<=sizeLine/\∃ (its:List Value) (n:Nat),jz xs its/\h.get? a=some { cls:=.type "list",data:=.seq its.toArray n }
 | .tup xs=>xs.length<=sizeLine/\∃ its:List Value,jz xs its/\IsTup h a its.toArray
 | .dK kvs=>kvs.length<=sizeLine/\(a == sysModules)=false/\∃ vs,KV kvs vs/\h.DictOf (jC P w) a vs
 | .dT kvs=>kvs.length<=sizeLine/\(a == sysModules)=false/\∃ xs:List (List Key×Addr×Value),
   Paired (fun (p:List Key×V) (q:List Key×Addr×Value)=>p.1=q.1/\H q.2.1=some (.tup (p.1.map kV))/\jB p.2 q.2.2) kvs xs /\
   ∃ o es ep,h.get? a=some o/\o.ExactDict/\o.data = .dict es ep/\es.toList=xs.map (entryOfKey (tupleKind (jC P w)))/\(xs.map (·.1)).Nodup
 | .set S n=>h.SetOf (intKind P w) a S n
 | .ins C dx fs=>H dx=some (.own a)/\fs.length<=1000/\dx≠a/\h.get? a=some (PySem.W.instObj C dx) /\
   ∃ mA,h.Ns1 dx mA/\(∀ f,yh (fs.lookup f) (mA f))/\PySem.Within mA (fs.map (·.1))
 | .own _=>∃ o,h.get? a=some o
 | .xd fs=>∃ mA,h.Ns1 a mA/\∀ f,yh (fs.lookup f) (mA f)
 | .rng lo hi=>∃ t u v,h.get? a=some { cls:=.type "range",data:=.fields #[.int lo t,.int hi u,.int 1 v] }
 | .frz o u=>h.get? a=some o/\qe H h a u
 | .tbl ps=>h.get? a=some { cls:=.none,data:=.fields ps }
 | .met f x=>h.get? a=some (PySem.W.methodObj (.ref f) (.ref x))
 | .ext φ=>φ h/\(∃ o,h.get? a=some o)/\∀ h1 h2:Heap,φ h1->(∀ o,h1.get? a=some o->h2.get? a=some o)->φ h2
def HOk (H:Hp) (h:Heap):Prop:=∀ a o,H a=some o->qe P w H h a o
end
section
variable {P:Program}{w:World}{H H':Hp}{h h':Heap}{a:Addr}{o:HO}
theorem qe.lt (x:qe P w H h a o):a<h.objs.size:=by
 cases o with
 | lst xs=>obtain ⟨_,_,_,_,e⟩:=x;exact Heap.lt_size e
 | tup xs=>obtain ⟨_,_,_,p⟩:=x;exact p.lt
 | dK kvs=>obtain ⟨_,_,_,_,o,_,_,e,_⟩:=x;exact Heap.lt_size e
 | dT kvs=>obtain ⟨_,_,_,_,o,_,_,e,_⟩:=x;exact Heap.lt_size e
 | set S n=>obtain ⟨o,_,_,_,e,_⟩:=x;exact Heap.lt_size e
 | ins C dx fs=>obtain ⟨_,_,_,e,_⟩:=x;exact Heap.lt_size e
 | own y=>obtain ⟨_,e⟩:=x;exact Heap.lt_size e
 | xd fs=>obtain ⟨_,⟨_,_,_,e,_⟩,_⟩:=x;exact Heap.lt_size e
 | rng lo hi=>obtain ⟨_,_,_,e⟩:=x;exact Heap.lt_size e
 | frz ob u=>obtain ⟨e,_⟩:=x;exact Heap.lt_size e
 | tbl ps=>exact Heap.lt_size (show h.get? a=some _ from x)
 | met f y=>exact Heap.lt_size (show h.get? a=some _ from x)
 | ext φ=>obtain ⟨_,⟨_,e⟩,_⟩:=x;exact Heap.lt_size e
theorem Paired.mapP {α β:Type}{F G:α->β->Prop}:∀ {l₁:List α}{l₂:List β},Paired F l₁ l₂->(∀ a b,F a b->G a b)->Paired G l₁ l₂
 | _,_,.nil,_=>.nil
 | _,_,.cons r t,f=>.cons (f _ _ r) (Paired.mapP t f)
theorem qe.stay (x:qe P w H h a o) (k:∀ b u,(b=a\/H b=some (.own a))->h.get? b=some u->h'.get? b=some u)
  (ho:∀ b,H b=some (.own a)->H' b=some (.own a)) (ht:∀ b xs,H b=some (.tup xs)->H' b=some (.tup xs)):qe P w H' h' a o:=by
 induction o with
 | lst xs=>obtain ⟨z,its,n,r,e⟩:=x;exact ⟨z,its,n,r,k _ _ (.inl rfl) e⟩
 | tup xs=>obtain ⟨z,its,r,ob,e,c⟩:=x;exact ⟨z,its,r,ob,k _ _ (.inl rfl) e,c⟩
 | dK kvs=>obtain ⟨z,y,vs,r,ob,es,ep,e,c⟩:=x;exact ⟨z,y,vs,r,ob,es,ep,k _ _ (.inl rfl) e,c⟩
 | dT kvs =>
  obtain ⟨z,y,xs,r,ob,es,ep,e,c⟩:=x
  exact ⟨z,y,xs,Paired.mapP r fun p q z=>⟨z.1,ht _ _ z.2.1,z.2.2⟩,ob,es,ep,k _ _ (.inl rfl) e,c⟩
 | set S n=>obtain ⟨ob,es,ep,t,e,c⟩:=x;exact ⟨ob,es,ep,t,k _ _ (.inl rfl) e,c⟩
 | ins C dx fs =>
  obtain ⟨d,z,ne,e,mA,⟨od,es,ep,e2,c⟩,r⟩:=x
  exact ⟨ho _ d,z,ne,k _ _ (.inl rfl) e,mA,⟨od,es,ep,k _ _ (.inr d) e2,c⟩,r⟩
 | own y=>obtain ⟨ob,e⟩:=x;exact ⟨ob,k _ _ (.inl rfl) e⟩
 | xd fs=>obtain ⟨mA,⟨od,es,ep,e,c⟩,r⟩:=x;exact ⟨mA,⟨od,es,ep,k _ _ (.inl rfl) e,c⟩,r⟩
 | rng lo hi=>obtain ⟨t,u,v,e⟩:=x;exact ⟨t,u,v,k _ _ (.inl rfl) e⟩
 | frz ob u ih=>obtain ⟨e,q⟩:=x;exact ⟨k _ _ (.inl rfl) e,ih q⟩
 | tbl ps =>
  have e:h.get? a=some { cls:=.none,data:=.fields ps }:=x
  show h'.get? a=some { cls:=.none,data:=.fields ps }
  exact k a _ (.inl rfl) e
 | met f y =>
  have e:h.get? a=some (PySem.W.methodObj (.ref f) (.ref y)):=x
  show h'.get? a=some (PySem.W.methodObj (.ref f) (.ref y))
  exact k a _ (.inl rfl) e
 | ext φ=>obtain ⟨p,⟨o,e⟩,st⟩:=x;exact ⟨st _ _ p fun o q=>k _ _ (.inl rfl) q,⟨o,k _ _ (.inl rfl) e⟩,st⟩
theorem HOk.lt (x:HOk P w H h) (e:H a=some o):a<h.objs.size:=(x a o e).lt
theorem HOk.fresh (x:HOk P w H h) (e:h.objs.size<=a):H a=none:=by
 cases q:H a with
 | none=>rfl
 | some u=>exact absurd (Nat.lt_of_lt_of_le (x.lt q) e) (Nat.lt_irrefl _)
theorem HOk.kept (x:HOk P w H h) (k:∀ b u,h.get? b=some u->h'.get? b=some u):HOk P w H h':=fun a o e =>
 (x a o e).stay (fun b u _ q=>k b u q) (fun _ q=>q) fun _ _ q=>q
theorem HOk.laid (x:HOk P w H h) (k:∀ b u,h.get? b=some u->h'.get? b=some u) (hp:h.objs.size<=a) (new:qe P w (upd H a o) h' a o):HOk P w (upd H a o) h':=fun b u e=>by
 have hn:=x.fresh hp
 by_cases hb:b=a
 ·subst hb;rw [j6] at e;cases e;exact new
 ·rw [j5 hb] at e
  exact (x b u e).stay (fun c v _ q=>k c v q) (fun c q=>by rw [j5 (j1 q hn)];exact q) fun c xs q=>by rw [j5 (j1 q hn)];exact q
end
def Rd (H:Hp) (a:Addr) (u:HO):Prop:=H a=some u\/∃ o,H a=some (.frz o u)
theorem Rd.ok {P:Program}{w:World}{H:Hp}{h:Heap}{a:Addr}{u:HO}(r:Rd H a u) (x:HOk P w H h):qe P w H h a u:=by
 rcases r with r | ⟨o,r⟩
 ·exact x a u r
 ·obtain ⟨_,q⟩:=x a _ r
  exact q
def Mut:Option HO->Prop
 | some (.lst _)=>True
 | some (.dK _)=>True
 | some (.dT _)=>True
 | some (.set _ _)=>True
 | some (.ins _ _ _)=>True
 | some (.ext _)=>True
 | _=>False
section
variable {P:Program}{w:World}{H:Hp}{h h':Heap}{x e:Addr}{o':HO}
theorem HOk.write (ok:HOk P w H h) (mu:Mut (H x)) (he:e=x\/H e=some (.own x)) (k:∀ b u,b≠e->h.get? b=some u->h'.get? b=some u) (heo:∃ u,h'.get? e=some u)
  (new:qe P w (upd H x o') h' x o'):HOk P w (upd H x o') h':=fun b u q=>by
 have nown:∀ c y,H c=some (.own y)->c≠x:=fun c y r z=>by subst z;rw [r] at mu;exact mu
 have ntup:∀ c xs,H c=some (.tup xs)->c≠x:=fun c xs r z=>by subst z;rw [r] at mu;exact mu
 by_cases hb:b=x
 ·subst hb;rw [j6] at q;cases q;exact new
 ·rw [j5 hb] at q
  by_cases hbe:b=e
  ·have q':H b=some (.own x):=by
    rcases he with z | z
    ·exact absurd (hbe.trans z) hb
    ·rw [hbe];exact z
   rw [q] at q';cases q'
   obtain ⟨v,hv⟩:=heo
   exact ⟨v,by rw [hbe];exact hv⟩
  ·refine (ok b u q).stay (fun c v hc r=>k c v ?_ r) (fun c r=>by rw [j5 (nown c b r)];exact r) fun c xs r=>by rw [j5 (ntup c xs r)];exact r
   rcases hc with rfl | hc
   ·exact hbe
   ·rintro rfl
    rcases he with z | z
    ·exact nown c b hc z
    ·rw [hc] at z;cases z;exact hb rfl
end
structure Un (fs ex:List Addr) (H H':Hp) (h h':Heap):Prop where
 keep:∀ b o,h.get? b=some o->H b=none->b∉fs->b∉ex->h'.get? b=some o
 slot:∀ b o,h.get? b=some o->H b=none->b∈fs->b∉ex->∃ sl,h'.get? b=some { o with slots:=sl }
 free:∀ b o,h.get? b=some o->H b=none->b∉ex->H' b=none
 there:∀ b o,h.get? b=some o->b∉ex->∃ o',h'.get? b=some o'
 tups:∀ b xs,H b=some (.tup xs)->H' b=some (.tup xs)
 frzs:∀ b o u,H b=some (.frz o u)->H' b=some (.frz o u)
 tbls:∀ b ps,H b=some (.tbl ps)->∃ more,H' b=some (.tbl (ps++more))
section
variable {fs fs' ex ex':List Addr}{H H1 H2:Hp}{h h1 h2 h':Heap}{a x e:Addr}{o:HO}
theorem Un.any (u:Un fs ex H H1 h h1) {b:Addr}{ob:Obj}(q:h.get? b=some ob) (n:H b=none) (hx:b∉ex):∃ sl,h1.get? b=some { ob with slots:=sl }:=by
 by_cases hb:b∈fs
 ·exact u.slot b ob q n hb hx
 ·exact ⟨ob.slots,u.keep b ob q n hb hx⟩
theorem Un.kept (k:∀ b u,h.get? b=some u->h'.get? b=some u):Un fs ex H H h h' :=
 ⟨fun b ob q _ _ _=>k b ob q,fun b ob q _ _ _=>⟨ob.slots,k b ob q⟩,fun _ _ _ n _=>n,fun b ob q _=>⟨ob,k b ob q⟩,fun _ _ q=>q,fun _ _ _ q=>q,fun _ ps q=>⟨#[],by rw [q];simp⟩⟩
theorem Un.refl:Un fs ex H H h h:=Un.kept fun _ _ q=>q
theorem Un.laid (k:∀ b u,h.get? b=some u->h'.get? b=some u) (hp:h.objs.size<=a) (hn:H a=none):Un fs ex H (upd H a o) h h' where
 keep:=fun b u q _ _ _=>k b u q
 slot:=fun b u q _ _ _=>⟨u.slots,k b u q⟩
 free:=fun b u q n _=>by rw [j5 (Nat.ne_of_lt (Nat.lt_of_lt_of_le (Heap.lt_size q) hp))];exact n
 there:=fun b u q _=>⟨u,k b u q⟩
 tups:=fun b xs q=>by rw [j5 (j1 q hn)];exact q
 frzs:=fun b u xs q=>by rw [j5 (j1 q hn)];exact q
 tbls:=fun b ps q=>⟨#[],by rw [j5 (j1 q hn),q];simp⟩
theorem Un.write (mu:Mut (H x)) (he:e=x\/H e=some (.own x)) (k:∀ b u,b≠e->h.get? b=some u->h'.get? b=some u) (heo:∃ u,h'.get? e=some u):Un fs ex H (upd H x o) h h':=by
 have hx:∀ b,H b=none->b≠x:=fun b n z=>by subst z;rw [n] at mu;exact mu
 have hb:∀ b,H b=none->b≠e:=fun b n z=>by
  subst z
  rcases he with r | r
  ·exact hx b n r
  ·rw [n] at r;cases r
 have hm:∀ b u,H b=some u->¬ Mut (some u)->b≠x:=fun b u q nm z=>by subst z;rw [q] at mu;exact nm mu
 refine ⟨fun b u q n _ _=>k b u (hb b n) q,fun b u q n _ _=>⟨u.slots,k b u (hb b n) q⟩,fun b u q n _=>by rw [j5 (hx b n)];exact n,fun b u q _=>?_,
  fun b xs q=>by rw [j5 (hm b _ q fun z=>z)];exact q,fun b u xs q=>by rw [j5 (hm b _ q fun z=>z)];exact q,fun b ps q=>⟨#[],by rw [j5 (hm b _ q fun z=>z),q];simp⟩⟩
 by_cases hbe:b=e
 ·subst hbe;exact heo
 ·exact ⟨u,k b u hbe q⟩
end
def trk (h:Heap) (H:Hp):List Addr:=(List.range h.objs.size).filter fun a=>(H a).isSome
def hX (h:Heap) (H:Hp):Heap:=PySem.W.hideAll h (trk h H)
theorem ZX (h:Heap) (H:Hp):(hX h H).objs.size=h.objs.size:=PySem.W.hideAll_size _ _
theorem YM {h:Heap}{H:Hp}{b:Addr}{o:Obj}(e:h.get? b=some o) (n:H b=none):(hX h H).get? b=some o :=
 PySem.W.hideAll_get _ e fun hm=>by
  have q:(H b).isSome=true:=(List.mem_filter.mp hm).2
  rw [n] at q;simp at q
theorem Ud {h:Heap}{H:Hp}{b:Addr}{o:Obj}(e:(hX h H).get? b=some o):h.get? b=some o/\H b=none:=by
 have e':h.get? b=some o:=PySem.W.of_hideAll (trk h H) e
 refine ⟨e',?_⟩
 cases q:H b with
 | none=>rfl
 | some x =>
  have hm:b∈trk h H:=List.mem_filter.mpr ⟨List.mem_range.mpr (Heap.lt_size e'),by simp [q]⟩
  have z:(hX h H).get? b=none:=PySem.W.hideAll_none (trk h H) hm
  rw [z] at e;cases e
def Up (g h:Heap) (L:Addr):List (Addr×Obj):=(List.range h.objs.size).filterMap fun a=>if a=L\/(g.get? a).isSome=true then none else (h.get? a).map fun o=>(a,o)
def vw (g h:Heap) (L d:Addr):List (Addr×Obj):=(Up g h L).filter fun p=>decide (p.1≠d)
end L2
namespace L2
open PySem PySem.Spec PyProof.Rows
structure Mod (K:PySem.W.Frag) (mg:Str->Option Value) (base:Heap):Prop where
 kin:K.In base
 glob:base.Ns mainGlobals mg
 blt:∃ mb,base.Ns builtinsNs mb/\∀ x:Str,x ≠ "__name__" -> mb x=bootBuiltins x
 nolimit:base.NoLimit
structure Cx where
 prog:Program
 w:World
 K:PySem.W.Frag
 mg:Str->Option Value
 base:Heap
 A:Around
 N:List Str
 s₀:Shared
 H₀:Hp
 env:Env
 outer:List Env
 stack:List Env
 ex:List Addr
 fn:Str->Bool
 calm:Bool
 pn:List (Addr×Obj)
 xe:Value->Shared->Prop
def frs (l:List Env):List Addr:=l.filterMap (·.frame)
abbrev Cx.fs (X:Cx):List Addr:=frs X.outer
def Vis (sc:Scope) (x:Str):Prop:=sc.names.lookup x=some .local\/sc.names.lookup x=some .cell\/sc.names.lookup x=some .free
def Loc (sc:Scope) (x:Str):Prop:=sc.names.lookup x=some .local\/sc.names.lookup x=some .cell
def Look (env:Env) (h:Heap) (m:Str->Option Value) (x:Str) (u:Value):Prop :=
 (env.kindOf x=some .local/\m x=some u)\/((env.kindOf x=some .cell\/env.kindOf x=some .free)/\∃ c,env.cells.lookup x=some c/\h.IsCell c (some u))
structure Cx.Ok (X:Cx):Prop where
 mod:Mod X.K X.mg X.base
 kind:X.env.scope.kind = .function
 glob:X.env.globals=mainGlobals
 blt:X.env.builtins=builtinsNs
 above:X.s₀.heap.objs.size<=X.env.locals
 inj:∀ x y c,X.env.cells.lookup x=some c->X.env.cells.lookup y=some c->x=y
 has:∀ x,(X.env.kindOf x=some .cell\/X.env.kindOf x=some .free)->∃ c,X.env.cells.lookup x=some c
 cab:∀ x c,X.fn x=true->X.env.cells.lookup x=some c->X.s₀.heap.objs.size<=c
 hd:X.calm=true->X.A.handled=none
 frames:X.A.frames=some X.stack
 stk:X.stack=X.outer\/(X.stack=X.env::X.outer/\X.env.frame=some X.env.locals)
 exf:∀ b∈X.ex,b≠X.env.locals/\∀ x c,X.env.cells.lookup x=some c->c≠b
 bs:∀ b o,X.base.get? b=some o->X.s₀.heap.get? b=some o/\X.H₀ b=none
 bsz:X.base.objs.size<=X.s₀.heap.objs.size
 noex:∀ b o,X.base.get? b=some o->b∉X.ex
 exfs:∀ b∈X.ex,b∉X.fs
 funs:X.s₀.heap.FunFrames X.base X.outer
 frf:∀ b∈X.fs,X.H₀ b=none
structure Inv (X:Cx) (pins:List (Addr×Obj)) (σ:List (Option V)) (H:Hp) (s:Shared):Prop where
 ok:X.Ok
 os:s.os=X.s₀.os
 bare:AllBare s.gens
 base:Un X.fs X.ex X.H₀ H X.s₀.heap s.heap
 loc:∃ m,s.heap.Ns X.env.locals m/\∀ (i:Nat) (x:Str) (v:V),X.N[i]? = some x->σ[i]? = some (some v)->Vis X.env.scope x->∃ u,jB v u/\Look X.env s.heap m x u
 cell:∀ x c,X.env.cells.lookup x=some c->∃ v,s.heap.IsCell c v
 free:H X.env.locals=none
 freeC:∀ x c,X.env.cells.lookup x=some c->H c=none
 pin:∀ p∈X.pn++pins,s.heap.get? p.1=some p.2/\H p.1=none/\p.1≠X.env.locals/\p.1∉X.fs/\∀ v,p.2.data≠.cell v
 hok:HOk X.prog X.w H s.heap
 len:σ.length=X.N.length
section
variable {X:Cx}{pins:List (Addr×Obj)}{σ:List (Option V)}{H H':Hp}{s:Shared}{h':Heap}
theorem Cx.Ok.nofr (ok:X.Ok) {b:Addr}{o:Obj}(e:X.base.get? b=some o):b∉X.fs:=fun hb=>by
 have:=(ok.funs.mem hb).1
 rw [e] at this;cases this
theorem Inv.bs (I:Inv X pins σ H s):∀ b o,X.base.get? b=some o->s.heap.get? b=some o/\H b=none:=fun b o e =>
 ⟨I.base.keep b o (I.ok.bs b o e).1 (I.ok.bs b o e).2 (I.ok.nofr e) (I.ok.noex b o e),I.base.free b o (I.ok.bs b o e).1 (I.ok.bs b o e).2 (I.ok.noex b o e)⟩
theorem Inv.bk (I:Inv X pins σ H s):∀ b o,X.base.get? b=some o->s.heap.get? b=some o:=fun b o e=>(I.bs b o e).1
theorem Inv.mod (I:Inv X pins σ H s):Mod X.K X.mg X.base:=I.ok.mod
theorem Inv.kIn (I:Inv X pins σ H s):X.K.In s.heap:=I.ok.mod.kin.keeps I.bk
theorem Inv.lt (I:Inv X pins σ H s):X.env.locals<s.heap.objs.size:=let ⟨_,hn,_⟩:=I.loc;hn.lt
theorem Inv.sz (I:Inv X pins σ H s):X.s₀.heap.objs.size<=s.heap.objs.size:=Nat.le_trans I.ok.above (Nat.le_of_lt I.lt)
theorem Inv.nofs (I:Inv X pins σ H s) {a:Addr}(h:s.heap.objs.size<=a):a∉X.fs:=fun hb=>by
 obtain ⟨_,o,ho,_⟩:=I.ok.funs.mem hb
 exact absurd (Nat.lt_of_lt_of_le (Heap.lt_size ho) (Nat.le_trans I.sz h)) (Nat.lt_irrefl _)
theorem Inv.cne (I:Inv X pins σ H s):∀ x c,X.env.cells.lookup x=some c->c≠X.env.locals:=fun x c e z=>by
 obtain ⟨v,o,ho,hd⟩:=I.cell x c e
 obtain ⟨m,⟨o',es,ep,ho',hd',_⟩,_⟩:=I.loc
 rw [z,ho'] at ho;cases ho;rw [hd'] at hd;cases hd
theorem Inv.funs (I:Inv X pins σ H s):s.heap.FunFrames X.base X.outer:=by
 have all:∀ (l:List Env),(∀ b∈frs l,b∈X.fs)->X.s₀.heap.FunFrames X.base l->s.heap.FunFrames X.base l:=by
  intro l
  induction l with
  | nil=>intro _ _;trivial
  | cons env r ih =>
   intro hs hl
   obtain ⟨hk,⟨L,o,hf,hn,ho,hd⟩,hr⟩:=hl
   have hL:L∈X.fs:=hs L (by unfold frs;rw [List.filterMap_cons,hf];exact List.mem_cons_self)
   obtain ⟨sl,e⟩:=I.base.slot L o ho (I.ok.frf L hL) hL fun z=>I.ok.exfs L z hL
   exact ⟨hk,⟨L,_,hf,hn,e,hd⟩,ih (fun b hb=>hs b (by unfold frs;rw [List.filterMap_cons,hf];exact List.mem_cons_of_mem _ hb)) hr⟩
 exact all X.outer (fun _ hb=>hb) I.ok.funs
theorem Inv.stack (I:Inv X pins σ H s):s.heap.FunFrames X.base X.stack:=by
 rcases I.ok.stk with e | ⟨e,hf⟩
 ·rw [e];exact I.funs
 ·rw [e]
  obtain ⟨m,hn,_⟩:=I.loc
  refine .cons (by rw [I.ok.kind];decide) hf hn ?_ I.funs
  exact Heap.get?_none_of_le (Nat.le_trans I.ok.bsz I.ok.above)
theorem Inv.stkSub (I:Inv X pins σ H s):∀ b∈frs X.stack,b∈X.env.locals::X.fs:=fun b hb=>by
 rcases I.ok.stk with e | ⟨e,hf⟩
 ·rw [e] at hb;exact List.mem_cons_of_mem _ hb
 ·rw [e] at hb
  unfold frs at hb
  rw [List.filterMap_cons,hf] at hb
  exact hb
theorem Inv.stkFree (I:Inv X pins σ H s):∀ b∈frs X.stack,H b=none:=fun b hb=>by
 rcases List.mem_cons.mp (I.stkSub b hb) with e | hb
 ·rw [e];exact I.free
 ·obtain ⟨_,o,ho,_⟩:=I.ok.funs.mem hb
  exact I.base.free b o ho (I.ok.frf b hb) fun z=>I.ok.exfs b z hb
theorem Inv.step {g':Array GenState}{t':Nat}{d':Drawn}{ch:List Addr}(I:Inv X pins σ H s)
  (hch:∀ b∈ch,(b∈X.ex\/X.s₀.heap.objs.size<=b)/\b≠X.env.locals/\(∀ x c,X.env.cells.lookup x=some c->c≠b)/\∀ p∈X.pn++pins,p.1≠b)
  (keep:∀ b o,b≠X.env.locals->b∉X.fs->b∉ch->s.heap.get? b=some o->H b=none->h'.get? b=some o)
  (slot:∀ b o,b≠X.env.locals->b∈X.fs->b∉ch->s.heap.get? b=some o->H b=none->∃ sl,h'.get? b=some { o with slots:=sl }) (free:∀ b o,b∉ch->s.heap.get? b=some o->H b=none->H' b=none)
  (there:∀ b o,b∉ch->s.heap.get? b=some o->∃ o',h'.get? b=some o')
  (tups:∀ b xs,H b=some (.tup xs)->H' b=some (.tup xs)) (frzs:∀ b o u,H b=some (.frz o u)->H' b=some (.frz o u)) (tbls:∀ b ps,H b=some (.tbl ps)->∃ more,H' b=some (.tbl (ps++more)))
  (ns:∀ m,s.heap.Ns X.env.locals m->h'.Ns X.env.locals m) (hok:HOk X.prog X.w H' h') (hg:AllBare g') :
  Inv X pins σ H' { s with heap:=h',gens:=g',drawn:=d',toks:=t' }:=by
 have neL:∀ b o,X.s₀.heap.get? b=some o->b≠X.env.locals:=fun b o e=>Nat.ne_of_lt (Nat.lt_of_lt_of_le (Heap.lt_size e) I.ok.above)
 have neC:∀ b o,X.s₀.heap.get? b=some o->b∉X.ex->b∉ch:=fun b o e hx hb=>by
  rcases (hch b hb).1 with z | z
  ·exact hx z
  ·exact absurd (Nat.lt_of_lt_of_le (Heap.lt_size e) z) (Nat.lt_irrefl _)
 have cellK:∀ x c,X.env.cells.lookup x=some c->∀ v,s.heap.IsCell c v->h'.IsCell c v:=fun x c e v ⟨o,ho,hd⟩=>by
  have nch:c∉ch:=fun z=>(hch c z).2.2.1 x c e rfl
  by_cases hc:c∈X.fs
  ·obtain ⟨sl,q⟩:=slot c o (I.cne x c e) hc nch ho (I.freeC x c e)
   exact ⟨_,q,hd⟩
  ·exact ⟨o,keep c o (I.cne x c e) hc nch ho (I.freeC x c e),hd⟩
 refine ⟨I.ok,I.os,hg,⟨fun b o e n hb hx=>?_,fun b o e n hb hx=>?_,fun b o e n hx=>?_,fun b o e hx=>?_,fun b xs e=>tups b xs (I.base.tups b xs e),fun b o xs e=>frzs b o xs (I.base.frzs b o xs e),fun b ps e=>?_⟩,?_,fun x c e=>?_,?_,fun x c e=>?_,fun p hp=>?_,hok,I.len⟩
 ·exact keep b o (neL b o e) hb (neC b o e hx) (I.base.keep b o e n hb hx) (I.base.free b o e n hx)
 ·obtain ⟨sl,e1⟩:=I.base.slot b o e n hb hx
  obtain ⟨sl',e2⟩:=slot b _ (neL b o e) hb (neC b o e hx) e1 (I.base.free b o e n hx)
  exact ⟨sl',e2⟩
 ·obtain ⟨o',e1⟩:=I.base.there b o e hx
  exact free b o' (neC b o e hx) e1 (I.base.free b o e n hx)
 ·obtain ⟨o',e1⟩:=I.base.there b o e hx
  exact there b o' (neC b o e hx) e1
 ·obtain ⟨m1,e1⟩:=I.base.tbls b ps e
  obtain ⟨m2,e2⟩:=tbls b _ e1
  exact ⟨m1++m2,by rw [e2,Array.append_assoc]⟩
 ·obtain ⟨m,hn,hl⟩:=I.loc
  refine ⟨m,ns m hn,fun i x v e1 e2 e3=>?_⟩
  obtain ⟨u,r,l⟩:=hl i x v e1 e2 e3
  refine ⟨u,r,?_⟩
  rcases l with l | ⟨k,c,e,z⟩
  ·exact .inl l
  ·exact .inr ⟨k,c,e,cellK x c e _ z⟩
 ·obtain ⟨v,z⟩:=I.cell x c e
  exact ⟨v,cellK x c e v z⟩
 ·obtain ⟨m,⟨o,_,_,ho,_⟩,_⟩:=I.loc
  exact free _ o (fun z=>(hch _ z).2.1 rfl) ho I.free
 ·obtain ⟨v,o,ho,hd⟩:=I.cell x c e
  exact free c o (fun z=>(hch c z).2.2.1 x c e rfl) ho (I.freeC x c e)
 ·obtain ⟨e,n,ne,nf,d⟩:=I.pin p hp
  have nch:p.1∉ch:=fun z=>(hch p.1 z).2.2.2 p hp rfl
  exact ⟨keep p.1 p.2 ne nf nch e n,free p.1 p.2 nch e n,ne,nf,d⟩
theorem Inv.un {t':Nat}(I:Inv X pins σ H s) (u:Un X.fs [] H H' s.heap h') (hok:HOk X.prog X.w H' h'):Inv X pins σ H' { s with heap:=h',toks:=t' }:=by
 obtain ⟨m,⟨o,es,ep,ho,r⟩,_⟩:=id I.loc
 obtain ⟨sl,hL⟩:=u.any ho I.free (by simp)
 exact I.step (g':=s.gens) (d':=s.drawn) (ch:=[]) (fun _ z=>nomatch z) (fun b o _ hb _ e n=>u.keep b o e n hb (by simp)) (fun b o _ hb _ e n=>u.slot b o e n hb (by simp)) (fun b o _ e n=>u.free b o e n (by simp)) (fun b o _ e=>u.there b o e (by simp)) u.tups u.frzs u.tbls (fun m' hm=>by
  obtain ⟨o',es',ep',ho',r'⟩:=hm
  rw [ho] at ho';cases ho'
  exact ⟨_,es',ep',hL,r'⟩) hok I.bare
theorem Inv.call {g':Array GenState}{t':Nat}{d':Drawn}{ch:List Addr}(I:Inv X pins σ H s) (u:Un (frs X.stack) ch H H' s.heap h') (hok:HOk X.prog X.w H' h') (hg:AllBare g')
  (hch:∀ b∈ch,(b∈X.ex\/X.s₀.heap.objs.size<=b)/\b≠X.env.locals/\(∀ x c,X.env.cells.lookup x=some c->c≠b)/\∀ p∈X.pn++pins,p.1≠b) :
  Inv X pins σ H' { s with heap:=h',gens:=g',drawn:=d',toks:=t' }:=by
 obtain ⟨m,⟨o,es,ep,ho,r⟩,_⟩:=id I.loc
 obtain ⟨sl,hL⟩:=u.any ho I.free fun z=>(hch _ z).2.1 rfl
 exact I.step (ch:=ch) hch (fun b o hL hb hc e n=>u.keep b o e n (fun z=>(List.mem_cons.mp (I.stkSub b z)).elim hL hb) hc) (fun b o _ _ hc e n=>u.any e n hc) (fun b o hc e n=>u.free b o e n hc) (fun b o hc e=>u.there b o e hc) u.tups u.frzs u.tbls (fun m' hm=>by
  obtain ⟨o',es',ep',ho',r'⟩:=hm
  rw [ho] at ho';cases ho'
  exact ⟨_,es',ep',hL,r'⟩) hok hg
theorem Inv.turned {t':Nat}{it:Addr}(I:Inv X pins σ H s) (k:∀ b o,b≠it->s.heap.get? b=some o->h'.get? b=some o) (hn:H it=none) (hL:it≠X.env.locals)
  (h1:it∈X.ex\/X.s₀.heap.objs.size<=it) (h2:∀ x c,X.env.cells.lookup x=some c->c≠it) (h3:∀ p∈X.pn++pins,p.1≠it):Inv X pins σ H { s with heap:=h',toks:=t' }:=by
 have nit:∀ b u,H b=some u->b≠it:=fun b u e z=>by rw [z,hn] at e;cases e
 refine I.step (g':=s.gens) (d':=s.drawn) (ch:=[it]) (fun b hb=>?_) (fun b o _ _ hc e _=>k b o (fun z=>hc (by simp [z])) e) (fun b o _ _ hc e _=>⟨o.slots,k b o (fun z=>hc (by simp [z])) e⟩) (fun _ _ _ _ n=>n)
  (fun b o hc e=>⟨o,k b o (fun z=>hc (by simp [z])) e⟩) (fun _ _ e=>e) (fun _ _ _ e=>e) (fun b ps e=>⟨#[],by rw [e];simp⟩) (fun m hm=>?_) (fun b u e=>?_) I.bare
 ·have e:b=it:=by simpa using hb
  subst e
  exact ⟨h1,hL,h2,h3⟩
 ·obtain ⟨o,es,ep,ho,r⟩:=hm
  exact ⟨o,es,ep,k _ o (Ne.symm hL) ho,r⟩
 ·refine (I.hok b u e).stay (fun c v hc q=>k c v ?_ q) (fun _ q=>q) fun _ _ q=>q
  rcases hc with z | z
  ·rw [z];exact nit b u e
  ·exact nit c _ z
theorem Inv.tok (I:Inv X pins σ H s) (t:Nat):Inv X pins σ H { s with toks:=t }:=I.un (h':=s.heap) (t':=t) Un.refl I.hok
theorem Inv.kept {t':Nat}(I:Inv X pins σ H s) (k:∀ b u,s.heap.get? b=some u->h'.get? b=some u):Inv X pins σ H { s with heap:=h',toks:=t' }:=I.un (Un.kept k) (I.hok.kept k)
theorem Inv.laid {a:Addr}{o:HO}{t':Nat}(I:Inv X pins σ H s) (k:∀ b u,s.heap.get? b=some u->h'.get? b=some u) (hp:s.heap.objs.size<=a) (new:qe X.prog X.w (upd H a o) h' a o) :
  Inv X pins σ (upd H a o) { s with heap:=h',toks:=t' }:=I.un (Un.laid k hp (I.hok.fresh hp)) (I.hok.laid k hp new)
theorem Inv.write {x e:Addr}{o:HO}{t':Nat}(I:Inv X pins σ H s) (mu:Mut (H x)) (he:e=x\/H e=some (.own x)) (k:∀ b u,b≠e->s.heap.get? b=some u->h'.get? b=some u) (heo:∃ u,h'.get? e=some u)
  (new:qe X.prog X.w (upd H x o) h' x o):Inv X pins σ (upd H x o) { s with heap:=h',toks:=t' }:=I.un (Un.write mu he k heo) (I.hok.write mu he k heo new)
theorem Inv.pins_of {pins':List (Addr×Obj)}(I:Inv X pins σ H s) (h:∀ p∈pins',s.heap.get? p.1=some p.2/\H p.1=none/\p.1≠X.env.locals/\p.1∉X.fs/\∀ v,p.2.data≠.cell v):Inv X pins' σ H s :=
 ⟨I.ok,I.os,I.bare,I.base,I.loc,I.cell,I.free,I.freeC,fun p hp=>(List.mem_append.mp hp).elim (fun z=>I.pin p (List.mem_append_left _ z)) (h p),I.hok,I.len⟩
theorem Qf {N:List Str}(hN:N.Nodup) {i j:Nat}{x:Str}(a:N[i]? = some x) (b:N[j]? = some x):i=j:=by
 obtain ⟨h1,e1⟩:=List.getElem?_eq_some_iff.mp a
 obtain ⟨h2,e2⟩:=List.getElem?_eq_some_iff.mp b
 exact (List.getElem_inj hN).mp (e1.trans e2.symm)
theorem gS {M:Model}{A:Around}{E:Value->Shared->Prop}{i:Nat}{x:Str}{v:V}{u:Value}{Q:Unit->Shared->Prop}(I:Inv X pins σ H s) (hN:X.N.Nodup) (hi:X.N[i]? = some x) (hx:Loc X.env.scope x) (r:jB v u)
  (h:∀ s',Inv X pins (σ.set i (some v)) H s'->(∃ a,Heap.SameBut a s.heap s'.heap/\(a=X.env.locals\/X.env.cells.lookup x=some a))->Q () s') (hf:X.fn x=true\/X.env.scope.names.lookup x=some .local:=by first | exact .inl rfl | exact .inr rfl | assumption):wpAny M A (storeName X.env x u) Q E s:=by
 obtain ⟨m,hn,hl⟩:=id I.loc
 have hcls:(X.env.scope.kind == .class || (X.env.scope.kind == .module && X.env.locals != X.env.globals))=false:=by rw [I.ok.kind];rfl
 have hiσ:i<σ.length:=by rw [I.len];exact (List.getElem?_eq_some_iff.mp hi).1
 have cne:=I.cne
 have tracked:∀ {a:Addr} {h':Heap},(∃ o,s.heap.get? a=some o/\H a=none)->Heap.SameBut a s.heap h'->HOk X.prog X.w H h':=fun {a h'} ha hs b ob e=>by
  obtain ⟨_,_,hfree⟩:=ha
  refine (I.hok b ob e).stay (fun c w' hc q=>(hs.2 c ?_).trans q) (fun _ q=>q) fun _ _ q=>q
  rintro rfl
  rcases hc with rfl | hc
  ·rw [hfree] at e;cases e
  ·rw [hfree] at hc;cases hc
 rcases hx with hk | hk
 ·refine wpAny_storeName_local hk hn (fun h' hn' hs=>?_) hcls
  obtain ⟨oL,_,_,hoL,_⟩:=id hn
  refine h _ ⟨I.ok,I.os,I.bare,⟨fun b o e n hb hx=>?_,fun b o e n hb hx=>?_,I.base.free,fun b o e hx=>?_,I.base.tups,I.base.frzs,I.base.tbls⟩,⟨_,hn',fun j y v' e1 e2 e3=>?_⟩,fun y c e=>?_,I.free,I.freeC,fun p hp=>?_,tracked ⟨oL,hoL,I.free⟩ hs,by simpa using I.len⟩ ⟨_,hs,.inl rfl⟩
  ·exact (hs.2 b (Nat.ne_of_lt (Nat.lt_of_lt_of_le (Heap.lt_size e) I.ok.above))).trans (I.base.keep b o e n hb hx)
  ·obtain ⟨sl,e1⟩:=I.base.slot b o e n hb hx
   exact ⟨sl,(hs.2 b (Nat.ne_of_lt (Nat.lt_of_lt_of_le (Heap.lt_size e) I.ok.above))).trans e1⟩
  ·obtain ⟨o',e1⟩:=I.base.there b o e hx
   exact ⟨o',(hs.2 b (Nat.ne_of_lt (Nat.lt_of_lt_of_le (Heap.lt_size e) I.ok.above))).trans e1⟩
  ·by_cases hj:j=i
   ·subst hj
    rw [hi] at e1;cases e1
    rw [List.getElem?_set_self hiσ] at e2
    cases e2
    exact ⟨u,r,.inl ⟨hk,by simp⟩⟩
   ·rw [List.getElem?_set_ne (Ne.symm hj)] at e2
    obtain ⟨u',r',q⟩:=hl j y v' e1 e2 e3
    refine ⟨u',r',?_⟩
    rcases q with ⟨k,e⟩ | ⟨k,c,e,z⟩
    ·refine .inl ⟨k,?_⟩
     have:y≠x:=fun e=>hj (Qf hN e1 (e ▸ hi))
     simp [this,e]
    ·exact .inr ⟨k,c,e,z.sameBut hs (cne y c e)⟩
  ·obtain ⟨w',z⟩:=I.cell y c e
   exact ⟨w',z.sameBut hs (cne y c e)⟩
  ·obtain ⟨e,n,ne,nf,d⟩:=I.pin p hp
   exact ⟨(hs.2 p.1 ne).trans e,n,ne,nf,d⟩
 ·have hfn:X.fn x=true:=by
   rcases hf with z | z
   ·exact z
   ·rw [z] at hk;cases hk
  obtain ⟨c,hc⟩:=I.ok.has x (.inl hk)
  obtain ⟨w',z⟩:=I.cell x c hc
  refine wpAny_storeName_cell I.ok.kind hk hc z (fun h' hc' hs=>?_)
  obtain ⟨oc,hoc,hocd⟩:=id z
  refine h { s with heap:=h' } ⟨I.ok,I.os,I.bare,⟨fun b o e n hb hx=>?_,fun b o e n hb hx=>?_,I.base.free,fun b o e hx=>?_,I.base.tups,I.base.frzs,I.base.tbls⟩,⟨m,hn.sameBut hs (Ne.symm (cne x c hc)),fun j y v' e1 e2 e3=>?_⟩,fun y c' e=>?_,I.free,I.freeC,fun p hp=>?_,tracked ⟨oc,hoc,I.freeC x c hc⟩ hs,by simpa using I.len⟩ ⟨c,hs,.inr hc⟩
  ·exact (hs.2 b (Nat.ne_of_lt (Nat.lt_of_lt_of_le (Heap.lt_size e) (I.ok.cab x c hfn hc)))).trans (I.base.keep b o e n hb hx)
  ·obtain ⟨sl,e1⟩:=I.base.slot b o e n hb hx
   exact ⟨sl,(hs.2 b (Nat.ne_of_lt (Nat.lt_of_lt_of_le (Heap.lt_size e) (I.ok.cab x c hfn hc)))).trans e1⟩
  ·obtain ⟨o',e1⟩:=I.base.there b o e hx
   exact ⟨o',(hs.2 b (Nat.ne_of_lt (Nat.lt_of_lt_of_le (Heap.lt_size e) (I.ok.cab x c hfn hc)))).trans e1⟩
  ·by_cases hj:j=i
   ·subst hj
    rw [hi] at e1;cases e1
    rw [List.getElem?_set_self hiσ] at e2
    cases e2
    exact ⟨u,r,.inr ⟨.inl hk,c,hc,hc'⟩⟩
   ·rw [List.getElem?_set_ne (Ne.symm hj)] at e2
    obtain ⟨u',r',q⟩:=hl j y v' e1 e2 e3
    refine ⟨u',r',?_⟩
    rcases q with q | ⟨k,c',e,z'⟩
    ·exact .inl q
    ·refine .inr ⟨k,c',e,z'.sameBut hs ?_⟩
     rintro rfl
     exact hj (Qf hN e1 (I.ok.inj _ _ _ e hc ▸ hi))
  ·by_cases hcc:c'=c
   ·subst hcc;exact ⟨_,hc'⟩
   ·obtain ⟨w2,z2⟩:=I.cell y c' e
    exact ⟨w2,z2.sameBut hs hcc⟩
  ·obtain ⟨e,n,ne,nf,d⟩:=I.pin p hp
   refine ⟨(hs.2 p.1 ?_).trans e,n,ne,nf,d⟩
   intro q
   rw [q,hoc] at e
   have q':oc=p.2:=Option.some.inj e
   exact d w' (by rw [<- q'];exact hocd)
theorem kW {M:Model}{A:Around}{E:Value->Shared->Prop}{i:Nat}{x:Str}{v:V}{u:Value}{Q:Unit->Shared->Prop}(I:Inv X pins σ H s) (hN:X.N.Nodup) (hi:X.N[i]? = some x) (hx:Loc X.env.scope x) (r:jB v u)
  (h:∀ s',Inv X pins (σ.set i (some v)) H s'->Q () s') (hf:X.fn x=true\/X.env.scope.names.lookup x=some .local:=by first | exact .inl rfl | exact .inr rfl | assumption):wpAny M A (storeName X.env x u) Q E s :=
 gS I hN hi hx r (fun s' I' _=>h s' I') hf
theorem Inv.call' {s':Shared}{ch:List Addr}(I:Inv X pins σ H s) (ho:s'.os=s.os) (u:Un (frs X.stack) ch H H' s.heap s'.heap) (hok:HOk X.prog X.w H' s'.heap) (hg:AllBare s'.gens)
  (hch:∀ b∈ch,(b∈X.ex\/X.s₀.heap.objs.size<=b)/\b≠X.env.locals/\(∀ x c,X.env.cells.lookup x=some c->c≠b)/\∀ p∈X.pn++pins,p.1≠b):Inv X pins σ H' s':=by
 obtain ⟨h',g',d',t',o'⟩:=s'
 have e:o'=s.os:=ho
 subst e
 exact I.call (g':=g') (t':=t') (d':=d') u hok hg hch
end
abbrev XK:=Value->Option Addr->Hp->Prop
abbrev St:=List (Option V)
abbrev VK:=V->Hp->Prop
abbrev TE:=St->Hp->VK->Prop
abbrev TT:=St->Hp->(Bool->Hp->Prop)->Prop
abbrev TA:=St->Hp->(List V->Hp->Prop)->Prop
structure Ends where
 nx:St->Hp->Prop
 rt:VK
 bk:St->Hp->Prop:=fun _ _=>False
 ct:St->Hp->Prop:=fun _ _=>False
abbrev TS:=Ends->St->Hp->Prop
def EP (X:Cx) (pins:List (Addr×Obj)) (σ:St) (Q:VK) (u:Value) (s':Shared):Prop:=∃ v H',Inv X pins σ H' s'/\jB v u/\Q v H'
def TP (X:Cx) (pins:List (Addr×Obj)) (σ:St) (Q:Bool->Hp->Prop) (b:Bool) (s':Shared):Prop:=∃ H',Inv X pins σ H' s'/\Q b H'
def AP (X:Cx) (pins:List (Addr×Obj)) (σ:St) (Q:List V->Hp->Prop) (us:List Value) (s':Shared):Prop:=∃ vs H',Inv X pins σ H' s'/\jz vs us/\Q vs H'
def SP (X:Cx) (pins:List (Addr×Obj)) (D:Ends) (f:Flow) (s':Shared):Prop :=
 match f with
 | .next=>∃ σ' H',Inv X pins σ' H' s'/\D.nx σ' H'
 | .brk=>∃ σ' H',Inv X pins σ' H' s'/\D.bk σ' H'
 | .cont=>∃ σ' H',Inv X pins σ' H' s'/\D.ct σ' H'
 | .ret u=>∃ v σ' H',Inv X pins σ' H' s'/\jB v u/\D.rt v H'
def PE (X:Cx) (e:Expr) (t:TE):Prop :=
 ∀ (pins:List (Addr×Obj)) (s:Shared) (σ:St) (H:Hp) (Q:VK),Inv X pins σ H s->t σ H Q->wpAny (model X.prog X.w) X.A (eval e X.env) (EP X pins σ Q) X.xe s
def PT (X:Cx) (e:Expr) (t:TT):Prop :=
 ∀ (pins:List (Addr×Obj)) (s:Shared) (σ:St) (H:Hp) (Q:Bool->Hp->Prop),Inv X pins σ H s->t σ H Q->wpAny (model X.prog X.w) X.A (isTrue e X.env (eval e X.env)) (TP X pins σ Q) X.xe s
def PW (X:Cx) (e:Expr) (t:TT):Prop :=
 ∀ (whole:Sem Value) (pins:List (Addr×Obj)) (s:Shared) (σ:St) (H:Hp) (Q:Bool->Hp->Prop),Inv X pins σ H s->t σ H Q->wpAny (model X.prog X.w) X.A (isTrue e X.env whole) (TP X pins σ Q) X.xe s
theorem PW.pt {X:Cx}{e:Expr}{t:TT}(h:PW X e t):PT X e t:=h _
def PA (X:Cx) (es:List Expr) (t:TA):Prop :=
 ∀ (pos:Pos) (pins:List (Addr×Obj)) (s:Shared) (σ:St) (H:Hp) (Q:List V->Hp->Prop),Inv X pins σ H s->t σ H Q->wpAny (model X.prog X.w) X.A (spliced (backTo pos (starEach es X.env))) (AP X pins σ Q) X.xe s
def PS (X:Cx) (st:Stmt) (t:TS):Prop :=
 ∀ (pins:List (Addr×Obj)) (s:Shared) (σ:St) (H:Hp) (D:Ends),Inv X pins σ H s->t D σ H->wpAny (model X.prog X.w) X.A (exec st X.env) (SP X pins D) X.xe s
def PSs (X:Cx) (st:List Stmt) (t:TS):Prop :=
 ∀ (pins:List (Addr×Obj)) (s:Shared) (σ:St) (H:Hp) (D:Ends),Inv X pins σ H s->t D σ H->wpAny (model X.prog X.w) X.A (execs st X.env) (SP X pins D) X.xe s
theorem thn {α:Type}{t:Sem α}{Q Q':α->Shared->Prop}{M:Model}{A:Around}{E:Value->Shared->Prop}{s:Shared}(h:wpAny M A t Q E s) (hQ:∀ a s,Q a s->Q' a s):wpAny M A t Q' E s:=wpAny_mono h hQ fun _ _ x=>x
end L2
namespace L2
open PySem PySem.Spec PyProof.Rows
section
variable {X:Cx}
theorem bin {a b:Expr}{ta tb:TE}(ha:PE X a ta) (hb:PE X b tb) {pins:List (Addr×Obj)}{s:Shared}{σ:St}{H:Hp}{R:V->V->Hp->Prop}(I:Inv X pins σ H s) (h:ta σ H fun x H1=>tb σ H1 fun y H2=>R x y H2)
  {α:Type} {Q:α->Shared->Prop} {f:Value->Value->Sem α}
  (hf:∀ v u s2 x y H2,Inv X pins σ H2 s2->jB x v->jB y u->R x y H2->wpAny (model X.prog X.w) X.A (f v u) Q X.xe s2) :
  wpAny (model X.prog X.w) X.A (eval a X.env) (fun v s₁=>wpAny (model X.prog X.w) X.A (eval b X.env) (fun u s₂=>wpAny (model X.prog X.w) X.A (f v u) Q X.xe s₂) X.xe s₁) X.xe s:=by
 refine thn (ha pins s σ H _ I h) fun v s1 ⟨x,H1,I1,r1,q1⟩=>?_
 refine thn (hb pins s1 σ H1 _ I1 q1) fun u s2 ⟨y,H2,I2,r2,q2⟩=>?_
 exact hf v u s2 x y H2 I2 r1 r2 q2
def Wr (i:Nat):TE:=fun σ H Q=>∃ v,σ[i]? = some (some v)/\Q v H
def tC (v:V):TE:=fun _ H Q=>Q v H
theorem WB {i:Nat}{x:Str}{pos:Pos}(hN:X.N[i]? = some x) (hv:Vis X.env.scope x) (hd:(x == ("__debug__" : Str))=false:=by decide) (hcd:(x == ("__classdict__" : Str))=false:=by decide):PE X (.Name x pos) (Wr i):=by
 intro pins s σ H Q I h
 obtain ⟨v,e,h⟩:=h
 obtain ⟨m,hn,hl⟩:=I.loc
 obtain ⟨u,r,l⟩:=hl i x v hN e hv
 have fin:EP X pins σ Q u s:=⟨v,H,I,r,h⟩
 rcases l with ⟨hk,hm⟩ | ⟨hk,c,hc,hcell⟩
 ·exact wpAny_Name (wpAny_loadName_local I.ok.kind hk hn hm fin) hd
 ·rcases hk with hk | hk
  ·exact wpAny_Name (wpAny_loadName_cell I.ok.kind hk hc hcell fin) hd
  ·exact wpAny_Name (wpAny_loadName_free I.ok.kind hk hc hcell fin hcd) hd
theorem j7 {i j pos}:PE X (.Constant (.int i) j pos) (tC (.int i)):=fun _ _ _ H _ I h=>wpAny_Constant_int ⟨.int i,H,I.tok _,⟨_,rfl⟩,h⟩
theorem Jd {b j pos}:PE X (.Constant (.bool b) j pos) (tC (.bl b)):=fun _ _ _ H _ I h=>Constant_bool ⟨.bl b,H,I,rfl,h⟩
theorem Jo {j pos}:PE X (.Constant .none j pos) (tC .non):=fun _ _ _ H _ I h=>Constant_none ⟨.non,H,I,rfl,h⟩
theorem jG {x j pos}:PE X (.Constant (.str x) j pos) (tC (.str x)):=fun _ _ _ H _ I h=>Calls.Constant_str ⟨.str x,H,I.tok _,⟨_,rfl⟩,h⟩
def Gl (X:Cx) (x:Str):Prop:=X.env.kindOf x=some .globalImplicit
theorem um {E:Value->Shared->Prop}{pins:List (Addr×Obj)}{s:Shared}{σ:St}{H:Hp}{x:Str}{u:Value}{pos:Pos}{Q:Value->Shared->Prop}(I:Inv X pins σ H s) (hg:Gl X x) (hm:X.mg x=some u) (h:Q u s)
  (hd:(x == ("__debug__" : Str))=false:=by decide):wpAny (model X.prog X.w) X.A (eval (.Name x pos) X.env) Q E s :=
 Calls.Name_function_global I.ok.kind hg (Calls.loadGlobal_global (by rw [I.ok.glob];exact I.mod.glob.keeps I.bk) hm h) hd
theorem zY {E:Value->Shared->Prop}{pins:List (Addr×Obj)}{s:Shared}{σ:St}{H:Hp}{x:Str}{u:Value}{pos:Pos}{Q:Value->Shared->Prop}(I:Inv X pins σ H s) (hg:Gl X x) (hm:X.mg x=none) (hv:bootBuiltins x=some u) (h:Q u s)
  (hn:x ≠ "__name__":=by decide) (hd:(x == ("__debug__" : Str))=false:=by decide):wpAny (model X.prog X.w) X.A (eval (.Name x pos) X.env) Q E s:=by
 obtain ⟨mb,h1,h2⟩:=I.mod.blt
 exact Calls.Name_function_global I.ok.kind hg (Calls.loadGlobal_builtin (by rw [I.ok.glob];exact I.mod.glob.keeps I.bk) hm (by rw [I.ok.blt];exact h1.keeps I.bk) ((h2 x hn).trans hv) h) hd
theorem x6 {x:Str}{v:V}{u:Value}{pos:Pos}(hg:Gl X x) (hm:X.mg x=some u) (r:jB v u) (hd:(x == ("__debug__" : Str))=false:=by decide):PE X (.Name x pos) (tC v) :=
 fun _ _ _ H _ I h=>um I hg hm ⟨v,H,I,r,h⟩ hd
theorem xu {x:Str}{v:V}{u:Value}{pos:Pos}(hg:Gl X x) (hm:X.mg x=none) (hv:bootBuiltins x=some u) (r:jB v u) (hn:x ≠ "__name__":=by decide) (hd:(x == ("__debug__" : Str))=false:=by decide):PE X (.Name x pos) (tC v) :=
 fun _ _ _ H _ I h=>zY I hg hm hv ⟨v,H,I,r,h⟩ hn hd
variable {a b:Expr}{ta tb:TE}{pos:Pos}
def PC (X:Cx) (op:CmpOp) (a b:Expr) (t:TE):Prop :=
 ∀ (pins:List (Addr×Obj)) (s:Shared) (σ:St) (H:Hp) (Q:VK),Inv X pins σ H s->t σ H Q ->
  wpAny (model X.prog X.w) X.A (eval a X.env) (fun v s₁=>wpAny (model X.prog X.w) X.A (eval b X.env) (fun u s₂=>wpAny (model X.prog X.w) X.A (compareOp op v u) (EP X pins σ Q) X.xe s₂) X.xe s₁) X.xe s
theorem YQ (b:Expr) {op:CmpOp}(h:op≠.In) (h2:op≠.NotIn):behindInMarks op b=false:=by
 have e1:(op == CmpOp.In)=false:=by cases op <;> first | rfl | exact absurd rfl h
 have e2:(op == CmpOp.NotIn)=false:=by cases op <;> first | rfl | exact absurd rfl h2
 cases b <;> simp [behindInMarks,e1,e2]
def tB (t:TE):TT:=fun σ H Q=>t σ H fun x H1=>∃ c,x = .bl c/\Q c H1
theorem Wd {op:CmpOp}{t:TE}(h:PC X op a b t) (h1:behindInMarks op b=false:=by first | exact YQ _ (by decide) (by decide) | rfl):PT X (.Compare a [op] [b] pos) (tB t):=by
 intro pins s σ H Q I hw
 refine wpAny_isTrue_Compare1 (thn (h pins s σ H _ I hw) fun v s1 h1=>thn h1 fun u s2 h2=>thn h2 fun c s3 ⟨x,H1,I1,r1,q1⟩=>?_) h1
 obtain ⟨d,rfl,q⟩:=q1
 cases r1
 exact wpAny_truthy_bool ⟨H1,I1,q⟩
theorem zK {e:Expr}{t:TE}(h:PE X e t) (he:∀ whole,isTrue e X.env whole=(do let v <- whole;standAt e.pos;holding [v] (truthy v)):=by intro _;rfl):PT X e (tB t):=by
 intro pins s σ H Q I hw
 refine isTrue_plain (thn (h pins s σ H _ I hw) fun v s1 ⟨x,H1,I1,r1,q1⟩=>?_) (he _)
 obtain ⟨d,rfl,q⟩:=q1
 cases r1
 exact wpAny_truthy_bool ⟨H1,I1,q⟩
variable {tA tB':TT}{vw:List Expr}
def G7 (t u:TT):TT:=fun σ H Q=>t σ H fun c H1=>if c=true then u σ H1 Q else Q false H1
def tOr (t u:TT):TT:=fun σ H Q=>t σ H fun c H1=>if c=true then Q true H1 else u σ H1 Q
def tNot (t:TT):TT:=fun σ H Q=>t σ H fun c H1=>Q (!c) H1
theorem Jy (ha:PT X a tA):PW X (.BoolOp .And [a] pos) tA:=by
 intro wh pins s σ H Q I h
 refine isTrue_and (thn (ha pins s σ H Q I h) fun c s1 e=>?_)
 cases c with
 | true=>exact isTrue_and_nil e
 | false=>exact e
theorem VA (ha:PT X a tA):PW X (.BoolOp .Or [a] pos) tA:=by
 intro wh pins s σ H Q I h
 refine isTrue_or (thn (ha pins s σ H Q I h) fun c s1 e=>?_)
 cases c with
 | false=>exact isTrue_or_nil e
 | true=>exact e
theorem Xg (ha:PT X a tA) (hb:PW X (.BoolOp .And (b::vw) pos) tB'):PW X (.BoolOp .And (a::b::vw) pos) (G7 tA tB'):=by
 intro wh pins s σ H Q I h
 refine isTrue_and (thn (ha pins s σ H _ I h) fun c s1 ⟨H1,I1,q1⟩=>?_)
 cases c with
 | true=>exact hb wh pins s1 σ H1 Q I1 q1
 | false=>exact ⟨H1,I1,q1⟩
theorem UX (ha:PT X a tA) (hb:PW X (.BoolOp .Or (b::vw) pos) tB'):PW X (.BoolOp .Or (a::b::vw) pos) (tOr tA tB'):=by
 intro wh pins s σ H Q I h
 refine isTrue_or (thn (ha pins s σ H _ I h) fun c s1 ⟨H1,I1,q1⟩=>?_)
 cases c with
 | true=>exact ⟨H1,I1,q1⟩
 | false=>exact hb wh pins s1 σ H1 Q I1 q1
theorem xf (ha:PT X a tA):PT X (.UnaryOp .Not a pos) (tNot tA):=by
 intro pins s σ H Q I h
 exact isTrue_not (ha pins s σ H (fun c H1=>Q (!c) H1) I h)
def Gv (ta tb:TE):TE:=fun σ H Q=>ta σ H fun x H1=>∃ c,x = .bl c/\if c=true then tb σ H1 Q else Q (.bl false) H1
def GX (ta:TE):TE:=fun σ H Q=>ta σ H fun x H1=>∃ c,x = .bl c/\Q (.bl (!c)) H1
theorem yi {op}{t:TE}(h:PE X a t):PE X (.BoolOp op [a] pos) t:=fun pins s σ H Q I hw=>BoolOp_one (h pins s σ H Q I hw)
theorem y7 (ha:PE X a ta) (hb:PE X (.BoolOp .And (b::vw) pos) tb):PE X (.BoolOp .And (a::b::vw) pos) (Gv ta tb):=by
 intro pins s σ H Q I h
 refine BoolOp_and (thn (ha pins s σ H _ I h) fun v s1 ⟨x,H1,I1,r1,q1⟩=>?_)
 obtain ⟨c,rfl,q1⟩:=q1
 cases r1
 refine wpAny_truthy_bool ?_
 cases c with
 | true=>exact hb pins s1 σ H1 Q I1 q1
 | false=>exact ⟨.bl false,H1,I1,rfl,q1⟩
theorem WC (ha:PE X a ta):PE X (.UnaryOp .Not a pos) (GX ta):=by
 intro pins s σ H Q I h
 refine UnaryOp_ (thn (ha pins s σ H _ I h) fun v s1 ⟨x,H1,I1,r1,q1⟩=>?_)
 obtain ⟨c,rfl,q1⟩:=q1
 cases r1
 exact not_of (wpAny_truthy_bool ⟨.bl (!c),H1,I1,rfl,q1⟩)
def tIf (t:TT) (ta tb:TE):TE:=fun σ H Q=>t σ H fun c H1=>if c=true then ta σ H1 Q else tb σ H1 Q
theorem Vu {c:Expr}(hc:PT X c tA) (ha:PE X a ta) (hb:PE X b tb):PE X (.IfExp c a b pos) (tIf tA ta tb):=by
 intro pins s σ H Q I h
 refine wpAny_IfExp (thn (hc pins s σ H _ I h) fun d s1 ⟨H1,I1,q1⟩=>?_)
 cases d with
 | true=>exact ha pins s1 σ H1 Q I1 q1
 | false=>exact hb pins s1 σ H1 Q I1 q1
end
end L2
namespace L2
open PySem PySem.Spec PyProof.Rows
def SqL (K:PySem.W.Frag) (H:Hp) (a:Addr) (xs:List V):Prop :=
 Rd H a (.lst xs) \/
  ∃ (o:Obj) (its:Array Value) (n:Nat),K.lookup a=some o/\o.cls = .type "list" /\ o.dict=none/\o.data = .seq its n/\its.size<=sizeLine/\jz xs its.toList
def SqT (K:PySem.W.Frag) (H:Hp) (a:Addr) (xs:List V):Prop :=
 Rd H a (.tup xs) \/
  ∃ (o:Obj) (its:Array Value) (n:Nat),K.lookup a=some o/\o.cls = .type "tuple" /\ o.data = .seq its n/\its.size<=sizeLine/\jz xs its.toList
def absV:Value->Option V
 | .none=>some .non
 | .bool b=>some (.bl b)
 | .int i _=>some (.int i)
 | .str x _=>some (.str x)
 | .bytes b _=>some (.byt b)
 | .float b _=>some (.flt b)
 | .ref a=>some (.ref a)
 | .type n=>some (.ty n)
 | _=>none
theorem jB.abs {x:V}{u:Value}(r:jB x u):absV u=some x:=by
 cases x with
 | non=>cases r;rfl
 | bl _=>cases r;rfl
 | int _=>obtain ⟨t,rfl⟩:=r;rfl
 | str _=>obtain ⟨t,rfl⟩:=r;rfl
 | byt _=>obtain ⟨t,rfl⟩:=r;rfl
 | flt _=>obtain ⟨t,rfl⟩:=r;rfl
 | ref _=>cases r;rfl
 | ty _=>cases r;rfl
theorem jB.inj {x y:V}{u:Value}(r:jB x u) (q:jB y u):x=y:=Option.some.inj (r.abs.symm.trans q.abs)
theorem jz.inj:∀ {xs ys:List V}{us:List Value},jz xs us->jz ys us->xs=ys
 | _,_,_,.nil,.nil=>rfl
 | _,_,_,.cons r t,.cons r' t'=>by rw [r.inj r',jz.inj t t']
section
variable {X:Cx}{pins:List (Addr×Obj)}{σ:St}{H:Hp}{s:Shared}{a:Addr}{xs ys:List V}
theorem SqL.of {K:PySem.W.Frag}(h:H a=some (.lst xs)):SqL K H a xs:=.inl (.inl h)
theorem SqT.of {K:PySem.W.Frag}(h:H a=some (.tup xs)):SqT K H a xs:=.inl (.inl h)
theorem Inv.list (I:Inv X pins σ H s) (h:SqL X.K H a xs):∃ its:List Value,jz xs its/\PlainL s.heap a its.toArray/\xs.length<=sizeLine:=by
 rcases h with h | ⟨o,its,n,hk,hc,hd,hs,hz,r⟩
 ·obtain ⟨z,its,n,r,e⟩:=h.ok I.hok
  exact ⟨its,r,⟨_,n,e,rfl,rfl,rfl⟩,z⟩
 ·refine ⟨its.toList,r,⟨o,n,I.kIn a o hk,hc,hd,by simpa using hs⟩,?_⟩
  have e:=r.length
  simp only [Array.length_toList] at e
  omega
theorem Inv.tuple (I:Inv X pins σ H s) (h:SqT X.K H a xs):∃ its:List Value,jz xs its/\IsTup s.heap a its.toArray/\xs.length<=sizeLine:=by
 rcases h with h | ⟨o,its,n,hk,hc,hs,hz,r⟩
 ·obtain ⟨z,its,r,p⟩:=h.ok I.hok
  exact ⟨its,r,p,z⟩
 ·refine ⟨its.toList,r,⟨o,I.kIn a o hk,hc,n,by simpa using hs⟩,?_⟩
  have e:=r.length
  simp only [Array.length_toList] at e
  omega
theorem Inv.list_inj (I:Inv X pins σ H s) (h:SqL X.K H a xs) (h':SqL X.K H a ys):xs=ys:=by
 obtain ⟨its,r,⟨o,n,e,_,_,d⟩,_⟩:=I.list h
 obtain ⟨its',r',⟨o',n',e',_,_,d'⟩,_⟩:=I.list h'
 rw [e] at e';cases e'
 rw [d] at d'
 injection d' with d1 _
 have:its=its':=by simpa using congrArg Array.toList d1
 subst this
 exact r.inj r'
theorem Inv.tuple_inj (I:Inv X pins σ H s) (h:SqT X.K H a xs) (h':SqT X.K H a ys):xs=ys:=by
 obtain ⟨its,r,⟨o,e,_,n,d⟩,_⟩:=I.tuple h
 obtain ⟨its',r',⟨o',e',_,n',d'⟩,_⟩:=I.tuple h'
 rw [e] at e';cases e'
 rw [d] at d'
 injection d' with d1 _
 have:its=its':=by simpa using congrArg Array.toList d1
 subst this
 exact r.inj r'
end
abbrev Cx.wish (X:Cx) (E:Value->Shared->Prop):Cx:={ X with xe:=E }
abbrev Cx.nox (X:Cx):Cx:=X.wish fun _ _=>False
theorem Cx.Ok.wish {X:Cx}(ok:X.Ok) (E:Value->Shared->Prop):(X.wish E).Ok :=
 ⟨ok.mod,ok.kind,ok.glob,ok.blt,ok.above,ok.inj,ok.has,ok.cab,ok.hd,ok.frames,ok.stk,ok.exf,ok.bs,ok.bsz,ok.noex,ok.exfs,ok.funs,ok.frf⟩
theorem Cx.Ok.unwish {X:Cx}{E:Value->Shared->Prop}(ok:(X.wish E).Ok):X.Ok :=
 ⟨ok.mod,ok.kind,ok.glob,ok.blt,ok.above,ok.inj,ok.has,ok.cab,ok.hd,ok.frames,ok.stk,ok.exf,ok.bs,ok.bsz,ok.noex,ok.exfs,ok.funs,ok.frf⟩
section
variable {X:Cx}{pins:List (Addr×Obj)}{σ:St}{H:Hp}{s:Shared}{E:Value->Shared->Prop}
theorem Inv.wish (I:Inv X pins σ H s) (E:Value->Shared->Prop):Inv (X.wish E) pins σ H s:=⟨I.ok.wish E,I.os,I.bare,I.base,I.loc,I.cell,I.free,I.freeC,I.pin,I.hok,I.len⟩
theorem Inv.unwish (I:Inv (X.wish E) pins σ H s):Inv X pins σ H s:=⟨I.ok.unwish,I.os,I.bare,I.base,I.loc,I.cell,I.free,I.freeC,I.pin,I.hok,I.len⟩
theorem SP.unwish {D:Ends}{f:Flow}{s':Shared}(h:SP (X.wish E) pins D f s'):SP X pins D f s':=by
 cases f with
 | next=>obtain ⟨σ',H',I,q⟩:=h;exact ⟨σ',H',I.unwish,q⟩
 | brk=>obtain ⟨σ',H',I,q⟩:=h;exact ⟨σ',H',I.unwish,q⟩
 | cont=>obtain ⟨σ',H',I,q⟩:=h;exact ⟨σ',H',I.unwish,q⟩
 | ret u=>obtain ⟨v,σ',H',I,r,q⟩:=h;exact ⟨v,σ',H',I.unwish,r,q⟩
theorem PE.nox {e:Expr}{t:TE}(h:PE X.nox e t):PE X e t:=fun pins s σ H Q I hw =>
 wpAny_mono (h pins s σ H Q (I.wish _) hw) (fun _ _ ⟨v,H',I',r,q⟩=>⟨v,H',I'.unwish,r,q⟩) fun _ _ z=>False.elim z
theorem PSs.nox {st:List Stmt}{t:TS}(h:PSs X.nox st t):PSs X st t:=fun pins s σ H D I hw =>
 wpAny_mono (h pins s σ H D (I.wish _) hw) (fun _ _ q=>q.unwish) fun _ _ z=>False.elim z
end
section
variable {X:Cx}{st:Stmt}{vw:List Stmt}{t u:TS}{e:Expr}{te:TE}{pos:Pos}
def E2:TS:=fun D σ H=>D.nx σ H
def tSeq (t u:TS):TS:=fun D σ H=>t { D with nx:=u D } σ H
theorem jy:PSs X [] E2:=fun _ _ σ H _ I h=>wpAny_execs_nil ⟨σ,H,I,h⟩
theorem j4 (h1:PS X st t) (h2:PSs X vw u):PSs X (st::vw) (tSeq t u):=by
 intro pins s σ H D I h
 refine wpAny_execs_cons (thn (h1 pins s σ H { D with nx:=u D } I h) fun f s1 q=>?_)
 cases f with
 | next =>
  obtain ⟨σ',H',I',q⟩:=q
  exact h2 pins s1 σ' H' D I' q
 | ret v=>exact q
 | brk=>exact q
 | cont=>exact q
theorem j9 (h1:PS X st t):PSs X [st] t:=by
 intro pins s σ H D I h
 refine wpAny_execs_cons (thn (h1 pins s σ H D I h) fun f s1 q=>?_)
 cases f with
 | next=>exact wpAny_execs_nil q
 | ret v=>exact q
 | brk=>exact q
 | cont=>exact q
def WA:TS:=fun D σ H=>D.bk σ H
theorem Vt:PS X (.Break pos) WA:=fun _ _ σ H _ I h=>wpAny_Break ⟨σ,H,I,h⟩
theorem Inv.quiet {pins:List (Addr×Obj)}{σ:St}{H:Hp}{s:Shared}(I:Inv X pins σ H s):interactive X.env=false:=by simp [interactive,I.ok.kind]
def GM (te:TE):TS:=fun D σ H=>te σ H fun _ H1=>D.nx σ H1
theorem jO (he:PE X e te) (hs:swapsWith e none pos.line X.env=pure false:=by rfl):PS X (.Expr e pos) (GM te):=by
 intro pins s σ H D I h
 exact wpAny_Expr_any (thn (he pins s σ H _ I h) fun v s1 ⟨x,H1,I1,r1,q1⟩=>⟨σ,H1,I1,q1⟩) I.quiet hs
def tRet (te:TE):TS:=fun D σ H=>te σ H D.rt
theorem jk (he:PE X e te):PS X (.Return (some e) pos) (tRet te):=by
 intro pins s σ H D I h
 exact wpAny_Return_some (thn (he pins s σ H _ I h) fun v s1 ⟨x,H1,I1,r1,q1⟩=>⟨x,σ,H1,I1,r1,q1⟩)
def tIfS (c:TT) (t u:TS):TS:=fun D σ H=>c σ H fun b H1=>if b=true then t D σ H1 else u D σ H1
theorem jV {c:Expr}{a b:List Stmt}{tc:TT}(hc:PT X c tc) (ha:PSs X a t) (hb:PSs X b u):PS X (.If c a b pos) (tIfS tc t u):=by
 intro pins s σ H D I h
 refine wpAny_If (thn (hc pins s σ H _ I h) fun d s1 ⟨H1,I1,q1⟩=>?_)
 cases d with
 | true=>exact ha pins s1 σ H1 D I1 q1
 | false=>exact hb pins s1 σ H1 D I1 q1
end
abbrev TG:=V->St->Hp->(St->Hp->Prop)->Prop
abbrev TGs:=List V->St->Hp->(St->Hp->Prop)->Prop
def PG (X:Cx) (target:Expr) (t:TG):Prop :=
 ∀ (pins:List (Addr×Obj)) (s:Shared) (σ:St) (H:Hp) (v:V) (u:Value) (Q:St->Hp->Prop),Inv X pins σ H s->jB v u->t v σ H Q ->
  wpAny (model X.prog X.w) X.A (assign target X.env u) (fun _ s'=>∃ σ' H',Inv X pins σ' H' s'/\Q σ' H') X.xe s
def PGs (X:Cx) (ts:List Expr) (t:TGs):Prop :=
 ∀ (pins:List (Addr×Obj)) (s:Shared) (σ:St) (H:Hp) (vs:List V) (us:List Value) (Q:St->Hp->Prop),Inv X pins σ H s->jz vs us->t vs σ H Q ->
  wpAny (model X.prog X.w) X.A (assignInOrder ((assignEach ts X.env).map (·.2)) us) (fun _ s'=>∃ σ' H',Inv X pins σ' H' s'/\Q σ' H') X.xe s
abbrev WO:=V->V->V->Hp->(Hp->Prop)->Prop
def GO (X:Cx) (t:WO):Prop :=
 ∀ (pins:List (Addr×Obj)) (s:Shared) (σ:St) (H:Hp) (o i v:V) (ov iv u:Value) (Q:Hp->Prop),Inv X pins σ H s->jB o ov->jB i iv->jB v u->t o i v H Q ->
  wpAny (model X.prog X.w) X.A (setItem ov iv u) (fun _ s'=>∃ H',Inv X pins σ H' s'/\Q H') X.xe s
abbrev TIp:=V->V->Hp->VK->Prop
def PIp (X:Cx) (op:Operator) (t:TIp):Prop :=
 ∀ (pins:List (Addr×Obj)) (s:Shared) (σ:St) (H:Hp) (x y:V) (v u:Value) (Q:VK),Inv X pins σ H s->jB x v->jB y u->t x y H Q ->
  wpAny (model X.prog X.w) X.A (inplaceOp op v u) (EP X pins σ Q) X.xe s
section
variable {X:Cx}{pos:Pos}
def Q5 (i:Nat):TG:=fun v σ H Q=>Q (σ.set i (some v)) H
theorem ja {i:Nat}{x:Str}(hN:X.N.Nodup) (hi:X.N[i]? = some x) (hx:Loc X.env.scope x) (hf:X.fn x=true\/X.env.scope.names.lookup x=some .local:=by first | exact .inl rfl | exact .inr rfl | assumption):PG X (.Name x pos) (Q5 i):=by
 intro pins s σ H v u Q I r h
 exact wpAny_assign_Name (kW I hN hi hx r (fun s' I'=>⟨_,H,I',h⟩) hf)
def gNil:TGs:=fun vs σ H Q=>vs=[]/\Q σ H
def GR (t:TG) (u:TGs):TGs:=fun vs σ H Q=>∃ v r,vs=v::r/\t v σ H fun σ' H'=>u r σ' H' Q
theorem qj:PGs X [] gNil:=by
 intro pins s σ H vs us Q I r h
 obtain ⟨e,h⟩:=h
 subst e
 cases r
 exact assignInOrder_nil ⟨σ,H,I,h⟩
theorem jh {e:Expr}{es:List Expr}{t:TG}{u:TGs}(h1:PG X e t) (h2:PGs X es u)
  (hs:(assignEach (e::es) X.env).map (·.2)=assign e X.env::(assignEach es X.env).map (·.2):=by rfl):PGs X (e::es) (GR t u):=by
 intro pins s σ H vs us Q I r h
 obtain ⟨v,vr,e1,h⟩:=h
 subst e1
 cases r with
 | cons r rr =>
  rw [hs]
  refine assignInOrder_cons (thn (h1 pins s σ H _ _ _ I r h) fun _ s1 ⟨σ1,H1,I1,q1⟩=>?_)
  exact h2 pins s1 σ1 H1 _ _ Q I1 rr q1
def E8 (K:PySem.W.Frag) (n:Nat) (t:TGs):TG:=fun v σ H Q=>∃ a xs,v = .ref a/\SqT K H a xs/\xs.length=n/\t xs σ H Q
theorem WH {es:List Expr}{k:Nat}{t:TGs}{n:Nat}(hc:X.calm=true) (h:PGs X es t)
  (hn:(assignEach es X.env).length=n:=by rfl) (hst:(assignEach es X.env).findIdx? (·.1)=none:=by rfl):PG X (.Tuple es k pos) (E8 X.K n t):=by
 intro pins s σ H v u Q I r hw
 obtain ⟨a,xs,e1,hq,hl,hw⟩:=hw
 subst e1
 cases r
 obtain ⟨its,rv,ht,hz⟩:=I.tuple hq
 refine assign_Tuple_tuple (I.ok.hd hc) ht (by simp [hn,<- hl,rv.length]) hst fun h' hx=>?_
 have I1:Inv X pins σ H { s with heap:=h' }:=I.kept (t':=s.toks) fun b o e=>hx b o (Nat.ne_of_lt (Heap.lt_size e)) e
 exact h pins _ σ H xs _ Q I1 (by simpa using rv) hw
def gSub (to ti:TE) (t:WO):TG:=fun v σ H Q=>to σ H fun o H1=>ti σ H1 fun i H2=>t o i v H2 fun H3=>Q σ H3
theorem wM {o i:Expr}{to ti:TE}{t:WO}(ho:PE X o to) (hi:PE X i ti) (hs:GO X t)
  (ha:∀ v,assign (.Subscript o i pos) X.env v=(do
   let ov <- holding [v] (eval o X.env)
   let iv <- holding [v,ov] (eval i X.env)
   standAt pos
   holding [v,ov,iv] (setItem ov iv v)
   release [v,ov,iv] []):=by intro _;rfl):PG X (.Subscript o i pos) (gSub to ti t):=by
 intro pins s σ H v u Q I r h
 rw [ha]
 refine wpAny_bind (wpAny_holding (thn (ho pins s σ H _ I h) fun ov s1 ⟨x,H1,I1,r1,q1⟩=>?_))
 refine wpAny_bind (wpAny_holding (thn (hi pins s1 σ H1 _ I1 q1) fun iv s2 ⟨y,H2,I2,r2,q2⟩=>?_))
 refine wpAny_bind (wpAny_standAt (wpAny_bind (wpAny_holding (thn (hs pins s2 σ H2 x y v ov iv u _ I2 r1 r2 r q2) fun _ s3 ⟨H3,I3,q3⟩=>?_))))
 exact wpAny_release ⟨σ,H3,I3,q3⟩
def Wt (te:TE) (g:TG):TS:=fun D σ H=>te σ H fun x H1=>g x σ H1 D.nx
theorem xY {tg e:Expr}{te:TE}{g:TG}(he:PE X e te) (hg:PG X tg g) (hs:swapsWithSole [tg] e pos.line X.env=pure false:=by rfl) (hw:swappedStores [tg] e X.env=pure none:=by rfl)
  (h1:(assignEach [tg] X.env).map (·.2)=[assign tg X.env]:=by rfl):PS X (.Assign [tg] e pos) (Wt te g):=by
 intro pins s σ H D I h
 refine wpAny_Assign_stores (thn (he pins s σ H _ I h) fun v s1 ⟨x,H1,I1,r1,q1⟩=>?_) hs hw
 rw [h1]
 exact thn (hg pins s1 σ H1 x v _ I1 r1 q1) fun _ s2 q=>q
theorem jm {i:Nat}{x:Str}{e:Expr}{te:TE}{pos':Pos}(hN:X.N.Nodup) (hi:X.N[i]? = some x) (hx:Loc X.env.scope x) (he:PE X e te) (hs:swapsWith e (some (.Name x pos')) pos.line X.env=pure false:=by rfl) (hf:X.fn x=true\/X.env.scope.names.lookup x=some .local:=by first | exact .inl rfl | exact .inr rfl | assumption) :
  PS X (.Assign [.Name x pos'] e pos) (Wt te (Q5 i)):=by
 intro pins s σ H D I h
 refine wpAny_Assign_Name (thn (he pins s σ H _ I h) fun v s1 ⟨y,H1,I1,r1,q1⟩=>?_) hs
 exact kW I1 hN hi hx r1 (fun s2 I2=>⟨_,H1,I2,q1⟩) hf
def tAug (i:Nat) (te:TE) (ti:TIp):TS:=fun D σ H=>∃ x,σ[i]? = some (some x)/\te σ H fun y H1=>ti x y H1 fun z H2=>D.nx (σ.set i (some z)) H2
theorem JM {i:Nat}{x:Str}{e:Expr}{te:TE}{op:Operator}{ti:TIp}{pos':Pos}(hN:X.N.Nodup) (hi:X.N[i]? = some x) (hx:Loc X.env.scope x) (he:PE X e te) (ho:PIp X op ti) (hf:X.fn x=true\/X.env.scope.names.lookup x=some .local:=by first | exact .inl rfl | exact .inr rfl | assumption) :
  PS X (.AugAssign (.Name x pos') op e pos) (tAug i te ti):=by
 intro pins s σ H D I h
 obtain ⟨v,e1,h⟩:=h
 obtain ⟨m,hn,hl⟩:=I.loc
 have vis:Vis X.env.scope x:=by rcases hx with k | k;exact .inl k;exact .inr (.inl k)
 obtain ⟨u,r,l⟩:=hl i x v hi e1 vis
 refine wpAny_AugAssign_Name ?_
 have go:wpAny (model X.prog X.w) X.A (eval e X.env) (fun w s₂=>wpAny (model X.prog X.w) X.A (inplaceOp op u w) (fun r s₃=>wpAny (model X.prog X.w) X.A (storeName X.env x r) (fun _=>SP X pins D .next) X.xe s₃) X.xe s₂) X.xe s:=by
  refine thn (he pins s σ H _ I h) fun w s1 ⟨y,H1,I1,r1,q1⟩=>?_
  refine thn (ho pins s1 σ H1 v y u w _ I1 r r1 q1) fun z s2 ⟨zv,H2,I2,r2,q2⟩=>?_
  exact kW I2 hN hi hx r2 (fun s3 I3=>⟨_,H2,I3,q2⟩) hf
 rcases l with ⟨hk,hm⟩ | ⟨hk,c,hc,hcell⟩
 ·exact wpAny_loadName_local I.ok.kind hk hn hm go
 ·rcases hk with hk | hk
  ·exact wpAny_loadName_cell I.ok.kind hk hc hcell go
  ·rcases hx with k | k
   ·have:X.env.scope.names.lookup x=some .free:=hk
    rw [k] at this;cases this
   ·have:X.env.scope.names.lookup x=some .free:=hk
    rw [k] at this;cases this
def ipI (f:Int->Int->Int):TIp:=fun x y H Q=>∃ i j,x = .int i/\y = .int j/\Q (.int (f i j)) H
theorem XH:PIp X .Add (ipI fun i j=>i+j):=by
 intro pins s σ H x y v u Q I r1 r2 h
 obtain ⟨i,j,e1,e2,q⟩:=h
 subst e1;subst e2
 obtain ⟨t,rfl⟩:=r1
 obtain ⟨t',rfl⟩:=r2
 exact iadd_int ⟨.int _,H,I.tok _,⟨_,rfl⟩,q⟩
theorem WG:PIp X .Sub (ipI fun i j=>i-j):=by
 intro pins s σ H x y v u Q I r1 r2 h
 obtain ⟨i,j,e1,e2,q⟩:=h
 subst e1;subst e2
 obtain ⟨t,rfl⟩:=r1
 obtain ⟨t',rfl⟩:=r2
 exact isub_int ⟨.int _,H,I.tok _,⟨_,rfl⟩,q⟩
end
section
variable {X:Cx}{pos:Pos}
def Vg (c:TT) (tb:TS):TS:=fun D σ H=>∃ W:Nat->St->Hp->Prop,(∃ m,W m σ H)/\∀ m σ H,W m σ H ->
 c σ H fun b H1=>if b=true then ∃ N:St->Hp->Prop,(∀ σ' H',N σ' H'->∃ m',m'<m/\W m' σ' H')/\tb { D with nx:=N,ct:=N,bk:=D.nx } σ H1 else D.nx σ H1
theorem wC {c:Expr}{body:List Stmt}{tc:TT}{tb:TS}(hp:PassesOwn (model X.prog X.w) X.A X.env X.xe) (hc:PT X c tc) (hb:PSs X body tb):PS X (.While c body [] pos) (Vg tc tb):=by
 intro pins s σ H D I h
 obtain ⟨W,⟨m0,w0⟩,turn⟩:=h
 refine wpAny_While (codeAny_whileLoop (fun n s'=>∃ σ' H',Inv X pins σ' H' s'/\W n σ' H') ?_ m0 ⟨σ,H,I,w0⟩)
 rintro n s1 ⟨σ1,H1,I1,w1⟩
 refine wpAny_passesOwn hp (thn (hc pins s1 σ1 H1 _ I1 (turn n σ1 H1 w1)) fun b s2 ⟨H2,I2,q2⟩=>?_)
 cases b with
 | true =>
  obtain ⟨N,hN,q2⟩:=q2
  rw [if_pos rfl]
  refine wpAny_passesOwn hp (thn (hb pins s2 σ1 H2 _ I2 q2) fun f s3 q3=>?_)
  cases f with
  | next =>
   obtain ⟨σ3,H3,I3,n3⟩:=q3
   obtain ⟨m',hm,w3⟩:=hN σ3 H3 n3
   exact ⟨m',hm,σ3,H3,I3,w3⟩
  | cont =>
   obtain ⟨σ3,H3,I3,n3⟩:=q3
   obtain ⟨m',hm,w3⟩:=hN σ3 H3 n3
   exact ⟨m',hm,σ3,H3,I3,w3⟩
  | brk=>exact q3
  | ret v=>exact q3
 | false =>
  rw [if_neg Bool.false_ne_true]
  exact wpAny_execs_nil ⟨σ1,H2,I2,q2⟩
end
structure It where
 go:Nat->Hp->Prop
 yld:Nat->Hp->V->Hp->Prop
 stop:Nat->Hp->Prop
def uG (X:Cx) (pins:List (Addr×Obj)) (H:Hp) (b:Addr):Prop :=
 H b=none/\b≠X.env.locals/\b∉X.fs/\(b∈X.ex\/X.s₀.heap.objs.size<=b)/\(∀ x c,X.env.cells.lookup x=some c->c≠b)/\∀ p∈X.pn++pins,p.1≠b
theorem Inv.fpOk {X:Cx}{pins:List (Addr×Obj)}{σ:St}{H H':Hp}{s:Shared}{b:Addr}(I:Inv X pins σ H s) (hb:s.heap.objs.size<=b) (hn:H' b=none):uG X pins H' b:=by
 refine ⟨hn,Nat.ne_of_gt (Nat.lt_of_lt_of_le I.lt hb),I.nofs hb,.inr (Nat.le_trans I.sz hb),fun x c e z=>?_,fun p hp z=>?_⟩
 ·obtain ⟨v,q⟩:=I.cell x c e
  exact absurd (Nat.lt_of_lt_of_le q.lt (by rw [z];exact hb)) (Nat.lt_irrefl _)
 ·exact absurd (Nat.lt_of_lt_of_le (Heap.lt_size (I.pin p hp).1) (by rw [z];exact hb)) (Nat.lt_irrefl _)
structure Turn (P:Program) (w:World) (K:PySem.W.Frag) (tg:Expr) (J:It) (fp:List Addr) (it:Addr) (tn:Nat->Heap->Prop):Prop where
 mem:it∈fp
 obj:∀ i h,tn i h->∀ b∈fp,∃ o,h.get? b=some o/\∀ v,o.data≠.cell v
 keep:∀ i h h',tn i h->(∀ b∈fp,∀ o,h.get? b=some o->h'.get? b=some o)->tn i h'
 item:∀ (X:Cx),X.prog=P->X.w=w->X.K=K->X.calm=true->∀ (i:Nat) (pins:List (Addr×Obj)) (s:Shared) (σ:St) (H:Hp) (E:Value->Shared->Prop),Inv X pins σ H s->(∀ b∈fp,uG X pins H b)->tn i s.heap->J.go i H ->
  wpAny (model P w) X.A (pyNext (.ref it)) (fun r s1=>∃ u,r=some u /\
   wpAny (model P w) X.A (letOwnedTupleGo tg (.ref it) u) (fun _ s2=>∃ x H',Inv X pins σ H' s2/\jB x u/\J.yld i H x H'/\tn (i+1) s2.heap/\∀ b∈fp,H' b=none) E s1) E s
 done:∀ (X:Cx),X.prog=P->X.w=w->X.K=K->X.calm=true->∀ (i:Nat) (pins:List (Addr×Obj)) (s:Shared) (σ:St) (H:Hp) (E:Value->Shared->Prop),Inv X pins σ H s->(∀ b∈fp,uG X pins H b)->tn i s.heap->J.stop i H ->
  wpAny (model P w) X.A (pyNext (.ref it)) (fun r s1=>r=none/\Inv X pins σ H s1) E s
 self:∀ (A:Around) (i:Nat) (s:Shared) (Q:Value->Shared->Prop) (E:Value->Shared->Prop),tn i s.heap->Q (.ref it) s->wpAny (model P w) A (pyIter (.ref it)) Q E s
abbrev TI:=St->Hp->(It->Hp->Prop)->Prop
def PIE (X:Cx) (pins:List (Addr×Obj)) (σ:St) (tg:Expr) (R:It->Hp->Prop) (itv:Value) (s2:Shared):Prop :=
 ∃ (it:Addr) (fp:List Addr) (tn:Nat->Heap->Prop) (J:It) (H':Hp),itv = .ref it/\Inv X pins σ H' s2/\Turn X.prog X.w X.K tg J fp it tn/\tn 0 s2.heap/\(∀ b∈fp,uG X pins H' b)/\R J H'
def PI (X:Cx) (tg iter:Expr) (wi:TI):Prop :=
 ∀ (pins:List (Addr×Obj)) (s:Shared) (σ:St) (H:Hp) (R:It->Hp->Prop),Inv X pins σ H s->wi σ H R ->
  wpAny (model X.prog X.w) X.A (eval iter X.env) (fun v s1=>wpAny (model X.prog X.w) X.A (pyIter v) (PIE X pins σ tg R) X.xe s1) X.xe s
theorem Qu {M:Model}{A:Around}{E:Value->Shared->Prop}{s:Shared}{tg:Expr}{it:Addr}{u:Value}{o:Obj}{n:String}{vs:Array Value}{Q:Unit->Shared->Prop}(ho:s.heap.get? it=some o) (hc:o.cls = .type n) (hd:o.data = .fields vs)
  (hn:["enumerate","zip","dict_itemiterator","dict_reverseitemiterator","odict_iterator","itertools.zip_longest","itertools.pairwise"].contains n=false) (hQ:Q () s):wpAny M A (letOwnedTupleGo tg (.ref it) u) Q E s:=by
 unfold letOwnedTupleGo
 cases tg <;> first
  | exact wpAny_pure hQ
  | (cases u <;> first
    | exact wpAny_pure hQ
    | (refine wpAny_bind (wpAny_load ho ?_)
       rw [hc,hd]
       show wpAny M A (if (["enumerate","zip","dict_itemiterator","dict_reverseitemiterator","odict_iterator","itertools.zip_longest","itertools.pairwise"].contains n && vs[0]? == some (rawInt _))=true then _ else _) Q E s
       rw [if_neg (by intro h;rw [hn,Bool.false_and] at h;cases h)]
       exact wpAny_pure hQ))
def Itl (K:PySem.W.Frag) (a:Addr):It :=
 ⟨fun i H=>∃ xs x,SqL K H a xs/\xs[i]? = some x,fun i H x H'=>H'=H/\∀ xs,SqL K H a xs->xs[i]? = some x,fun i H=>∃ xs,SqL K H a xs/\xs.length<=i⟩
def Itt (K:PySem.W.Frag) (a:Addr):It :=
 ⟨fun i H=>∃ xs x,SqT K H a xs/\xs[i]? = some x,fun i H x H'=>H'=H/\∀ xs,SqT K H a xs->xs[i]? = some x,fun i H=>∃ xs,SqT K H a xs/\xs.length<=i⟩
def Itr (lo:Int) (n:Nat):It:=⟨fun i _=>i<n,fun i H x H'=>H'=H/\x = .int (lo+i),fun i _=>n<=i⟩
theorem ZO {P:Program}{w:World}{K:PySem.W.Frag}{tg:Expr}(a it:Addr):Turn P w K tg (Itl K a) [it] it (fun i h=>h.IsListIter it a i) where
 mem:=by simp
 obj:=fun i h st b hb=>by
  have e:b=it:=by simpa using hb
  subst e
  obtain ⟨o,e,c,d⟩:=st
  exact ⟨o,e,fun v z=>by rw [d] at z;cases z⟩
 keep:=fun i h h' st k=>st.at fun o e=>k it (by simp) o e
 item:=by
  intro X hP hw hK hc i pins s σ H E I hf st hg
  subst hP hw hK
  obtain ⟨xs,x,hq,hx⟩:=hg
  obtain ⟨its,rv,p,hz⟩:=I.list hq
  obtain ⟨u,hu,ru⟩:=rv.get hx
  obtain ⟨f0,f1,f2,f3,f4,f5⟩:=hf it (by simp)
  refine wpAny_pyNext_list_item st p.isList (x:=u) (by simpa using hu) fun h' st' sb=>?_
  have I1:Inv X pins σ H { s with heap:=h' }:=I.turned (t':=s.toks) (fun b o hb e=>(sb.2 b hb).trans e) f0 f1 f3 f4 f5
  obtain ⟨o,e,c,d⟩:=id st'
  exact ⟨u,rfl,Qu (s:={ s with heap:=h' }) e c d (by decide) ⟨x,H,I1,ru,⟨rfl,fun ys hy=>by rw [I.list_inj hy hq];exact hx⟩,st',fun b hb=>(hf b hb).1⟩⟩
 done:=by
  intro X hP hw hK hc i pins s σ H E I hf st hg
  subst hP hw hK
  obtain ⟨xs,hq,hx⟩:=hg
  obtain ⟨its,rv,p,hz⟩:=I.list hq
  obtain ⟨f0,f1,f2,f3,f4,f5⟩:=hf it (by simp)
  have hl:=rv.length
  exact wpAny_pyNext_list_end (I.ok.hd hc) st p.isList (by simp;omega) fun h' eb=>⟨rfl,I.turned (t':=s.toks) (fun b o hb e=>eb b o hb e) f0 f1 f3 f4 f5⟩
 self:=fun _ _ _ _ _ st h=>wpAny_pyIter_listiter st h
theorem QQ {P:Program}{w:World}{K:PySem.W.Frag}{tg:Expr}(a it:Addr):Turn P w K tg (Itt K a) [it] it (fun i h=>h.IsTupleIter it a i) where
 mem:=by simp
 obj:=fun i h st b hb=>by
  have e:b=it:=by simpa using hb
  subst e
  obtain ⟨o,e,c,d⟩:=st
  exact ⟨o,e,fun v z=>by rw [d] at z;cases z⟩
 keep:=fun i h h' st k=>st.at fun o e=>k it (by simp) o e
 item:=by
  intro X hP hw hK hc i pins s σ H E I hf st hg
  subst hP hw hK
  obtain ⟨xs,x,hq,hx⟩:=hg
  obtain ⟨its,rv,p,hz⟩:=I.tuple hq
  obtain ⟨u,hu,ru⟩:=rv.get hx
  obtain ⟨f0,f1,f2,f3,f4,f5⟩:=hf it (by simp)
  refine wpAny_pyNext_tuple_item st (show s.heap.IsTuple a its.toArray from p) (x:=u) (by simpa using hu) fun h' st' sb=>?_
  have I1:Inv X pins σ H { s with heap:=h' }:=I.turned (t':=s.toks) (fun b o hb e=>(sb.2 b hb).trans e) f0 f1 f3 f4 f5
  obtain ⟨o,e,c,d⟩:=id st'
  exact ⟨u,rfl,Qu (s:={ s with heap:=h' }) e c d (by decide) ⟨x,H,I1,ru,⟨rfl,fun ys hy=>by rw [I.tuple_inj hy hq];exact hx⟩,st',fun b hb=>(hf b hb).1⟩⟩
 done:=by
  intro X hP hw hK hc i pins s σ H E I hf st hg
  subst hP hw hK
  obtain ⟨xs,hq,hx⟩:=hg
  obtain ⟨its,rv,p,hz⟩:=I.tuple hq
  obtain ⟨f0,f1,f2,f3,f4,f5⟩:=hf it (by simp)
  have hl:=rv.length
  exact wpAny_pyNext_tuple_end (I.ok.hd hc) st (show s.heap.IsTuple a its.toArray from p) (by simp;omega) fun h' eb=>⟨rfl,I.turned (t':=s.toks) (fun b o hb e=>eb b o hb e) f0 f1 f3 f4 f5⟩
 self:=fun _ _ _ _ _ st h=>wpAny_pyIter_tupleiter st h
theorem wZ {P:Program}{w:World}{K:PySem.W.Frag}{tg:Expr}(it:Addr) (lo:Int) (n:Nat):Turn P w K tg (Itr lo n) [it] it (fun i h=>IsRangeIter h it (lo+(i:Nat)*1) ((n:Int)-(i:Nat)) 1) where
 mem:=by simp
 obj:=fun i h st b hb=>by
  have e:b=it:=by simpa using hb
  subst e
  exact ⟨_,st,fun v z=>by
   have z':Data.fields _=Data.cell v:=z
   cases z'⟩
 keep:=fun i h h' st k=>k it (by simp) _ st
 item:=by
  intro X hP hw hK hc i pins s σ H E I hf st hg
  subst hP hw hK
  obtain ⟨f0,f1,f2,f3,f4,f5⟩:=hf it (by simp)
  have W:=Walks.range (prog:=X.prog) (w:=X.w) (I.ok.hd hc) it lo 1 n
  refine W.item i s _ _ hg st fun v h' tk hv st' kk=>?_
  obtain ⟨t,rfl⟩:=hv
  have I1:Inv X pins σ H { s with heap:=h',toks:=tk }:=I.turned (fun b o hb e=>kk b o (by simpa using hb) e) f0 f1 f3 f4 f5
  refine ⟨_,rfl,Qu (s:={ s with heap:=h',toks:=tk }) (n:="range_iterator") st' rfl rfl (by decide) ⟨.int (lo+i),H,I1,⟨t,?_⟩,⟨rfl,rfl⟩,st',fun b hb=>(hf b hb).1⟩⟩
  rw [Int.mul_one]
 done:=by
  intro X hP hw hK hc i pins s σ H E I hf st hg
  subst hP hw hK
  obtain ⟨f0,f1,f2,f3,f4,f5⟩:=hf it (by simp)
  exact wpAny_pyNext_range_end (I.ok.hd hc) st (by have:n<=i:=hg;omega) fun h' eb=>⟨rfl,I.turned (t':=s.toks) (fun b o hb e=>eb b o hb e) f0 f1 f3 f4 f5⟩
 self:=fun _ _ _ _ _ st h=>wpAny_pyIter_rangeiter st h
end L2
namespace L2
open PySem PySem.Spec PyProof.Rows
section
variable {X:Cx}{tg:Expr}
def UZ (K:PySem.W.Frag) (tl:TE):TI:=fun σ H R=>tl σ H fun x H1=>∃ a,x = .ref a/\(∃ xs,SqL K H1 a xs)/\R (Itl K a) H1
def GL (K:PySem.W.Frag) (tl:TE):TI:=fun σ H R=>tl σ H fun x H1=>∃ a,x = .ref a/\(∃ xs,SqT K H1 a xs)/\R (Itt K a) H1
theorem Uh {l:Expr}{tl:TE}(hl:PE X l tl):PI X tg l (UZ X.K tl):=by
 intro pins s σ H R I h
 refine thn (hl pins s σ H _ I h) fun v s1 ⟨x,H1,I1,r1,q1⟩=>?_
 obtain ⟨a,e,⟨xs,hq⟩,q⟩:=q1
 subst e
 cases r1
 obtain ⟨its,rv,p,hz⟩:=I1.list hq
 refine wpAny_pyIter_list p.isList ?_
 refine ⟨s1.heap.objs.size,[s1.heap.objs.size],_,_,H1,rfl,I1.kept (t':=s1.toks) fun b o e=>Heap.get?_push_of_some _ e,ZO a _,⟨_,Heap.get?_push_size _ rfl,rfl,rfl⟩,fun b hb=>?_,q⟩
 have e:b=s1.heap.objs.size:=by simpa using hb
 subst e
 exact I1.fpOk (Nat.le_refl _) (I1.hok.fresh (Nat.le_refl _))
theorem Wb {l:Expr}{tl:TE}(hl:PE X l tl):PI X tg l (GL X.K tl):=by
 intro pins s σ H R I h
 refine thn (hl pins s σ H _ I h) fun v s1 ⟨x,H1,I1,r1,q1⟩=>?_
 obtain ⟨a,e,⟨xs,hq⟩,q⟩:=q1
 subst e
 cases r1
 obtain ⟨its,rv,p,hz⟩:=I1.tuple hq
 refine wpAny_pyIter_tuple (show s1.heap.IsTuple a its.toArray from p) ?_
 refine ⟨s1.heap.objs.size,[s1.heap.objs.size],_,_,H1,rfl,I1.kept (t':=s1.toks) fun b o e=>Heap.get?_push_of_some _ e,QQ a _,⟨_,Heap.get?_push_size _ rfl,rfl,rfl⟩,fun b hb=>?_,q⟩
 have e:b=s1.heap.objs.size:=by simpa using hb
 subst e
 exact I1.fpOk (Nat.le_refl _) (I1.hok.fresh (Nat.le_refl _))
theorem Qh {pins:List (Addr×Obj)}{σ:St}{H:Hp}{s:Shared}{R:It->Hp->Prop}{E:Value->Shared->Prop}{lo hi:Int}{t u v:Tok}{tk:Nat}(I:Inv X pins σ H s) (h1 : -(2 ^ 62)<=lo) (h2:lo<2 ^ 62) (h3 : -(2 ^ 62)<=hi) (h4:hi<2 ^ 62)
  (q:R (Itr lo (hi-lo).toNat) H):wpAny (model X.prog X.w) X.A (pyIter (.ref s.heap.objs.size)) (PIE X pins σ tg R) E { s with heap:=s.heap.push { cls:=.type "range",data:=.fields #[.int lo t,.int hi u,.int 1 v] },toks:=tk }:=by
 refine wpAny_pyIter_range (IsRange.new ..) (small_one h1 h2 h3 h4) ?_
 have I1:Inv X pins σ H { s with heap:=s.heap.push { cls:=.type "range",data:=.fields #[.int lo t,.int hi u,.int 1 v] },toks:=tk }:=I.kept fun b o e=>Heap.get?_push_of_some _ e
 refine ⟨(s.heap.push { cls:=.type "range",data:=.fields #[.int lo t,.int hi u,.int 1 v] }).objs.size,[(s.heap.push { cls:=.type "range",data:=.fields #[.int lo t,.int hi u,.int 1 v] }).objs.size],_,_,H,rfl,
  I1.kept (t':=tk) fun b o e=>Heap.get?_push_of_some _ e,wZ _ lo (hi-lo).toNat,?_,fun b hb=>?_,q⟩
 ·have e1:lo+((0:Nat):Int)*1=lo:=by simp
  have e2:(((hi-lo).toNat:Nat):Int)-((0:Nat):Int)=Builtin.Range.rangeSize lo hi 1:=by rw [rangeSize_one];split <;> omega
  show IsRangeIter _ _ (lo+((0:Nat):Int)*1) ((((hi-lo).toNat:Nat):Int)-((0:Nat):Int)) 1
  rw [e1,e2]
  exact Heap.get?_push_size _ rfl
 ·have e:b=(s.heap.push { cls:=.type "range",data:=.fields #[.int lo t,.int hi u,.int 1 v] }).objs.size:=by simpa using hb
  subst e
  exact I1.fpOk (Nat.le_refl _) (I1.hok.fresh (Nat.le_refl _))
def Gr (ta:TA):TI:=fun σ H R=>ta σ H fun vs H1=>∃ j:Int,vs=[.int j] /\ -(2 ^ 62)<=j/\j<2 ^ 62/\R (Itr 0 j.toNat) H1
def GV (ta:TA):TI:=fun σ H R=>ta σ H fun vs H1=>∃ i j:Int,vs=[.int i,.int j]/\(-(2 ^ 62)<=i/\i<2 ^ 62 /\ -(2 ^ 62)<=j/\j<2 ^ 62)/\R (Itr i (j-i).toNat) H1
theorem qx {a:Expr}{ta:TA}{p pos:Pos}(hg:Gl X "range") (hm:X.mg "range" = none) (ha:PA X [a] ta) (hs:starEach [a] X.env=[(false,eval a X.env)]:=by rfl):PI X tg (.Call (.Name "range" p) [a] [] pos) (Gr ta):=by
 intro pins s σ H R I h
 refine Call_ (zY I hg hm boot_range (PyProof.Rows.callWith_type1 (thn (ha pos pins s σ H _ I h) fun us s1 ⟨vs,H1,I1,r1,q1⟩=>?_) hs rfl))
 obtain ⟨j,e,q1,q2,q⟩:=q1
 subst e
 cases r1 with
 | cons r rr =>
  cases rr
  obtain ⟨t,rfl⟩:=r
  exact call_range_1 (Qh I1 (by omega) (by omega) q1 q2 (by simpa using q))
theorem Yj {a b:Expr}{ta:TA}{p pos:Pos}(hg:Gl X "range") (hm:X.mg "range" = none) (ha:PA X [a,b] ta) (hs:starEach [a,b] X.env=[(false,eval a X.env),(false,eval b X.env)]:=by rfl) (hs2:starEach [b] X.env=[(false,eval b X.env)]:=by rfl) :
  PI X tg (.Call (.Name "range" p) [a,b] [] pos) (GV ta):=by
 intro pins s σ H R I h
 refine Call_ (zY I hg hm boot_range (PyProof.Rows.callWith_type1 (thn (ha pos pins s σ H _ I h) fun us s1 ⟨vs,H1,I1,r1,q1⟩=>?_) (by rw [hs,hs2]) (by rw [hs2];rfl)))
 obtain ⟨i,j,e,⟨q1,q2,q3,q4⟩,q⟩:=q1
 subst e
 cases r1 with
 | cons r rr =>
  cases rr with
  | cons r' rr =>
   cases rr
   obtain ⟨t,rfl⟩:=r
   obtain ⟨t',rfl⟩:=r'
   exact call_range_2 (Qh I1 q1 q2 q3 q4 q)
def tFor (wi:TI) (g:TG) (tb:TS):TS:=fun D σ H=>wi σ H fun J H1=>∃ W:Nat->Nat->St->Hp->Prop,(∃ m,W 0 m σ H1)/\∀ i m σ H,W i m σ H ->
 (J.stop i H/\D.nx σ H)\/(J.go i H/\∃ N:St->Hp->Prop,(∀ σ' H',N σ' H'->∃ m',m'<m/\W (i+1) m' σ' H')/\∀ x H',J.yld i H x H'->g x σ H' fun σ2 H2=>tb { D with nx:=N,ct:=N,bk:=D.nx } σ2 H2)
def zo (fp:List Addr) (h:Heap):List (Addr×Obj):=fp.filterMap fun b=>(h.get? b).map fun o=>(b,o)
theorem qI {fp:List Addr}{h:Heap}{b:Addr}{o:Obj}(hb:b∈fp) (e:h.get? b=some o):(b,o)∈zo fp h:=List.mem_filterMap.mpr ⟨b,hb,by rw [e];rfl⟩
theorem Ym {fp:List Addr}{h:Heap}{p:Addr×Obj}(hp:p∈zo fp h):p.1∈fp/\h.get? p.1=some p.2:=by
 obtain ⟨b,hb,e⟩:=List.mem_filterMap.mp hp
 cases q:h.get? b with
 | none=>rw [q] at e;cases e
 | some o =>
  rw [q] at e
  have e':(b,o)=p:=Option.some.inj e
  subst e'
  exact ⟨hb,q⟩
theorem Inv.pinned {pins:List (Addr×Obj)}{σ:St}{H:Hp}{s:Shared}{fp:List Addr}(I:Inv X pins σ H s) (hf:∀ b∈fp,uG X pins H b) (ho:∀ b∈fp,∃ o,s.heap.get? b=some o/\∀ v,o.data≠.cell v):Inv X (pins++zo fp s.heap) σ H s :=
 I.pins_of fun p hp=>(List.mem_append.mp hp).elim (fun z=>I.pin p (List.mem_append_right _ z)) fun z=>by
  obtain ⟨hb,e⟩:=Ym z
  obtain ⟨f0,f1,f2,_⟩:=hf p.1 hb
  obtain ⟨o,e',d⟩:=ho p.1 hb
  rw [e] at e';cases e'
  exact ⟨e,f0,f1,f2,d⟩
theorem Inv.unpinned {pins pl:List (Addr×Obj)}{σ:St}{H:Hp}{s:Shared}(I:Inv X (pins++pl) σ H s):Inv X pins σ H s:=I.pins_of fun p hp=>I.pin p (List.mem_append_right _ (List.mem_append_left _ hp))
theorem xb {iter:Expr}{body:List Stmt}{wi:TI}{g:TG}{tb:TS}{pos:Pos}(hp:PassesOwn (model X.prog X.w) X.A X.env X.xe) (hc:X.calm=true) (hi:PI X tg iter wi) (hg:PG X tg g) (hb:PSs X body tb)
  (hs:∀ x,foldedSetIterable iter X.env x=pure x:=by intro _;rfl):PS X (.For tg iter body [] pos) (tFor wi g tb):=by
 intro pins s σ H D I h
 refine wpAny_For (thn (hi pins s σ H _ I h) fun v s1 h1=>thn h1 fun itv s2 h2=>?_) hs
 obtain ⟨it,fp,tn,J,H2,e,I2,T,st2,f2,W,⟨m0,w0⟩,turn⟩:=h2
 subst e
 have stat:∀ {H':Hp},(∀ b∈fp,H' b=none)->∀ b∈fp,uG X pins H' b:=fun hn b hb=>⟨hn b hb,(f2 b hb).2⟩
 refine codeAny_forLoop_any (fun n s'=>∃ i σ' H',Inv X pins σ' H' s'/\tn i s'.heap/\(∀ b∈fp,H' b=none)/\W i n σ' H') ?_ m0 ⟨0,σ,H2,I2,st2,fun b hb=>(f2 b hb).1,w0⟩
 rintro n s3 ⟨i,σ3,H3,I3,st3,fr3,w3⟩
 rcases turn i n σ3 H3 w3 with ⟨stop,qn⟩ | ⟨go,N,hN,step⟩
 ·refine wpAny_passesOwn hp (thn (T.done X rfl rfl rfl hc i pins s3 σ3 H3 X.xe I3 (stat fr3) st3 stop) fun r s4 ⟨hr,I4⟩=>?_)
  subst hr
  exact wpAny_execs_nil ⟨σ3,H3,I4,qn⟩
 ·refine wpAny_passesOwn hp (thn (T.item X rfl rfl rfl hc i pins s3 σ3 H3 X.xe I3 (stat fr3) st3 go) fun r s4 ⟨u,hr,h4⟩=>?_)
  subst hr
  refine wpAny_passesOwn hp (thn h4 fun _ s5 ⟨x,H5,I5,r5,y5,st5,fr5⟩=>?_)
  have I5':=I5.pinned (stat fr5) (T.obj _ _ st5)
  refine wpAny_passesOwn hp (thn (hg _ s5 σ3 H5 x u _ I5' r5 (step x H5 y5)) fun _ s6 ⟨σ6,H6,I6,q6⟩=>?_)
  refine wpAny_passesOwn hp (thn (hb _ s6 σ6 H6 _ I6 q6) fun f s7 q7=>?_)
  have again:∀ {σ7:St} {H7:Hp},Inv X (pins++zo fp s5.heap) σ7 H7 s7->N σ7 H7->∃ m,m<n/\∃ i σ' H',Inv X pins σ' H' s7/\tn i s7.heap/\(∀ b∈fp,H' b=none)/\W i m σ' H':=fun {σ7 H7} I7 n7=>by
   obtain ⟨m',hm,w7⟩:=hN σ7 H7 n7
   refine ⟨m',hm,i+1,σ7,H7,I7.unpinned,T.keep _ _ _ st5 fun b hb o e=>(I7.pin (b,o) (List.mem_append_right _ (List.mem_append_right _ (qI hb e)))).1,fun b hb=>?_,w7⟩
   obtain ⟨o,e,d⟩:=T.obj _ _ st5 b hb
   exact (I7.pin (b,o) (List.mem_append_right _ (List.mem_append_right _ (qI hb e)))).2.1
  cases f with
  | next=>obtain ⟨σ7,H7,I7,n7⟩:=q7;exact again I7 n7
  | cont=>obtain ⟨σ7,H7,I7,n7⟩:=q7;exact again I7 n7
  | brk=>obtain ⟨σ7,H7,I7,q7⟩:=q7;exact ⟨σ7,H7,I7.unpinned,q7⟩
  | ret v=>obtain ⟨x7,σ7,H7,I7,r7,q7⟩:=q7;exact ⟨x7,σ7,H7,I7.unpinned,r7,q7⟩
end
theorem yp {K:PySem.W.Frag}{a:Addr}{xs:List V}{g:TG}{tb:TS}{D:Ends}{σ:St}{H:Hp}(Pv:Nat->St->Hp->Prop) (h0:Pv 0 σ H) (hl:∀ i σ H,i<=xs.length->Pv i σ H->SqL K H a xs)
  (hs:∀ i x σ H,xs[i]? = some x->Pv i σ H->g x σ H fun σ2 H2=>tb { D with nx:=Pv (i+1),ct:=Pv (i+1),bk:=D.nx } σ2 H2) (hd:∀ σ H,Pv xs.length σ H->D.nx σ H) :
  ∃ W:Nat->Nat->St->Hp->Prop,(∃ m,W 0 m σ H)/\∀ i m σ H,W i m σ H ->
   ((Itl K a).stop i H/\D.nx σ H)\/((Itl K a).go i H/\∃ N:St->Hp->Prop,(∀ σ' H',N σ' H'->∃ m',m'<m/\W (i+1) m' σ' H')/\∀ x H',(Itl K a).yld i H x H'->g x σ H' fun σ2 H2=>tb { D with nx:=N,ct:=N,bk:=D.nx } σ2 H2):=by
 refine ⟨fun i m σ H=>m=xs.length-i/\i<=xs.length/\Pv i σ H,⟨xs.length,by simp,Nat.zero_le _,h0⟩,?_⟩
 rintro i m σ H ⟨rfl,hi,p⟩
 have q:=hl i σ H hi p
 by_cases hlt:i<xs.length
 ·refine .inr ⟨⟨xs,xs[i],q,by simp [hlt]⟩,Pv (i+1),fun σ' H' p'=>⟨xs.length-(i+1),by omega,rfl,hlt,p'⟩,fun x H' y=>?_⟩
  obtain ⟨e,y⟩:=y
  subst e
  exact hs i x σ _ (y xs q) p
 ·have e:i=xs.length:=by omega
  subst e
  exact .inl ⟨⟨xs,q,Nat.le_refl _⟩,hd σ H p⟩
theorem Uz {K:PySem.W.Frag}{a:Addr}{xs:List V}{g:TG}{tb:TS}{D:Ends}{σ:St}{H:Hp}(Pv:Nat->St->Hp->Prop) (h0:Pv 0 σ H) (hl:∀ i σ H,i<=xs.length->Pv i σ H->SqT K H a xs)
  (hs:∀ i x σ H,xs[i]? = some x->Pv i σ H->g x σ H fun σ2 H2=>tb { D with nx:=Pv (i+1),ct:=Pv (i+1),bk:=D.nx } σ2 H2) (hd:∀ σ H,Pv xs.length σ H->D.nx σ H) :
  ∃ W:Nat->Nat->St->Hp->Prop,(∃ m,W 0 m σ H)/\∀ i m σ H,W i m σ H ->
   ((Itt K a).stop i H/\D.nx σ H)\/((Itt K a).go i H/\∃ N:St->Hp->Prop,(∀ σ' H',N σ' H'->∃ m',m'<m/\W (i+1) m' σ' H')/\∀ x H',(Itt K a).yld i H x H'->g x σ H' fun σ2 H2=>tb { D with nx:=N,ct:=N,bk:=D.nx } σ2 H2):=by
 refine ⟨fun i m σ H=>m=xs.length-i/\i<=xs.length/\Pv i σ H,⟨xs.length,by simp,Nat.zero_le _,h0⟩,?_⟩
 rintro i m σ H ⟨rfl,hi,p⟩
 have q:=hl i σ H hi p
 by_cases hlt:i<xs.length
 ·refine .inr ⟨⟨xs,xs[i],q,by simp [hlt]⟩,Pv (i+1),fun σ' H' p'=>⟨xs.length-(i+1),by omega,rfl,hlt,p'⟩,fun x H' y=>?_⟩
  obtain ⟨e,y⟩:=y
  subst e
  exact hs i x σ _ (y xs q) p
 ·have e:i=xs.length:=by omega
  subst e
  exact .inl ⟨⟨xs,q,Nat.le_refl _⟩,hd σ H p⟩
theorem zg {lo:Int}{n:Nat}{g:TG}{tb:TS}{D:Ends}{σ:St}{H:Hp}(Pv:Nat->St->Hp->Prop) (h0:Pv 0 σ H)
  (hs:∀ i σ H,i<n->Pv i σ H->g (.int (lo+i)) σ H fun σ2 H2=>tb { D with nx:=Pv (i+1),ct:=Pv (i+1),bk:=D.nx } σ2 H2) (hd:∀ σ H,Pv n σ H->D.nx σ H) :
  ∃ W:Nat->Nat->St->Hp->Prop,(∃ m,W 0 m σ H)/\∀ i m σ H,W i m σ H ->
   ((Itr lo n).stop i H/\D.nx σ H)\/((Itr lo n).go i H/\∃ N:St->Hp->Prop,(∀ σ' H',N σ' H'->∃ m',m'<m/\W (i+1) m' σ' H')/\∀ x H',(Itr lo n).yld i H x H'->g x σ H' fun σ2 H2=>tb { D with nx:=N,ct:=N,bk:=D.nx } σ2 H2):=by
 refine ⟨fun i m σ H=>m=n-i/\i<=n/\Pv i σ H,⟨n,by simp,Nat.zero_le _,h0⟩,?_⟩
 rintro i m σ H ⟨rfl,hi,p⟩
 by_cases hlt:i<n
 ·refine .inr ⟨hlt,Pv (i+1),fun σ' H' p'=>⟨n-(i+1),by omega,rfl,hlt,p'⟩,fun x H' y=>?_⟩
  obtain ⟨e,y⟩:=y
  subst e y
  exact hs i σ _ hlt p
 ·have e:i=n:=by omega
  subst e
  exact .inl ⟨Nat.le_refl _,hd σ H p⟩
theorem kj {c:TT}{tb:TS}{D:Ends}{σ:St}{H:Hp}(Pv:St->Hp->Prop) (μ:St->Hp->Nat) (h0:Pv σ H)
  (hs:∀ σ H,Pv σ H->c σ H fun b H1=>if b=true then tb { D with nx:=fun σ' H'=>Pv σ' H'/\μ σ' H'<μ σ H,ct:=fun σ' H'=>Pv σ' H'/\μ σ' H'<μ σ H,bk:=D.nx } σ H1 else D.nx σ H1)
  (mono:∀ σ H Q Q',(∀ b H1,Q b H1->Q' b H1)->c σ H Q->c σ H Q'):Vg c tb D σ H:=by
 refine ⟨fun m σ H=>m=μ σ H/\Pv σ H,⟨_,rfl,h0⟩,?_⟩
 rintro m σ H ⟨rfl,p⟩
 refine mono σ H _ _ (fun b H1 q=>?_) (hs σ H p)
 cases b with
 | true=>exact ⟨_,fun σ' H' ⟨p',l⟩=>⟨_,l,rfl,p'⟩,q⟩
 | false=>exact q
end L2
namespace L2
open PySem PySem.Spec PyProof.Rows
abbrev R2:=V->V->Hp->VK->Prop
def OpR (X:Cx) (f:Value->Value->Sem Value) (r:R2):Prop :=
 ∀ (pins:List (Addr×Obj)) (s:Shared) (σ:St) (H:Hp) (x y:V) (v u:Value) (Q:VK),Inv X pins σ H s->jB x v->jB y u->r x y H Q ->
  wpAny (model X.prog X.w) X.A (f v u) (EP X pins σ Q) X.xe s
def UnR (X:Cx) (f:Value->Sem Value) (r:V->Hp->VK->Prop):Prop :=
 ∀ (pins:List (Addr×Obj)) (s:Shared) (σ:St) (H:Hp) (x:V) (v:Value) (Q:VK),Inv X pins σ H s->jB x v->r x H Q ->
  wpAny (model X.prog X.w) X.A (f v) (EP X pins σ Q) X.xe s
def qJ (X:Cx) (f:Value) (r:List V->Hp->VK->Prop):Prop :=
 ∀ (pins:List (Addr×Obj)) (s:Shared) (σ:St) (H:Hp) (xs:List V) (us:List Value) (Q:VK),Inv X pins σ H s->jz xs us->r xs H Q ->
  wpAny (model X.prog X.w) X.A (call f us) (EP X pins σ Q) X.xe s
def TruR (X:Cx) (r:V->Hp->(Bool->Hp->Prop)->Prop):Prop :=
 ∀ (pins:List (Addr×Obj)) (s:Shared) (σ:St) (H:Hp) (x:V) (v:Value) (Q:Bool->Hp->Prop),Inv X pins σ H s->jB x v->r x H Q ->
  wpAny (model X.prog X.w) X.A (truthy v) (TP X pins σ Q) X.xe s
def tOp (r:R2) (ta tb:TE):TE:=fun σ H Q=>ta σ H fun x H1=>tb σ H1 fun y H2=>r x y H2 Q
def tUn (r:V->Hp->VK->Prop) (ta:TE):TE:=fun σ H Q=>ta σ H fun x H1=>r x H1 Q
def rI (C:Int->Int->Prop) (g:Int->Int->V):R2:=fun x y H Q=>∃ i j,x = .int i/\y = .int j/\C i j/\Q (g i j) H
def rI0 (g:Int->Int->V):R2:=fun x y H Q=>∃ i j,x = .int i/\y = .int j/\Q (g i j) H
def rU (g:Int->V):V->Hp->VK->Prop:=fun x H Q=>∃ i,x = .int i/\Q (g i) H
section
variable {X:Cx}{a b c:Expr}{ta tb tc:TE}{pos:Pos}
theorem WF (ha:PE X a ta) (hb:PE X b tb) {pins:List (Addr×Obj)}{s:Shared}{σ:St}{H:Hp}{R:V->V->Hp->Prop}(I:Inv X pins σ H s)
  (h:ta σ H fun x H1=>tb σ H1 fun y H2=>R x y H2) {Q:Value->Shared->Prop} {f:Value->Value->Sem Value}
  (hf:∀ v u s2 x y H2,Inv X pins σ H2 s2->jB x v->jB y u->R x y H2->wpAny (model X.prog X.w) X.A (f v u) Q X.xe s2) :
  wpAny (model X.prog X.w) X.A (eval a X.env) (fun v s₁=>wpAny (model X.prog X.w) X.A (eval b X.env) (fun u s₂=>wpAny (model X.prog X.w) X.A (f v u) Q X.xe s₂) X.xe s₁) X.xe s:=by
 refine thn (ha pins s σ H _ I h) fun v s1 ⟨x,H1,I1,r1,q1⟩=>?_
 refine thn (hb pins s1 σ H1 _ I1 q1) fun u s2 ⟨y,H2,I2,r2,q2⟩=>?_
 exact hf v u s2 x y H2 I2 r1 r2 q2
theorem jn {op:Operator}{r:R2}(ho:OpR X (binaryOp op) r) (ha:PE X a ta) (hb:PE X b tb):PE X (.BinOp a op b pos) (tOp r ta tb):=by
 intro pins s σ H Q I h
 exact wpAny_BinOp (WF ha hb I h fun v u s2 x y H2 I2 rx ry q=>ho pins s2 σ H2 x y v u Q I2 rx ry q)
theorem yZ {op:UnaryOp}{r:V->Hp->VK->Prop}(ho:UnR X (unaryOp op) r) (ha:PE X a ta):PE X (.UnaryOp op a pos) (tUn r ta):=by
 intro pins s σ H Q I h
 exact UnaryOp_ (thn (ha pins s σ H _ I h) fun v s1 ⟨x,H1,I1,r1,q1⟩=>ho pins s1 σ H1 x v Q I1 r1 q1)
theorem opI {f:Value->Value->Sem Value}{C:Int->Int->Prop}{g:Int->Int->Int}
  (rule:∀ (i j:Int) (t u:Tok) (s:Shared) (Q:Value->Shared->Prop) (E:Value->Shared->Prop),C i j->Q (.int (g i j) s.toks) { s with toks:=s.toks+1 }->wpAny (model X.prog X.w) X.A (f (.int i t) (.int j u)) Q E s) :
  OpR X f (rI C fun i j=>.int (g i j)):=by
 intro pins s σ H x y v u Q I rx ry h
 obtain ⟨i,j,rfl,rfl,hc,q⟩:=h
 obtain ⟨t,rfl⟩:=rx
 obtain ⟨t',rfl⟩:=ry
 exact rule i j t t' s _ _ hc ⟨.int (g i j),H,I.tok _,⟨_,rfl⟩,q⟩
theorem GN {f:Value->Value->Sem Value}{g:Int->Int->Int}
  (rule:∀ (i j:Int) (t u:Tok) (s:Shared) (Q:Value->Shared->Prop) (E:Value->Shared->Prop),Q (.int (g i j) s.toks) { s with toks:=s.toks+1 }->wpAny (model X.prog X.w) X.A (f (.int i t) (.int j u)) Q E s) :
  OpR X f (rI0 fun i j=>.int (g i j)):=by
 intro pins s σ H x y v u Q I rx ry h
 obtain ⟨i,j,rfl,rfl,q⟩:=h
 obtain ⟨t,rfl⟩:=rx
 obtain ⟨t',rfl⟩:=ry
 exact rule i j t t' s _ _ ⟨.int (g i j),H,I.tok _,⟨_,rfl⟩,q⟩
theorem Ug {f:Value->Value->Sem Value}{g:Int->Int->Bool}
  (rule:∀ (i j:Int) (t u:Tok) (s:Shared) (Q:Value->Shared->Prop) (E:Value->Shared->Prop),Q (.bool (g i j)) s->wpAny (model X.prog X.w) X.A (f (.int i t) (.int j u)) Q E s) :
  OpR X f (rI0 fun i j=>.bl (g i j)):=by
 intro pins s σ H x y v u Q I rx ry h
 obtain ⟨i,j,rfl,rfl,q⟩:=h
 obtain ⟨t,rfl⟩:=rx
 obtain ⟨t',rfl⟩:=ry
 exact rule i j t t' s _ _ ⟨.bl (g i j),H,I,rfl,q⟩
def VW (i j:Int):Prop:=0<=j/\j<=1000000/\i.natAbs<2 ^ 64
def JA (i j:Int):Prop:=(-(2 ^ 64)<i/\i<2 ^ 64)\/(-(2 ^ 64)<j/\j<2 ^ 64)
theorem JA.ok {i j:Int}(h:JA i j):IntMulOk i j:=by
 rcases h with ⟨h1,h2⟩ | ⟨h1,h2⟩
 ·exact .of_left (intBits_le_64 h1 h2)
 ·exact .of_right (intBits_le_64 h1 h2)
theorem jH:OpR X (binaryOp .Add) (rI0 fun i j=>.int (i+j)):=GN fun _ _ _ _ _ _ _ q=>add_int q
theorem qT:OpR X (binaryOp .Sub) (rI0 fun i j=>.int (i-j)):=GN fun _ _ _ _ _ _ _ q=>sub_int q
theorem vE:OpR X (binaryOp .Mult) (rI JA fun i j=>.int (i*j)):=opI fun _ _ _ _ _ _ _ hc q=>mul_int q hc.ok
theorem xW:OpR X (binaryOp .Mod) (rI (fun _ j=>0<j) fun i j=>.int (i % j)):=opI fun i j _ _ _ _ _ hc q=>by
 have h1:(0:Int)<j:=hc
 exact mod_int' (by omega) (by rw [Int.fmod_eq_emod_of_nonneg i (by omega)];exact q)
theorem wV:OpR X (binaryOp .Pow) (rI VW fun i j=>.int (i ^ j.toNat)):=opI fun _ _ _ _ _ _ _ hc q=>pow_int_small hc.1 hc.2.1 hc.2.2 q
theorem unI {f:Value->Sem Value}{g:Int->Int}
  (rule:∀ (i:Int) (t:Tok) (s:Shared) (Q:Value->Shared->Prop) (E:Value->Shared->Prop),Q (.int (g i) s.toks) { s with toks:=s.toks+1 }->wpAny (model X.prog X.w) X.A (f (.int i t)) Q E s) :
  UnR X f (rU fun i=>.int (g i)):=by
 intro pins s σ H x v Q I rx h
 obtain ⟨i,rfl,q⟩:=h
 obtain ⟨t,rfl⟩:=rx
 exact rule i t s _ _ ⟨.int (g i),H,I.tok _,⟨_,rfl⟩,q⟩
theorem zF:UnR X (unaryOp .USub) (rU fun i=>.int (-i)):=unI fun _ _ _ _ _ q=>neg_int q
end
def Gx:V->V->Bool
 | .non,.non=>true | .non,.int _=>true | .int _,.non=>true | .non,.bl _=>true | .bl _,.non=>true | .non,.str _=>true | .str _,.non=>true
 | .int _,.int _=>true | .bl _,.bl _=>true | .str _,.str _=>true | .byt _,.byt _=>true
 | .int _,.str _=>true | .str _,.int _=>true | .bl _,.str _=>true | .str _,.bl _=>true
 | _,_=>false
def rEq:R2:=fun x y H Q=>Gx x y=true/\Q (.bl (decide (x=y))) H
def rNe:R2:=fun x y H Q=>Gx x y=true/\Q (.bl (!decide (x=y))) H
theorem Z5 {i j:Int}:decide (V.int i=V.int j)=(i == j):=by
 rw [Bool.eq_iff_iff]
 simp
theorem VE {i j:Bool}:decide (V.bl i=V.bl j)=(i == j):=by
 rw [Bool.eq_iff_iff]
 simp
theorem Z7 {i j:Str}:decide (V.str i=V.str j)=(i == j):=by
 rw [Bool.eq_iff_iff]
 simp
theorem Zj {i j:Array UInt8}:decide (V.byt i=V.byt j)=(i.toList == j.toList):=by
 rw [Bool.eq_iff_iff]
 cases i
 cases j
 simp
section
variable {X:Cx}{a b c:Expr}{ta tb tc:TE}{pos:Pos}
theorem jJ {pins:List (Addr×Obj)}{σ:St}{H:Hp}{s:Shared}{Q:VK}{k k':Bool}(I:Inv X pins σ H s) (q:Q (.bl k) H) (e:k=k'):EP X pins σ Q (.bool k') s:=by
 subst e
 exact ⟨.bl k,H,I,rfl,q⟩
theorem uT:OpR X (compareOp .Eq) rEq:=by
 intro pins s σ H x y v u Q I rx ry h
 obtain ⟨hs,q⟩:=h
 cases x with
 | non =>
  cases rx
  cases y with
  | non=>cases ry;exact PySem.EqNone.eq_none_none (jJ I q (by simp))
  | bl j=>cases ry;exact PySem.EqNone.eq_none_bool (jJ I q (by simp))
  | int j=>obtain ⟨t',rfl⟩:=ry;exact PySem.EqNone.eq_none_int (jJ I q (by simp))
  | str j=>obtain ⟨t',rfl⟩:=ry;exact PySem.EqNone.eq_none_str (jJ I q (by simp))
  | _=>exact absurd (show false=true from hs) Bool.false_ne_true
 | bl i =>
  cases rx
  cases y with
  | non=>cases ry;exact PySem.EqNone.eq_bool_none (jJ I q (by simp))
  | bl j=>cases ry;exact eq_bool (jJ I q VE)
  | str j=>obtain ⟨t',rfl⟩:=ry;exact PySem.EqMixed.eq_bool_str (jJ I q (by simp))
  | _=>exact absurd (show false=true from hs) Bool.false_ne_true
 | int i =>
  obtain ⟨t,rfl⟩:=rx
  cases y with
  | non=>cases ry;exact PySem.EqNone.eq_int_none (jJ I q (by simp))
  | int j=>obtain ⟨t',rfl⟩:=ry;exact eq_int (jJ I q Z5)
  | str j=>obtain ⟨t',rfl⟩:=ry;exact PySem.EqMixed.eq_int_str (jJ I q (by simp))
  | _=>exact absurd (show false=true from hs) Bool.false_ne_true
 | str i =>
  obtain ⟨t,rfl⟩:=rx
  cases y with
  | non=>cases ry;exact PySem.EqNone.eq_str_none (jJ I q (by simp))
  | bl j=>cases ry;exact PySem.EqMixed.eq_str_bool (jJ I q (by simp))
  | int j=>obtain ⟨t',rfl⟩:=ry;exact PySem.EqMixed.eq_str_int (jJ I q (by simp))
  | str j=>obtain ⟨t',rfl⟩:=ry;exact eq_str (jJ I q Z7)
  | _=>exact absurd (show false=true from hs) Bool.false_ne_true
 | byt i =>
  obtain ⟨t,rfl⟩:=rx
  cases y with
  | byt j=>obtain ⟨t',rfl⟩:=ry;exact PySem.W.eq_bytes (jJ I q Zj)
  | _=>exact absurd (show false=true from hs) Bool.false_ne_true
 | _=>cases y <;> exact absurd (show false=true from hs) Bool.false_ne_true
theorem V0:OpR X (compareOp .NotEq) rNe:=by
 intro pins s σ H x y v u Q I rx ry h
 obtain ⟨hs,q⟩:=h
 cases x with
 | non =>
  cases rx
  cases y with
  | non=>cases ry;exact PySem.EqNone.ne_none_none (jJ I q (by simp))
  | bl j=>cases ry;exact PySem.EqNone.ne_none_bool (jJ I q (by simp))
  | int j=>obtain ⟨t',rfl⟩:=ry;exact PySem.EqNone.ne_none_int (jJ I q (by simp))
  | str j=>obtain ⟨t',rfl⟩:=ry;exact PySem.EqNone.ne_none_str (jJ I q (by simp))
  | _=>exact absurd (show false=true from hs) Bool.false_ne_true
 | bl i =>
  cases rx
  cases y with
  | non=>cases ry;exact PySem.EqNone.ne_bool_none (jJ I q (by simp))
  | bl j=>cases ry;exact ne_bool (jJ I q (congrArg not VE))
  | str j=>obtain ⟨t',rfl⟩:=ry;exact PySem.EqMixed.ne_bool_str (jJ I q (by simp))
  | _=>exact absurd (show false=true from hs) Bool.false_ne_true
 | int i =>
  obtain ⟨t,rfl⟩:=rx
  cases y with
  | non=>cases ry;exact PySem.EqNone.ne_int_none (jJ I q (by simp))
  | int j=>obtain ⟨t',rfl⟩:=ry;exact ne_int (jJ I q (congrArg not Z5))
  | str j=>obtain ⟨t',rfl⟩:=ry;exact PySem.EqMixed.ne_int_str (jJ I q (by simp))
  | _=>exact absurd (show false=true from hs) Bool.false_ne_true
 | str i =>
  obtain ⟨t,rfl⟩:=rx
  cases y with
  | non=>cases ry;exact PySem.EqNone.ne_str_none (jJ I q (by simp))
  | bl j=>cases ry;exact PySem.EqMixed.ne_str_bool (jJ I q (by simp))
  | int j=>obtain ⟨t',rfl⟩:=ry;exact PySem.EqMixed.ne_str_int (jJ I q (by simp))
  | str j=>obtain ⟨t',rfl⟩:=ry;exact ne_str (jJ I q (congrArg not Z7))
  | _=>exact absurd (show false=true from hs) Bool.false_ne_true
 | byt i =>
  obtain ⟨t,rfl⟩:=rx
  cases y with
  | byt j=>obtain ⟨t',rfl⟩:=ry;exact PySem.W.ne_bytes (jJ I q (congrArg not Zj))
  | _=>exact absurd (show false=true from hs) Bool.false_ne_true
 | _=>cases y <;> exact absurd (show false=true from hs) Bool.false_ne_true
theorem yV:OpR X (compareOp .Lt) (rI0 fun i j=>.bl (decide (i<j))):=Ug fun _ _ _ _ _ _ _ q=>lt_int q
theorem qu:OpR X (compareOp .LtE) (rI0 fun i j=>.bl (decide (i<=j))):=Ug fun _ _ _ _ _ _ _ q=>le_int q
theorem Zp:OpR X (compareOp .Gt) (rI0 fun i j=>.bl (decide (j<i))):=Ug fun _ _ _ _ _ _ _ q=>gt_int q
theorem VL:OpR X (compareOp .GtE) (rI0 fun i j=>.bl (decide (j<=i))):=Ug fun _ _ _ _ _ _ _ q=>ge_int q
theorem XT:OpR X (compareOp .Is) (fun x y H Q=>y = .non/\Q (.bl (decide (x = .non))) H):=by
 intro pins s σ H x y v u Q I rx ry h
 obtain ⟨rfl,q⟩:=h
 cases ry
 refine is_none_gen (jJ I q ?_)
 cases x <;> first
  | (cases rx;rfl)
  | (obtain ⟨t,rfl⟩:=rx;rfl)
theorem jI (b:Expr) {op:CmpOp}(h:op≠.In:=by decide) (h2:op≠.NotIn:=by decide):behindInMarks op b=false:=by
 have e1:(op == CmpOp.In)=false:=by cases op <;> first | rfl | exact absurd rfl h
 have e2:(op == CmpOp.NotIn)=false:=by cases op <;> first | rfl | exact absurd rfl h2
 cases b <;> simp [behindInMarks,e1,e2]
theorem zw {op:CmpOp}{r:R2}(ho:OpR X (compareOp op) r) (ha:PE X a ta) (hb:PE X b tb) (hm:behindInMarks op b=false):PE X (.Compare a [op] [b] pos) (tOp r ta tb):=by
 intro pins s σ H Q I h
 exact wpAny_Compare1 (WF ha hb I h fun v u s2 x y H2 I2 rx ry q=>ho pins s2 σ H2 x y v u Q I2 rx ry q) hm
def Zc (t:TE):TT:=fun σ H Q=>t σ H fun x H'=>∃ k,x = .bl k/\Q k H'
theorem jD {op:CmpOp}{r:R2}(ho:OpR X (compareOp op) r) (ha:PE X a ta) (hb:PE X b tb) (hm:behindInMarks op b=false):PT X (.Compare a [op] [b] pos) (Zc (tOp r ta tb)):=by
 intro pins s σ H Q I h
 refine wpAny_isTrue_Compare1 (thn (ha pins s σ H _ I h) fun v s1 ⟨x,H1,I1,r1,q1⟩=>thn (hb pins s1 σ H1 _ I1 q1) fun u s2 ⟨y,H2,I2,r2,q2⟩ =>
  thn (ho pins s2 σ H2 x y v u _ I2 r1 r2 q2) fun c s3 ⟨z,H3,I3,r3,k,e,q3⟩=>?_) hm
 subst e
 cases r3
 exact wpAny_truthy_bool ⟨H3,I3,q3⟩
def YN (r r':R2) (ta tb tc:TE):TE:=fun σ H Q=>ta σ H fun x H1=>tb σ H1 fun y H2=>r x y H2 fun z H3=>∃ k,z = .bl k /\
 (if k=true then tc σ H3 fun w' H4=>r' y w' H4 Q else Q (.bl false) H3)
theorem zP {op op':CmpOp}{r r':R2}(ho:OpR X (compareOp op) r) (ho':OpR X (compareOp op') r') (ha:PE X a ta) (hb:PE X b tb) (hc:PE X c tc)
  (hm:lastMarks [op,op'] [b,c]=false:=by with_unfolding_all rfl):PE X (.Compare a [op,op'] [b,c] pos) (YN r r' ta tb tc):=by
 intro pins s σ H Q I h
 refine Compare_chain (thn (ha pins s σ H _ I h) fun v s1 ⟨x,H1,I1,r1,q1⟩=>chain_link (thn (hb pins s1 σ H1 _ I1 q1) fun u s2 ⟨y,H2,I2,r2,q2⟩ =>
  thn (ho pins s2 σ H2 x y v u _ I2 r1 r2 q2) fun d s3 ⟨z,H3,I3,r3,k,e,q3⟩=>?_)) hm
 subst e
 cases r3
 refine wpAny_truthy_bool ?_
 cases k with
 | false=>exact ite_ff ⟨.bl false,H3,I3,rfl,q3⟩
 | true=>exact ite_tt (chain_last (thn (hc pins s3 σ H3 _ I3 q3) fun w' s4 ⟨z',H4,I4,r4,q4⟩=>ho' pins s4 σ H4 y z' u w' Q I4 r2 r4 q4))
theorem xM {op op':CmpOp}{r r':R2}(ho:OpR X (compareOp op) r) (ho':OpR X (compareOp op') r') (ha:PE X a ta) (hb:PE X b tb) (hc:PE X c tc)
  (hm:lastMarks [op,op'] [b,c]=false:=by with_unfolding_all rfl):PT X (.Compare a [op,op'] [b,c] pos) (Zc (YN r r' ta tb tc)):=by
 intro pins s σ H Q I h
 refine isTrue_chain (thn (ha pins s σ H _ I h) fun v s1 ⟨x,H1,I1,r1,q1⟩=>test_link (thn (hb pins s1 σ H1 _ I1 q1) fun u s2 ⟨y,H2,I2,r2,q2⟩ =>
  thn (ho pins s2 σ H2 x y v u _ I2 r1 r2 q2) fun d s3 ⟨z,H3,I3,r3,k,e,q3⟩=>?_)) hm
 subst e
 cases r3
 refine wpAny_truthy_bool ?_
 cases k with
 | false =>
  obtain ⟨k',e',q'⟩:=q3
  cases e'
  exact ite_ff ⟨H3,I3,q'⟩
 | true =>
  refine ite_tt (test_last (thn (hc pins s3 σ H3 _ I3 q3) fun w' s4 ⟨z',H4,I4,r4,q4⟩=>thn (ho' pins s4 σ H4 y z' u w' _ I4 r2 r4 q4) fun d' s5 ⟨z2,H5,I5,r5,k2,e2,q5⟩=>?_))
  subst e2
  cases r5
  exact wpAny_truthy_bool ⟨H5,I5,q5⟩
def G8 (K:PySem.W.Frag) (x:V) (H:Hp) (k:Bool):Prop :=
 match x with
 | .non=>k=false
 | .bl b=>k=b
 | .int i=>k=(i != 0)
 | .str y=>y.length<=sizeLine/\k=((y.length:Int) != 0)
 | .byt y=>y.size<=sizeLine/\k=((y.size:Int) != 0)
 | .ref p=>(∃ xs,SqL K H p xs/\k = !xs.isEmpty)\/(∃ xs,SqT K H p xs/\k = !xs.isEmpty)\/∃ kvs,H p=some (.dK kvs)/\k = !kvs.isEmpty
 | _=>False
theorem XM {κ:Type}{kvs:List (κ×V)}{vs:List (κ×Value)}(r:KV kvs vs):(!vs.isEmpty) = !kvs.isEmpty:=by
 cases r <;> rfl
theorem kY {xs:List V}{its:List Value}(r:jz xs its):(!its.toArray.isEmpty) = !xs.isEmpty:=by
 cases r <;> simp
theorem wA:(sizeLine:Nat)<2 ^ 63:=by rw [sizeLine_eq];decide
theorem G6:TruR X (fun x H Q=>∃ k,G8 X.K x H k/\Q k H):=by
 intro pins s σ H x v Q I rx h
 obtain ⟨k,e,q⟩:=h
 have hl:=wA
 have hs:sizeLine=16777216:=sizeLine_eq
 cases x with
 | non =>
  cases rx
  have e':k=false:=e
  subst e'
  exact truthy_none ⟨H,I,q⟩
 | bl b =>
  cases rx
  have e':k=b:=e
  subst e'
  exact wpAny_truthy_bool ⟨H,I,q⟩
 | int i =>
  obtain ⟨t,rfl⟩:=rx
  have e':k=(i != 0):=e
  subst e'
  exact PySem.P.truthy_int ⟨H,I,q⟩
 | str y =>
  obtain ⟨t,rfl⟩:=rx
  obtain ⟨hy,e'⟩:y.length<=sizeLine/\k=((y.length:Int) != 0):=e
  subst e'
  exact PySem.P.truthy_str (by omega) ⟨H,I.tok _,q⟩
 | byt y =>
  obtain ⟨t,rfl⟩:=rx
  obtain ⟨hy,e'⟩:y.size<=sizeLine/\k=((y.size:Int) != 0):=e
  subst e'
  exact PySem.W.truthy_bytes (by omega) ⟨H,I.tok _,q⟩
 | ref p =>
  cases rx
  have e':(∃ xs,SqL X.K H p xs/\k = !xs.isEmpty)\/(∃ xs,SqT X.K H p xs/\k = !xs.isEmpty)\/∃ kvs,H p=some (.dK kvs)/\k = !kvs.isEmpty:=e
  rcases e' with ⟨xs,hx,e'⟩ | ⟨xs,hx,e'⟩ | ⟨kvs,hx,e'⟩
  ·subst e'
   obtain ⟨its,r,pl,hz⟩:=I.list hx
   have hlen:=r.length
   exact wpAny_truthy_list pl.isList (by simp only [List.size_toArray];omega) ⟨H,I.tok _,by rw [kY r];exact q⟩
  ·subst e'
   obtain ⟨its,r,pl,hz⟩:=I.tuple hx
   have hlen:=r.length
   exact truthy_tuple pl (by simp only [List.size_toArray];omega) ⟨H,I.tok _,by rw [kY r];exact q⟩
  ·subst e'
   obtain ⟨hz,hS,vs,r,m⟩:kvs.length<=sizeLine/\(p == sysModules)=false/\∃ vs,KV kvs vs/\s.heap.DictOf (jC X.prog X.w) p vs:=I.hok p _ hx
   have hlen:kvs.length=vs.length:=Paired.length r
   exact wpAny_truthy_dict hS m (by omega) ⟨H,I.tok _,by rw [XM r];exact q⟩
 | _=>exact (show False from e).elim
theorem Vv (ha:PE X a ta) (he:∀ whole,isTrue a X.env whole=(do let v <- whole;standAt a.pos;holding [v] (truthy v))) :
  PT X a (fun σ H Q=>ta σ H fun x H'=>∃ k,G8 X.K x H' k/\Q k H'):=by
 intro pins s σ H Q I h
 exact isTrue_plain (thn (ha pins s σ H _ I h) fun v s1 ⟨x,H1,I1,r1,q1⟩=>G6 pins s1 σ H1 x v Q I1 r1 q1) (he _)
theorem yb {x:V}{us:List Value}(r:jz [x] us):∃ u,us=[u]/\jB x u:=by
 cases r with
 | cons r1 r2=>cases r2;exact ⟨_,rfl,r1⟩
theorem Zl {x y:V}{us:List Value}(r:jz [x,y] us):∃ u w',us=[u,w']/\jB x u/\jB y w':=by
 cases r with
 | cons r1 r2 =>
  cases r2 with
  | cons r3 r4=>cases r4;exact ⟨_,_,rfl,r1,r3⟩
theorem yK (hc:X.calm=true):qJ X (.builtin "max") (fun xs H Q=>∃ i j,xs=[.int i,.int j]/\Q (.int (if j > i then j else i)) H):=by
 intro pins s σ H xs us Q I r h
 obtain ⟨i,j,rfl,q⟩:=h
 obtain ⟨u,w',rfl,⟨t,rfl⟩,⟨t',rfl⟩⟩:=Zl r
 refine max_two_ints (I.ok.hd hc) fun h' tk k=>⟨_,H,I.kept k,?_,q⟩
 by_cases hj:j > i
 ·rw [if_pos hj,if_pos hj];exact ⟨_,rfl⟩
 ·rw [if_neg hj,if_neg hj];exact ⟨_,rfl⟩
theorem uA (hc:X.calm=true):qJ X (.builtin "min") (fun xs H Q=>∃ i j,xs=[.int i,.int j]/\Q (.int (if j<i then j else i)) H):=by
 intro pins s σ H xs us Q I r h
 obtain ⟨i,j,rfl,q⟩:=h
 obtain ⟨u,w',rfl,⟨t,rfl⟩,⟨t',rfl⟩⟩:=Zl r
 refine min_two_ints (I.ok.hd hc) fun h' tk k=>⟨_,H,I.kept k,?_,q⟩
 by_cases hj:j<i
 ·rw [if_pos hj,if_pos hj];exact ⟨_,rfl⟩
 ·rw [if_neg hj,if_neg hj];exact ⟨_,rfl⟩
end
end L2
namespace L2
open PySem PySem.Spec PyProof.Rows
structure ObjM (h:Heap) (x dx C:Addr) (mA:Str->Option Value):Prop where
 obj:h.get? x=some (PySem.W.instObj C dx)
 ns:h.Ns1 dx mA
 ne:dx≠x
theorem ZV {h:Heap}{dx:Addr}{mA:Str->Option Value}(n:h.Ns1 dx mA):∃ od,h.get? dx=some od/\∀ name,PySem.W.lookIn name od=some (mA name):=by
 obtain ⟨o,es,ep,ho,hd,hk,_,hm⟩:=n
 refine ⟨o,ho,fun name=>?_⟩
 have e:=hm name
 unfold nsFind findBy at e
 rw [<- Array.find?_toList] at e
 unfold PySem.W.lookIn
 rw [hd]
 dsimp only
 split
 ·rename_i y q
  rw [q] at e
  exact congrArg some e
 ·rename_i q
  rw [q] at e
  have a:es.toList.any (·.refKey)=false:=by
   rw [List.any_eq_false]
   intro y hy
   obtain ⟨z,t,hkey⟩:=hk y (Array.mem_toList_iff.mp hy)
   simp [DictEntry.refKey,hkey]
  have a':¬ es.toList.any (·.refKey)=true:=by rw [a];exact Bool.false_ne_true
  rw [if_neg a']
  exact congrArg some e
theorem ObjM.look {h:Heap}{x dx C:Addr}{mA:Str->Option Value}(I:ObjM h x dx C mA):∃ od,PySem.W.InstAt h x (PySem.W.instObj C dx) C (some od)/\∀ name,PySem.W.lookIn name od=some (mA name) :=
 let ⟨od,ho,hl⟩:=ZV I.ns
 ⟨od,⟨I.obj,rfl,rfl,ho⟩,hl⟩
section
variable {prog:Program}{w:World}{A:Around}{E:Value->Shared->Prop}{s:Shared}{K:PySem.W.Frag}{x dx C f:Addr}{mA:Str->Option Value}{name:Str}{v:Value}
theorem UC {expr:Bool}{Q:Value->Shared->Prop}(X:K.In s.heap) (I:ObjM s.heap x dx C mA) (hg:PySem.W.plainGet K C name=true) (hh:PySem.W.hasDictIn K C=true)
  (ha:PySem.W.findIn K (.ref C) name=some none) (hv:mA name=some v) (hv':PySem.W.handedIn v=true) (h:Q v { s with toks:=s.toks+1 }) :
  wpAny (model prog w) A (getAttr (.ref x) name expr) Q E s:=by
 obtain ⟨od,J,hl⟩:=I.look
 exact PySem.W.get_value X J (PySem.W.plainGet_of hg).1 (PySem.W.findObj_own hh ha rfl (by rw [hl,hv])) hv' h
theorem Vd {pl:Sem Bool}{Q:Value×List Value->Shared->Prop}(X:K.In s.heap) (I:ObjM s.heap x dx C mA) (hg:PySem.W.plainGet K C name=true)
  (hf:PySem.W.findIn K (.ref C) name=some (some (.ref f))) (ht:PySem.W.isFn K (.ref f)=true) (hv:mA name=none) (h:Q (.ref f,[.ref x]) s) :
  wpAny (model prog w) A (getMethod (.ref x) name pl) Q E s:=by
 obtain ⟨od,J,hl⟩:=I.look
 exact PySem.W.method_fn X J (PySem.W.plainGet_of hg).1 (PySem.W.plainGet_of hg).2 hf (beq_iff_eq.mp ht) (by show (PySem.W.lookIn name od).map (·.isSome)=some false;rw [hl,hv];rfl) h
theorem VZ {ns:List Str}{Q:Unit->Shared->Prop}(X:K.In s.heap) (I:ObjM s.heap x dx C mA)
  (hs:PySem.W.findIn K (.ref C) "__setattr__" = some (some (.builtin "object.__setattr__"))) (hp:PySem.W.plainOver K C=true) (ht:PySem.W.takerIn K C name=some none) (hh:PySem.W.hasDictIn K C=true)
  (hw:PySem.Within mA ns) (hsz:ns.length<=sizeLine)
  (h:∀ h',ObjM h' x dx C (fun y=>if y=name then some v else mA y)->Heap.SameBut dx s.heap h'->Q () { s with heap:=h',toks:=s.toks+2 }) :
  wpAny (model prog w) A (setAttr (.ref x) name v) Q E s:=by
 obtain ⟨od,J,hl⟩:=I.look
 refine PySem.W.set_plain X J hs (PySem.W.osa_open (s:={ s with toks:=s.toks+1 }) (r:=none) X J hp ht fun b=>?_)
 obtain ⟨cd,hc,hd'⟩:=PySem.W.any_some hh
 have hx:s.heap.get? x=some ⟨.ref C,some dx,.plain,#[]⟩:=I.obj
 refine wpAny_bind (wpAny_pure (wpAny_bind (wpAny_bind (wpAny_loadPart hx (wpAny_bind (PySem.W.Looks.here (s:={ s with toks:=s.toks+1 }) (PySem.W.looks_clsIn X hc) ?_))))))
 rw [hd']
 refine wpAny_pure (a:=some dx) (wpAny_bind (wpAny_pure (wpAny_bind ?_)))
 refine wpAny_nsSet1 (s:={ s with toks:=s.toks+1 }) I.ns fun h' hn2 hs2=>?_
 obtain ⟨oD,esD,epD,hoD,hdD,hcD⟩:=hn2.count (PySem.Within.cons name v hw)
 refine wpAny_bind (wpAny_lookBehind hoD (by rw [hdD];exact pastItsLine_dict (Nat.le_trans hcD (by rw [List.length_cons];omega))) ?_)
 exact wpAny_pure (h _ ⟨(hs2.2 _ (Ne.symm I.ne)).trans I.obj,hn2,I.ne⟩ hs2)
theorem YT {R:Result->Shared->Prop}{vs:List Value}{kw:List (Str×Value)}(X:K.In s.heap) (hm:PySem.W.makesIn K C=true)
  (hi:PySem.W.findIn K (.ref C) "__init__" = some (some (.ref f))) (hf:PySem.W.typeIn K (.ref f)=some (.type "function"))
  (h:codeAny (model prog w) (A.under (.builtin "type.__call__" ⟨.ref C::vs,kw⟩)) (.call (.ref f) ⟨.ref (s.heap.objs.size+1)::vs,kw⟩) (PySem.W.InitBack (s.heap.objs.size+1) R)
   { s with heap:=(s.heap.push PySem.W.emptyDict).push (PySem.W.instObj C s.heap.objs.size) }) :
  codeAny (model prog w) A (.call (.ref C) ⟨vs,kw⟩) R s:=by
 obtain ⟨hh,g,d,t,os⟩:=s
 exact PySem.W.make_core (PySem.W.makes_of X hm) (PySem.W.looks_findIn X hi) (fun self=>PySem.W.bind_fn X self hf) (.inl rfl) h
end
def jq (f:Str) (v:V):List (Str×V)->List (Str×V)
 | []=>[(f,v)]
 | (g,x)::r=>if g=f then (g,v)::r else (g,x)::jq f v r
theorem jw (f g:Str) (v:V):∀ fs:List (Str×V),(jq f v fs).lookup g=if g=f then some v else fs.lookup g
 | []=>by
  show List.lookup g [(f,v)]=_
  by_cases h:g=f
  ·have hb:(g == f)=true:=beq_iff_eq.mpr h
   simp only [List.lookup,hb,if_pos h]
  ·have hb:(g == f)=false:=beq_eq_false_iff_ne.mpr h
   simp only [List.lookup,hb,if_neg h]
 | (k,x)::r=>by
  have ih:=jw f g v r
  rw [show jq f v ((k,x)::r)=(if k=f then (k,v)::r else (k,x)::jq f v r) from rfl]
  by_cases hk:k=f
  ·rw [if_pos hk]
   by_cases h:g=k
   ·have hb:(g == k)=true:=beq_iff_eq.mpr h
    simp only [List.lookup,hb,if_pos (h.trans hk)]
   ·have hb:(g == k)=false:=beq_eq_false_iff_ne.mpr h
    simp only [List.lookup,hb,if_neg (fun e:g=f=>h (e.trans hk.symm))]
  ·rw [if_neg hk]
   by_cases h:g=k
   ·have hb:(g == k)=true:=beq_iff_eq.mpr h
    simp only [List.lookup,hb,if_neg (fun e:g=f=>hk (h.symm.trans e))]
   ·have hb:(g == k)=false:=beq_eq_false_iff_ne.mpr h
    simp only [List.lookup,hb]
    exact ih
theorem ut (f:Str) (v:V):∀ fs:List (Str×V),f∈(jq f v fs).map (·.1)/\∀ g,g∈fs.map (·.1)->g∈(jq f v fs).map (·.1)
 | []=>⟨by simp [jq],fun g h=>by simp at h⟩
 | (k,x)::r=>by
  obtain ⟨i1,i2⟩:=ut f v r
  rw [show jq f v ((k,x)::r)=(if k=f then (k,v)::r else (k,x)::jq f v r) from rfl]
  by_cases hk:k=f
  ·rw [if_pos hk]
   subst hk
   exact ⟨by simp,fun g h=>by simpa using h⟩
  ·rw [if_neg hk]
   refine ⟨?_,fun g h=>?_⟩
   ·rw [List.map_cons]
    exact List.mem_cons_of_mem _ i1
   ·rw [List.map_cons] at h ⊢
    rcases List.mem_cons.mp h with e | e
    ·exact List.mem_cons.mpr (.inl e)
    ·exact List.mem_cons_of_mem _ (i2 g e)
theorem jS (f:Str) (v:V):∀ fs:List (Str×V),(jq f v fs).length<=fs.length+1
 | []=>by simp [jq]
 | (k,x)::r=>by
  have ih:=jS f v r
  rw [show jq f v ((k,x)::r)=(if k=f then (k,v)::r else (k,x)::jq f v r) from rfl]
  by_cases hk:k=f
  ·rw [if_pos hk,List.length_cons,List.length_cons];omega
  ·rw [if_neg hk,List.length_cons,List.length_cons];omega
theorem yh.some_of {v:V}{o:Option Value}(r:yh (some v) o):∃ u,o=some u/\jB v u:=by
 cases o with
 | none=>exact (show False from r).elim
 | some u=>exact ⟨u,rfl,r⟩
theorem yh.none_of {o:Option Value}(r:yh none o):o=none:=by
 cases o with
 | none=>rfl
 | some u=>exact (show False from r).elim
theorem Yw {v:V}{u:Value}(r:jB v u):PySem.W.handedIn u=true:=by
 cases v with
 | non=>cases (show u=Value.none from r);rfl
 | bl b=>cases (show u=Value.bool b from r);rfl
 | int i=>obtain ⟨t,e⟩:=(show ∃ t,u=Value.int i t from r);cases e;rfl
 | str x=>obtain ⟨t,e⟩:=(show ∃ t,u=Value.str x t from r);cases e;rfl
 | byt b=>obtain ⟨t,e⟩:=(show ∃ t,u=Value.bytes b t from r);cases e;rfl
 | flt b=>obtain ⟨t,e⟩:=(show ∃ t,u=Value.float b t from r);cases e;rfl
 | ref a=>cases (show u=Value.ref a from r);rfl
 | ty n=>cases (show u=Value.type n from r);rfl
section
variable {P:Program}{w:World}{H H':Hp}{h h':Heap}{a C dx:Addr}{fs fs':List (Str×V)}
theorem wo (hok:HOk P w H h) (e:H a=some (.ins C dx fs)):∃ mA,ObjM h a dx C mA/\(∀ f,yh (fs.lookup f) (mA f))/\PySem.Within mA (fs.map (·.1))/\fs.length<=1000/\H dx=some (.own a):=by
 obtain ⟨d,z,ne,ob,mA,n,r,q⟩:=(show qe P w H h a (.ins C dx fs) from hok a _ e)
 exact ⟨mA,⟨ob,n,ne⟩,r,q,z,d⟩
end
structure Cls (K:PySem.W.Frag) (C:Addr):Prop where
 pg:PySem.W.plainGet K C Str.empty=true
 hd:PySem.W.hasDictIn K C=true
 po:PySem.W.plainOver K C=true
 sa:PySem.W.findIn K (.ref C) "__setattr__" = some (some (.builtin "object.__setattr__"))
theorem Cls.get {K:PySem.W.Frag}{C:Addr}(c:Cls K C) (f:Str):PySem.W.plainGet K C f=true:=c.pg
def zm (K:PySem.W.Frag) (C:Addr) (f:Str):Prop:=PySem.W.findIn K (.ref C) f=some none
theorem zm.taker {K:PySem.W.Frag}{C:Addr}{f:Str}(n:zm K C f):PySem.W.takerIn K C f=some none:=by
 unfold PySem.W.takerIn
 rw [show PySem.W.findIn K (.ref C) f=some none from n]
 rfl
structure Meth (K:PySem.W.Frag) (C:Addr) (m:Str) (f:Addr):Prop where
 at_:PySem.W.findIn K (.ref C) m=some (some (.ref f))
 fn:PySem.W.isFn K (.ref f)=true
 kp:PySem.W.keepIn K (.ref f)=true
section
variable {X:Cx}{pins:List (Addr×Obj)}{σ:St}{H:Hp}{s:Shared}{a C dx:Addr}{fs:List (Str×V)}{f:Str}{v:V}{A:Around}{E:Value->Shared->Prop}
theorem Xh {b:Bool}{Q:Value->Shared->Prop}(I:Inv X pins σ H s) (e:H a=some (.ins C dx fs)) (c:Cls X.K C) (n:zm X.K C f) (l:fs.lookup f=some v)
  (h:∀ u s',Inv X pins σ H s'->jB v u->Q u s'):wpAny (model X.prog X.w) A (getAttr (.ref a) f b) Q E s:=by
 obtain ⟨mA,O,r,_,_,_⟩:=wo I.hok e
 obtain ⟨u,hu,ru⟩:=yh.some_of (v:=v) (o:=mA f) (by rw [<- l];exact r f)
 exact UC I.kIn O (c.get f) c.hd n hu (Yw ru) (h u _ (I.tok _) ru)
theorem vf {m:Str}{g:Addr}{pl:Sem Bool}{Q:Value×List Value->Shared->Prop}(I:Inv X pins σ H s) (e:H a=some (.ins C dx fs)) (c:Cls X.K C) (k:Meth X.K C m g) (l:fs.lookup m=none)
  (h:Q (.ref g,[.ref a]) s):wpAny (model X.prog X.w) A (getMethod (.ref a) m pl) Q E s:=by
 obtain ⟨mA,O,r,_,_,_⟩:=wo I.hok e
 have hn:mA m=none:=yh.none_of (by rw [<- l];exact r m)
 exact Vd I.kIn O (c.get m) k.at_ k.fn hn h
theorem Xc {y:V}{u:Value}{Q:Unit->Shared->Prop}(I:Inv X pins σ H s) (e:H a=some (.ins C dx fs)) (c:Cls X.K C) (n:zm X.K C f) (hl:fs.length<1000) (ry:jB y u)
  (h:∀ s',Inv X pins σ (upd H a (.ins C dx (jq f y fs))) s'->Q () s'):wpAny (model X.prog X.w) A (setAttr (.ref a) f u) Q E s:=by
 obtain ⟨mA,O,r,wi,_,ho⟩:=wo I.hok e
 have hz:(fs.map (·.1)).length<=sizeLine:=by rw [List.length_map,sizeLine_eq];omega
 refine VZ I.kIn O c.sa c.po n.taker c.hd wi hz fun h' O' sb=>h _ ?_
 have hd:∃ o,h'.get? dx=some o:=let ⟨o,_,_,e',_⟩:=O'.ns;⟨o,e'⟩
 refine I.write (x:=a) (e:=dx) (by rw [e];exact True.intro) (.inr ho) (fun b q hb z=>(sb.2 b hb).trans z) hd ?_
 refine ⟨by rw [j5 O.ne];exact ho,?_,O.ne,O'.obj,_,O'.ns,fun g=>?_,fun g hg=>?_⟩
 ·have:=jS f y fs;omega
 ·show yh ((jq f y fs).lookup g) (if g=f then some u else mA g)
  rw [jw]
  by_cases q:g=f
  ·rw [if_pos q,if_pos q];exact ry
  ·rw [if_neg q,if_neg q];exact r g
 ·by_cases q:g=f
  ·rw [q];exact (ut f y fs).1
  ·refine (ut f y fs).2 g (wi g fun z=>hg ?_)
   show (if g=f then some u else mA g)=none
   rw [if_neg q];exact z
theorem Inv.made (I:Inv X pins σ H s):Inv X pins σ (upd (upd H s.heap.objs.size (.own (s.heap.objs.size+1))) (s.heap.objs.size+1) (.ins C s.heap.objs.size []))
  { s with heap:=(s.heap.push PySem.W.emptyDict).push (PySem.W.instObj C s.heap.objs.size) }:=by
 have e1:(s.heap.push PySem.W.emptyDict).get? s.heap.objs.size=some PySem.W.emptyDict:=Heap.get?_push_size s.heap rfl
 have e2:((s.heap.push PySem.W.emptyDict).push (PySem.W.instObj C s.heap.objs.size)).get? (s.heap.objs.size+1)=some (PySem.W.instObj C s.heap.objs.size):=by
  have:=Heap.get?_push_size (s.heap.push PySem.W.emptyDict) (o:=PySem.W.instObj C s.heap.objs.size) rfl
  rwa [Heap.size_push] at this
 have e3:(s.heap.push PySem.W.emptyDict).Ns s.heap.objs.size (fun _=>none):=⟨PySem.W.emptyDict,#[],_,e1,rfl,(fun e he=>absurd he (by simp)),fun _=>rfl⟩
 have I1:=I.laid (a:=s.heap.objs.size) (o:=.own (s.heap.objs.size+1)) (h':=s.heap.push PySem.W.emptyDict) (t':=s.toks) (fun b u q=>Heap.get?_push_of_some _ q) (Nat.le_refl _) ⟨_,e1⟩
 refine I1.laid (a:=s.heap.objs.size+1) (o:=.ins C s.heap.objs.size []) (t':=s.toks) (fun b u q=>Heap.get?_push_of_some _ q) (Nat.le_of_eq (Heap.size_push _ _)) ?_
 have ne:s.heap.objs.size≠s.heap.objs.size+1:=Nat.ne_of_lt (Nat.lt_succ_self _)
 refine ⟨by rw [j5 ne,j6],Nat.zero_le _,ne,e2,fun _=>none,(Heap.Ns1.of_empty e3).at fun o q=>Heap.get?_push_of_some _ q,fun _=>True.intro,fun y hy=>absurd rfl hy⟩
theorem U0 {prog:Program}{w:World}{env:Env}{e:Expr}{f:Str}{pos:Pos}{s:Shared}{Q:Value->Shared->Prop}(hb:attributeBase e f env (eval e env)=eval e env)
  (h:wpAny (model prog w) A (eval e env) (fun o s₁=>wpAny (model prog w) A (getAttr o f true) Q E s₁) E s):wpAny (model prog w) A (eval (.Attribute e f pos) env) Q E s :=
 Attribute_any_ h (by rw [arm_eval_Attribute,hb])
end
def GC (K:PySem.W.Frag) (ta:TE) (f:Str):TE:=fun σ H Q=>ta σ H fun x H1=>∃ a C dx fs v,x = .ref a/\H1 a=some (.ins C dx fs)/\Cls K C/\zm K C f/\fs.lookup f=some v/\Q v H1
def Gs (K:PySem.W.Frag) (ta tv:TE) (f:Str):TS:=fun D σ H=>tv σ H fun y H1=>ta σ H1 fun x H2=>∃ a C dx fs,x = .ref a/\H2 a=some (.ins C dx fs)/\Cls K C/\zm K C f/\fs.length<1000 /\
 D.nx σ (upd H2 a (.ins C dx (jq f y fs)))
section
variable {X:Cx}{o e value:Expr}{f:Str}{pos pos' tpos:Pos}{ta tv:TE}
theorem Gm (he:PE X e ta) (hb:attributeBase e f X.env (eval e X.env)=eval e X.env):PE X (.Attribute e f pos) (GC X.K ta f):=by
 intro pins s σ H Q I h
 refine U0 hb (thn (he pins s σ H _ I h) fun u s1 ⟨x,H1,I1,rx,a,C,dx,fs,v,ex,ea,c,n,l,q⟩=>?_)
 subst ex
 obtain rfl:u=Value.ref a:=rx
 exact Xh I1 ea c n l fun u' s2 I2 ru=>⟨v,H1,I2,ru,q⟩
theorem WL (ha:PE X o ta) (hv:PE X value tv) (hs:swapsWith value (some (.Attribute o f pos')) pos.line X.env=pure false):PS X (.Assign [.Attribute o f pos'] value pos) (Gs X.K ta tv f):=by
 intro pins s σ H D I h
 refine plainObj_wpAny_Assign_Attribute (thn (hv pins s σ H _ I h) fun u s1 ⟨y,H1,I1,ry,q⟩=>thn (ha pins s1 σ H1 _ I1 q) fun ov s2 ⟨x,H2,I2,rx,a,C,dx,fs,ex,ea,c,n,l,q2⟩=>?_) hs
 subst ex
 obtain rfl:ov=Value.ref a:=rx
 exact Xc I2 ea c n l ry fun s3 I3=>⟨σ,_,I3,q2⟩
theorem W0 {pl:Sem Bool}{m:Str}{apos:Pos}{args:List Expr}{pins:List (Addr×Obj)}{s:Shared}{σ:St}{H:Hp}{Q:Value->Shared->Prop}{te:TE}(he:PE X e te) (I:Inv X pins σ H s)
  (h:te σ H fun x H1=>∃ a C dx fs g,x = .ref a/\H1 a=some (.ins C dx fs)/\Cls X.K C/\Meth X.K C m g/\fs.lookup m=none /\
   ∀ s1,Inv X pins σ H1 s1->wpAny (model X.prog X.w) X.A (callWith pos (.ref g) [.ref a] (backTo pos (starEach args X.env)) (backToKw pos (keywordEach [] X.env))) Q X.xe s1)
  (ht:eval (.Call (.Attribute e m apos) args [] pos) X.env=(do
   let ov <- eval e X.env
   standAt apos.atName
   let (f,first) <- holding [ov] (getMethod ov m pl)
   callWith pos f first (backTo pos (starEach args X.env)) (backToKw pos (keywordEach [] X.env)))) :
  wpAny (model X.prog X.w) X.A (eval (.Call (.Attribute e m apos) args [] pos) X.env) Q X.xe s:=by
 refine PySem.W.methodCall_KW (pl:=pl) (thn (he pins s σ H _ I h) fun u s1 ⟨x,H1,I1,rx,a,C,dx,fs,g,ex,ea,c,k,l,q⟩=>?_) ht
 subst ex
 obtain rfl:u=Value.ref a:=rx
 exact vf I1 ea c k l (q s1 I1)
end
section
variable {X:Cx}{pins:List (Addr×Obj)}{σ:St}{H:Hp}{s:Shared}{A:Around}{E:Value->Shared->Prop}{Q:Value->Shared->Prop}{c:Value}{b:Bool}
inductive TyOf (K:PySem.W.Frag) (H:Hp):V->Value->Prop where
 | non:TyOf K H .non (.type "NoneType")
 | bl (x:Bool):TyOf K H (.bl x) (.type "bool")
 | int (i:Int):TyOf K H (.int i) (.type "int")
 | str (x:Str):TyOf K H (.str x) (.type "str")
 | flt (x:UInt64):TyOf K H (.flt x) (.type "float")
 | lst {a:Addr} {xs:List V} (e:H a=some (.lst xs)):TyOf K H (.ref a) (.type "list")
 | frz {a:Addr} {o:Obj} {xs:List V} (e:H a=some (.frz o (.lst xs))):TyOf K H (.ref a) (.type "list")
 | tup {a:Addr} {xs:List V} (e:H a=some (.tup xs)):TyOf K H (.ref a) (.type "tuple")
 | dK {a:Addr} {kvs:List (Key×V)} (e:H a=some (.dK kvs)):TyOf K H (.ref a) (.type "dict")
 | dT {a:Addr} {kvs:List (List Key×V)} (e:H a=some (.dT kvs)):TyOf K H (.ref a) (.type "dict")
 | ins {a C dx:Addr} {fs:List (Str×V)} (e:H a=some (.ins C dx fs)) (cl:Cls K C) (ha:PySem.W.findIn K (.ref C) "__class__" = some (some (.builtin "object.__class__")))
   (hn:PySem.W.specialIn K (.builtin "object.__class__") "__get__" = some (some (.builtin "getset_descriptor.__get__"))) (htk:PySem.W.takesIn K (.builtin "object.__class__")=some true)
   (hm:PySem.W.mroIn K C (.type "object")=some true):TyOf K H (.ref a) (.ref C)
theorem Yv {x:V}{u t:Value}(I:Inv X pins σ H s) (rx:jB x u) (ty:TyOf X.K H x t) (e:PySem.W.kitOne X.K t c=some b) (h:∀ tk,Q (.bool b) { s with toks:=tk }) :
  wpAny (model X.prog X.w) A (call (.builtin "isinstance") [u,c]) Q E s:=by
 cases ty with
 | non=>cases (show u=Value.none from rx);exact PySem.W.kia_one PySem.W.kitx_none I.kIn True.intro e (fun z=>nomatch z) h
 | bl y=>cases (show u=Value.bool y from rx);exact PySem.W.kia_one PySem.W.kitx_bool I.kIn True.intro e (fun z=>nomatch z) h
 | int i=>obtain ⟨t,q⟩:=(show ∃ t,u=Value.int i t from rx);cases q;exact PySem.W.kia_one PySem.W.kitx_int I.kIn True.intro e (fun z=>nomatch z) h
 | str y=>obtain ⟨t,q⟩:=(show ∃ t,u=Value.str y t from rx);cases q;exact PySem.W.kia_one PySem.W.kitx_str I.kIn True.intro e (fun z=>nomatch z) h
 | flt y=>obtain ⟨t,q⟩:=(show ∃ t,u=Value.float y t from rx);cases q;exact PySem.W.kia_one PySem.W.kitx_float I.kIn True.intro e (fun z=>nomatch z) h
 | @lst a xs ea =>
  cases (show u=Value.ref a from rx)
  obtain ⟨_,_,n,_,h1⟩:=(show qe X.prog X.w H s.heap a (.lst xs) from I.hok a _ ea)
  exact PySem.W.kia_one PySem.W.kitx_list I.kIn ⟨_,h1,rfl⟩ e (fun z=>nomatch z) h
 | @frz a ob xs ea =>
  cases (show u=Value.ref a from rx)
  obtain ⟨_,_,_,n,_,h1⟩:=(show qe X.prog X.w H s.heap a (.frz ob (.lst xs)) from I.hok a _ ea)
  exact PySem.W.kia_one PySem.W.kitx_list I.kIn ⟨_,h1,rfl⟩ e (fun z=>nomatch z) h
 | @tup a xs ea =>
  cases (show u=Value.ref a from rx)
  obtain ⟨_,_,_,p⟩:=(show qe X.prog X.w H s.heap a (.tup xs) from I.hok a _ ea)
  obtain ⟨o,h1,h2,_⟩:=p
  exact PySem.W.kia_one PySem.W.kitx_tuple I.kIn ⟨o,h1,h2⟩ e (fun z=>nomatch z) h
 | @dK a kvs ea =>
  cases (show u=Value.ref a from rx)
  obtain ⟨_,_,vs,_,p⟩:=(show qe X.prog X.w H s.heap a (.dK kvs) from I.hok a _ ea)
  obtain ⟨o,es,ep,h1,h2,_⟩:=p
  exact PySem.W.kia_one PySem.W.kitx_dict I.kIn ⟨o,h1,h2.1⟩ e (fun z=>nomatch z) h
 | @dT a kvs ea =>
  cases (show u=Value.ref a from rx)
  obtain ⟨_,_,xs,_,o,es,ep,h1,h2,_⟩:=(show qe X.prog X.w H s.heap a (.dT kvs) from I.hok a _ ea)
  exact PySem.W.kia_one PySem.W.kitx_dict I.kIn ⟨o,h1,h2.1⟩ e (fun z=>nomatch z) h
 | @ins a C dx fs ea cl ha hn htk hm =>
  cases (show u=Value.ref a from rx)
  obtain ⟨mA,O,_⟩:=wo I.hok ea
  obtain ⟨od,J,_⟩:=O.look
  exact PySem.W.kia_one (PySem.W.kitx_own (cl.get _) cl.hd ha hn htk hm) I.kIn J e (fun z=>nomatch z) h
end
end L2
namespace L2
open PySem PySem.Spec PyProof.Rows
structure Room (k:Nat) (A:Around):Prop where
 hd:A.handled=none
 dp:A.depth+3*k+5<recursionLimit
 un:A.units+16*k+200<cLine
theorem Room.mono {j k:Nat}{A:Around}(r:Room k A) (h:j<=k):Room j A:=⟨r.hd,by have:=r.dp;omega,by have:=r.un;omega⟩
theorem Room.deeper {k:Nat}{A:Around}(r:Room (k+1) A) (env:Env):Room k (A.deeper env) :=
 ⟨r.hd,by have:=r.dp;show A.depth+1+3*k+5<_;omega,by have:=r.un;show A.units+3+16*k+200<_;omega⟩
theorem Room.in1 {k:Nat}{A:Around}(r:Room (k+1) A):Room k A.in1 :=
 ⟨r.hd,by have:=r.dp;show A.depth+3*k+5<_;omega,by have:=r.un;show A.units+1+16*k+200<_;omega⟩
theorem Xn {A:Around}{C:Addr}{us:List Value}{kw:List (Str×Value)}:(A.under (.builtin "type.__call__" ⟨.ref C::us,kw⟩)).depth=A.depth+1:=by
 first | rfl | simp [Around.under,Code.weight,Code.isCreation,Code.isGuard,Code.isCaller,Code.frames,Code.isFrame,guardIds]
theorem Xo {A:Around}{C:Addr}{us:List Value}{kw:List (Str×Value)}:(A.under (.builtin "type.__call__" ⟨.ref C::us,kw⟩)).units=A.units+1:=by
 first | rfl | simp [Around.under,Code.cUnits,Code.frames,Code.isFrame]
theorem Room.make {k:Nat}{A:Around}(r:Room (k+1) A) (C:Addr) (us:List Value) (kw:List (Str×Value)):Room k (A.under (.builtin "type.__call__" ⟨.ref C::us,kw⟩)) :=
 ⟨r.hd,by have:=r.dp;rw [Xn];omega,by have:=r.un;rw [Xo];omega⟩
theorem Room.depth {k:Nat}{A:Around}(r:Room k A):A.depth<recursionLimit:=by have:=r.dp;omega
theorem Room.units {k:Nat}{A:Around}(r:Room k A):A.units+64<cLine:=by have:=r.un;omega
def JQ:TA:=fun _ H Q=>Q [] H
def GQ (ta:TE) (tr:TA):TA:=fun σ H Q=>ta σ H fun x H1=>tr σ H1 fun xs H2=>Q (x::xs) H2
section
variable {X:Cx}{e:Expr}{es:List Expr}{te:TE}{t:TA}{pos:Pos}
theorem j2:PA X [] JQ:=fun _ _ _ _ H Q I h=>Calls.spliced_nil ⟨[],H,I,.nil,h⟩
theorem j0 (ha:PE X e te) (hr:PA X es t) (hs:starEach (e::es) X.env=(false,eval e X.env)::starEach es X.env:=by rfl):PA X (e::es) (GQ te t):=by
 intro pos pins s σ H Q I h
 rw [hs]
 show wpAny _ _ (spliced ((false,eval e X.env)::backTo pos (starEach es X.env))) _ _ s
 refine Calls.spliced_cons (thn (ha pins s σ H _ I h) fun u s1 ⟨x,H1,I1,r1,q1⟩=>?_)
 exact thn (hr pos pins s1 σ H1 _ I1 q1) fun us s2 ⟨xs,H2,I2,r2,q2⟩=>⟨x::xs,H2,I2,.cons r1 r2,q2⟩
end
abbrev Sp:=List V->Hp->VK->XK->Prop
abbrev CXT:=List Env->Hp->Shared->XK->Value->Shared->Prop
structure Env0 (P:Program) (w:World) (K:PySem.W.Frag) (mg:Str->Option Value) (base:Heap) (A:Around) (outer:List Env) (s:Shared) (H:Hp):Prop where
 frames:A.frames=some outer
 mod:Mod K mg base
 bs:∀ b o,base.get? b=some o->s.heap.get? b=some o/\H b=none
 bsz:base.objs.size<=s.heap.objs.size
 funs:s.heap.FunFrames base outer
 frf:∀ b∈frs outer,H b=none
 hok:HOk P w H s.heap
 bare:AllBare s.gens
def CE (outer:List Env) (P:Program) (w:World) (H:Hp) (s:Shared) (Q:VK) (u:Value) (s':Shared):Prop :=
 ∃ v H',s'.os=s.os/\AllBare s'.gens/\Un (frs outer) [] H H' s.heap s'.heap/\HOk P w H' s'.heap/\jB v u/\Q v H'
def CR (CX:CXT) (outer:List Env) (P:Program) (w:World) (H:Hp) (s:Shared) (Q:VK) (E:XK) (r:Result) (s':Shared):Prop :=
 match r with
 | .ok (.ret u)=>CE outer P w H s Q u s'
 | .ok _=>False
 | .error e=>CX outer H s E e s'
structure FnOk (P:Program) (w:World) (K:PySem.W.Frag) (mg:Str->Option Value) (base:Heap) (CX:CXT) (k:Nat) (f:Addr) (fd:FuncData) (ps:List Str) (sp:Sp):Prop where
 len:∀ vs H Q E,sp vs H Q E->vs.length=ps.length
 run:∀ (A:Around) (outer:List Env) (s:Shared) (H:Hp) (args:Args) (us:List Value) (vs:List V) (Q:VK) (E:XK),Room k A->Env0 P w K mg base A outer s H->BindsTo s fd args (ps.zip us)->jz vs us->sp vs H Q E ->
  codeAny (model P w) A (.call (.ref f) args) (CR CX outer P w H s Q E) s
theorem Env0.make {P:Program}{w:World}{K:PySem.W.Frag}{mg:Str->Option Value}{base:Heap}{A:Around}{outer:List Env}{s:Shared}{H:Hp}(e:Env0 P w K mg base A outer s H) (C:Addr) (us:List Value) (kw:List (Str×Value)) :
  Env0 P w K mg base (A.under (.builtin "type.__call__" ⟨.ref C::us,kw⟩)) outer s H:=⟨by first | exact e.frames | (simpa [Around.under,Code.envs,Code.isFrame,pushEnvs] using e.frames),e.mod,e.bs,e.bsz,e.funs,e.frf,e.hok,e.bare⟩
theorem Env0.in1 {P:Program}{w:World}{K:PySem.W.Frag}{mg:Str->Option Value}{base:Heap}{A:Around}{outer:List Env}{s:Shared}{H:Hp}(e:Env0 P w K mg base A outer s H) :
  Env0 P w K mg base A.in1 outer s H:=⟨e.frames,e.mod,e.bs,e.bsz,e.funs,e.frf,e.hok,e.bare⟩
section
variable {X:Cx}{pins:List (Addr×Obj)}{σ:St}{H:Hp}{s s':Shared}
theorem Inv.env0 (I:Inv X pins σ H s):Env0 X.prog X.w X.K X.mg X.base X.A X.stack s H :=
 ⟨I.ok.frames,I.ok.mod,I.bs,Nat.le_trans I.ok.bsz I.sz,I.stack,I.stkFree,I.hok,I.bare⟩
theorem Inv.after {Q:VK}{u:Value}(I:Inv X pins σ H s) (h:CE X.stack X.prog X.w H s Q u s'):EP X pins σ Q u s':=by
 obtain ⟨v,H',os,bare,un,hok,r,q⟩:=h
 obtain ⟨hh,g,d,t,os'⟩:=s'
 obtain rfl:os'=s.os:=os
 exact ⟨v,H',I.call (h':=hh) (g':=g) (d':=d) (t':=t) (ch:=[]) un hok bare (fun b z=>absurd z (by simp)),r,q⟩
end
def UW (sp:Sp) (dvs:List V) (E:XK) (t:TA):TE:=fun σ H Q=>t σ H fun vs H1=>sp (vs++dvs) H1 Q E
def UY (C:Addr) (m:Str) (sp:Sp) (dvs:List V) (E:XK) (ta:TE) (t:TA):TE:=fun σ H Q=>ta σ H fun x H1=>∃ a dx fs,x = .ref a/\H1 a=some (.ins C dx fs)/\fs.lookup m=none /\
 t σ H1 fun vs H2=>sp (x::(vs++dvs)) H2 Q E
def yf (K:PySem.W.Frag) (fd:FuncData) (ps:List Str) (ds:List Value):Prop :=
 ∀ (s:Shared) (us:List Value),K.In s.heap->(us++ds).length=ps.length->BindsTo s fd ⟨us,[]⟩ (ps.zip (us++ds))
theorem yf.all {K:PySem.W.Frag}{fd:FuncData}{ps:List Str}(h:∀ us:List Value,us.length=ps.length->bindArgs fd ⟨us,[]⟩=pure (ps.zip us)):yf K fd ps []:=fun s us _ hl=>by
 rw [List.append_nil] at hl ⊢
 exact .of_eq (h us hl)
def Jw (CX:CXT) (X:Cx) (E:XK):Prop:=∀ (pins:List (Addr×Obj)) (σ:St) (H:Hp) (s:Shared) (e:Value) (s':Shared),Inv X pins σ H s->CX X.stack H s E e s'->X.xe e s'
section
variable {X:Cx}{CX:CXT}{k:Nat}{f C:Addr}{fd:FuncData}{ps:List Str}{sp:Sp}{dvs:List V}{ds:List Value}{E:XK}{x m:Str}{p pos apos:Pos}{e o:Expr}{es:List Expr}{ta:TE}{t:TA}
theorem Vo {pins:List (Addr×Obj)}{σ:St}{H:Hp}{s:Shared}{Q:VK}{us:List Value}{vs:List V}(F:FnOk X.prog X.w X.K X.mg X.base CX k f fd ps sp) (hr:Room k X.A) (hb:yf X.K fd ps ds) (hd:jz dvs ds) (hx:Jw CX X E)
  (I:Inv X pins σ H s) (r:jz vs us) (h:sp (vs++dvs) H Q E):wpAny (model X.prog X.w) X.A (call (.ref f) us) (EP X pins σ Q) X.xe s:=by
 have r2:jz (vs++dvs) (us++ds):=r.append hd
 have hl:(us++ds).length=ps.length:=by rw [<- r2.length];exact F.len _ _ _ _ h
 refine wpAny_call (codeAny_mono (F.run X.A X.stack s H ⟨us,[]⟩ (us++ds) (vs++dvs) Q E hr I.env0 (hb s us I.kIn hl) r2 h) fun r s' hq=>?_)
 cases r with
 | error e=>exact hx pins σ H s e s' I hq
 | ok fl =>
  cases fl with
  | ret u=>exact I.after hq
  | next=>exact False.elim hq
  | brk=>exact False.elim hq
  | cont=>exact False.elim hq
theorem UE (F:FnOk X.prog X.w X.K X.mg X.base CX k f fd ps sp) (hr:Room k X.A) (hg:Gl X x) (hm:X.mg x=some (.ref f)) (hk:PySem.W.keepIn X.K (.ref f)=true) (hb:yf X.K fd ps ds) (hd:jz dvs ds) (hx:Jw CX X E)
  (ha:PA X (e::es) t) (hdb:(x == ("__debug__" : Str))=false:=by decide) (he:starEach (e::es) X.env=(false,eval e X.env)::starEach es X.env:=by rfl) (hpl:(backTo pos (starEach es X.env)).any (·.1)=false:=by rfl) :
  PE X (.Call (.Name x p) (e::es) [] pos) (UW sp dvs E t):=by
 intro pins s σ H Q I h
 refine wpAny_Call_Name_kw (um I hg hm ?_ hdb)
 refine PySem.W.callWith_K (h₀:=X.base) I.ok.mod.kin hk (thn (ha pos pins s σ H _ I h) fun us s1 ⟨vs,H1,I1,r,q⟩=>⟨I1.kIn,?_⟩) he hpl
 exact Vo F hr hb hd hx I1 r q
theorem UK {pl:Sem Bool}(he:PE X o ta) (c:Cls X.K C) (hm:Meth X.K C m f) (F:FnOk X.prog X.w X.K X.mg X.base CX k f fd ps sp) (hr:Room k X.A) (hb:yf X.K fd ps ds) (hd:jz dvs ds) (hx:Jw CX X E) (ha:PA X (e::es) t)
  (hst:starEach (e::es) X.env=(false,eval e X.env)::starEach es X.env:=by rfl) (hpl:(backTo pos (starEach es X.env)).any (·.1)=false:=by rfl)
  (ht:eval (.Call (.Attribute o m apos) (e::es) [] pos) X.env=(do
   let ov <- eval o X.env
   standAt apos.atName
   let (f,first) <- holding [ov] (getMethod ov m pl)
   callWith pos f first (backTo pos (starEach (e::es) X.env)) (backToKw pos (keywordEach [] X.env))):=by rfl) :
  PE X (.Call (.Attribute o m apos) (e::es) [] pos) (UY C m sp dvs E ta t):=by
 intro pins s σ H Q I h
 refine PySem.W.methodCall_KW (pl:=pl) (thn (he pins s σ H _ I h) fun u s1 ⟨x,H1,I1,rx,a,dx,fs,ex,ea,l,q⟩=>?_) ht
 subst ex
 obtain rfl:u=Value.ref a:=rx
 refine vf I1 ea c hm l ?_
 refine PySem.W.callWith_K (first:=[.ref a]) (h₀:=X.base) I.ok.mod.kin hm.kp (thn (ha pos pins s1 σ H1 _ I1 q) fun us s2 ⟨vs,H2,I2,r,q2⟩=>⟨I2.kIn,?_⟩) hst hpl
 exact Vo (us:=.ref a::us) (vs:=.ref a::vs) F hr hb hd hx I2 (.cons rfl r) q2
structure Mk (K:PySem.W.Frag) (C f:Addr):Prop where
 makes:PySem.W.makesIn K C=true
 init:PySem.W.findIn K (.ref C) "__init__" = some (some (.ref f))
 fn:PySem.W.isFn K (.ref f)=true
 kp:PySem.W.keepIn K (.ref C)=true
end
section
variable {X:Cx}{CX:CXT}{k:Nat}{f C:Addr}{fd:FuncData}{ps ks:List Str}{sp:Sp}{E:XK}{x m:Str}{p pos apos kpos:Pos}{e o:Expr}{es:List Expr}{kws:List Keyword}{te ta:TE}{t tk:TA}{nm:Option Str}
variable {g:List Value->List Value->List Value}{gV:List V->List V->List V}
end
structure FnScope (N P:List Str) (sc:Scope):Prop where
 kind:sc.kind = .function
 co:sc.isCoroutine=false
 gen:sc.isGenerator=false
 nd:N.Nodup
 pre:N.take P.length=P
 par:∀ x∈P,sc.names.lookup x=some .local\/sc.names.lookup x=some .cell
 nofree:∀ y∈sc.names,y.2≠.free
theorem gA {kindOf:Str->Option NameKind}{x:Str}:∀ {binds:List (Str×Value)}{m:Str->Option Value},(∀ v,(x,v)∉binds)->bindL kindOf binds m x=m x
 | [],_,_=>rfl
 | (n,v)::r,m,h=>by
  unfold bindL
  rw [gA fun w hw=>h w (List.mem_cons_of_mem _ hw)]
  split
  ·have:x≠n:=by rintro rfl;exact h v List.mem_cons_self
   simp [this]
  ·rfl
theorem J0 {kindOf:Str->Option NameKind}{x:Str}:∀ {binds:List (Str×Value)}{m:Str->Option Value},(∀ v,(x,v)∉binds)->bindC kindOf binds m x=m x
 | [],_,_=>rfl
 | (n,v)::r,m,h=>by
  unfold bindC
  rw [J0 fun w hw=>h w (List.mem_cons_of_mem _ hw)]
  split
  ·rfl
  ·have:x≠n:=by rintro rfl;exact h v List.mem_cons_self
   simp [this]
theorem Jb {kindOf:Str->Option NameKind}{x:Str}{v:Value}:∀ {P:List Str}{vs:List Value}{i:Nat}{m:Str->Option Value},P.Nodup->P[i]? = some x->vs[i]? = some v->kindOf x=some .local ->
  bindL kindOf (P.zip vs) m x=some v
 | [],_,_,_,_,h,_,_=>by simp at h
 | _::_,[],_,_,_,_,h,_=>by simp at h
 | p::P,w::vs,0,m,nd,h1,h2,hk=>by
  simp at h1 h2;subst h1;subst h2
  show bindL kindOf ((p,w)::P.zip vs) m p=_
  unfold bindL
  rw [gA fun v hv=>(List.nodup_cons.mp nd).1 (List.of_mem_zip hv).1,if_pos hk]
  simp
 | p::P,w::vs,i+1,m,nd,h1,h2,hk=>by
  show bindL kindOf ((p,w)::P.zip vs) m x=_
  unfold bindL
  exact Jb (i:=i) (List.nodup_cons.mp nd).2 (by simpa using h1) (by simpa using h2) hk
theorem gG {kindOf:Str->Option NameKind}{x:Str}{v:Value}:∀ {P:List Str}{vs:List Value}{i:Nat}{m:Str->Option Value},P.Nodup->P[i]? = some x->vs[i]? = some v->kindOf x≠some .local ->
  bindC kindOf (P.zip vs) m x=some v
 | [],_,_,_,_,h,_,_=>by simp at h
 | _::_,[],_,_,_,_,h,_=>by simp at h
 | p::P,w::vs,0,m,nd,h1,h2,hk=>by
  simp at h1 h2;subst h1;subst h2
  show bindC kindOf ((p,w)::P.zip vs) m p=_
  unfold bindC
  rw [J0 fun v hv=>(List.nodup_cons.mp nd).1 (List.of_mem_zip hv).1,if_neg hk]
  simp
 | p::P,w::vs,i+1,m,nd,h1,h2,hk=>by
  show bindC kindOf ((p,w)::P.zip vs) m x=_
  unfold bindC
  exact gG (i:=i) (List.nodup_cons.mp nd).2 (by simpa using h1) (by simpa using h2) hk
def start (N:List Str) (vs:List V):St:=vs.map some++List.replicate (N.length-vs.length) none
def vt (CX:CXT) (P:Program) (w:World) (K:PySem.W.Frag) (mg:Str->Option Value) (base:Heap) (N:List Str) (qual:Str) (scope:Scope) (f:Addr) (cd:Value) (A:Around) (outer:List Env) (s:Shared) (H:Hp) (E:XK):Cx where
 prog:=P
 w:=w
 K:=K
 mg:=mg
 base:=base
 A:=A.deeper (envOfC qual scope s.heap.objs.size f cd)
 N:=N
 s₀:=s
 H₀:=H
 env:=envOfC qual scope s.heap.objs.size f cd
 outer:=outer
 stack:=envOfC qual scope s.heap.objs.size f cd::outer
 ex:=[]
 calm:=true
 fn:=fun _=>true
 pn:=[]
 xe:=fun e s'=>wpAny (model P w) (A.deeper (envOfC qual scope s.heap.objs.size f cd)) (leaving (envOfC qual scope s.heap.objs.size f cd) e) (fun _ s''=>CX outer H s E e s'') (fun e' s''=>CX outer H s E e' s'') s'
theorem Q6 {sc:Scope}{n:Nat}{x:Str}(h:sc.names.lookup x=some .cell):∃ c,(cellsFrom n sc.names []).lookup x=some c:=by
 have q:=PySem.W.cellsFrom_some sc.names n [] (.inl h)
 exact Option.isSome_iff_exists.mp q
theorem gW {CX:CXT}{P:Program}{w:World}{K:PySem.W.Frag}{mg:Str->Option Value}{base:Heap}{N ps:List Str}{qual:Str}{scope:Scope}{f:Addr}{cd:Value}{A:Around}{outer:List Env}{s s1:Shared}{H:Hp}{E:XK}{us:List Value}{vs:List V}
  (S:FnScope N ps scope) (hd:A.handled=none) (e0:Env0 P w K mg base A outer s H) (hl:vs.length=ps.length) (r:jz vs us)
  (x:InCallC s s.heap.objs.size (bindL (envOfC qual scope s.heap.objs.size f cd).kindOf (ps.zip us) fun _=>none) (cellsFrom (s.heap.objs.size+1) scope.names []) (bindC (envOfC qual scope s.heap.objs.size f cd).kindOf (ps.zip us) fun _=>none) s1) :
  Inv (vt CX P w K mg base N qual scope f cd A outer s H E) [] (start N vs) H s1:=by
 have hpl:ps.length<=N.length:=by have:=congrArg List.length S.pre;rw [List.length_take] at this;omega
 obtain ⟨h1,tk,rfl,hk⟩:=x.done
 have noA:∀ b:Addr,b∉(vt CX P w K mg base N qual scope f cd A outer s H E).ex:=fun b z=>absurd (show b∈([]:List Addr) from z) (by simp)
 refine ⟨⟨e0.mod,S.kind,rfl,rfl,Nat.le_refl _,fun y z c h1 h2=>?_,fun y hy=>?_,fun y c _ h=>?_,fun _=>hd,Around.frames_deeper e0.frames,.inr ⟨rfl,rfl⟩,fun b z=>absurd z (noA b),e0.bs,e0.bsz,fun b _ _=>noA b,fun b z=>absurd z (noA b),e0.funs,e0.frf⟩,
  rfl,e0.bare,Un.kept hk,⟨_,x.toInCall.ns,fun i y v h1 h2 h3=>?_⟩,fun y c h=>⟨_,x.cell y c h⟩,e0.hok.fresh (Nat.le_refl _),fun y c h=>?_,fun p hp=>absurd (show p∈([]:List (Addr×Obj)) from hp) (by simp),e0.hok.kept hk,?_⟩
 ·exact name_of_addr x.apart (PySem.mem_of_lookup h1) (PySem.mem_of_lookup h2)
 ·have hy:scope.names.lookup y=some .cell\/scope.names.lookup y=some .free:=hy
  rcases hy with hy | hy
  ·exact Q6 hy
  ·exact absurd rfl (S.nofree _ (PySem.mem_of_lookup hy))
 ·exact Nat.le_of_lt (x.above y c (PySem.mem_of_lookup h))
 ·have hi:i<vs.length:=by
   unfold start at h2
   by_cases hi:i<vs.length
   ·exact hi
   ·rw [List.getElem?_append_right (by simpa using hi)] at h2
    rw [List.getElem?_replicate] at h2
    split at h2 <;> cases h2
  have ha:vs[i]? = some v:=by
   unfold start at h2
   rw [List.getElem?_append_left (by simpa using hi),List.getElem?_map] at h2
   cases e:vs[i]? with
   | none=>rw [e] at h2;cases h2
   | some a=>rw [e] at h2;cases h2;rfl
  obtain ⟨u,hu,rv⟩:=r.get ha
  have hp:ps[i]? = some y:=by
   rw [<- S.pre,List.getElem?_take_of_lt (by omega)];exact h1
  have ndP:ps.Nodup:=by rw [<- S.pre];exact S.nd.sublist (List.take_sublist _ _)
  refine ⟨u,rv,?_⟩
  rcases S.par y (List.mem_of_getElem? hp) with k | k
  ·exact .inl ⟨k,Jb ndP hp hu k⟩
  ·obtain ⟨c,e⟩:=Q6 (n:=s.heap.objs.size+1) k
   refine .inr ⟨.inl k,c,e,?_⟩
   have q:=x.cell y c e
   rw [gG ndP hp hu (by show scope.names.lookup y≠_;rw [k];decide)] at q
   exact q
 ·exact e0.hok.fresh (Nat.le_of_lt (x.above y c (PySem.mem_of_lookup h)))
 ·unfold start
  show _=N.length
  rw [List.length_append,List.length_map,List.length_replicate]
  omega
theorem Vr {CX:CXT}{P:Program}{w:World}{K:PySem.W.Frag}{mg:Str->Option Value}{base:Heap}{k:Nat}{f:Addr}{name qual:Str}{params:Arguments}{body:List Stmt}{scope:Scope}{dV kV doc pm cdv ct oc:Value}{an od:Option Addr}
  {osl:Array (Option Value)} {N ps:List Str} {sp:Sp} (lk:K.lookup f=some ⟨oc,od,.func (PySem.W.fnOf name qual params body scope dV kV doc pm an cdv ct),osl⟩) (hcd:PySem.W.codeIn K cdv qual=true) (S:FnScope N ps scope)
  (len:∀ vs H Q E,sp vs H Q E->vs.length=ps.length)
  (hbody:∀ (A:Around) (outer:List Env) (s:Shared) (H:Hp) (vs:List V) (Q:VK) (E:XK),Room k (A.deeper (envOfC qual scope s.heap.objs.size f cdv))->sp vs H Q E ->
   ∃ t,PSs (vt CX P w K mg base N qual scope f cdv A outer s H E) body t/\t { nx:=fun _ H'=>Q .non H',rt:=Q } (start N vs) H) :
  FnOk P w K mg base CX (k+1) f (PySem.W.fnOf name qual params body scope dV kV doc pm an cdv ct) ps sp:=by
 refine ⟨len,fun A outer s H args us vs Q E hr e0 hb r hsp=>?_⟩
 have hl:=len _ _ _ _ hsp
 have KX:K.In s.heap:=e0.mod.kin.keeps fun b o e=>(e0.bs b o e).1
 have lim:s.heap.NoLimit:=e0.mod.nolimit.keeps fun b o e=>(e0.bs b o e).1
 have hkind:∀ y∈ps.zip us,scope.names.lookup y.1=some .local\/(scope.names.lookup y.1=some .cell/\((cellsFrom (s.heap.objs.size+1) scope.names []).lookup y.1).isSome=true):=fun ⟨n,v⟩ hy=>by
  rcases S.par n (List.of_mem_zip hy).1 with q | q
  ·exact .inl q
  ·exact .inr ⟨q,PySem.W.cellsFrom_some _ _ _ (.inl q)⟩
 refine codeAny_call_function hr.depth (KX _ _ lk) rfl S.co S.gen rfl (PySem.W.codeRec_of KX hcd) (hb _ _ _ _ ?_)
 refine wpAny_newFunctionEnv_cells S.kind hkind fun env he s1 x=>?_
 subst he
 refine ⟨lim.keeps x.toInCall.keep,codeAny_func ?_⟩
 obtain ⟨t,ht,hq⟩:=hbody A outer s H vs Q E (hr.deeper _) hsp
 have I:Inv (vt CX P w K mg base N qual scope f cdv A outer s H E) [] (start N vs) H s1:=gW S hr.hd e0 hl r x
 refine wpAny_mono (ht [] s1 (start N vs) H _ I hq) (fun fl s' hs=>?_) fun e s' hs=>hs
 have fin:∀ {σ':St} {H':Hp} {v:V} {u:Value},Inv (vt CX P w K mg base N qual scope f cdv A outer s H E) [] σ' H' s'->jB v u->Q v H'->CE outer P w H s Q u s' :=
  fun {σ' H' v u} J rv q=>⟨v,H',J.os,J.bare,J.base,J.hok,rv,q⟩
 cases fl with
 | ret u =>
  obtain ⟨v,σ',H',J,rv,q⟩:=hs
  exact fin J rv q
 | next =>
  obtain ⟨σ',H',J,q⟩:=hs
  exact fin (v:=V.non) (u:=Value.none) J rfl q
 | brk =>
  obtain ⟨_,_,_,q⟩:=hs
  exact False.elim q
 | cont =>
  obtain ⟨_,_,_,q⟩:=hs
  exact False.elim q
end L2
namespace L2
open PySem PySem.Spec PyProof.Rows
section
variable {X:Cx}{x:Str}{p pos:Pos}{e:Expr}{es:List Expr}{t:TA}{id T:String}{r:List V->Hp->VK->Prop}
def tCB (r:List V->Hp->VK->Prop) (t:TA):TE:=fun σ H Q=>t σ H fun vs H1=>r vs H1 Q
theorem jf (hc:qJ X (.builtin id) r) (hg:Gl X x) (hm:X.mg x=none) (hv:bootBuiltins x=some (.builtin id)) (ha:PA X (e::es) t) (hn:x ≠ "__name__":=by decide) (hdb:(x == ("__debug__" : Str))=false:=by decide)
  (he:starEach (e::es) X.env=(false,eval e X.env)::starEach es X.env:=by rfl) (hpl:(backTo pos (starEach es X.env)).any (·.1)=false:=by rfl):PE X (.Call (.Name x p) (e::es) [] pos) (tCB r t):=by
 intro pins s σ H Q I h
 refine wpAny_Call_Name_kw (zY I hg hm hv ?_ hn hdb)
 exact PyProof.Rows.callWith_builtin1 (thn (ha pos pins s σ H _ I h) fun us s1 ⟨vs,H1,I1,r1,q1⟩=>hc pins s1 σ H1 vs us Q I1 r1 q1) he hpl
theorem qp (hc:qJ X (.type T) r) (hg:Gl X x) (hm:X.mg x=none) (hv:bootBuiltins x=some (.type T)) (ha:PA X (e::es) t) (hn:x ≠ "__name__":=by decide) (hdb:(x == ("__debug__" : Str))=false:=by decide)
  (he:starEach (e::es) X.env=(false,eval e X.env)::starEach es X.env:=by rfl) (hpl:(backTo pos (starEach es X.env)).any (·.1)=false:=by rfl):PE X (.Call (.Name x p) (e::es) [] pos) (tCB r t):=by
 intro pins s σ H Q I h
 refine wpAny_Call_Name_kw (zY I hg hm hv ?_ hn hdb)
 exact PyProof.Rows.callWith_type1 (thn (ha pos pins s σ H _ I h) fun us s1 ⟨vs,H1,I1,r1,q1⟩=>hc pins s1 σ H1 vs us Q I1 r1 q1) he hpl
end
end L2
namespace HT
open PySem PyProof.Rows
section
open PySem.SeqAt
open PySem.AutoSeq1 (wpAny_loadPart')
open PySem.MeetsSeq PySem.MeetsSeq2 PySem.MeetsSeq3
end
section
variable {prog:Program}{w:World}{A:Around}{E:Value->Shared->Prop}{s:Shared}
def sIx (n d:Nat):Option Int->Nat
 | none=>d
 | some v=>if v<0 then (v+(n:Int)).toNat else min v.toNat n
theorem sIx_none (n d:Nat):sIx n d none=d:=rfl
theorem sIx_nat (n d k:Nat):sIx n d (some (k:Int))=min k n:=by
 show (if (k:Int)<0 then ((k:Int)+(n:Int)).toNat else min (k:Int).toNat n)=min k n
 rw [if_neg (by omega),Int.toNat_natCast]
theorem Ws (n d:Nat) (hd:d<=n) (o:Option Int):sIx n d o<=n:=by
 cases o with
 | none=>exact hd
 | some v =>
  show (if v<0 then (v+(n:Int)).toNat else min v.toNat n)<=n
  by_cases hv:v<0
  ·rw [if_pos hv];omega
  ·rw [if_neg hv];exact Nat.min_le_right _ _
theorem Zq (v:Int) (n d:Nat):(if v<0 then max (v+(n:Int)) 0 else min v (n:Int))=((sIx n d (some v):Nat):Int):=by
 show (if v<0 then max (v+(n:Int)) 0 else min v (n:Int))=(((if v<0 then (v+(n:Int)).toNat else min v.toNat n):Nat):Int)
 by_cases hv:v<0
 ·simp only [if_pos hv];omega
 ·simp only [if_neg hv];omega
theorem QR (lo hi:Option Int) (n:Nat):Builtin.Slice.sliceAdjust lo hi 1 (n:Int)=(((sIx n 0 lo:Nat):Int),((sIx n n hi:Nat):Int)):=by
 have h1:¬ ((1:Int)<0):=by omega
 unfold Builtin.Slice.sliceAdjust
 simp only [h1,if_false]
 refine Prod.ext ?_ ?_
 ·cases lo with
  | none=>rfl
  | some v=>exact Zq v n 0
 ·cases hi with
  | none=>rfl
  | some v=>exact Zq v n n
theorem Xj (i j:Nat):Builtin.Slice.slicePlaces (i:Int) (j:Int) 1=j-i:=by
 unfold Builtin.Slice.slicePlaces
 have h1:(1:Int) > 0:=by omega
 simp only [h1,if_true,Int.ediv_one]
 split <;> omega
theorem slicePart_ {v:Value}{o:Option Int}{Q:Option Int->Shared->Prop}(p:IsPart v o) (h:Q o s):wpAny (model prog w) A (Builtin.Slice.slicePartIndex v) Q E s:=by
 cases p with
 | none=>exact slicePart_none h
 | int i t=>exact slicePart_int h
theorem sliceApplied_gen {sl:Addr}{vl vu:Value}{lo hi:Option Int}{n:Nat}{Q:Int×Int×Nat->Shared->Prop}(hs:s.heap.IsSliceOf sl vl vu .none) (pl:IsPart vl lo) (pu:IsPart vu hi)
  (h:Q (((sIx n 0 lo:Nat):Int),1,sIx n n hi-sIx n 0 lo) s):wpAny (model prog w) A (Builtin.Slice.sliceApplied (.ref sl) (pure (n:Int))) Q E s:=by
 obtain ⟨os,hos,hcs,hds⟩:=id hs
 unfold Builtin.Slice.sliceApplied Builtin.Slice.sliceFields
 refine wpAny_bind (wpAny_bind (wpAny_field hos hds (x:=vl) rfl (wpAny_bind (wpAny_field hos hds (x:=vu) rfl (wpAny_bind (wpAny_field hos hds (x:=.none) rfl (wpAny_pure ?_)))))))
 refine wpAny_bind (slicePart_none ?_)
 show wpAny _ _ (if ((1:Int) == 0)=true then _ else _) _ _ s
 rw [if_neg (by decide)]
 refine wpAny_bind (slicePart_ pl (wpAny_bind (slicePart_ pu (wpAny_bind (wpAny_pure ?_)))))
 show wpAny _ _ (match Builtin.Slice.sliceAdjust lo hi 1 (n:Int) with | (lo,hi)=>pure (lo,(1:Int),Builtin.Slice.slicePlaces lo hi 1)) _ _ s
 rw [QR lo hi n]
 show wpAny _ _ (pure (((sIx n 0 lo:Nat):Int),(1:Int),Builtin.Slice.slicePlaces ((sIx n 0 lo:Nat):Int) ((sIx n n hi:Nat):Int) 1)) _ _ s
 rw [Xj]
 exact wpAny_pure h
theorem V7 (xs:Array Value) (i k:Nat):((List.range k).filterMap fun (m:Nat)=>xs[((i:Int)+(m:Int)*1).toNat]?).toArray=((xs.toList.drop i).take k).toArray:=by
 have e:(fun (m:Nat)=>xs[((i:Int)+(m:Int)*1).toNat]?)=fun m=>xs[i+m]?:=by
  funext m
  have:((i:Int)+(m:Int)*1).toNat=i+m:=by omega
  rw [this]
 rw [e]
 have:=pick_run xs i k
 rw [List.filterMap_map] at this
 have e2:((fun x=>xs[x]?) ∘ fun x=>i+x)=fun m=>xs[i+m]?:=rfl
 rw [e2] at this
 rw [this]
theorem getItem_tuple_cut {t sl:Addr}{items:Array Value}{vl vu:Value}{lo hi:Option Int}{Q:Value->Shared->Prop}(ht:IsTup s.heap t items) (hs:s.heap.IsSliceOf sl vl vu .none) (pl:IsPart vl lo) (pu:IsPart vu hi)
  (hw:¬ (sIx items.size 0 lo=0/\sIx items.size items.size hi=items.size))
  (h:Q (.ref s.heap.objs.size) { s with heap:=s.heap.push { cls:=.type "tuple",data:=.seq ((items.toList.drop (sIx items.size 0 lo)).take (sIx items.size items.size hi-sIx items.size 0 lo)).toArray } })
  (hsz:items.size<=sizeLine):wpAny (model prog w) A (getItem (.ref t) (.ref sl)) Q E s:=by
 have htake:sizeOk (.seq ((items.toList.drop (sIx items.size 0 lo)).take (sIx items.size items.size hi-sIx items.size 0 lo)).toArray):=by
  show ((items.toList.drop (sIx items.size 0 lo)).take (sIx items.size items.size hi-sIx items.size 0 lo)).toArray.size<=sizeLine
  rw [List.size_toArray,List.length_take,List.length_drop,Array.length_toList]
  omega
 have hj:sIx items.size items.size hi<=items.size:=Ws _ _ (Nat.le_refl _) hi
 obtain ⟨os,hos,hcs,hds⟩:=id hs
 have hTs:s.TypeIs (.ref sl) "slice":=⟨os,hos,hcs⟩
 unfold getItem
 try with_reducible refine wpAny_holding ?_
 first | refine wpAny_bind (wpAny_pure ?_) | skip
 refine wpAny_bind (wpAny_sequenceKey ht.typeIs (by decide) ?_)
 refine wpAny_bind (wpAny_callSpecial?_slot (name:=Str.ofString "__getitem__") ht.typeIs PyProof.Rows.slot_tuple_getitem
  (wpAny_call_entry PyProof.Rows.slot_tuple_getitem ht.typeIs entry_tuple_getitem ?_ (args_tuple_getitem _ _)))
 show wpAny _ _ (Builtin.Tuple.tupleItemsOf (.ref t) >>= _) _ _ s
 refine wpAny_bind (tupleItemsOf_ ht ?_)
 refine wpAny_bind (wpAny_typeOf hTs ?_)
 rw [if_pos (by decide)]
 refine wpAny_bind (sliceApplied_gen hs pl pu ?_)
 have hno:¬ ((((sIx items.size 0 lo:Nat):Int) == 0 && (1:Int) == 1 && (sIx items.size items.size hi-sIx items.size 0 lo) == items.size)=true):=by
  intro q
  rw [Bool.and_eq_true,Bool.and_eq_true] at q
  have q1:((sIx items.size 0 lo:Nat):Int)=0:=eq_of_beq q.1.1
  have q2:sIx items.size items.size hi-sIx items.size 0 lo=items.size:=eq_of_beq q.2
  exact hw ⟨by omega,by omega⟩
 show wpAny _ _ (if (((sIx items.size 0 lo:Nat):Int) == 0 && (1:Int) == 1 && (sIx items.size items.size hi-sIx items.size 0 lo) == items.size)=true then _ else _) _ _ s
 rw [if_neg hno,V7]
 first
  | exact wpAny_bind (m:=Builtin.Tuple.tupleExact _) (wpAny_newObj_type (wpAny_pure ⟨_,rfl,wpAny_pure h⟩) htake)
  | exact wpAny_bind (m:=Builtin.Tuple.tupleExact _) (wpAny_newObj_type (wpAny_bind (wpAny_pure (wpAny_pure ⟨_,rfl,wpAny_pure h⟩))) htake)
  | exact wpAny_bind (wpAny_bind (m:=Builtin.Tuple.tupleExact _) (wpAny_newObj_type (wpAny_pure (wpAny_pure ⟨_,rfl,wpAny_pure h⟩)) htake))
  | exact wpAny_bind (wpAny_bind (m:=Builtin.Tuple.tupleExact _) (wpAny_newObj_type (wpAny_pure ⟨_,rfl,wpAny_pure h⟩) htake))
end
end HT
namespace L2
open PySem PySem.Spec PyProof.Rows
abbrev TO:=St->Hp->(Option Int->Hp->Prop)->Prop
def PO (X:Cx) (e:Option Expr) (t:TO):Prop :=
 ∀ (pins:List (Addr×Obj)) (s:Shared) (σ:St) (H:Hp) (Q:Option Int->Hp->Prop),Inv X pins σ H s->t σ H Q ->
  wpAny (model X.prog X.w) X.A (evalPart e X.env) (fun u s'=>∃ o H',Inv X pins σ H' s'/\IsPart u o/\Q o H') X.xe s
def UI:TO:=fun _ H Q=>Q none H
def GA (t:TE):TO:=fun σ H Q=>t σ H fun x H1=>∃ i,x = .int i/\Q (some i) H1
section
variable {X:Cx}{e:Expr}{te:TE}{lo hi:Option Expr}{tl th:TO}{pos p2:Pos}
theorem wm:PO X none UI:=by
 intro pins s σ H Q I h
 rw [evalPart_none]
 exact wpAny_pure ⟨none,H,I,.none,h⟩
theorem wg (h:PE X e te):PO X (some e) (GA te):=by
 intro pins s σ H Q I hw
 rw [evalPart_some]
 refine thn (h pins s σ H _ I hw) fun u s1 ⟨x,H1,I1,r1,q1⟩=>?_
 obtain ⟨i,rfl,q⟩:=q1
 obtain ⟨t,rfl⟩:=r1
 exact ⟨some i,H1,I1,.int i t,q⟩
def SlR (X:Cx) (r:V->Option Int->Option Int->Hp->VK->Prop):Prop :=
 ∀ (pins:List (Addr×Obj)) (s:Shared) (σ:St) (H:Hp) (x:V) (v vl vu:Value) (lo hi:Option Int) (sl:Addr) (Q:VK),Inv X pins σ H s->jB x v->s.heap.IsSliceOf sl vl vu .none->IsPart vl lo->IsPart vu hi->r x lo hi H Q ->
  ∃ T id,typeLookup (.type T) "__getitem__" = pure (some (.builtin id))/\s.TypeIs v T/\wpAny (model X.prog X.w) X.A (getItem v (.ref sl)) (EP X pins σ Q) X.xe s
def tSl (r:V->Option Int->Option Int->Hp->VK->Prop) (te:TE) (tl th:TO):TE:=fun σ H Q=>te σ H fun x H1=>tl σ H1 fun l H2=>th σ H2 fun u H3=>r x l u H3 Q
theorem vX {r:V->Option Int->Option Int->Hp->VK->Prop}(hr:SlR X r) (he:PE X e te) (hl:PO X lo tl) (hu:PO X hi th):PE X (.Subscript e (.Slice lo hi none p2) pos) (tSl r te tl th):=by
 intro pins s σ H Q I h
 refine Subscript_ (thn (he pins s σ H _ I h) fun v s1 ⟨x,H1,I1,r1,q1⟩=>?_)
 refine wpAny_Slice (thn (hl pins s1 σ H1 _ I1 q1) fun vl s2 ⟨l,H2,I2,pl,q2⟩=>thn (hu pins s2 σ H2 _ I2 q2) fun vu s3 ⟨u,H3,I3,pu,q3⟩=>?_)
 rw [evalPart_none]
 refine wpAny_pure ?_
 have I4:Inv X pins σ H3 { s3 with heap:=s3.heap.push { cls:=.type "slice",data:=.fields #[vl,vu,.none] } }:=I3.kept (t':=s3.toks) fun b ob q=>Heap.get?_push_of_some _ q
 obtain ⟨T,id,hT,ht,hg⟩:=hr pins { s3 with heap:=s3.heap.push { cls:=.type "slice",data:=.fields #[vl,vu,.none] } } σ H3 x v vl vu l u s3.heap.objs.size Q I4 r1 (Heap.IsSliceOf.new ..) pl pu q3
 show wpAny (model X.prog X.w) X.A (subscriptTail e (.Slice lo hi none p2) v (.ref s3.heap.objs.size)) (EP X pins σ Q) X.xe { s3 with heap:=s3.heap.push { cls:=.type "slice",data:=.fields #[vl,vu,.none] } }
 exact tail_any (ops:=[.ref s3.heap.objs.size,v]) ht hT hg (by with_unfolding_all rfl)
def wf (xs:List V) (lo hi:Option Int):List V:=(xs.drop (HT.sIx xs.length 0 lo)).take (HT.sIx xs.length xs.length hi-HT.sIx xs.length 0 lo)
theorem uY (xs:List V) (lo hi:Option Int):(wf xs lo hi).length<=xs.length:=by
 unfold wf
 rw [List.length_take,List.length_drop]
 omega
end
end L2
namespace L2
open PySem PySem.Spec PyProof.Rows
def ixN (n:Nat) (i:Int):Option Nat:=if 0<=i then (if i<n then some i.toNat else none) else if -(n:Int)<=i then some (i+n).toNat else none
def atI {α:Type}(xs:List α) (i:Int):Option α:=(ixN xs.length i).bind fun j=>xs[j]?
theorem Zw {n:Nat}{i:Int}{j:Nat}(h:ixN n i=some j):seqIndex? i n=some j/\j<n /\ -(n:Int)<=i/\i<n:=by
 unfold ixN at h
 by_cases h0:0<=i
 ·rw [if_pos h0] at h
  by_cases h1:i<n
  ·rw [if_pos h1] at h
   have e:i.toNat=j:=Option.some.inj h
   exact ⟨by rw [seqIndex_of h0 h1,e],by omega,by omega,h1⟩
  ·rw [if_neg h1] at h;cases h
 ·rw [if_neg h0] at h
  by_cases h1 : -(n:Int)<=i
  ·rw [if_pos h1] at h
   have e:(i+n).toNat=j:=Option.some.inj h
   exact ⟨by rw [seqIndex_neg (by omega) h1,e],by omega,h1,by omega⟩
  ·rw [if_neg h1] at h;cases h
theorem Zg {α:Type}{xs:List α}{i:Int}{v:α}(h:atI xs i=some v):∃ j,seqIndex? i xs.length=some j/\xs[j]? = some v/\j<xs.length /\ -(xs.length:Int)<=i/\i<xs.length:=by
 unfold atI at h
 cases e:ixN xs.length i with
 | none=>rw [e] at h;cases h
 | some j =>
  rw [e] at h
  obtain ⟨h1,h2,h3,h4⟩:=Zw e
  exact ⟨j,h1,h,h2,h3,h4⟩
theorem zB {α:Type}{xs:List α}{j:Nat}{v:α}(h:xs[j]? = some v):atI xs (j:Int)=some v:=by
 have hj:j<xs.length:=(List.getElem?_eq_some_iff.mp h).1
 have e:ixN xs.length (j:Int)=some j:=by
  unfold ixN
  rw [if_pos (by omega),if_pos (by omega)];simp
 unfold atI;rw [e];exact h
theorem vS {α:Type}(xs:List α) (v:α):atI (xs++[v]) (-1)=some v:=by
 have hl:(xs++[v]).length=xs.length+1:=by simp
 have e:ixN (xs++[v]).length (-1)=some xs.length:=by
  unfold ixN
  rw [hl,if_neg (by decide),if_pos (by omega)]
  congr 1
  omega
 unfold atI
 rw [e]
 show (xs++[v])[xs.length]? = some v
 simp
def UH (b:Expr):Prop:=∀ o i,subscripted b false o i=operate [o,i] (getItem o i)
def IxR (X:Cx) (r:R2):Prop :=
 ∀ (value slice:Expr) (pins:List (Addr×Obj)) (s:Shared) (σ:St) (H:Hp) (x y:V) (v u:Value) (Q:VK),Inv X pins σ H s->jB x v->jB y u->r x y H Q ->
  subscripted slice false v u=operate [v,u] (getItem v u)->wpAny (model X.prog X.w) X.A (subscriptTail value slice v u) (EP X pins σ Q) X.xe s
def MtR (X:Cx) (id:String) (r:V->List V->Hp->VK->Prop):Prop :=
 ∀ (pins:List (Addr×Obj)) (s:Shared) (σ:St) (H:Hp) (x:V) (xs:List V) (v:Value) (us:List Value) (Q:VK),Inv X pins σ H s->jB x v->jz xs us->r x xs H Q ->
  wpAny (model X.prog X.w) X.A (call (.builtin id) (v::us)) (EP X pins σ Q) X.xe s
section
variable {X:Cx}{a b:Expr}{ta tb:TE}{pos:Pos}
theorem jt {r:R2}(hr:IxR X r) (ha:PE X a ta) (hb:PE X b tb) (hs:UH b):PE X (.Subscript a b pos) (tOp r ta tb):=by
 intro pins s σ H Q I h
 exact Subscript_ (WF ha hb I h fun v u s2 x y H2 I2 rx ry q=>hr a b pins s2 σ H2 x y v u Q I2 rx ry q (hs _ _))
def Gn (K:PySem.W.Frag):R2:=fun x y H Q=>∃ p xs i v,x = .ref p/\y = .int i/\SqL K H p xs/\atI xs i=some v/\Q v H
def G5 (K:PySem.W.Frag):R2:=fun x y H Q=>∃ p xs i v,x = .ref p/\y = .int i/\SqT K H p xs/\atI xs i=some v/\Q v H
theorem VR:IxR X (Gn X.K):=by
 intro value slice pins s σ H x y v u Q I rx ry h hs
 obtain ⟨p,xs,i,z,rfl,rfl,hq,he,q⟩:=h
 cases rx
 obtain ⟨t,rfl⟩:=ry
 obtain ⟨its,r,pl,hz⟩:=I.list hq
 obtain ⟨j,h1,h2,h3,h4,h5⟩:=Zg he
 obtain ⟨w,ew,rw'⟩:=r.get h2
 have hl:=r.length
 have hn:=wA
 have fin:EP X pins σ Q w s:=⟨z,H,I,rw',q⟩
 by_cases h0:0<=i
 ·have hj:i.toNat=j:=by
   rw [seqIndex_of h0 h5] at h1
   exact Option.some.inj h1
  exact item_listR pl.isList h0 (by omega) (by rw [hj];simpa using ew) fin hs
 ·have hj:(i+(its.toArray.size:Int)).toNat=j:=by
   rw [seqIndex_neg (by omega) h4] at h1
   rw [List.size_toArray,<- hl]
   exact Option.some.inj h1
  exact subscriptTail_builtinR (x:=w) pl.isList.typeIs slot_list_getitem.lookup
   (wpAny_getItem_list_neg (Q:=fun r s'=>r=w/\EP X pins σ Q r s') pl.isList (by omega) (by rw [List.size_toArray] <;> omega) (by omega) (by rw [hj];simpa using ew) ⟨rfl,fin⟩) hs
theorem Wf:IxR X (G5 X.K):=by
 intro value slice pins s σ H x y v u Q I rx ry h hs
 obtain ⟨p,xs,i,z,rfl,rfl,hq,he,q⟩:=h
 cases rx
 obtain ⟨t,rfl⟩:=ry
 obtain ⟨its,r,pl,hz⟩:=I.tuple hq
 obtain ⟨j,h1,h2,h3,h4,h5⟩:=Zg he
 obtain ⟨w,ew,rw'⟩:=r.get h2
 have hl:=r.length
 have hn:=wA
 have fin:EP X pins σ Q w s:=⟨z,H,I,rw',q⟩
 exact subscriptTail_builtinR (x:=w) pl.typeIs slot_tuple_getitem.lookup
  (getItem_tuple (j:=j) (Q:=fun r s'=>r=w/\EP X pins σ Q r s') pl (by omega) (by omega) (by rw [List.size_toArray,<- hl];exact h1) (by simpa using ew) ⟨rfl,fin⟩) hs
theorem Xw (its:List Value) (n j:Nat) (u:Value):Obj.mapSeq (·.setIfInBounds j u) { cls:=.type "list",data:=.seq its.toArray n }={ cls:=.type "list",data:=.seq (its.set j u).toArray n }:=by
 simp [Obj.mapSeq]
theorem Inv.lst {pins:List (Addr×Obj)}{σ:St}{H:Hp}{s:Shared}{p:Addr}{xs:List V}(I:Inv X pins σ H s) (h:H p=some (.lst xs)) :
  ∃ (its:List Value) (n:Nat),jz xs its/\s.heap.get? p=some { cls:=.type "list",data:=.seq its.toArray n }/\xs.length<=sizeLine:=by
 obtain ⟨z,its,n,r,e⟩:=I.hok p _ h
 exact ⟨its,n,r,e,z⟩
theorem Inv.lstUpd {pins:List (Addr×Obj)}{σ:St}{H:Hp}{s:Shared}{p:Addr}{xs ys:List V}{its its':List Value}{n n':Nat}{f:Obj->Obj}(I:Inv X pins σ H s) (h:H p=some (.lst xs))
  (ho:s.heap.get? p=some { cls:=.type "list",data:=.seq its.toArray n }) (hf:f { cls:=.type "list",data:=.seq its.toArray n }={ cls:=.type "list",data:=.seq its'.toArray n' }) (r:jz ys its') (hz:ys.length<=sizeLine) (t:Nat) :
  Inv X pins σ (upd H p (.lst ys)) { s with heap:=s.heap.update p f,toks:=t }:=by
 have e:(s.heap.update p f).get? p=some { cls:=.type "list",data:=.seq its'.toArray n' }:=by
  rw [Heap.get?_update_self f ho (by rw [hf] <;> rfl),hf]
 refine I.write (x:=p) (e:=p) (by rw [h];trivial) (.inl rfl) (fun b u hb q=>(Heap.get?_update_other _ _ (Ne.symm hb)).trans q) ⟨_,e⟩ ?_
 exact ⟨hz,its',n',r,e⟩
def GE:V->V->V->Hp->(Hp->Prop)->Prop:=fun o i v H Q=>∃ p xs k j,o = .ref p/\i = .int k/\H p=some (.lst xs)/\ixN xs.length k=some j/\Q (upd H p (.lst (xs.set j v)))
theorem yl:GO X GE:=by
 intro pins s σ H o i v ov iv u Q I ro ri rv h
 obtain ⟨p,xs,k,j,rfl,rfl,hp,hj,q⟩:=h
 cases ro
 obtain ⟨t,rfl⟩:=ri
 obtain ⟨its,n,r,ho,hz⟩:=I.lst hp
 obtain ⟨h1,h2,h3,h4⟩:=Zw hj
 have hl:=r.length
 have hn:=wA
 have I':Inv X pins σ (upd H p (.lst (xs.set j v))) { s with heap:=s.heap.update p (Obj.mapSeq (·.setIfInBounds j u)) } :=
  I.lstUpd hp ho (Xw its n j u) (r.set rv j) (by rw [List.length_set];exact hz) s.toks
 by_cases h0:0<=k
 ·have hk:k.toNat=j:=by
   rw [seqIndex_of h0 h4] at h1
   exact Option.some.inj h1
  exact PySem.W.ki_setAt ho h0 (by omega) (by rw [List.size_toArray,<- hl];exact h4) (by rw [hk];exact ⟨_,I',q⟩)
 ·have hk:(k+(its.toArray.size:Int)).toNat=j:=by
   rw [seqIndex_neg (by omega) h3] at h1
   rw [List.size_toArray,<- hl]
   exact Option.some.inj h1
  exact PySem.W.ki_setBack ho (by omega) (by rw [List.size_toArray,<- hl];exact h3) (by omega) (by rw [hk];exact ⟨_,I',q⟩)
theorem JD (lo hi:Option Int) (n:Nat):(sliceBounds lo hi none n).1=((HT.sIx n 0 lo:Nat):Int)/\(sliceBounds lo hi none n).2.1=((HT.sIx n n hi:Nat):Int)/\(sliceBounds lo hi none n).2.2=1:=by
 refine ⟨?_,?_,rfl⟩
 ·cases lo with
  | none=>simp [sliceBounds,HT.sIx]
  | some i =>
   simp only [sliceBounds,HT.sIx,Option.getD_none,show (1:Int) > 0 by decide,if_true]
   by_cases h:i<0
   ·simp only [h,if_true] <;> omega
   ·simp only [h,if_false] <;> omega
 ·cases hi with
  | none=>simp [sliceBounds,HT.sIx]
  | some i =>
   simp only [sliceBounds,HT.sIx,Option.getD_none,show (1:Int) > 0 by decide,if_true]
   by_cases h:i<0
   ·simp only [h,if_true] <;> omega
   ·simp only [h,if_false] <;> omega
theorem gh (its:List Value) (lo hi:Option Int):slicePick its.toArray lo hi none=((its.drop (HT.sIx its.length 0 lo)).take (HT.sIx its.length its.length hi-HT.sIx its.length 0 lo)).toArray:=by
 obtain ⟨h1,h2,h3⟩:=JD lo hi its.toArray.size
 unfold slicePick
 rw [h1,h2,h3]
 simp only [sliceRange_one,pick_run,List.size_toArray] <;> rfl
def rSlL (K:PySem.W.Frag):V->Option Int->Option Int->Hp->VK->Prop:=fun x lo hi H Q=>∃ a xs,x = .ref a/\SqL K H a xs/\∀ p,H p=none->Q (.ref p) (upd H p (.lst (wf xs lo hi)))
theorem Uo:SlR X (rSlL X.K):=by
 intro pins s σ H x v vl vu lo hi sl Q I rx hs pl pu h
 obtain ⟨a,xs,rfl,hx,q⟩:=h
 cases rx
 obtain ⟨its,r,ht,hz⟩:=I.list hx
 have hlen:=r.length
 refine ⟨"list",_,slot_list_getitem.lookup,ht.isList.typeIs,?_⟩
 refine wpAny_getItem_list_slice ht.isList hs pl pu .none (by simp) ?_ (by rw [List.size_toArray] <;> omega)
 rw [gh,<- hlen]
 refine ⟨.ref s.heap.objs.size,_,I.laid (t':=s.toks) (o:=.lst (wf xs lo hi)) (fun b ob q=>Heap.get?_push_of_some _ q) (Nat.le_refl _) ?_,rfl,q _ (I.hok.fresh (Nat.le_refl _))⟩
 exact ⟨Nat.le_trans (uY xs lo hi) hz,_,0,(r.drop (HT.sIx xs.length 0 lo)).take (HT.sIx xs.length xs.length hi-HT.sIx xs.length 0 lo),Heap.get?_push_size _ rfl⟩
def vV:V->Bool
 | .non=>true
 | .bl _=>true
 | .int _=>true
 | .str _=>true
 | _=>false
def eqV:V->V->Bool
 | .non,.non=>true
 | .bl a,.bl b=>a == b
 | .bl a,.int b=>(if a then 1 else 0) == b
 | .int a,.bl b=>a == (if b then 1 else 0)
 | .int a,.int b=>a == b
 | .str a,.str b=>a == b
 | _,_=>false
theorem Go {A:Around}{s:Shared}{y x:V}{u v:Value}(ry:jB y u) (rx:jB x v) (fy:vV y=true) (fx:vV x=true):SeqAt.EqAt A s u v (eqV y x):=by
 cases y with
 | non =>
  cases ry
  cases x with
  | non=>cases rx;exact SeqAt.EqAt.same _
  | bl b=>cases rx;exact SeqAt.EqAt.none_bool b
  | int b=>obtain ⟨t,rfl⟩:=rx;exact SeqAt.EqAt.none_int b t
  | str b=>obtain ⟨t,rfl⟩:=rx;exact SeqAt.EqAt.none_str b t
  | _=>exact absurd (show false=true from fx) Bool.false_ne_true
 | bl a =>
  cases ry
  cases x with
  | non=>cases rx;exact SeqAt.EqAt.bool_none a
  | bl b=>cases rx;exact SeqAt.EqAt.bool_bool a b
  | int b=>obtain ⟨t,rfl⟩:=rx;exact SeqAt.EqAt.bool_int a b t
  | str b=>obtain ⟨t,rfl⟩:=rx;exact SeqAt.EqAt.bool_str a b t
  | _=>exact absurd (show false=true from fx) Bool.false_ne_true
 | int a =>
  obtain ⟨t',rfl⟩:=ry
  cases x with
  | non=>cases rx;exact SeqAt.EqAt.int_none a t'
  | bl b=>cases rx;exact SeqAt.EqAt.int_bool a t' b
  | int b=>obtain ⟨t,rfl⟩:=rx;exact SeqAt.EqAt.int_int a t' b t
  | str b=>obtain ⟨t,rfl⟩:=rx;exact SeqAt.EqAt.int_str a t' b t
  | _=>exact absurd (show false=true from fx) Bool.false_ne_true
 | str a =>
  obtain ⟨t',rfl⟩:=ry
  cases x with
  | non=>cases rx;exact SeqAt.EqAt.str_none a t'
  | bl b=>cases rx;exact SeqAt.EqAt.str_bool a t' b
  | int b=>obtain ⟨t,rfl⟩:=rx;exact SeqAt.EqAt.str_int a t' b t
  | str b=>obtain ⟨t,rfl⟩:=rx;exact SeqAt.EqAt.str_str a t' b t
  | _=>exact absurd (show false=true from fx) Bool.false_ne_true
 | _=>exact absurd (show false=true from fy) Bool.false_ne_true
def eqU (x:V) (u:Value):Bool:=match u with
 | .none=>eqV .non x
 | .bool b=>eqV (.bl b) x
 | .int i _=>eqV (.int i) x
 | .str z _=>eqV (.str z) x
 | _=>false
theorem YO {x y:V}{u:Value}(r:jB y u) (f:vV y=true):eqU x u=eqV y x:=by
 cases y with
 | non=>cases r;rfl
 | bl b=>cases r;rfl
 | int i=>obtain ⟨t,rfl⟩:=r;rfl
 | str z=>obtain ⟨t,rfl⟩:=r;rfl
 | _=>exact absurd (show false=true from f) Bool.false_ne_true
theorem vI {x:V}:∀ {xs:List V}{us:List Value},jz xs us->xs.all vV=true->us.any (eqU x)=xs.any fun y=>eqV y x
 | _,_,.nil,_=>rfl
 | y::xs,u::us,.cons r t,f=>by
  rw [List.all_cons,Bool.and_eq_true] at f
  rw [List.any_cons,List.any_cons,YO r f.1,vI t f.2]
theorem yo {A:Around}{s:Shared}{x:V}{v:Value}(rx:jB x v) (fx:vV x=true):∀ {xs:List V}{us:List Value},jz xs us->xs.all vV=true->∀ u∈us,SeqAt.EqAt A s u v (eqU x u)
 | _,_,.nil,_=>fun u hu=>by cases hu
 | y::xs,u::us,.cons r t,f=>fun u' hu=>by
  rw [List.all_cons,Bool.and_eq_true] at f
  rcases List.mem_cons.mp hu with rfl | hu
  ·rw [YO r f.1];exact Go r rx f.1 fx
  ·exact yo rx fx t f.2 u' hu
def inV (x:V) (xs:List V):Bool:=xs.any fun y=>eqV y x
def rIn (K:PySem.W.Frag) (neg:Bool):R2:=fun x y H Q=>∃ p xs,y = .ref p/\(SqL K H p xs\/SqT K H p xs)/\vV x=true/\xs.all vV=true/\Q (.bl (if neg then !inV x xs else inV x xs)) H
theorem Yk:OpR X (compareOp .In) (rIn X.K false):=by
 intro pins s σ H x y v u Q I rx ry h
 obtain ⟨p,xs,rfl,hq,fx,fs,q⟩:=h
 cases ry
 rcases hq with hq | hq
 ·obtain ⟨its,r,pl,hz⟩:=I.list hq
  refine SeqAt.in_listAt (eqU x) pl.isList (fun w hw=>yo rx fx r fs w (by simpa using hw)) ⟨.bl _,H,I,rfl,?_⟩
  rw [show its.toArray.any (eqU x)=its.any (eqU x) by simp,vI r fs]
  exact q
 ·obtain ⟨its,r,pl,hz⟩:=I.tuple hq
  refine SeqAt.in_tupleAt (eqU x) pl (fun w hw=>yo rx fx r fs w (by simpa using hw)) ⟨.bl _,H,I,rfl,?_⟩
  rw [show its.toArray.any (eqU x)=its.any (eqU x) by simp,vI r fs]
  exact q
theorem Jx:OpR X (compareOp .NotIn) (rIn X.K true):=by
 intro pins s σ H x y v u Q I rx ry h
 obtain ⟨p,xs,rfl,hq,fx,fs,q⟩:=h
 cases ry
 rcases hq with hq | hq
 ·obtain ⟨its,r,pl,hz⟩:=I.list hq
  refine SeqAt.notIn_listAt (eqU x) pl.isList (fun w hw=>yo rx fx r fs w (by simpa using hw)) ⟨.bl _,H,I,rfl,?_⟩
  rw [show its.toArray.any (eqU x)=its.any (eqU x) by simp,vI r fs]
  exact q
 ·obtain ⟨its,r,pl,hz⟩:=I.tuple hq
  refine SeqAt.notIn_tupleAt (eqU x) pl (fun w hw=>yo rx fx r fs w (by simpa using hw)) ⟨.bl _,H,I,rfl,?_⟩
  rw [show its.toArray.any (eqU x)=its.any (eqU x) by simp,vI r fs]
  exact q
theorem JS:qJ X (.builtin "len") (fun xs H Q=>∃ p ys,xs=[.ref p]/\(SqL X.K H p ys\/SqT X.K H p ys)/\Q (.int ys.length) H):=by
 intro pins s σ H xs us Q I r h
 obtain ⟨p,ys,rfl,hq,q⟩:=h
 obtain ⟨u,rfl,rx⟩:=yb r
 cases rx
 have hn:=wA
 rcases hq with hq | hq
 ·obtain ⟨its,r',pl,hz⟩:=I.list hq
  have hlen:=r'.length
  exact Calls.call_len_list pl.isList (by simp only [List.size_toArray] <;> omega) ⟨.int ys.length,H,I.tok _,⟨s.toks+1,by rw [List.size_toArray,hlen]⟩,q⟩
 ·obtain ⟨its,r',pl,hz⟩:=I.tuple hq
  have hlen:=r'.length
  exact len_tuple pl (by simp only [List.size_toArray] <;> omega) ⟨.int ys.length,H,I.tok _,⟨s.toks+1,by rw [List.size_toArray,hlen]⟩,q⟩
theorem JO:qJ X (.type "list") (fun xs H Q=>∃ p ys,xs=[.ref p]/\(SqL X.K H p ys\/SqT X.K H p ys)/\∀ l,H l=none->Q (.ref l) (upd H l (.lst ys))):=by
 intro pins s σ H xs us Q I r h
 obtain ⟨p,ys,rfl,hq,q⟩:=h
 obtain ⟨u,rfl,rx⟩:=yb r
 cases rx
 have fin:∀ (its:List Value),jz ys its->ys.length<=sizeLine->∀ (h':Heap) (c':Nat),(∀ b o',s.heap.get? b=some o'->h'.get? b=some o') ->
   h'.get? s.heap.objs.size=some { cls:=.type "list",dict:=none,data:=.seq its.toArray c',slots:=#[] }->EP X pins σ Q (.ref s.heap.objs.size) { s with heap:=h' }:=fun its r' hz h' c' kp e =>
  ⟨.ref s.heap.objs.size,_,I.laid (t':=s.toks) kp (Nat.le_refl _) (show qe X.prog X.w _ h' _ (.lst ys) from ⟨hz,its,c',r',e⟩),rfl,q _ (I.hok.fresh (Nat.le_refl _))⟩
 rcases hq with hq | hq
 ·obtain ⟨its,r',pl,hz⟩:=I.list hq
  have hlen:=r'.length
  obtain ⟨o,ho,hc,n,hd⟩:=pl.isList
  exact call_list_seq p (.inl rfl) ho hc hd (fun h' c' kp e=>fin its r' hz h' c' kp e) (by simp only [List.size_toArray] <;> omega)
 ·obtain ⟨its,r',pl,hz⟩:=I.tuple hq
  have hlen:=r'.length
  obtain ⟨o,ho,hc,n,hd⟩:=pl
  exact call_list_seq p (.inr rfl) ho hc hd (fun h' c' kp e=>fin its r' hz h' c' kp e) (by simp only [List.size_toArray] <;> omega)
theorem hZ:qJ X (.type "tuple") (fun xs H Q=>∃ p ys,xs=[.ref p]/\((SqL X.K H p ys/\∀ l,H l=none->Q (.ref l) (upd H l (.tup ys)))\/(SqT X.K H p ys/\Q (.ref p) H))):=by
 intro pins s σ H xs us Q I r h
 obtain ⟨p,ys,rfl,h⟩:=h
 obtain ⟨u,rfl,rx⟩:=yb r
 cases rx
 rcases h with ⟨hq,q⟩ | ⟨hq,q⟩
 ·obtain ⟨its,r',pl,hz⟩:=I.list hq
  have hlen:=r'.length
  refine call_tuple_list pl.isList (fun h' kp=>?_) (by simp only [List.size_toArray] <;> omega)
  have I1:Inv X pins σ H { s with heap:=h' }:=I.kept (t':=s.toks) kp
  have I2:Inv X pins σ (upd H h'.objs.size (.tup ys)) { s with heap:=h'.push { cls:=.type "tuple",data:=.seq its.toArray } } :=
   I1.laid (t':=s.toks) (fun b o e=>Heap.get?_push_of_some _ e) (Nat.le_refl _) (show qe X.prog X.w _ _ _ (.tup ys) from ⟨hz,its,r',IsTup.new _ _⟩)
  exact ⟨.ref h'.objs.size,_,I2,rfl,q _ (I1.hok.fresh (Nat.le_refl _))⟩
 ·obtain ⟨its,r',pl,hz⟩:=I.tuple hq
  exact call_tuple_same pl ⟨.ref p,H,I,rfl,q⟩
def tyV (K:PySem.W.Frag) (T:String) (x:V) (H:Hp):Prop:=match x with
 | .str _=>T = "str"
 | .int _=>T = "int"
 | .ref p=>(T = "list" /\ ∃ xs,SqL K H p xs)\/(T = "tuple" /\ ∃ o,K.lookup p=some o/\o.cls = .type "tuple" /\ o.dict=none) \/
   (T = "dict" /\ ((∃ kvs,H p=some (.dK kvs))\/∃ kvs,H p=some (.dT kvs)))\/(T = "set" /\ ∃ S n,H p=some (.set S n))
 | _=>False
theorem V3 {pins:List (Addr×Obj)}{σ:St}{H:Hp}{s:Shared}{T:String}{x:V}{v:Value}(I:Inv X pins σ H s) (r:jB x v) (ty:tyV X.K T x H) :
  s.TypeIs v T/\∀ a,v = .ref a->∃ ob,s.heap.get? a=some ob/\ob.dict=none:=by
 cases x with
 | str z =>
  obtain ⟨t,rfl⟩:=r
  cases (show T = "str" from ty)
  exact ⟨typeIs_str s z t,fun _ e=>nomatch e⟩
 | int i =>
  obtain ⟨t,rfl⟩:=r
  cases (show T = "int" from ty)
  exact ⟨typeIs_int s i t,fun _ e=>nomatch e⟩
 | ref p =>
  cases r
  rcases ty with ⟨rfl,xs,hq⟩ | ⟨rfl,o,hk,hc,hd⟩ | ⟨rfl,hk⟩ | ⟨rfl,S,n,hk⟩
  ·obtain ⟨its,_,pl,_⟩:=I.list hq
   refine ⟨pl.isList.typeIs,fun a e=>?_⟩
   cases e
   obtain ⟨o,n,e,c,hd,_⟩:=pl
   exact ⟨o,e,hd⟩
  ·refine ⟨⟨o,I.kIn p o hk,hc⟩,fun a e=>?_⟩
   cases e
   exact ⟨o,I.kIn _ o hk,hd⟩
  ·have z:∃ o,s.heap.get? p=some o/\o.ExactDict:=by
    rcases hk with ⟨kvs,hk⟩ | ⟨kvs,hk⟩
    ·obtain ⟨_,_,_,_,o,_,_,e,ex,_⟩:=I.hok p _ hk
     exact ⟨o,e,ex⟩
    ·obtain ⟨_,_,_,_,o,_,_,e,ex,_⟩:=I.hok p _ hk
     exact ⟨o,e,ex⟩
   obtain ⟨o,e,ex⟩:=z
   refine ⟨⟨o,e,ex.1⟩,fun a e2=>?_⟩
   cases e2
   exact ⟨o,e,ex.2.1⟩
  ·obtain ⟨o,_,_,_,e,ex,_⟩:=I.hok p _ hk
   refine ⟨⟨o,e,ex.1⟩,fun a e2=>?_⟩
   cases e2
   exact ⟨o,e,ex.2.1⟩
 | _=>exact False.elim ty
def GI (K:PySem.W.Frag) (T:String) (r:V->List V->Hp->VK->Prop) (to:TE):TE:=fun σ H Q=>to σ H fun x H1=>tyV K T x H1/\r x [] H1 Q
def tBM (K:PySem.W.Frag) (T:String) (r:V->List V->Hp->VK->Prop) (to:TE) (t:TA):TE:=fun σ H Q=>to σ H fun x H1=>tyV K T x H1/\t σ H1 fun xs H2=>r x xs H2 Q
variable {o e:Expr}{es:List Expr}{to:TE}{t:TA}{name:Str}{apos cpos:Pos}{T id:String}{r:V->List V->Hp->VK->Prop}
theorem YE (pa:PlainAttrs T) (slot:Slot T name id) (hty:typeOf (.builtin id)=pure (.type "method_descriptor")) (hm:MtR X id r) (ho:PE X o to)
  (hbase:attributeBase o name X.env (eval o X.env)=eval o X.env:=by rfl) (hline:(apos.endLine == cpos.line)=true:=by rfl):PE X (.Call (.Attribute o name apos) [] [] cpos) (GI X.K T r to):=by
 intro pins s σ H Q I h
 refine wpAny_Call_method0_late hbase hline (thn (ho pins s σ H _ I h) fun v s1 ⟨x,H1,I1,r1,ty,q1⟩=>?_)
 obtain ⟨h1,h2⟩:=V3 I1 r1 ty
 exact ⟨T,id,pa,slot,hty,h1,h2,Calls.callWith_builtin rfl (PySem.evalArgs_none (hm pins s1 σ H1 x [] v [] Q I1 r1 .nil q1))⟩
theorem GB (pa:PlainAttrs T) (slot:Slot T name id) (hty:typeOf (.builtin id)=pure (.type "method_descriptor")) (hm:MtR X id r) (ho:PE X o to) (ha:PA X (e::es) t)
  (hbase:attributeBase o name X.env (eval o X.env)=eval o X.env:=by rfl)
  (hfew:((backTo cpos (starEach (e::es) X.env)).all (fun x=>!x.1) && (backToKw cpos (keywordEach [] X.env)).all (fun x=>x.1.isSome)
   && decide ((e::es).length+([]:List Keyword).length+(if ([]:List Keyword).isEmpty then 0 else 1)<30))=true:=by rfl)
  (hline:(apos.endLine == cpos.line)=true:=by rfl) (hs:starEach (e::es) X.env=(false,eval e X.env)::starEach es X.env:=by rfl) (hplain:(backTo cpos (starEach es X.env)).any (·.1)=false:=by rfl) :
  PE X (.Call (.Attribute o name apos) (e::es) [] cpos) (tBM X.K T r to t):=by
 intro pins s σ H Q I h
 refine wpAny_Call_method_late hbase hfew hline rfl (thn (ho pins s σ H _ I h) fun v s1 ⟨x,H1,I1,r1,ty,q1⟩=>?_)
 obtain ⟨h1,h2⟩:=V3 I1 r1 ty
 refine ⟨T,id,pa,slot,hty,h1,h2,?_⟩
 have hA:=ha cpos pins s1 σ H1 _ I1 q1
 rw [hs] at hA ⊢
 refine Calls.callWith_builtin (by show (false || (backTo cpos (starEach es X.env)).any (·.1))=false;rw [hplain] <;> rfl) (Calls.evalArgs_plain ?_)
 exact thn hA fun us s2 ⟨vs,H2,I2,r2,q2⟩=>hm pins s2 σ H2 x vs v us Q I2 r1 r2 q2
end
end L2
namespace L2
open PySem PySem.Spec PyProof.Rows
def MtM (X:Cx) (id:String) (r:V->List V->Hp->VK->Prop):Prop :=
 ∀ (pins:List (Addr×Obj)) (s:Shared) (σ:St) (H:Hp) (x:V) (xs:List V) (v:Value) (us:List Value) (Q:VK),Inv X pins σ H s->jB x v->jz xs us->r x xs H Q ->
  wpAny (model X.prog X.w) X.A (call (.builtin id) (v::us)) (EP X pins σ Q) X.xe s
theorem jz.one:∀ {x:V}{us:List Value},jz [x] us->∃ u,us=[u]/\jB x u
 | _,_,.cons r .nil=>⟨_,rfl,r⟩
theorem jz.zero:∀ {us:List Value},jz [] us->us=[]
 | _,.nil=>rfl
theorem jz.dropLast {xs:List V}{us:List Value}(h:jz xs us):jz xs.dropLast us.dropLast:=by
 induction h with
 | nil=>exact .nil
 | cons r t ih =>
  cases t with
  | nil=>exact .nil
  | cons q t'=>exact .cons r ih
theorem jz.reverse {xs:List V}{us:List Value}(h:jz xs us):jz xs.reverse us.reverse:=by
 induction h with
 | nil=>exact .nil
 | cons r t ih=>rw [List.reverse_cons,List.reverse_cons];exact jz.append ih (.cons r .nil)
theorem XJ {α:Type}(l:List α):l.eraseIdx (l.length-1)=l.dropLast:=by
 induction l with
 | nil=>rfl
 | cons a r ih =>
  cases r with
  | nil=>rfl
  | cons b r =>
   have e:(a::b::r).length-1=((b::r).length-1)+1:=by
    have h1:(a::b::r).length=r.length+2:=rfl
    have h2:(b::r).length=r.length+1:=rfl
    omega
   rw [e,List.eraseIdx_cons_succ,ih]
   all_goals rfl
section
variable {X:Cx}{pins:List (Addr×Obj)}{σ:St}{H:Hp}{s:Shared}{l b:Addr}{xs ys zs:List V}
theorem Inv.lset {its its':List Value}{n:Nat}{f:Array Value->Array Value}{t':Nat}(I:Inv X pins σ H s) (hH:H l=some (.lst xs))
  (e:s.heap.get? l=some { cls:=.type "list",data:=.seq its.toArray n }) (hf:f its.toArray=its'.toArray) (hv:jz ys its') (hz:ys.length<=sizeLine) :
  Inv X pins σ (upd H l (.lst ys)) { s with heap:=s.heap.update l (Obj.mapSeq f),toks:=t' }:=by
 have q:=PySem.IsL.update e f
 rw [hf] at q
 refine I.write (x:=l) (e:=l) (by rw [hH];exact trivial) (.inl rfl) (fun b' u hb hu=>(Heap.get?_update_other s.heap (Obj.mapSeq f) (Ne.symm hb)).trans hu) ⟨_,q⟩ ?_
 exact ⟨hz,its',_,hv,q⟩
theorem Inv.lnew {its:List Value}{t':Nat}(I:Inv X pins σ H s) (hv:jz ys its) (hz:ys.length<=sizeLine) :
  Inv X pins σ (upd H s.heap.objs.size (.lst ys)) { s with heap:=s.heap.push { cls:=.type "list",data:=.seq its.toArray },toks:=t' } :=
 I.laid (fun _ _ q=>Heap.get?_push_of_some _ q) (Nat.le_refl _) ⟨hz,its,0,hv,Heap.get?_push_size _ rfl⟩
theorem Inv.fresh (I:Inv X pins σ H s):H s.heap.objs.size=none:=I.hok.fresh (Nat.le_refl _)
theorem Inv.lstM (I:Inv X pins σ H s) (hH:H l=some (.lst xs)):xs.length<=sizeLine/\∃ (its:List Value) (n:Nat),jz xs its/\xs.length=its.length/\s.heap.get? l=some { cls:=.type "list",data:=.seq its.toArray n }:=by
 obtain ⟨z,its,n,r,e⟩:=I.hok l _ hH
 exact ⟨z,its,n,r,r.length,e⟩
theorem VI {n:Nat}(h:n<=sizeLine):Builtin.List.listTooLong n=false:=by
 unfold Builtin.List.listTooLong
 exact decide_eq_false (by omega)
end
section
variable {X:Cx}
def U2:V->List V->Hp->VK->Prop:=fun x vs H Q=>∃ l xs y,x = .ref l/\vs=[y]/\H l=some (.lst xs)/\xs.length<sizeLine/\Q .non (upd H l (.lst (xs++[y])))
theorem qo:MtM X "list.append" U2:=by
 intro pins s σ H x vs v us Q I rx rv h
 obtain ⟨l,xs,y,rfl,rfl,hH,hz,q⟩:=h
 cases rx
 obtain ⟨u,rfl,ru⟩:=rv.one
 obtain ⟨z,its,n,r,hl,e⟩:=I.lstM hH
 refine call_meets F.slot_list_append ⟨_,e,rfl⟩ F.entry_list_append (F.args_list_append_2 _ _) (PySem.list_append l its.toArray n u (by rw [List.size_toArray];omega)) ⟨e,?_⟩
 refine ⟨.non,_,I.lset (its':=its++[u]) hH e (by simp) (r.append (.cons ru .nil)) ?_,rfl,q⟩
 rw [List.length_append,List.length_singleton]
 omega
def Ul:V->List V->Hp->VK->Prop:=fun x vs H Q=>∃ l b xs zs,x = .ref l/\vs=[.ref b]/\H l=some (.lst xs)/\H b=some (.lst zs)/\xs.length+zs.length<=sizeLine/\Q .non (upd H l (.lst (xs++zs)))
theorem Gp:MtM X "list.extend" Ul:=by
 intro pins s σ H x vs v us Q I rx rv h
 obtain ⟨l,b,xs,zs,rfl,rfl,hH,hB,hz,q⟩:=h
 cases rx
 obtain ⟨u,rfl,ru⟩:=rv.one
 cases ru
 obtain ⟨z,its,n,r,hl,e⟩:=I.lstM hH
 obtain ⟨z2,its2,n2,r2,hl2,e2⟩:=I.lstM hB
 have hsz:its.toArray.size+its2.toArray.size<=sizeLine:=by rw [List.size_toArray,List.size_toArray];omega
 have hlong:¬ (!its.toArray.isEmpty && Builtin.List.listTooLong (its.toArray.size+its2.toArray.size))=true:=by
  rw [VI hsz,Bool.and_false]
  exact Bool.false_ne_true
 refine call_meets F.slot_list_extend ⟨_,e,rfl⟩ F.entry_list_extend (F.args_list_extend_2 _ _)
  (AutoSeq1.list_extend_list_list_0 l its.toArray n b its2.toArray n2 hlong (by rw [List.size_toArray];omega) (by omega)) ⟨e,e2,?_⟩
 refine ⟨.non,_,I.lset (its':=its++its2) hH e (by simp) (r.append r2) ?_,rfl,q⟩
 rw [List.length_append]
 omega
def rPop:V->List V->Hp->VK->Prop:=fun x vs H Q=>∃ l xs y,x = .ref l/\vs=[]/\H l=some (.lst xs)/\xs[xs.length-1]? = some y/\Q y (upd H l (.lst xs.dropLast))
theorem Wj:MtM X "list.pop" rPop:=by
 intro pins s σ H x vs v us Q I rx rv h
 obtain ⟨l,xs,y,rfl,rfl,hH,hy,q⟩:=h
 cases rx
 have hus:=rv.zero
 subst hus
 obtain ⟨z,its,n,r,hl,e⟩:=I.lstM hH
 obtain ⟨u,hu,ru⟩:=r.get hy
 have hy':its.toArray[its.toArray.size-1]? = some u:=by
  show its.toArray[its.length-1]? = some u
  rw [<- Array.getElem?_toList,<- hl]
  exact hu
 refine call_meets F.slot_list_pop ⟨_,e,rfl⟩ F.entry_list_pop (F.args_list_pop_1 _) (MeetsSeq.list_pop_last l its.toArray n u hy' (by rw [List.size_toArray];omega)) ⟨e,?_⟩
 refine ⟨y,_,I.lset (its':=its.dropLast) hH e ?_ r.dropLast ?_,ru,q⟩
 ·show its.toArray.eraseIdxIfInBounds (its.toArray.size-1)=its.dropLast.toArray
  rw [List.size_toArray,List.eraseIdxIfInBounds_toArray,XJ]
 ·rw [List.length_dropLast]
  omega
def rCat:R2:=fun x y H Q=>∃ l b xs zs,x = .ref l/\y = .ref b/\H l=some (.lst xs)/\H b=some (.lst zs)/\xs.length+zs.length<=sizeLine/\∀ p,H p=none->Q (.ref p) (upd H p (.lst (xs++zs)))
theorem G4:OpR X (binaryOp .Add) rCat:=by
 intro pins s σ H x y v u Q I rx ry h
 obtain ⟨l,b,xs,zs,rfl,rfl,hH,hB,hz,q⟩:=h
 cases rx
 cases ry
 obtain ⟨z,its,n,r,hl,e⟩:=I.lstM hH
 obtain ⟨z2,its2,n2,r2,hl2,e2⟩:=I.lstM hB
 refine PySem.P.add_list e e2 ?_ (by rw [List.size_toArray,List.size_toArray];omega)
 have ea:its.toArray++its2.toArray=(its++its2).toArray:=by simp
 rw [ea]
 exact ⟨.ref _,_,I.lnew (t':=s.toks) (r.append r2) (by rw [List.length_append];omega),rfl,q _ I.fresh⟩
end
section
variable {prog:Program}{w:World}{A:Around}{E:Value->Shared->Prop}{s:Shared}
set_option maxRecDepth 100000 in
end
section
variable {X:Cx}
end
end L2
namespace Att
open PySem PySem.W PySem.Calls PyProof.Rows
theorem wc {P:Params}{h:Heap}:∀ (ns:List Int) (vs:List Value),WellAll P h vs (ns.map WData.int)->IntsAre vs ns:=by
 intro ns
 induction ns with
 | nil =>
  intro vs w
  rw [List.map_nil] at w
  cases w
  exact .nil
 | cons n ns ih =>
  intro vs w
  rw [List.map_cons] at w
  cases w with
  | cons a b =>
   cases a
   exact .cons _ _ (ih _ b)
theorem Yh {l:OpenLaw}{n:Nat}(hn:l.most=some n) {P:Params}{h:Heap}{args:List WData}{vals:List Value}
  (hpre:l.row.toRowW.claim.pre args=true) (hwl:WellAll P h vals args) :
  ∃ a vs ns,vals=[Value.ref a]/\args=[WData.list (ns.map WData.int)]/\h.get? a=some { cls:=.type "list",data:=.seq vs.toArray }/\IntsAre vs ns/\ns.length<=n:=by
 have hsh:WShape.hasAll [] args [.list .int]=true:=(pre_splitW hpre).1
 have hc:l.pre.holds [] { args:=args }=true:=(pre_splitW hpre).2
 obtain ⟨d,r,rfl,h1,h2⟩:=hasAllW_cons hsh
 obtain rfl:=hasAllW_nil h2
 obtain ⟨xs,rfl,h3⟩:=hasW_list h1
 obtain ⟨ns,rfl⟩:=items_int h3
 have hlen:ns.length<=n:=by
  unfold OpenLaw.pre at hc
  have h4:(WTm.not (.lt (.lit (.int (n:Int))) (.len (.arg 0)))).holds [] { args:=[.list (ns.map .int)] }=true:=by
   have h4:=(holds_andW hc).1
   rw [hn] at h4
   exact h4
  have h5:=condW_of h4 (w_not (w_lt w_lit (w_len_list (w_arg rfl))))
  rw [List.length_map] at h5
  refine Nat.le_of_not_lt fun q=>?_
  have q':(n:Int)<((ns.length:Nat):Int):=by omega
  first
   | (rw [decide_eq_true q'] at h5;exact absurd h5 (by decide))
   | (simp at h5;omega)
 cases hwl with
 | cons w1 w2 =>
  cases w2
  cases w1 with
  | list ho hall=>exact ⟨_,_,ns,rfl,rfl,ho,wc ns _ hall,hlen⟩
theorem ZM (l:OpenLaw) (args:List WData):l.row.toRowW.claim.post args (.bool true) args=true :=
 postW_of (r:=l.row.toRowW) (X:=(true == true))
  (show WShape.has [] (.bool true) .bool=true by first | rfl | decide | simp [WShape.has,WShape.arms,WShape.armsAll])
  (show (WTm.eq .res (.lit (.bool true))).value [] { args:=args,res:=some (.bool true),after:=args }=some (.bool (true == true)) from w_eq_bool (w_res rfl) w_lit) rfl
theorem attach_call {l:OpenLaw}{n:Nat}{q:Program}{loose:List Str}{XP:(Str->Option Value)->Heap->Prop}{YP:World->Heap->Prop}{d:DefRec}
  (hn:l.most=some n) (hdf:d.params.defaults=[])
  (call:∀ (w:World) (s₀ s₁:Shared) (mg mb:Str->Option Value) (fa:Addr) (o:Obj) (pm cd doc:Value) (a:Addr) (vs:List Value) (ns:List Int),
   Ground q loose [] XP w s₀ mg mb s₁.heap->YP w s₁.heap ->
   s₁.heap.get? fa=some o->o.data = .func (docDef d.name d.params d.body d.scope pm cd doc)->s₁.heap.CodeRec cd d.name->mg d.name=some (.ref fa) ->
   s₁.heap.get? a=some { cls:=.type "list",data:=.seq vs.toArray }->IntsAre vs ns->ns.length<=n->s₁.gens = #[] ->
   codeAny (model l.prog w) callerA (.call (.ref fa) ⟨[.ref a],[]⟩) (fun r s'=>r = .ok (.ret (.bool true))/\OldK s₁.heap s'.heap/\s'.os=s₁.os/\AllBare s'.gens) s₁) :
  WalkO q loose XP YP l.row.toRowW d [] (fun f vs=>PySem.call f vs):=by
 intro w s₀ s₁ mg mb G Y fa o pm cd doc dV kV ho hd hcd hD hmg hg args vals as hpre hlay hrd hwl hlo
 obtain rfl:dV = .none:=Dflts.none hD hdf
 obtain rfl:kV = .none:=Dflts.noKw hD
 obtain ⟨a,vs,ns,rfl,rfl,hobj,hints,hlen⟩:=Yh hn hpre hwl
 refine enter_call (codeAny_mono (call w s₀ s₁ mg mb fa o pm cd doc a vs ns G Y ho (fd_plain hd) hcd hmg hobj hints hlen hg) fun r s' hq=>?_)
 obtain ⟨rfl,h2,h3,h4⟩:=hq
 exact ⟨.inl ⟨.bool true,.bool true,[],rfl,fun _=>rfl,.bool true,ZM l _,fun _=>⟨List.Pairwise.nil,fun _ hm=>(nomatch hm)⟩⟩,h2,h3,h4⟩
section
variable {prog:Program}{w:World}{A:Around}{E:Value->Shared->Prop}{s:Shared}{K:Frag}
def ledger (h:Heap) (L d:Addr):List (Addr×Obj):=(List.range h.objs.size).filterMap fun a=>if a=L\/a=d then none else (h.get? a).map fun o=>(a,o)
end
end Att
namespace L2
open PySem PySem.Spec PyProof.Rows
theorem uu:∀ {vs:List Value}{ns:List Int},IntsAre vs ns->jz (ns.map V.int) vs
 | _,_,.nil=>.nil
 | _,_,.cons n t h=>.cons ⟨t,rfl⟩ (uu h)
end L2
namespace L2
open PySem PySem.Spec PyProof.Rows
end L2
namespace L2
open PySem PySem.Spec PyProof.Rows
def zc (s:Stmt) (j:Nat):Stmt:=match s with
 | .ClassDef _ _ _ body _ _ _ _ _ _ _=>body.getD j (.Pass ⟨0,0,0,0⟩)
 | _=>.Pass ⟨0,0,0,0⟩
def jW (s:Stmt):Arguments:=match s with
 | .FunctionDef _ a _ _ _ _ _ _ _ _=>a
 | _=>{ posonlyargs:=[],args:=[],vararg:=none,kwonlyargs:=[],kw_defaults:=[],kwarg:=none,defaults:=[] }
def jM (s:Stmt):List Stmt:=match s with
 | .FunctionDef _ _ b _ _ _ _ _ _ _=>b
 | _=>[]
def j8 (s:Stmt):Scope:=match s with
 | .FunctionDef _ _ _ _ _ _ sc _ _ _=>sc
 | _=>{ kind:=.function,names:=[],isGenerator:=false,isCoroutine:=false }
abbrev CX0:CXT:=fun _ _ _ _ _ _=>False
abbrev E0:XK:=fun _ _ _=>False
theorem UV {X:Cx}:Jw CX0 X E0:=fun _ _ _ _ _ _ _ h=>h.elim
structure Fun (K:PySem.W.Frag) (x qual:Str) (st:Stmt) (f:Addr) (fd:FuncData):Prop where
 ex:∃ (oc:Value) (od:Option Addr) (kV doc pm:Value) (an:Option Addr) (cdv ct:Value) (osl:Array (Option Value)),
  fd=PySem.W.fnOf x qual (jW st) (jM st) (j8 st) .none kV doc pm an cdv ct/\K.lookup f=some ⟨oc,od,.func fd,osl⟩/\PySem.W.codeIn K cdv qual=true
 kp:PySem.W.keepIn K (.ref f)=true
section
variable {P:Program}{w:World}{K:PySem.W.Frag}{mg:Str->Option Value}{base:Heap}
theorem Fun.ok {x qual:Str}{st:Stmt}{f:Addr}{fd:FuncData}{N ps:List Str}{k:Nat}{sp:Sp}(F:Fun K x qual st f fd) (S:FnScope N ps (j8 st)) (len:∀ vs H Q E,sp vs H Q E->vs.length=ps.length)
  (hbody:∀ (cdv:Value) (A:Around) (outer:List Env) (s:Shared) (H:Hp) (vs:List V) (Q:VK) (E:XK),Room k (A.deeper (envOfC qual (j8 st) s.heap.objs.size f cdv))->sp vs H Q E ->
   ∃ t,PSs (vt CX0 P w K mg base N qual (j8 st) f cdv A outer s H E).nox (jM st) t/\t { nx:=fun _ H'=>Q .non H',rt:=Q } (start N vs) H):FnOk P w K mg base CX0 (k+1) f fd ps sp:=by
 obtain ⟨oc,od,kV,doc,pm,an,cdv,ct,osl,rfl,lk,hcd⟩:=F.ex
 refine Vr lk hcd S len fun A outer s H vs Q E hr hsp=>?_
 obtain ⟨t,h,q⟩:=hbody cdv A outer s H vs Q E hr hsp
 exact ⟨t,h.nox,q⟩
theorem Fun.binds {x qual:Str}{st:Stmt}{f:Addr}{fd:FuncData}{ps:List Str}(F:Fun K x qual st f fd)
  (h:∀ (kV doc pm:Value) (an:Option Addr) (cdv ct:Value) (us:List Value),us.length=ps.length->bindArgs (PySem.W.fnOf x qual (jW st) (jM st) (j8 st) .none kV doc pm an cdv ct) ⟨us,[]⟩=pure (ps.zip us)):yf K fd ps []:=by
 obtain ⟨oc,od,kV,doc,pm,an,cdv,ct,osl,rfl,lk,hcd⟩:=F.ex
 exact .all (h kV doc pm an cdv ct)
theorem vp {x qual:Str}{st:Stmt}{f:Addr}{oc:Value}{od an:Option Addr}{osl:Array (Option Value)}{kV doc pm cdv ct:Value}(l:K.lookup f=some ⟨oc,od,.func (PySem.W.fnOf x qual (jW st) (jM st) (j8 st) .none kV doc pm an cdv ct),osl⟩)
  (c:PySem.W.codeIn K cdv qual=true) (k:PySem.W.keepIn K (.ref f)=true):Fun K x qual st f (PySem.W.fnOf x qual (jW st) (jM st) (j8 st) .none kV doc pm an cdv ct):=⟨⟨oc,od,kV,doc,pm,an,cdv,ct,osl,rfl,l,c⟩,k⟩
end
theorem qc {A:Around}{k:Nat}(hr:Room k A):A.units+1<cLine:=Nat.lt_of_le_of_lt (Nat.add_le_add_left (by decide:1<=64) _) hr.units
theorem jd {n:Nat}(h:n<=1000):n<sizeLine:=Nat.lt_of_le_of_lt h (by decide)
section
variable {X:Cx}
theorem pv (i:Nat) {x:Str}{pos:Pos}(hN:X.N[i]? = some x:=by rfl) (hv:Vis X.env.scope x:=by first | exact Or.inl rfl | exact Or.inr (Or.inl rfl) | exact Or.inr (Or.inr rfl)) (hd:(x == ("__debug__" : Str))=false:=by decide)
  (hcd:(x == ("__classdict__" : Str))=false:=by decide):PE X (.Name x pos) (Wr i):=WB hN hv hd hcd
end
theorem vM {A B:Prop}(h:B):if false=true then A else B:=by
 rw [if_neg Bool.false_ne_true]
 exact h
theorem yn {A B:Prop}(h:A):if true=true then A else B:=by
 rw [if_pos rfl]
 exact h
def jj (H H':Hp):Prop:=∀ b o,H b=some o->H' b=some o
theorem jj.refl (H:Hp):jj H H:=fun _ _ h=>h
theorem jj.trans {H H1 H2:Hp}(a:jj H H1) (b:jj H1 H2):jj H H2:=fun c o h=>b c o (a c o h)
theorem jj.free {H H':Hp}(e:jj H H') {l:Addr}(h:H' l=Option.none):H l=Option.none:=by
 cases q:H l with
 | none=>rfl
 | some o =>
  rw [e l o q] at h
  cases h
end L2
section
namespace L2
open PySem PySem.Spec PyProof.Rows
theorem QU (env:Env) (f:Str×NameKind->List (Str×Addr)->Sem (ForInStep (List (Str×Addr))))
  (hf:∀ n k r,f (n,k) r=if (k == NameKind.free)=true then (cellOf env n >>= fun a=>pure (ForInStep.yield ((n,a)::r))) else pure (ForInStep.yield r)) :
  ∀ (names:List (Str×NameKind)) (acc:List (Str×Addr)),(∀ x∈names,x.2 = .free->∃ c,env.cells.lookup x.1=some c) ->
  ∃ cl,forIn names acc f=pure cl/\∀ x,cl.lookup x=if (x,NameKind.free)∈names then env.cells.lookup x else acc.lookup x:=by
 intro names
 induction names with
 | nil=>intro acc _;exact ⟨acc,rfl,fun x=>by rw [if_neg (by simp)]⟩
 | cons y r ih =>
  intro acc h
  obtain ⟨n,k⟩:=y
  have hr:∀ x∈r,x.2 = .free->∃ c,env.cells.lookup x.1=some c:=fun x hx=>h x (List.mem_cons_of_mem _ hx)
  by_cases hk:k = .free
  ·subst hk
   obtain ⟨c,hc⟩:=h (n,.free) List.mem_cons_self rfl
   obtain ⟨cl,e,p⟩:=ih ((n,c)::acc) hr
   refine ⟨cl,?_,fun x=>?_⟩
   ·rw [List.forIn_cons,hf,if_pos (by rfl)]
    have e1:cellOf env n=pure c:=by unfold cellOf;rw [hc]
    rw [e1]
    exact e
   ·rw [p x]
    by_cases hx:x=n
    ·subst hx
     rw [if_pos (List.mem_cons_self),List.lookup_cons,beq_self_eq_true]
     by_cases hm:(x,NameKind.free)∈r
     ·rw [if_pos hm]
     ·rw [if_neg hm];exact hc.symm
    ·have hb:(x == n)=false:=beq_eq_false_iff_ne.mpr hx
     rw [List.lookup_cons,hb]
     by_cases hm:(x,NameKind.free)∈r
     ·rw [if_pos hm,if_pos (List.mem_cons_of_mem _ hm)]
     ·rw [if_neg hm,if_neg (by
       intro z
       rcases List.mem_cons.mp z with z | z
       ·exact hx (congrArg Prod.fst z)
       ·exact hm z)]
  ·obtain ⟨cl,e,p⟩:=ih acc hr
   have hb:(k == NameKind.free)=false:=by simpa using hk
   refine ⟨cl,?_,fun x=>?_⟩
   ·rw [List.forIn_cons,hf,hb,if_neg Bool.false_ne_true]
    exact e
   ·rw [p x]
    by_cases hm:(x,NameKind.free)∈r
    ·rw [if_pos hm,if_pos (List.mem_cons_of_mem _ hm)]
    ·rw [if_neg hm,if_neg (by
      intro z
      rcases List.mem_cons.mp z with z | z
      ·exact hk (congrArg Prod.snd z).symm
      ·exact hm z)]
theorem vk {scope:Scope}{env:Env}(h:∀ x∈scope.names,x.2 = .free->∃ c,env.cells.lookup x.1=some c) :
  ∃ cl,closureFor scope env=pure cl/\∀ x,cl.lookup x=if (x,NameKind.free)∈scope.names then env.cells.lookup x else none:=by
 have hh:=QU env (fun (x:Str×NameKind) r=>match x with | (n,k)=>if (k == NameKind.free)=true then (cellOf env n >>= fun a=>pure (ForInStep.yield ((n,a)::r))) else pure (ForInStep.yield r)) (fun _ _ _=>rfl) scope.names [] h
 obtain ⟨cl,e,p⟩:=hh
 refine ⟨cl,?_,fun x=>by rw [p x];rfl⟩
 unfold closureFor
 have e':forIn scope.names ([]:List (Str×Addr)) (fun (x:Str×NameKind) r=>match x with | (n,k)=>if (k == NameKind.free)=true then (cellOf env n >>= fun a=>pure (ForInStep.yield ((n,a)::r))) else pure (ForInStep.yield r))=(pure cl:Sem _):=e
 show (forIn scope.names ([]:List (Str×Addr)) _ >>= fun cs=>pure cs)=_
 first
  | (rw [e'];rfl)
  | (simp only [bind_pure];exact e')
structure CompSc (osc:Scope) (ON:List Str) (scope:Scope) (own:Nat) (N:List Str) (caps:List Nat):Prop where
 kind:scope.kind = .function
 nocell:∀ y∈scope.names,y.2≠.cell
 loc:∀ y∈scope.names,y.2 = .local->scope.names.lookup y.1=some .local
 fre:∀ y∈scope.names,y.2 = .free->scope.names.lookup y.1=some .free/\(osc.names.lookup y.1=some .cell\/osc.names.lookup y.1=some .free)
 len:N.length=own+caps.length
 cap:∀ p∈(N.drop own).zip caps,ON[p.2]? = some p.1/\(p.1,NameKind.free)∈scope.names
def yU (own:Nat) (caps:List Nat) (σ:St):St:=List.replicate own none++caps.map fun j=>(σ[j]?).getD none
def Cx.block (X:Cx) (scope:Scope) (cl:List (Str×Addr)) (C:Addr) (N:List Str) (s:Shared) (H:Hp) (ex:List Addr):Cx :=
 { X with N:=N,s₀:=s,H₀:=H,env:=compEnvC scope cl C X.env,outer:=X.stack,ex:=ex,fn:=fun x=>decide (scope.names.lookup x=some .local),pn:=[],xe:=fun _ _=>False }
theorem y8 {env:Env}:∀ {names:List (Str×NameKind)}{x:Str}{k:NameKind},
  (names.map fun (n,k)=>if (k == NameKind.free && env.scope.kind == .function && env.kindOf n == some .cell) then (n,NameKind.cell) else (n,k)).lookup x=some k ->
  ∃ k',names.lookup x=some k'/\(k'=k\/(k' = .free/\k = .cell))
 | [],_,_,h=>by simp at h
 | (n,k0)::r,x,k,h=>by
  have ih:=@y8 env r x k
  have h':List.lookup x ((if (k0 == NameKind.free && env.scope.kind == .function && env.kindOf n == some .cell)=true then (n,NameKind.cell) else (n,k0))::r.map fun (n,k)=>if (k == NameKind.free && env.scope.kind == .function && env.kindOf n == some .cell) then (n,NameKind.cell) else (n,k))=some k:=h
  cases hx:x == n with
  | true =>
   by_cases hc:(k0 == NameKind.free && env.scope.kind == .function && env.kindOf n == some .cell)=true
   ·rw [if_pos hc,List.lookup_cons,hx] at h'
    cases h'
    refine ⟨k0,by rw [List.lookup_cons,hx],.inr ⟨?_,rfl⟩⟩
    rw [Bool.and_eq_true,Bool.and_eq_true] at hc
    exact eq_of_beq hc.1.1
   ·rw [if_neg hc,List.lookup_cons,hx] at h'
    cases h'
    exact ⟨k0,by rw [List.lookup_cons,hx],.inl rfl⟩
  | false =>
   have h2:List.lookup x (r.map fun (n,k)=>if (k == NameKind.free && env.scope.kind == .function && env.kindOf n == some .cell) then (n,NameKind.cell) else (n,k))=some k:=by
    by_cases hc:(k0 == NameKind.free && env.scope.kind == .function && env.kindOf n == some .cell)=true
    ·rw [if_pos hc,List.lookup_cons,hx] at h';exact h'
    ·rw [if_neg hc,List.lookup_cons,hx] at h';exact h'
   obtain ⟨k',e,d⟩:=ih h2
   exact ⟨k',by rw [List.lookup_cons,hx];exact e,d⟩
def JG (X:Cx) (ifs:List Expr) (t:TT):Prop :=
 ∀ (pins:List (Addr×Obj)) (s:Shared) (σ:St) (H:Hp) (Q:Bool->Hp->Prop),Inv X pins σ H s->t σ H Q ->
  wpAny (model X.prog X.w) X.A (forIn ifs true fun c r=>if r=true then do let ok <- isTrue c X.env (eval c X.env);pure (ForInStep.yield ok) else pure (ForInStep.yield r)) (TP X pins σ Q) X.xe s
def GG:TT:=fun _ H Q=>Q true H
theorem jF {X:Cx}:JG X [] GG:=fun _ _ _ H _ I h=>wpAny_tests_nil ⟨H,I,h⟩
theorem kC {X:Cx}{c:Expr}{t:TT}(h:PT X c t):JG X [c] t:=fun pins s σ H Q I hw=>wpAny_tests_one (h pins s σ H Q I hw)
section
variable {prog:Program}{w:World}{A:Around}{R:Result->Shared->Prop}{s:Shared}
theorem Qq {elt target iter:Expr}{ifs:List Expr}{scope:Scope}{pos:Pos}{it acc:Value}{env:Env}(I:Nat->Shared->Prop)
  (turn:∀ n s,I n s->wpAny (model prog w) A (pyNext it) (fun r s₁=>match r with
   | none=>R (.ok .next) s₁
   | some v=>wpAny (model prog w) A (letOwnedTupleGo target it v) (fun _ s₂=>wpAny (model prog w) A (assign target env v) (fun _ s₃ =>
     wpAny (model prog w) A (forIn ifs true fun c r=>if r=true then do let ok <- isTrue c env (eval c env);pure (ForInStep.yield ok) else pure (ForInStep.yield r)) (fun ok s₄ =>
      if ok=true then wpAny (model prog w) A (eval elt env) (fun x s₅ =>
       wpAny (model prog w) A (call (.builtin "list.append") [acc,x]) (fun _ s₆=>∃ m,m<n/\I m s₆) (fun _ _=>False) s₅) (fun _ _=>False) s₄
      else ∃ m,m<n/\I m s₄) (fun _ _=>False) s₃) (fun _ _=>False) s₂) (fun _ _=>False) s₁) (fun _ _=>False) s)
  (n:Nat) (h:I n s) :
  codeAny (model prog w) A (.compLoop (.ListComp elt [⟨target,iter,ifs,0⟩] scope pos) 0 it acc env) R s:=by
 refine codeAny_loop rfl I (fun n s hI=>?_) n h
 show wpAny _ A ((compTurn (.ListComp elt [⟨target,iter,ifs,0⟩] scope pos) 0 it acc env).onRaise (fun x=>do noteFrame x env;theTreesLotGoes x)) _ _ s
 refine wpAny_noted ?_
 rw [compTurn_list]
 refine wpAny_bind (wpAny_standAt (wpAny_bind (wpAny_mono (turn n s hI) (fun r s₁ h₁=>?_) fun _ _ h'=>h'.elim)))
 cases r with
 | none=>exact wpAny_pure h₁
 | some v =>
  refine wpAny_bind (wpAny_mono h₁ (fun _ s₂ h₂=>?_) fun _ _ h'=>h'.elim)
  refine wpAny_bind (wpAny_mono h₂ (fun _ s₃ h₃=>wpAny_bind (wpAny_mono h₃ (fun ok s₄ h₄=>?_) fun _ _ h'=>h'.elim)) fun _ _ h'=>h'.elim)
  cases ok with
  | false=>exact wpAny_pure ⟨rfl,h₄⟩
  | true =>
   exact wpAny_bind (wpAny_bind (wpAny_mono h₄ (fun x s₅ h₅=>wpAny_bind (wpAny_mono h₅ (fun _ s₆ h₆=>wpAny_pure (wpAny_pure ⟨rfl,h₆⟩)) fun _ _ h'=>h'.elim)) fun _ _ h'=>h'.elim))
end
section
variable {X:Cx}{pos:Pos}
def UR (own:Nat) (caps:List Nat) (wi:TI) (g:TG) (ti:TT) (te:TE):TE:=fun σ H Q=>wi σ H fun J H1=>∀ acc,H1 acc=none ->
 ∃ W:Nat->Nat->St->Hp->Prop,(∃ m,W 0 m (yU own caps σ) (upd H1 acc (.lst [])))/\∀ i m σ' H',W i m σ' H' ->
  (J.stop i H'/\Q (.ref acc) H') \/
  (J.go i H'/\∃ NX:St->Hp->Prop,(∀ σ2 H2,NX σ2 H2->∃ m',m'<m/\W (i+1) m' σ2 H2) /\
   ∀ x H2,J.yld i H' x H2->g x σ' H2 fun σ3 H3=>ti σ3 H3 fun ok H4=>if ok=true then te σ3 H4 fun v H5=>∃ ys,H5 acc=some (.lst ys)/\ys.length<sizeLine/\NX σ3 (upd H5 acc (.lst (ys++[v]))) else NX σ3 H4)
theorem V9 {osc:Scope}{ON N:List Str}{scope:Scope}{own:Nat}{caps:List Nat}{cl:List (Str×Addr)}{C:Addr}{pins:List (Addr×Obj)}{σ:St}{H:Hp}{s:Shared}{fp:List Addr}
  (S:CompSc osc ON scope own N caps) (hsc:X.env.scope=osc) (hcl:∀ x,cl.lookup x=if (x,NameKind.free)∈scope.names then X.env.cells.lookup x else none)
  (I:Inv X pins σ H s) (hC:s.heap.objs.size<=C) (hf:∀ b∈fp,uG X pins H b) (hfs:∀ b∈fp,b<s.heap.objs.size):(X.block scope cl C N s H fp).Ok:=by
 have fromX:∀ x c,cl.lookup x=some c->X.env.cells.lookup x=some c/\(x,NameKind.free)∈scope.names:=fun x c e=>by
  rw [hcl x] at e
  by_cases hm:(x,NameKind.free)∈scope.names
  ·rw [if_pos hm] at e;exact ⟨e,hm⟩
  ·rw [if_neg hm] at e;cases e
 refine ⟨I.ok.mod,S.kind,I.ok.glob,I.ok.blt,hC,fun x y c h1 h2=>I.ok.inj x y c (fromX x c h1).1 (fromX y c h2).1,fun x hx=>?_,fun x c h1 h2=>?_,I.ok.hd,I.ok.frames,.inl rfl,fun b hb=>?_,I.bs,Nat.le_trans I.ok.bsz I.sz,fun b o e hb=>?_,fun b hb hb2=>?_,I.stack,I.stkFree⟩
 ·-- has
  have key:∀ k,(k=NameKind.cell\/k=NameKind.free)->(relabel scope X.env).names.lookup x=some k->∃ c,cl.lookup x=some c:=fun k hk e=>by
   obtain ⟨k',e',d⟩:=y8 (env:=X.env) e
   have hmem:=PySem.mem_of_lookup e'
   have hfree:k' = .free:=by
    rcases d with d | d
    ·subst d
     rcases hk with z | z
     ·exact absurd z (S.nocell _ hmem)
     ·exact z
    ·exact d.1
   subst hfree
   obtain ⟨_,hk2⟩:=S.fre _ hmem rfl
   obtain ⟨c,hc⟩:=I.ok.has x (by unfold Env.kindOf;rw [hsc];exact hk2)
   exact ⟨c,by rw [hcl x,if_pos hmem];exact hc⟩
  rcases hx with z | z
  ·exact key _ (.inl rfl) z
  ·exact key _ (.inr rfl) z
 ·-- cab
  have h1':scope.names.lookup x=some .local:=of_decide_eq_true h1
  have hm:=(fromX x c h2).2
  have:=(S.fre _ hm rfl).1
  rw [h1'] at this
  cases this
 ·refine ⟨Nat.ne_of_lt (Nat.lt_of_lt_of_le (hfs b hb) hC),fun x c e=>(hf b hb).2.2.2.2.1 x c (fromX x c e).1⟩
 ·rcases (hf b hb).2.2.2.1 with z | z
  ·exact I.ok.noex b o e z
  ·exact absurd (Nat.lt_of_lt_of_le (Heap.lt_size e) (Nat.le_trans I.ok.bsz z)) (Nat.lt_irrefl _)
 ·rcases List.mem_cons.mp (I.stkSub b hb2) with z | z
  ·exact (hf b hb).2.1 z
  ·exact (hf b hb).2.2.1 z
theorem uQ {osc:Scope}{ON N:List Str}{scope:Scope}{own:Nat}{caps:List Nat}{cl:List (Str×Addr)}{C D:Addr}{pins:List (Addr×Obj)}{σ:St}{H:Hp}{s:Shared}{h1:Heap}{fp:List Addr}
  (S:CompSc osc ON scope own N caps) (hsc:X.env.scope=osc) (hN:X.N=ON) (hcl:∀ x,cl.lookup x=if (x,NameKind.free)∈scope.names then X.env.cells.lookup x else none)
  (I:Inv X pins σ H s) (hf:∀ b∈fp,uG X pins H b) (hfs:∀ b∈fp,b<s.heap.objs.size) (hD:D=s.heap.objs.size) (hC:C=s.heap.objs.size+1)
  (k:∀ b o,s.heap.get? b=some o->h1.get? b=some o) (eD:h1.get? D=some { cls:=.type "list",data:=.seq #[] }) (hn:h1.Ns C fun _=>none) (t':Nat) :
  Inv (X.block scope cl C N s H fp) [] (yU own caps σ) (upd H D (.lst [])) { s with heap:=h1,toks:=t' }:=by
 subst hD
 subst hC
 have hCs:s.heap.objs.size<=s.heap.objs.size+1:=Nat.le_succ _
 have ok:=V9 (C:=s.heap.objs.size+1) S hsc hcl I hCs hf hfs
 have fromX:∀ x c,cl.lookup x=some c->X.env.cells.lookup x=some c/\(x,NameKind.free)∈scope.names:=fun x c e=>by
  rw [hcl x] at e
  by_cases hm:(x,NameKind.free)∈scope.names
  ·rw [if_pos hm] at e;exact ⟨e,hm⟩
  ·rw [if_neg hm] at e;cases e
 have fr:∀ a,s.heap.objs.size<=a->H a=none:=fun a ha=>I.hok.fresh ha
 have newD:qe X.prog X.w (upd H s.heap.objs.size (.lst [])) h1 s.heap.objs.size (.lst []):=⟨Nat.zero_le _,[],0,.nil,eD⟩
 have cellK:∀ x c,X.env.cells.lookup x=some c->∀ v,s.heap.IsCell c v->h1.IsCell c v:=fun x c _ v ⟨o,ho,hd⟩=>⟨o,k c o ho,hd⟩
 refine ⟨ok,rfl,I.bare,Un.laid k (Nat.le_refl _) (fr _ (Nat.le_refl _)),⟨_,hn,fun i x v e1 e2 e3=>?_⟩,fun x c e=>?_,?_,fun x c e=>?_,fun p hp=>absurd (show p∈([]:List (Addr×Obj)) from hp) (by simp),I.hok.laid k (Nat.le_refl _) newD,?_⟩
 ·-- the captured names
  have e1':N[i]? = some x:=e1
  have hi:own<=i:=by
   by_cases hi:own<=i
   ·exact hi
   ·unfold yU at e2
    rw [List.getElem?_append_left (by simp;omega),List.getElem?_replicate] at e2
    split at e2 <;> cases e2
  obtain ⟨j',rfl⟩:∃ j',i=own+j':=⟨i-own,by omega⟩
  have e2':(caps.map fun j=>(σ[j]?).getD none)[j']? = some (some v):=by
   unfold yU at e2
   rw [List.getElem?_append_right (by simp)] at e2
   simpa using e2
  rw [List.getElem?_map] at e2'
  cases hj:caps[j']? with
  | none=>rw [hj] at e2';cases e2'
  | some j =>
   rw [hj] at e2'
   have e3':(σ[j]?).getD none=some v:=Option.some.inj e2'
   have e4:σ[j]? = some (some v):=by
    cases q:σ[j]? with
    | none=>rw [q] at e3';cases e3'
    | some z=>rw [q] at e3';exact congrArg some e3'
   have hz:(x,j)∈(N.drop own).zip caps:=by
    refine List.mem_of_getElem? (i:=j') ?_
    rw [List.getElem?_zip_eq_some]
    exact ⟨by rw [List.getElem?_drop];exact e1',hj⟩
   obtain ⟨c1,c2⟩:=S.cap _ hz
   obtain ⟨_,hk⟩:=S.fre _ c2 rfl
   have hkX:X.env.kindOf x=some .cell\/X.env.kindOf x=some .free:=by unfold Env.kindOf;rw [hsc];exact hk
   obtain ⟨m,hm,hl⟩:=I.loc
   obtain ⟨u,ru,l⟩:=hl j x v (by rw [hN];exact c1) e4 (by
    rcases hkX with z | z
    ·exact .inr (.inl z)
    ·exact .inr (.inr z))
   refine ⟨u,ru,?_⟩
   rcases l with ⟨l1,_⟩ | ⟨_,c,lc,lv⟩
   ·rcases hkX with z | z
    ·rw [z] at l1;cases l1
    ·rw [z] at l1;cases l1
   ·refine .inr ⟨?_,c,by show cl.lookup x=some c;rw [hcl x,if_pos c2];exact lc,cellK x c lc _ lv⟩
    rcases e3 with z | z
    ·obtain ⟨k',e',d⟩:=y8 (env:=X.env) z
     have:=(S.fre _ c2 rfl).1
     rw [e'] at this
     cases this
     rcases d with d | d
     ·cases d
     ·cases d.2
    ·exact z
 ·obtain ⟨v,z⟩:=I.cell x c (fromX x c e).1
  exact ⟨v,cellK x c (fromX x c e).1 v z⟩
 ·show upd H s.heap.objs.size (.lst []) (s.heap.objs.size+1)=none
  rw [j5 (Nat.ne_of_gt (Nat.lt_succ_self _))]
  exact fr _ hCs
 ·have e':=(fromX x c e).1
  obtain ⟨v,z⟩:=I.cell x c e'
  rw [j5 (Nat.ne_of_lt z.lt)]
  exact I.freeC x c e'
 ·unfold yU
  show _=N.length
  rw [List.length_append,List.length_replicate,List.length_map,S.len]
structure BlockAt (X:Cx) (pins:List (Addr×Obj)) (H:Hp) (C:Addr):Prop where
 free:H C=none
 loc:C≠X.env.locals
 new:X.s₀.heap.objs.size<=C
 cell:∀ x c,X.env.cells.lookup x=some c->c≠C
 pin:∀ p∈X.pn++pins,p.1≠C
theorem BlockAt.gone {pins:List (Addr×Obj)}{σ:St}{H:Hp}{C:Addr}{s:Shared}{h':Heap}(B:BlockAt X pins H C) (I:Inv X pins σ H s) (hs:Heap.SameBut C s.heap h'):Inv X pins σ H { s with heap:=h' } :=
 I.turned (t':=s.toks) (fun b o hb e=>(hs.2 b hb).trans e) B.free B.loc (.inr B.new) B.cell B.pin
theorem Qe {osc:Scope}{ON N:List Str}{scope:Scope}{own:Nat}{caps:List Nat}{cl:List (Str×Addr)}{tg elt iter:Expr}{ifs:List Expr}{g:TG}{ti:TT}{te:TE}{pins:List (Addr×Obj)}{σ:St}{H:Hp}{s:Shared}{fp:List Addr}{it:Addr}
  {tn:Nat->Heap->Prop} {J:It} {Q:VK} {RR:Value->Addr->Result->Shared->Prop} {E:Value->Shared->Prop}
  (hc:X.calm=true) (S:CompSc osc ON scope own N caps) (hsc:X.env.scope=osc) (hN:X.N=ON) (hcl:∀ x,cl.lookup x=if (x,NameKind.free)∈scope.names then X.env.cells.lookup x else none)
  (hg:∀ cl C s H ex,PG (X.block scope cl C N s H ex) tg g) (hif:∀ cl C s H ex,JG (X.block scope cl C N s H ex) ifs ti) (he:∀ cl C s H ex,PE (X.block scope cl C N s H ex) elt te)
  (I:Inv X pins σ H s) (T:Turn X.prog X.w X.K tg J fp it tn) (st:tn 0 s.heap) (hf:∀ b∈fp,uG X pins H b)
  (hw:∀ acc,H acc=none->∃ W:Nat->Nat->St->Hp->Prop,(∃ m,W 0 m (yU own caps σ) (upd H acc (.lst [])))/\∀ i m σ' H',W i m σ' H' ->
   (J.stop i H'/\Q (.ref acc) H')\/(J.go i H'/\∃ NX:St->Hp->Prop,(∀ σ2 H2,NX σ2 H2->∃ m',m'<m/\W (i+1) m' σ2 H2) /\
    ∀ x H2,J.yld i H' x H2->g x σ' H2 fun σ3 H3=>ti σ3 H3 fun ok H4=>if ok=true then te σ3 H4 fun v H5=>∃ ys,H5 acc=some (.lst ys)/\ys.length<sizeLine/\NX σ3 (upd H5 acc (.lst (ys++[v]))) else NX σ3 H4))
  (fin:∀ (D C:Addr) (H':Hp) (s':Shared),Inv X pins σ H' s'->BlockAt X pins H' C->(∃ m,s'.heap.Ns C m)->Q (.ref D) H'->RR (.ref D) C (.ok .next) s') :
  wpAny (model X.prog X.w) X.A (newList []) (fun acc s₃=>wpAny (model X.prog X.w) X.A (newFunctionEnv scope X.env.globals cl [] X.env.qual none .none (some X.env)) (fun cenv s₄ =>
   codeAny (model X.prog X.w) X.A (.compStart (.ListComp elt [⟨tg,iter,ifs,0⟩] scope pos) 0 (.ref it) acc { cenv with scope:=relabel scope X.env }) (RR acc cenv.locals) s₄) E s₃) E s:=by
 have hfs:∀ b∈fp,b<s.heap.objs.size:=fun b hb=>by
  obtain ⟨o,e,_⟩:=T.obj _ _ st b hb
  exact Heap.lt_size e
 refine wpAny_newObj_type (wpAny_newFunctionEnv S.nocell (by intro y hy;simp at hy) (fun h₁ hns₁ hsb₁=>?_) S.kind)
 dsimp only at hns₁ hsb₁ ⊢
 generalize hH2:s.heap.push { cls:=.type "list",dict:=none,data:=.seq ([]:List Value).toArray }=H2 at hns₁ hsb₁ ⊢
 have hCsz:H2.objs.size=s.heap.objs.size+1:=by rw [<- hH2,Heap.size_push]
 have old:∀ b o,s.heap.get? b=some o->h₁.get? b=some o:=fun b o e=>hsb₁.extBut b o (Nat.ne_of_lt (by rw [hCsz];exact Nat.lt_succ_of_lt (Heap.lt_size e))) (Heap.get?_push_of_some _ (hH2 ▸ Heap.get?_push_of_some _ e))
 have eD:h₁.get? s.heap.objs.size=some { cls:=.type "list",data:=.seq #[] }:=hsb₁.extBut _ _ (Nat.ne_of_lt (by omega)) (Heap.get?_push_of_some _ (hH2 ▸ Heap.get?_push_size _ rfl))
 have hDn:H s.heap.objs.size=none:=I.hok.fresh (Nat.le_refl _)
 obtain ⟨W,⟨m0,w0⟩,turn⟩:=hw s.heap.objs.size hDn
 have hns:h₁.Ns H2.objs.size fun _=>none:=hns₁
 have I1:Inv (X.block scope cl H2.objs.size N s H fp) [] (yU own caps σ) (upd H s.heap.objs.size (.lst [])) { s with heap:=h₁,toks:=s.toks+([]:List (Str×Value)).length } :=
  uQ S hsc hN hcl I hf hfs rfl hCsz old eD hns _
 have st1:tn 0 h₁:=T.keep 0 _ _ st fun b _ o e=>old b o e
 have fpB:∀ {H':Hp},(∀ b∈fp,H' b=none)->∀ b∈fp,uG (X.block scope cl H2.objs.size N s H fp) [] H' b:=fun {H'} hn b hb=>by
  have ok:=I1.ok
  exact ⟨hn b hb,(ok.exf b hb).1,ok.exfs b hb,.inl hb,(ok.exf b hb).2,fun p hp=>absurd (show p∈([]:List (Addr×Obj)) from hp) (by simp)⟩
 have back:∀ {σ':St} {H':Hp} {s':Shared},Inv (X.block scope cl H2.objs.size N s H fp) [] σ' H' s'->Q (.ref s.heap.objs.size) H'->RR (.ref s.heap.objs.size) H2.objs.size (.ok .next) s':=fun {σ' H' s'} J1 q=>by
  have J2:Inv X pins σ H' s':=I.call' (ch:=fp) J1.os J1.base J1.hok J1.bare fun b hb=>⟨(hf b hb).2.2.2.1,(hf b hb).2.1,(hf b hb).2.2.2.2.1,(hf b hb).2.2.2.2.2⟩
  obtain ⟨m,hm,_⟩:=J1.loc
  refine fin _ _ H' s' J2 ⟨J1.free,Nat.ne_of_gt (Nat.lt_of_lt_of_le I.lt (by omega)),Nat.le_trans I.sz (by omega),fun x c e z=>?_,fun p hp z=>?_⟩ ⟨m,hm⟩ q
  ·obtain ⟨v,y⟩:=I.cell x c e
   have h1:H2.objs.size<s.heap.objs.size:=z ▸ y.lt
   exact absurd h1 (by omega)
  ·have h1:H2.objs.size<s.heap.objs.size:=z ▸ Heap.lt_size (I.pin p hp).1
   exact absurd h1 (by omega)
 have loop:∀ s₃:Shared,s₃={ s with heap:=h₁,toks:=s.toks+([]:List (Str×Value)).length } ->
   codeAny (model X.prog X.w) X.A (.compLoop (.ListComp elt [⟨tg,iter,ifs,0⟩] scope pos) 0 (.ref it) (.ref s.heap.objs.size) (compEnvC scope cl H2.objs.size X.env)) (RR (.ref s.heap.objs.size) H2.objs.size) s₃:=by
  rintro s₃ rfl
  refine Qq (fun n s'=>∃ i σ' H',Inv (X.block scope cl H2.objs.size N s H fp) [] σ' H' s'/\tn i s'.heap/\(∀ b∈fp,H' b=none)/\W i n σ' H') ?_ m0
   ⟨0,_,_,I1,st1,fun b hb=>by rw [j5 (Nat.ne_of_lt (hfs b hb))];exact (hf b hb).1,w0⟩
  rintro n s3 ⟨i,σ3,H3,I3,st3,fr3,w3⟩
  rcases turn i n σ3 H3 w3 with ⟨stop,qn⟩ | ⟨go,NX,hNX,step⟩
  ·refine thn (T.done (X.block scope cl H2.objs.size N s H fp) rfl rfl rfl hc i [] s3 σ3 H3 _ I3 (fpB fr3) st3 stop) fun r s4 ⟨hr,I4⟩=>?_
   subst hr
   exact back I4 qn
  ·refine thn (T.item (X.block scope cl H2.objs.size N s H fp) rfl rfl rfl hc i [] s3 σ3 H3 _ I3 (fpB fr3) st3 go) fun r s4 ⟨u,hr,h4⟩=>?_
   subst hr
   refine thn h4 fun _ s5 ⟨x,H5,I5,r5,y5,st5,fr5⟩=>?_
   have I5':=I5.pinned (fpB fr5) (T.obj _ _ st5)
   refine thn (hg cl H2.objs.size s H fp _ s5 σ3 H5 x u _ I5' r5 (step x H5 y5)) fun _ s6 ⟨σ6,H6,I6,q6⟩=>?_
   refine thn (hif cl H2.objs.size s H fp _ s6 σ6 H6 _ I6 q6) fun ok s7 ⟨H7,I7,q7⟩=>?_
   have again:∀ {s8:Shared} {σ8:St} {H8:Hp},Inv (X.block scope cl H2.objs.size N s H fp) ([]++zo fp s5.heap) σ8 H8 s8->NX σ8 H8->∃ m,m<n/\∃ i σ' H',Inv (X.block scope cl H2.objs.size N s H fp) [] σ' H' s8/\tn i s8.heap/\(∀ b∈fp,H' b=none)/\W i m σ' H':=fun {s8 σ8 H8} I8 n8=>by
    obtain ⟨m',hm,w8⟩:=hNX σ8 H8 n8
    refine ⟨m',hm,i+1,σ8,H8,I8.unpinned,T.keep _ _ _ st5 fun b hb o e=>(I8.pin (b,o) (List.mem_append_right _ (List.mem_append_right _ (qI hb e)))).1,fun b hb=>?_,w8⟩
    obtain ⟨o,e,d⟩:=T.obj _ _ st5 b hb
    exact (I8.pin (b,o) (List.mem_append_right _ (List.mem_append_right _ (qI hb e)))).2.1
   cases ok with
   | false =>
    rw [if_neg Bool.false_ne_true] at q7 ⊢
    exact again I7 q7
   | true =>
    rw [if_pos rfl] at q7 ⊢
    refine thn (he cl H2.objs.size s H fp _ s7 σ6 H7 _ I7 q7) fun v s8 ⟨y,H8,I8,r8,ys,e8,z8,q8⟩=>?_
    refine thn (qo _ s8 σ6 H8 (.ref s.heap.objs.size) [y] _ [v] (fun _ H9=>NX σ6 H9) I8 rfl (.cons r8 .nil) ⟨_,ys,y,rfl,rfl,e8,z8,q8⟩) fun _ s9 ⟨_,H9,I9,_,q9⟩=>?_
    exact again I9 q9
 exact codeAny_compStart_list (loop _ rfl) (T.self _ 0 _ _ _ st1 (loop _ rfl))
theorem Z1 {osc:Scope}{ON N:List Str}{scope:Scope}{own:Nat}{caps:List Nat}{pins:List (Addr×Obj)}{σ:St}{H:Hp}{s:Shared}(S:CompSc osc ON scope own N caps) (hsc:X.env.scope=osc) (I:Inv X pins σ H s) :
  ∀ x∈scope.names,x.2 = .free->∃ c,X.env.cells.lookup x.1=some c:=fun x hx hk=>I.ok.has x.1 (by unfold Env.kindOf;rw [hsc];exact (S.fre x hx hk).2)
theorem jY {osc:Scope}{ON N:List Str}{scope:Scope}{own:Nat}{caps:List Nat}{tg elt iter:Expr}{ifs:List Expr}{wi:TI}{g:TG}{ti:TT}{te:TE}(S:CompSc osc ON scope own N caps)
  (hc:X.calm=true) (hsc:X.env.scope=osc) (hN:X.N=ON) (hi:PI X tg iter wi)
  (hg:∀ cl C s H ex,PG (X.block scope cl C N s H ex) tg g) (hif:∀ cl C s H ex,JG (X.block scope cl C N s H ex) ifs ti) (he:∀ cl C s H ex,PE (X.block scope cl C N s H ex) elt te)
  (hs:∀ x,foldedSetIterable iter X.env x=pure x:=by intro _;rfl):PE X (.ListComp elt [⟨tg,iter,ifs,0⟩] scope pos) (UR own caps wi g ti te):=by
 intro pins s σ H Q I h
 obtain ⟨cl,hclos,hcl⟩:=vk (Z1 S hsc I)
 rw [eval_ListComp]
 refine wpAny_comprehension_free (use:=none) rfl hs hclos S.kind S.loc (thn (hi pins s σ H _ I h) fun v s1 h1=>thn h1 fun itv s2 h2=>?_)
 obtain ⟨it,fp,tn,J,H2,e,I2,T,st2,f2,hw⟩:=h2
 subst e
 refine Qe (RR:=fun acc C=>compPost (model X.prog X.w) X.A X.xe none (EP X pins σ Q) acc C) hc S hsc hN hcl hg hif he I2 T st2 f2 hw fun D C H' s' J1 B ⟨m,hm⟩ q=>?_
 exact ⟨m,hm,fun h' hs'=>⟨.ref D,H',B.gone J1 hs',rfl,q⟩⟩
theorem wj {osc:Scope}{ON N:List Str}{scope:Scope}{own:Nat}{caps:List Nat}{tg elt iter:Expr}{ifs:List Expr}{wi:TI}{g:TG}{ti:TT}{te:TE}{j:Nat}{y:Str}{py spos:Pos}(S:CompSc osc ON scope own N caps)
  (hnd:X.N.Nodup) (hj:X.N[j]? = some y) (hy:Loc X.env.scope y)
  (hc:X.calm=true) (hsc:X.env.scope=osc) (hN:X.N=ON) (hi:PI X tg iter wi)
  (hg:∀ cl C s H ex,PG (X.block scope cl C N s H ex) tg g) (hif:∀ cl C s H ex,JG (X.block scope cl C N s H ex) ifs ti) (he:∀ cl C s H ex,PE (X.block scope cl C N s H ex) elt te)
  (hsw:swapsWith (.ListComp elt [⟨tg,iter,ifs,0⟩] scope pos) (some (.Name y py)) spos.line X.env=pure true:=by rfl)
  (hf:X.fn y=true\/X.env.scope.names.lookup y=some .local:=by first | exact .inl rfl | exact .inr rfl | assumption)
  (hs:∀ x,foldedSetIterable iter X.env x=pure x:=by intro _;rfl):PS X (.Assign [.Name y py] (.ListComp elt [⟨tg,iter,ifs,0⟩] scope pos) spos) (Wt (UR own caps wi g ti te) (Q5 j)):=by
 intro pins s σ H D0 I h
 obtain ⟨cl,hclos,hcl⟩:=vk (Z1 S hsc I)
 rw [exec_Assign_Name_used _ _ _ _ hsw]
 refine wpAny_bind (wpAny_standAt (wpAny_bind ?_))
 show wpAny _ X.A (do let _ <- comprehension (.ListComp elt [⟨tg,iter,ifs,0⟩] scope pos) scope X.env _ (newList []) false (eval iter X.env) (some (assign (.Name y py) X.env))) _ _ s
 refine wpAny_bind (wpAny_mono (wpAny_comprehension_free (use:=some (assign (.Name y py) X.env)) (Q:=fun _ s'=>SP X pins D0 .next s') rfl hs hclos S.kind S.loc
  (thn (hi pins s σ H _ I h) fun v s1 h1=>thn h1 fun itv s2 h2=>?_)) (fun _ s' hq=>wpAny_pure (wpAny_pure hq)) fun _ _ e=>e)
 obtain ⟨it,fp,tn,J,H2,e,I2,T,st2,f2,hw⟩:=h2
 subst e
 refine Qe (Q:=fun v H'=>D0.nx (σ.set j (some v)) H') (RR:=fun acc C=>compPost (model X.prog X.w) X.A X.xe (some (assign (.Name y py) X.env)) (fun _ s'=>SP X pins D0 .next s') acc C) hc S hsc hN hcl hg hif he I2 T st2 f2 hw fun D C H' s' J1 B ⟨m,hm⟩ q=>?_
 show wpAny _ X.A (assign (.Name y py) X.env (.ref D)) _ _ s'
 refine wpAny_assign_Name (gS (v:=V.ref D) J1 hnd hj hy rfl (fun s2 J2 ⟨a,hsame,ha⟩=>?_) hf)
 have hCa:C≠a:=by
  rcases ha with z | z
  ·rw [z];exact B.loc
  ·exact fun z2=>B.cell y a z z2.symm
 exact ⟨m,hm.sameBut hsame hCa,fun h' hs'=>⟨_,H',B.gone J2 hs',q⟩⟩
end
theorem qg {K:PySem.W.Frag}{a acc:Addr}{xs:List V}{g:TG}{ti:TT}{te:TE}{R:Hp->Prop}{σ:St}{H:Hp}(Pv:Nat->St->Hp->Prop) (h0:Pv 0 σ H) (hl:∀ i σ H,i<=xs.length->Pv i σ H->SqL K H a xs)
  (hs:∀ i x σ H,xs[i]? = some x->Pv i σ H->g x σ H fun σ3 H3=>ti σ3 H3 fun ok H4=>if ok=true then te σ3 H4 fun v H5=>∃ ys,H5 acc=some (.lst ys)/\ys.length<sizeLine/\Pv (i+1) σ3 (upd H5 acc (.lst (ys++[v]))) else Pv (i+1) σ3 H4)
  (hd:∀ σ H,Pv xs.length σ H->R H) :
  ∃ W:Nat->Nat->St->Hp->Prop,(∃ m,W 0 m σ H)/\∀ i m σ' H',W i m σ' H' ->
   ((Itl K a).stop i H'/\R H')\/((Itl K a).go i H'/\∃ NX:St->Hp->Prop,(∀ σ2 H2,NX σ2 H2->∃ m',m'<m/\W (i+1) m' σ2 H2) /\
    ∀ x H2,(Itl K a).yld i H' x H2->g x σ' H2 fun σ3 H3=>ti σ3 H3 fun ok H4=>if ok=true then te σ3 H4 fun v H5=>∃ ys,H5 acc=some (.lst ys)/\ys.length<sizeLine/\NX σ3 (upd H5 acc (.lst (ys++[v]))) else NX σ3 H4):=by
 refine ⟨fun i m σ H=>m=xs.length-i/\i<=xs.length/\Pv i σ H,⟨xs.length,by simp,Nat.zero_le _,h0⟩,?_⟩
 rintro i m σ H ⟨rfl,hi,p⟩
 have q:=hl i σ H hi p
 by_cases hlt:i<xs.length
 ·refine .inr ⟨⟨xs,xs[i],q,by simp [hlt]⟩,Pv (i+1),fun σ' H' p'=>⟨xs.length-(i+1),by omega,rfl,hlt,p'⟩,fun x H' y=>?_⟩
  obtain ⟨e,y⟩:=y
  subst e
  exact hs i x σ _ (y xs q) p
 ·have e:i=xs.length:=by omega
  subst e
  exact .inl ⟨⟨xs,q,Nat.le_refl _⟩,hd σ H p⟩
theorem Qo {K:PySem.W.Frag}{a acc:Addr}{xs:List V}{g:TG}{ti:TT}{te:TE}{R:Hp->Prop}{σ:St}{H:Hp}(Pv:Nat->St->Hp->Prop) (h0:Pv 0 σ H) (hl:∀ i σ H,i<=xs.length->Pv i σ H->SqT K H a xs)
  (hs:∀ i x σ H,xs[i]? = some x->Pv i σ H->g x σ H fun σ3 H3=>ti σ3 H3 fun ok H4=>if ok=true then te σ3 H4 fun v H5=>∃ ys,H5 acc=some (.lst ys)/\ys.length<sizeLine/\Pv (i+1) σ3 (upd H5 acc (.lst (ys++[v]))) else Pv (i+1) σ3 H4)
  (hd:∀ σ H,Pv xs.length σ H->R H) :
  ∃ W:Nat->Nat->St->Hp->Prop,(∃ m,W 0 m σ H)/\∀ i m σ' H',W i m σ' H' ->
   ((Itt K a).stop i H'/\R H')\/((Itt K a).go i H'/\∃ NX:St->Hp->Prop,(∀ σ2 H2,NX σ2 H2->∃ m',m'<m/\W (i+1) m' σ2 H2) /\
    ∀ x H2,(Itt K a).yld i H' x H2->g x σ' H2 fun σ3 H3=>ti σ3 H3 fun ok H4=>if ok=true then te σ3 H4 fun v H5=>∃ ys,H5 acc=some (.lst ys)/\ys.length<sizeLine/\NX σ3 (upd H5 acc (.lst (ys++[v]))) else NX σ3 H4):=by
 refine ⟨fun i m σ H=>m=xs.length-i/\i<=xs.length/\Pv i σ H,⟨xs.length,by simp,Nat.zero_le _,h0⟩,?_⟩
 rintro i m σ H ⟨rfl,hi,p⟩
 have q:=hl i σ H hi p
 by_cases hlt:i<xs.length
 ·refine .inr ⟨⟨xs,xs[i],q,by simp [hlt]⟩,Pv (i+1),fun σ' H' p'=>⟨xs.length-(i+1),by omega,rfl,hlt,p'⟩,fun x H' y=>?_⟩
  obtain ⟨e,y⟩:=y
  subst e
  exact hs i x σ _ (y xs q) p
 ·have e:i=xs.length:=by omega
  subst e
  exact .inl ⟨⟨xs,q,Nat.le_refl _⟩,hd σ H p⟩
theorem xc {lo:Int}{n:Nat}{acc:Addr}{g:TG}{ti:TT}{te:TE}{R:Hp->Prop}{σ:St}{H:Hp}(Pv:Nat->St->Hp->Prop) (h0:Pv 0 σ H)
  (hs:∀ i σ H,i<n->Pv i σ H->g (.int (lo+i)) σ H fun σ3 H3=>ti σ3 H3 fun ok H4=>if ok=true then te σ3 H4 fun v H5=>∃ ys,H5 acc=some (.lst ys)/\ys.length<sizeLine/\Pv (i+1) σ3 (upd H5 acc (.lst (ys++[v]))) else Pv (i+1) σ3 H4)
  (hd:∀ σ H,Pv n σ H->R H) :
  ∃ W:Nat->Nat->St->Hp->Prop,(∃ m,W 0 m σ H)/\∀ i m σ' H',W i m σ' H' ->
   ((Itr lo n).stop i H'/\R H')\/((Itr lo n).go i H'/\∃ NX:St->Hp->Prop,(∀ σ2 H2,NX σ2 H2->∃ m',m'<m/\W (i+1) m' σ2 H2) /\
    ∀ x H2,(Itr lo n).yld i H' x H2->g x σ' H2 fun σ3 H3=>ti σ3 H3 fun ok H4=>if ok=true then te σ3 H4 fun v H5=>∃ ys,H5 acc=some (.lst ys)/\ys.length<sizeLine/\NX σ3 (upd H5 acc (.lst (ys++[v]))) else NX σ3 H4):=by
 refine ⟨fun i m σ H=>m=n-i/\i<=n/\Pv i σ H,⟨n,by simp,Nat.zero_le _,h0⟩,?_⟩
 rintro i m σ H ⟨rfl,hi,p⟩
 by_cases hlt:i<n
 ·refine .inr ⟨hlt,Pv (i+1),fun σ' H' p'=>⟨n-(i+1),by omega,rfl,hlt,p'⟩,fun x H' y=>?_⟩
  obtain ⟨e,y⟩:=y
  subst e y
  exact hs i σ _ hlt p
 ·have e:i=n:=by omega
  subst e
  exact .inl ⟨Nat.le_refl _,hd σ H p⟩
end L2
end
section
namespace L2
open PySem PySem.Spec PyProof.Rows
structure Cal (P:Program) (w:World) (K:PySem.W.Frag) (mg:Str->Option Value) (base:Heap) (k:Nat) (x:Str) (ps:List Str) (sp:Sp):Prop where
 ex:∃ f fd,FnOk P w K mg base CX0 k f fd ps sp/\yf K fd ps []/\mg x=some (.ref f)/\PySem.W.keepIn K (.ref f)=true
theorem jc {X:Cx}{k:Nat}{x:Str}{ps:List Str}{sp:Sp}{e:Expr}{es:List Expr}{t:TA}{p pos:Pos}(c:Cal X.prog X.w X.K X.mg X.base k x ps sp) (hr:Room k X.A) (hg:Gl X x) (ha:PA X (e::es) t)
  (hdb:(x == ("__debug__" : Str))=false:=by decide) (he:starEach (e::es) X.env=(false,eval e X.env)::starEach es X.env:=by rfl) (hpl:(backTo pos (starEach es X.env)).any (·.1)=false:=by rfl) :
  PE X (.Call (.Name x p) (e::es) [] pos) (UW sp [] E0 t):=by
 obtain ⟨f,fd,F,hb,hm,hk⟩:=c.ex
 exact UE F hr hg hm hk hb .nil UV ha hdb he hpl
theorem Cal.mk' {P:Program}{w:World}{K:PySem.W.Frag}{mg:Str->Option Value}{base:Heap}{k:Nat}{x:Str}{ps:List Str}{sp:Sp}{st:Stmt}{h:Heap}{f:Addr}{oc:Value}{od an:Option Addr}{osl:Array (Option Value)}{kV doc pm cdv ct:Value}
  (X:K.In h) (G:h.Ns mainGlobals mg) (a:PySem.W.nsIn K mainGlobals x=some (some (.ref f)))
  (l:K.lookup f=some ⟨oc,od,.func (PySem.W.fnOf x x (jW st) (jM st) (j8 st) .none kV doc pm an cdv ct),osl⟩) (c:PySem.W.codeIn K cdv x=true) (k':PySem.W.keepIn K (.ref f)=true)
  (hb:∀ (kV doc pm:Value) (an:Option Addr) (cdv ct:Value) (us:List Value),us.length=ps.length->bindArgs (PySem.W.fnOf x x (jW st) (jM st) (j8 st) .none kV doc pm an cdv ct) ⟨us,[]⟩=pure (ps.zip us))
  (ok:∀ {f:Addr} {fd:FuncData},Fun K x x st f fd->FnOk P w K mg base CX0 k f fd ps sp):Cal P w K mg base k x ps sp:=by
 have F:=vp (st:=st) l c k'
 exact ⟨f,_,ok F,F.binds hb,PySem.W.mg_of X G a,k'⟩
section
variable {X:Cx}
theorem QI:qJ X (.builtin "isinstance") (fun xs H Q=>∃ x n t b,xs=[x,.ty n]/\TyOf X.K H x t/\PySem.W.kitOne X.K t (.type n)=some b/\Q (.bl b) H):=by
 intro pins s σ H xs us Q I r h
 obtain ⟨x,n,t,b,rfl,ty,e,q⟩:=h
 obtain ⟨u,w',rfl,r1,r2⟩:=Zl r
 cases (show w'=Value.type n from r2)
 exact Yv I r1 ty e fun tk=>⟨.bl b,H,I.tok tk,rfl,q⟩
def Zb (i j:Int):Prop:=0<j/\j<2 ^ 200
theorem yy:OpR X (binaryOp .FloorDiv) (rI Zb fun i j=>.int (i / j)):=opI fun i j _ _ _ _ _ hc q=>by
 have h1:(0:Int)<j:=hc.1
 have h2:j<2 ^ 200:=hc.2
 refine floordiv_int (by omega) (by rw [Int.fdiv_eq_ediv_of_nonneg i (by omega)];exact q) (.inl (PyProof.noPylong_of_log2 ?_))
 have h3:j.natAbs<2 ^ 200:=by omega
 have h4:j.natAbs≠0:=by omega
 have:=(Nat.log2_lt h4).mpr h3
 omega
theorem YL (hc:X.calm=true):qJ X (.builtin "all") (fun xs H Q=>∃ (p:Addr) (bs:List Bool),xs=[.ref p]/\SqL X.K H p (bs.map V.bl)/\Q (.bl (bs.all fun b=>b)) H):=by
 intro pins s σ H xs us Q I r h
 obtain ⟨p,bs,rfl,hq,q⟩:=h
 obtain ⟨u,rfl,ru⟩:=yb r
 cases ru
 obtain ⟨its,rv,pl,hz⟩:=I.list hq
 have hne:p≠s.heap.objs.size:=by
  obtain ⟨o,n,e,_⟩:=id pl
  exact Nat.ne_of_lt (Heap.lt_size e)
 have hlen:its.length=bs.length:=by rw [<- rv.length,List.length_map]
 have itsAt:∀ i v,its[i]? = some v->∃ b,bs[i]? = some b/\v=Value.bool b:=fun i v e=>by
  have hi:i<its.length:=(List.getElem?_eq_some_iff.mp e).1
  have hb:(bs.map V.bl)[i]? = some (V.bl (bs[i]'(by omega))):=by rw [List.getElem?_map,List.getElem?_eq_getElem (by omega)];rfl
  obtain ⟨u,h1,h2⟩:=rv.get hb
  rw [e] at h1
  cases h1
  exact ⟨bs[i]'(by omega),List.getElem?_eq_getElem (by omega),h2⟩
 refine call_all_walk (wpAny_pyIter_list pl.isList ?_)
 refine ⟨s.heap.objs.size,_,_,_,_,_,fun i=>bs.getD i true,rfl,Walks.list (show (X.A.in1).handled=none from I.ok.hd hc) s.heap.objs.size p hne its.toArray,⟨⟨_,Heap.get?_push_size _ rfl,rfl,rfl⟩,pl.isList.at fun o e=>Heap.get?_push_of_some _ e⟩,?_,?_⟩
 ·intro i v s' Q' E' hP hQ
  obtain ⟨b,hb,rfl⟩:=itsAt i v (by simpa using hP)
  have e:bs.getD i true=b:=by rw [List.getD_eq_getElem?_getD,hb];rfl
  have hQ:Q' (bs.getD i true) s':=hQ
  rw [e] at hQ
  exact wpAny_truthy_bool hQ
 ·intro h' tk hk
  have e:((List.range its.toArray.size).all fun i=>bs.getD i true)=bs.all fun b=>b:=by
   rw [List.size_toArray,hlen,Bool.eq_iff_iff,List.all_eq_true,List.all_eq_true]
   constructor
   ·intro z b hb
    obtain ⟨i,hi,rfl⟩:=List.mem_iff_getElem.mp hb
    have:=z i (List.mem_range.mpr hi)
    rw [List.getD_eq_getElem?_getD,List.getElem?_eq_getElem hi] at this
    exact this
   ·intro z i hi
    have hi':=List.mem_range.mp hi
    rw [List.getD_eq_getElem?_getD,List.getElem?_eq_getElem hi']
    exact z _ (List.getElem_mem hi')
  rw [e]
  refine ⟨.bl _,H,I.kept (t':=tk) fun b o eo=>hk b o (by
   intro z
   have:=List.mem_singleton.mp z
   subst this
   exact absurd (Heap.lt_size eo) (Nat.lt_irrefl _)) (Heap.get?_push_of_some _ eo),rfl,q⟩
end
def kitT (a b:String):Option Bool:=if (Value.type a == Value.type b)=true then some true else if PySem.W.kitMeta b=true then (fastBuiltinMro a).map (·.contains (.type b)) else none
theorem qa (K:PySem.W.Frag) (a b:String):PySem.W.kitOne K (.type a) (.type b)=kitT a b:=rfl
theorem uV (K:PySem.W.Frag):PySem.W.kitOne K (.type "int") (.type "bool")=some false:=(qa K _ _).trans (by decide +kernel)
theorem wY (K:PySem.W.Frag):PySem.W.kitOne K (.type "int") (.type "int")=some true:=(qa K _ _).trans (by decide +kernel)
theorem ub (K:PySem.W.Frag):PySem.W.kitOne K (.type "bool") (.type "bool")=some true:=(qa K _ _).trans (by decide +kernel)
theorem JN (K:PySem.W.Frag):PySem.W.kitOne K (.type "list") (.type "bool")=some false:=(qa K _ _).trans (by decide +kernel)
theorem Qt (K:PySem.W.Frag):PySem.W.kitOne K (.type "list") (.type "int")=some false:=(qa K _ _).trans (by decide +kernel)
theorem Qv (K:PySem.W.Frag):PySem.W.kitOne K (.type "list") (.type "str")=some false:=(qa K _ _).trans (by decide +kernel)
theorem ul (K:PySem.W.Frag):PySem.W.kitOne K (.type "list") (.type "list")=some true:=(qa K _ _).trans (by decide +kernel)
theorem yT (K:PySem.W.Frag):PySem.W.kitOne K (.type "list") (.type "tuple")=some false:=(qa K _ _).trans (by decide +kernel)
theorem hE (K:PySem.W.Frag):PySem.W.kitOne K (.type "tuple") (.type "bool")=some false:=(qa K _ _).trans (by decide +kernel)
theorem Jn (K:PySem.W.Frag):PySem.W.kitOne K (.type "tuple") (.type "int")=some false:=(qa K _ _).trans (by decide +kernel)
theorem Ji (K:PySem.W.Frag):PySem.W.kitOne K (.type "tuple") (.type "str")=some false:=(qa K _ _).trans (by decide +kernel)
theorem yX (K:PySem.W.Frag):PySem.W.kitOne K (.type "tuple") (.type "list")=some false:=(qa K _ _).trans (by decide +kernel)
theorem yA (K:PySem.W.Frag):PySem.W.kitOne K (.type "tuple") (.type "tuple")=some true:=(qa K _ _).trans (by decide +kernel)
def Ext (b:Addr) (H H':Hp):Prop:=∀ c o,H c=some o->c≠b->H' c=some o
theorem Ext.refl {b:Addr}{H:Hp}:Ext b H H:=fun _ _ h _=>h
theorem Ext.trans {b:Addr}{H H1 H2:Hp}(x:Ext b H H1) (y:Ext b H1 H2):Ext b H H2:=fun c o h n=>y c o (x c o h n) n
theorem Ext.of_same {b:Addr}{H H':Hp}(x:jj H H'):Ext b H H':=fun c o h _=>x c o h
theorem Ext.put {b:Addr}{H:Hp}{o:HO}:Ext b H (upd H b o):=fun c _ h n=>by rw [j5 n];exact h
theorem jj.new {H:Hp}{p:Addr}{o:HO}(n:H p=none):jj H (upd H p o):=fun c u h=>by rw [j5 (j1 h n)];exact h
theorem Ext.new {b:Addr}{H:Hp}{p:Addr}{o:HO}(n:H p=none):Ext b H (upd H p o):=Ext.of_same (jj.new n)
theorem Ext.free {b:Addr}{H H':Hp}(x:Ext b H H') {p:Addr}(h:H' p=none) (n:p≠b):H p=none:=by
 cases q:H p with
 | none=>rfl
 | some o=>rw [x p o q n] at h;cases h
end L2
end
section
namespace L2
open PySem PySem.Spec PyProof.Rows
section
variable {X:Cx}
theorem je (K:PySem.W.Frag) (h:X.K=K:=by rfl):IxR X (Gn K):=by subst h;exact VR
theorem qL (K:PySem.W.Frag) (h:X.K=K:=by rfl):IxR X (G5 K):=by subst h;exact Wf
theorem ji (K:PySem.W.Frag) (h:X.K=K:=by rfl):qJ X (.builtin "len") (fun xs H Q=>∃ p ys,xs=[.ref p]/\(SqL K H p ys\/SqT K H p ys)/\Q (.int ys.length) H):=by subst h;exact JS
theorem XA (K:PySem.W.Frag) (h:X.K=K:=by rfl):OpR X (compareOp .In) (rIn K false):=by subst h;exact Yk
theorem zJ (K:PySem.W.Frag) (h:X.K=K:=by rfl):OpR X (compareOp .NotIn) (rIn K true):=by subst h;exact Jx
theorem jQ (K:PySem.W.Frag) (h:X.K=K:=by rfl):qJ X (.builtin "isinstance") (fun xs H Q=>∃ x n t b,xs=[x,.ty n]/\TyOf K H x t/\PySem.W.kitOne K t (.type n)=some b/\Q (.bl b) H):=by subst h;exact QI
theorem zT (K:PySem.W.Frag) (hc:X.calm=true) (h:X.K=K:=by rfl):qJ X (.builtin "all") (fun xs H Q=>∃ (p:Addr) (bs:List Bool),xs=[.ref p]/\SqL K H p (bs.map V.bl)/\Q (.bl (bs.all fun b=>b)) H):=by subst h;exact YL hc
theorem jT {tg l:Expr}{tl:TE}(K:PySem.W.Frag) (hl:PE X l tl) (h:X.K=K:=by rfl):PI X tg l (UZ K tl):=by subst h;exact Uh hl
theorem ui {tg l:Expr}{tl:TE}(K:PySem.W.Frag) (hl:PE X l tl) (h:X.K=K:=by rfl):PI X tg l (GL K tl):=by subst h;exact Wb hl
theorem qk {es:List Expr}{k:Nat}{t:TGs}{n:Nat}{pos:Pos}(K:PySem.W.Frag) (hc:X.calm=true) (h:PGs X es t)
  (hn:(assignEach es X.env).length=n:=by rfl) (hst:(assignEach es X.env).findIdx? (·.1)=none:=by rfl) (hK:X.K=K:=by rfl):PG X (.Tuple es k pos) (E8 K n t):=by subst hK;exact WH hc h hn hst
theorem zM {T id:String}{name:Str}{r:V->List V->Hp->VK->Prop}{o e:Expr}{es:List Expr}{to:TE}{t:TA}{apos cpos:Pos}(K:PySem.W.Frag) (pa:PlainAttrs T) (slot:Slot T name id) (hty:typeOf (.builtin id)=pure (.type "method_descriptor")) (hm:MtR X id r) (ho:PE X o to) (ha:PA X (e::es) t)
  (hbase:attributeBase o name X.env (eval o X.env)=eval o X.env:=by rfl)
  (hfew:((backTo cpos (starEach (e::es) X.env)).all (fun x=>!x.1) && (backToKw cpos (keywordEach [] X.env)).all (fun x=>x.1.isSome)
   && decide ((e::es).length+([]:List Keyword).length+(if ([]:List Keyword).isEmpty then 0 else 1)<30))=true:=by rfl)
  (hline:(apos.endLine == cpos.line)=true:=by rfl) (hs:starEach (e::es) X.env=(false,eval e X.env)::starEach es X.env:=by rfl) (hplain:(backTo cpos (starEach es X.env)).any (·.1)=false:=by rfl) (hK:X.K=K:=by rfl) :
  PE X (.Call (.Attribute o name apos) (e::es) [] cpos) (tBM K T r to t):=by subst hK;exact GB pa slot hty hm ho ha hbase hfew hline hs hplain
end
def New (H:Hp) (o:HO) (Q:VK):Prop:=∀ p H',H p=none->H' p=some o->jj H H'->Q (.ref p) H'
theorem New.at {H:Hp}{o:HO}{Q:VK}(h:New H o Q):∀ p,H p=none->Q (.ref p) (upd H p o):=fun p n=>h p _ n j6 (jj.new n)
section
variable {X:Cx}{es:List Expr}{t:TA}{pos:Pos}
def GJ (t:TA):TE:=fun σ H Q=>t σ H fun xs H1=>xs.length<=sizeLine/\New H1 (.tup xs) Q
def GK (t:TA):TE:=fun σ H Q=>t σ H fun xs H1=>xs.length<=sizeLine/\New H1 (.lst xs) Q
theorem qm {x1}(h:PA X es t):PE X (.Tuple es x1 pos) (GJ t):=by
 intro pins s σ H Q I hq
 refine wpAny_Tuple_spliced (thn (h pos pins s σ H _ I hq) fun us s1 ⟨xs,H1,I1,r,z,q⟩=>⟨by rw [<- r.length];exact z,?_⟩)
 have hf:H1 s1.heap.objs.size=none:=I1.hok.fresh (Nat.le_refl _)
 refine ⟨.ref s1.heap.objs.size,upd H1 s1.heap.objs.size (.tup xs),I1.laid (t':=s1.toks) (fun b u e=>Heap.get?_push_of_some _ e) (Nat.le_refl _) ?_,rfl,q.at _ hf⟩
 exact ⟨z,us,r,⟨_,Heap.get?_push_size _ rfl,rfl,_,rfl⟩⟩
theorem jL (h:PA X es t):PE X (.List es pos) (GK t):=by
 intro pins s σ H Q I hq
 refine wpAny_List_spliced (thn (h pos pins s σ H _ I hq) fun us s1 ⟨xs,H1,I1,r,z,q⟩=>⟨by rw [<- r.length];exact z,?_⟩)
 have hf:H1 s1.heap.objs.size=none:=I1.hok.fresh (Nat.le_refl _)
 refine ⟨.ref s1.heap.objs.size,upd H1 s1.heap.objs.size (.lst xs),I1.laid (t':=s1.toks) (fun b u e=>Heap.get?_push_of_some _ e) (Nat.le_refl _) ?_,rfl,q.at _ hf⟩
 exact ⟨z,us,0,r,Heap.get?_push_size _ rfl⟩
theorem OpR.weak {f:Value->Value->Sem Value}{r r':R2}(h:OpR X f r) (w:∀ x y H Q,r' x y H Q->r x y H Q):OpR X f r':=fun pins s σ H x y v u Q I rx ry q=>h pins s σ H x y v u Q I rx ry (w _ _ _ _ q)
theorem qJ.weak {f:Value}{r r':List V->Hp->VK->Prop}(h:qJ X f r) (w:∀ x H Q,r' x H Q->r x H Q):qJ X f r':=fun pins s σ H xs us Q I rx q=>h pins s σ H xs us Q I rx (w _ _ _ q)
theorem SlR.weak {r r':V->Option Int->Option Int->Hp->VK->Prop}(h:SlR X r) (w:∀ x lo hi H Q,r' x lo hi H Q->r x lo hi H Q):SlR X r':=fun pins s σ H x v vl vu lo hi sl Q I rx hs pl pu q=>h pins s σ H x v vl vu lo hi sl Q I rx hs pl pu (w _ _ _ _ _ q)
def GF:R2:=fun x y H Q=>∃ l b xs zs,x = .ref l/\y = .ref b/\H l=some (.lst xs)/\H b=some (.lst zs)/\xs.length+zs.length<=sizeLine/\New H (.lst (xs++zs)) Q
theorem vJ:OpR X (binaryOp .Add) GF:=G4.weak fun _ _ _ _ ⟨l,b,xs,zs,h1,h2,h3,h4,h5,q⟩=>⟨l,b,xs,zs,h1,h2,h3,h4,h5,q.at⟩
theorem qw (K:PySem.W.Frag) (h:X.K=K:=by rfl):qJ X (.type "list") (fun xs H Q=>∃ p ys,xs=[.ref p]/\(SqL K H p ys\/SqT K H p ys)/\New H (.lst ys) Q):=by
 subst h
 exact JO.weak fun _ _ _ ⟨p,ys,h1,h2,q⟩=>⟨p,ys,h1,h2,q.at⟩
theorem uM (K:PySem.W.Frag) (h:X.K=K:=by rfl):SlR X (fun x lo hi H Q=>∃ a xs,x = .ref a/\SqL K H a xs/\New H (.lst (wf xs lo hi)) Q):=by
 subst h
 exact Uo.weak fun _ _ _ _ _ ⟨a,xs,h1,h2,q⟩=>⟨a,xs,h1,h2,q.at⟩
end
theorem qB {p A B:Prop} [Decidable p] (h1:p->A) (h2:¬ p->B):if decide p=true then A else B:=by
 by_cases h:p
 ·rw [if_pos (decide_eq_true h)];exact h1 h
 ·rw [if_neg (by rw [decide_eq_false h];exact Bool.false_ne_true)];exact h2 h
theorem ya {p A B:Prop} [Decidable p] (h1:¬ p->A) (h2:p->B):if (!decide p)=true then A else B:=by
 by_cases h:p
 ·rw [if_neg (by rw [decide_eq_true h];exact Bool.false_ne_true)];exact h2 h
 ·rw [if_pos (by rw [decide_eq_false h];rfl)];exact h1 h
theorem qW {α:Type}{xs:List α}{i:Int}{v:α}(h0:0<=i) (h:xs[i.toNat]? = some v):atI xs i=some v:=by
 obtain ⟨n,rfl⟩:=Int.eq_ofNat_of_zero_le h0
 exact zB (by simpa using h)
theorem wK {ns:List Int}{i:Int}(h0:0<=i) (h:i<ns.length):∃ z,atI (ns.map V.int) i=some (.int z):=by
 refine ⟨ns[i.toNat]'(by omega),qW h0 ?_⟩
 rw [List.getElem?_map,List.getElem?_eq_getElem (by omega)]
 rfl
theorem yw {ns:List Int}{i:Nat}{y:V}(h:(ns.map V.int)[i]? = some y):∃ z,y=V.int z:=by
 rw [List.getElem?_map] at h
 cases e:ns[i]? with
 | none=>rw [e] at h;cases h
 | some z=>rw [e] at h;exact ⟨z,(Option.some.inj h).symm⟩
def Zd:Sp:=fun vs H Q _=>∃ a b:Int,vs=[.int a,.int b]/\∀ r:Int,Q (.int r) H
def Z9:Sp:=fun vs H Q _=>∃ i:Int,vs=[.int i]/\Q (.bl true) H
structure Nb (mg:Str->Option Value):Prop where
 b_len:mg "len" = none
 b_range:mg "range" = none
 b_isinstance:mg "isinstance" = none
 b_int:mg "int" = none
 b_bool:mg "bool" = none
 b_str:mg "str" = none
 b_list:mg "list" = none
 b_tuple:mg "tuple" = none
 b_min:mg "min" = none
 b_max:mg "max" = none
 b_all:mg "all" = none
 b_zip:mg "zip" = none
end L2
end
section
namespace L2
open PySem PySem.Spec PyProof.Rows
mutual
inductive Rep (M:Addr->Prop) (K:PySem.W.Frag) (H:Hp):V->PyData->Prop
 | non:Rep M K H .non .none
 | bl (b:Bool):Rep M K H (.bl b) (.bool b)
 | int (i:Int):Rep M K H (.int i) (.int i)
 | str (x:Str):Rep M K H (.str x) (.str x)
 | tup {p:Addr} {vs:List V} {ds:List PyData}:¬ M p->SqT K H p vs->RepL M K H vs ds->Rep M K H (.ref p) (.tuple ds)
 | lst {p:Addr} {vs:List V} {ds:List PyData}:¬ M p->SqL K H p vs->RepL M K H vs ds->Rep M K H (.ref p) (.list ds)
inductive RepL (M:Addr->Prop) (K:PySem.W.Frag) (H:Hp):List V->List PyData->Prop
 | nil:RepL M K H [] []
 | cons {v:V} {vs:List V} {d:PyData} {ds:List PyData}:Rep M K H v d->RepL M K H vs ds->RepL M K H (v::vs) (d::ds)
end
def YJ (M:Addr->Prop) (H H':Hp):Prop:=∀ c o,H c=some o->¬ M c->H' c=some o
theorem YJ.of_same {M:Addr->Prop}{H H':Hp}(x:jj H H'):YJ M H H':=fun c o h _=>x c o h
theorem RepL.of_ints {M:Addr->Prop}{K:PySem.W.Frag}{H:Hp}:∀ (ns:List Int),RepL M K H (ns.map V.int) (ns.map PyData.int)
 | []=>.nil
 | n::ns=>.cons (.int n) (RepL.of_ints ns)
theorem Rep.reads_all {X:Cx}{pins:List (Addr×Obj)}{σ:St}{H:Hp}{s:Shared}{M:Addr->Prop}(I:Inv X pins σ H s) {vs:List V}{ds:List PyData}(h:RepL M X.K H vs ds) :
  ∀ {us:List Value},jz vs us->∃ as,ReadsAll s.heap us ds as:=by
 refine RepL.rec (M:=M) (K:=X.K) (H:=H) (motive_1:=fun v d _=>∀ u,jB v u->∃ as,Reads s.heap u d as) (motive_2:=fun vs ds _=>∀ {us:List Value},jz vs us->∃ as,ReadsAll s.heap us ds as)
  ?_ ?_ ?_ ?_ ?_ ?_ ?_ ?_ h
 ·intro u r;cases r;exact ⟨_,Reads.none⟩
 ·intro b u r;cases r;exact ⟨_,Reads.bool b⟩
 ·intro i u r;obtain ⟨t,rfl⟩:=r;exact ⟨_,Reads.int i t⟩
 ·intro x u r;obtain ⟨t,rfl⟩:=r;exact ⟨_,Reads.str x t⟩
 ·intro p vs ds n hq _ ih u r
  cases r
  obtain ⟨its,rv,⟨o,e,c,k,d⟩,_⟩:=I.tuple hq
  obtain ⟨as,q⟩:=ih rv
  exact ⟨as,reads_tuple_at e c d (by simpa using q)⟩
 ·intro p vs ds n hq _ ih u r
  cases r
  obtain ⟨its,rv,⟨o,k,e,c,_,d⟩,_⟩:=I.list hq
  obtain ⟨as,q⟩:=ih rv
  exact ⟨_,reads_list_at e c d (by simpa using q)⟩
 ·intro us r;cases r;exact ⟨_,ReadsAll.nil⟩
 ·intro v vs d ds _ _ ih1 ih2 us r
  cases r with
  | cons r1 r2 =>
   obtain ⟨as,q⟩:=ih1 _ r1
   obtain ⟨bs,q2⟩:=ih2 r2
   exact ⟨_,ReadsAll.cons q q2⟩
theorem Rep.reads {X:Cx}{pins:List (Addr×Obj)}{σ:St}{H:Hp}{s:Shared}{M:Addr->Prop}(I:Inv X pins σ H s) {v:V}{d:PyData}{u:Value}(h:Rep M X.K H v d) (r:jB v u):∃ as,Reads s.heap u d as:=by
 obtain ⟨as,q⟩:=Rep.reads_all I (RepL.cons h .nil) (Paired.cons r .nil)
 cases q with
 | cons q1 q2=>exact ⟨_,q1⟩
section
variable {X:Cx}
def GT (K:PySem.W.Frag):R2:=fun x y H Q=>∃ (M M':Addr->Prop) (d e:PyData),Rep M K H x d/\Rep M' K H y e/\SeqAt.shaped d=true/\SeqAt.shaped e=true/\Q (.bl (PyData.eqv d e)) H
theorem Wv (hu:X.A.units+64<cLine):OpR X (compareOp .Eq) (GT X.K):=by
 intro pins s σ H x y v u Q I rx ry h
 obtain ⟨M,M',d,e,h1,h2,s1,s2,q⟩:=h
 obtain ⟨as,r1⟩:=h1.reads I rx
 obtain ⟨bs,r2⟩:=h2.reads I ry
 exact eq_dataH r1 r2 s1 s2 hu ⟨.bl _,H,I,rfl,q⟩
end
end L2
end
section
namespace L2
open PySem PySem.Spec PyProof.Rows
def tCut (t u:TS):TS:=fun D σ H=>∃ P:St->Hp->Prop,t { D with nx:=P } σ H/\∀ σ' H',P σ' H'->u D σ' H'
theorem vQ {X:Cx}{st:Stmt}{vw:List Stmt}{t u:TS}(h1:PS X st t) (h2:PSs X vw u):PSs X (st::vw) (tCut t u):=by
 intro pins s σ H D I h
 obtain ⟨P,h,hP⟩:=h
 refine wpAny_execs_cons (thn (h1 pins s σ H { D with nx:=P } I h) fun f s1 q=>?_)
 cases f with
 | next =>
  obtain ⟨σ',H',I',q⟩:=q
  exact h2 pins s1 σ' H' D I' (hP _ _ q)
 | ret v=>exact q
 | brk=>exact q
 | cont=>exact q
section
variable {X:Cx}
end
theorem U9 {X:Cx}(K:PySem.W.Frag) (hu:X.A.units+64<cLine) (h:X.K=K:=by rfl):OpR X (compareOp .Eq) (GT K):=by subst h;exact Wv hu
def qd (L:Addr) (H:Hp) (b:Addr):Prop:=∃ (ns:List Int) (a r c d:Int),H b=some (.lst [.ref L,.int a,.int r,.int c,.int d])/\L≠b/\H L=some (.lst (ns.map V.int))/\0<=a
theorem qd.same {L:Addr}{H H':Hp}{b:Addr}(B:qd L H b) (s:jj H H'):qd L H' b:=by
 obtain ⟨ns,a,r,c,d,h1,h2,h3,h4⟩:=B
 exact ⟨ns,a,r,c,d,s _ _ h1,h2,s _ _ h3,h4⟩
theorem qd.ext {L:Addr}{H H':Hp}{b acc:Addr}(B:qd L H b) (n:acc≠b) (m:acc≠L) (e:Ext acc H H'):qd L H' b:=by
 obtain ⟨ns,a,r,c,d,h1,h2,h3,h4⟩:=B
 exact ⟨ns,a,r,c,d,e _ _ h1 n.symm,h2,e _ _ h3 m.symm,h4⟩
theorem qd.put {L:Addr}{H:Hp}{b acc:Addr}{o:HO}(B:qd L H b) (n:acc≠b) (m:acc≠L):qd L (upd H acc o) b:=B.ext n m Ext.put
theorem qd.ne {L:Addr}{H:Hp}{b p:Addr}(B:qd L H b) (n:H p=none):p≠b:=by
 obtain ⟨ns,a,r,c,d,h1,h2,h3,h4⟩:=B
 exact (j1 h1 n).symm
theorem qd.neL {L:Addr}{H:Hp}{b p:Addr}(B:qd L H b) (n:H p=none):p≠L:=by
 obtain ⟨ns,a,r,c,d,h1,h2,h3,h4⟩:=B
 exact (j1 h3 n).symm
theorem qd.ne_tup {L:Addr}{H:Hp}{b p:Addr}{xs:List V}(B:qd L H b) (n:H p=some (.tup xs)):p≠b:=by
 obtain ⟨ns,a,r,c,d,h1,h2,h3,h4⟩:=B
 exact jp n h1 (by intro z;cases z)
def zd:Sp:=fun vs H Q _=>∃ (L b:Addr) (n:Int),vs=[.ref b,.int n]/\qd L H b/\(0<n/\n<2 ^ 200)/\∀ (v:Int) (H':Hp),0<=v->v<n->qd L H' b->Ext b H H'->Q (.int v) H'
def Vp (K:PySem.W.Frag):Sp:=fun vs H Q _=>∃ (a:Addr) (ns:List Int),vs=[.ref a]/\SqL K H a (ns.map V.int)/\∀ (L b:Addr) (H':Hp),H b=none->qd L H' b->jj H H'->Q (.ref b) H'
abbrev T3:=Int×Int×Int
abbrev y3 (t:T3):HO:=.tup [.int t.1,.int t.2.1,.int t.2.2]
def UD (H:Hp) (v:V) (t:T3):Prop:=∃ p,v = .ref p/\H p=some (y3 t)
def jo (H:Hp) (vs:List V) (ts:List T3):Prop:=Paired (UD H) vs ts
theorem jo.length {H:Hp}{vs:List V}{ts:List T3}(r:jo H vs ts):vs.length=ts.length:=Paired.length r
theorem jo.get {H:Hp}:∀ {vs:List V}{ts:List T3}{i:Nat}{v:V},jo H vs ts->vs[i]? = some v->∃ t,ts[i]? = some t/\UD H v t
 | _,_,_,_,.nil,e=>by simp at e
 | _,_,0,_,.cons r _,e=>by simp at e;subst e;exact ⟨_,rfl,r⟩
 | _,_,i+1,v,.cons _ t,e=>by
  obtain ⟨d,h1,h2⟩:=jo.get (i:=i) (v:=v) t (by simpa using e)
  exact ⟨d,by simpa using h1,h2⟩
theorem jo.imp {H H':Hp}{vs:List V}{ts:List T3}(r:jo H vs ts) (h:∀ p t,H p=some (y3 t)->H' p=some (y3 t)):jo H' vs ts :=
 Paired.mapP r fun _ t ⟨p,e,q⟩=>⟨p,e,h p t q⟩
theorem jo.snoc {H:Hp}{vs:List V}{ts:List T3}{v:V}{t:T3}(r:jo H vs ts) (h:UD H v t):jo H (vs++[v]) (ts++[t]):=Paired.snoc r h
theorem qv {α β:Type}(f:α->β) (l:List α) (i:Nat) (v:α) (h:l[i]? = some v):(l.take (i+1)).map f=(l.take i).map f++[f v]:=by
 rw [List.take_add_one,h,List.map_append]
 rfl
def YH (t:T3):PyData:=.tuple [.int t.1,.int t.2.1,.int t.2.2]
end L2
end
section
namespace L2
open PySem PySem.W PyProof.Rows
def qP {α:Type}(lt:Nat->Nat->Bool) (n:Nat):KasT α->(α->Prop)->Prop
 | .ret a,G=>G a
 | .ask i j k,G=>i<n/\j<n/\qP lt n (k (lt i j)) G
theorem qP.bind {α β:Type}{lt:Nat->Nat->Bool}{n:Nat}{f:α->KasT β}{G:β->Prop}:∀ {t:KasT α},qP lt n t (fun a=>qP lt n (f a) G)->qP lt n (t.bind f) G
 | .ret _,h=>h
 | .ask _ _ k,h=>⟨h.1,h.2.1,qP.bind (t:=k _) h.2.2⟩
theorem qP.wp {α:Type}{lt:Nat->Nat->Bool}{n:Nat}{cmp:Nat->Nat->(Bool->Shared->Prop)->Shared->Prop}{I:Shared->Prop}(hc:∀ i j C s,i<n->j<n->I s->(∀ s',I s'->C (lt i j) s')->cmp i j C s)
  {G:α->Prop} {Q:α->Shared->Prop} (hq:∀ a s,G a->I s->Q a s):∀ {t:KasT α} {s:Shared},qP lt n t G->I s->t.kasWp cmp Q s
 | .ret a,s,h,hs=>hq a s h hs
 | .ask i j k,s,h,hs=>hc i j _ s h.1 h.2.1 hs fun s' hs'=>qP.wp hc hq (t:=k _) h.2.2 hs'
section
variable {O:KeyOrd}{key:Nat->O.α}{n:Nat}{p:Array Nat}
abbrev ltK (O:KeyOrd) (key:Nat->O.α):Nat->Nat->Bool:=fun i j=>O.blt (key i) (key j)
abbrev kp (key:Nat->O.α) (p:Array Nat) (i:Nat):O.α:=key (p.getD i 0)
def zh (key:Nat->O.α) (p:Array Nat) (k:Nat):Prop:=∀ i j,i<=j->j<k->O.kle (kp key p i) (kp key p j)
def kM (key:Nat->O.α) (p:Array Nat) (k:Nat):Prop:=∀ i j,i<=j->j<k->O.kle (kp key p j) (kp key p i)
def qi (n:Nat) (p:Array Nat):Prop:=p.Perm (List.range n).toArray
theorem qi.size (h:qi n p):p.size=n:=by have:=h.size_eq;simpa using this
theorem qi.lt (h:qi n p) (hn:0<n) (i:Nat):p.getD i 0<n:=by
 by_cases hi:i<p.size
 ·have e:p.getD i 0=p[i]:=by simp [Array.getD,hi]
  rw [e]
  have hm:p[i]∈(List.range n).toArray.toList:=(Array.perm_iff_toList_perm.mp h).mem_iff.mp (by simp)
  simpa using hm
 ·have e:p.getD i 0=0:=by simp [Array.getD,hi]
  rw [e];exact hn
theorem zj {p q:Array Nat}{i j:Nat}(h:p[i]? = q[j]?):p.getD i 0=q.getD j 0:=by
 rw [Array.getD_eq_getD_getElem?,Array.getD_eq_getD_getElem?,h]
theorem J8 {src d:Nat}(hs:src<p.size) (hd:d<=src) (k:Nat) :
  kp (O:=O) key (bubble p src d) k=if k=src-d then kp key p src else if src-d<k/\k<=src then kp key p (k-1) else kp key p k:=by
 have e:=getElem?_bubble hs d hd k
 unfold kp
 by_cases h1:k=src-d
 ·rw [if_pos h1] at e ⊢;rw [zj e]
 ·rw [if_neg h1] at e ⊢
  by_cases h2:src-d<k/\k<=src
  ·rw [if_pos h2] at e ⊢;rw [zj e]
  ·rw [if_neg h2] at e ⊢;rw [zj e]
theorem Xq {i j:Nat}(hj:j<=p.size) (k:Nat):kp (O:=O) key (kas_rev p i j) k=if i<=k/\k<j then kp key p (i+j-1-k) else kp key p k:=by
 have e:=getElem?_mirror_all (i:=i) hj k
 unfold kp kas_rev
 by_cases h1:i<=k/\k<j
 ·rw [if_pos h1] at e ⊢;rw [zj e]
 ·rw [if_neg h1] at e ⊢;rw [zj e]
theorem xx {i j:Nat}(hj:j<=p.size) (heq:∀ k,i<=k->k<j->kp (O:=O) key p k=kp key p (j-1)) (k:Nat):kp (O:=O) key (kas_rev p i j) k=kp key p k:=by
 rw [Xq hj]
 split
 ·rw [heq _ (by omega) (by omega),heq k (by omega) (by omega)]
 ·rfl
theorem qi.rev (h:qi n p) (i j:Nat):qi n (kas_rev p i j):=(mirror_perm _ _ _ _).trans h
theorem qi.bub (h:qi n p) (i j:Nat):qi n (bubble p i j):=(bubble_perm _ _ _).trans h
theorem JJ (hP:qi n p) (hn:0<n) {G:Nat->Prop}:∀ (f a:Nat),1<=a->zh (O:=O) key p a ->
  (∀ m,a<=m->m<=a+f->zh (O:=O) key p m->(m=a+f\/O.klt (kp key p m) (kp key p (m-1)))->G m)->qP (ltK O key) n (kas_asc p f a) G
 | 0,a,_,hs,h=>h a (Nat.le_refl _) (Nat.le_refl _) hs (.inl rfl)
 | f+1,a,h1,hs,h=>by
  refine ⟨hP.lt hn _,hP.lt hn _,?_⟩
  show qP _ _ (if O.blt (kp key p a) (kp key p (a-1))=true then _ else _) _
  cases hless:O.blt (kp key p a) (kp key p (a-1)) with
  | true=>rw [if_pos rfl];exact h a (Nat.le_refl _) (by omega) hs (.inr hless)
  | false =>
   rw [if_neg Bool.false_ne_true]
   refine JJ hP hn f (a+1) (by omega) (fun i j hij hj=>?_) fun m hm1 hm2 hsm ho=>h m (by omega) (by omega) hsm (ho.imp (fun z=>(by omega)) id)
   by_cases hja:j<a
   ·exact hs i j hij hja
   ·have hj':j=a:=by omega
    subst hj'
    by_cases hi':i=j
    ·subst hi';exact KeyOrd.kle_refl _
    ·exact KeyOrd.kle_trans (hs i (j-1) (by omega) (by omega)) hless
theorem gv (hP:qi n p) {m nrem:Nat}{G:Nat×Array Nat->Prop}(h1:1<=m) (hm:m<=nrem) (hn:nrem<=n) (hs:kM (O:=O) key p m)
  (h:∀ k p',qi n p'->1<=k->k<=nrem->zh (O:=O) key p' k->G (k,p')):qP (ltK O key) n (kas_tail3 m nrem p) G:=by
 have hsz:m<=p.size:=by rw [hP.size];omega
 refine qP.bind (JJ (hP.rev _ _) (by omega) _ m h1 (fun i j hij hj=>?_) fun k hk1 hk2 hk3 _=>h k _ (hP.rev _ _) (by omega) (by omega) hk3)
 rw [Xq hsz,Xq hsz,if_pos (by omega),if_pos (by omega)]
 exact hs _ _ (by omega) (by omega)
theorem vN {nrem:Nat}(hn:nrem<=n) {G:Array Nat×Nat×Nat->Prop}:∀ (f:Nat) (p:Array Nat) (x q:Nat),qi n p->1<=x->x+f=nrem->kM (O:=O) key p x->q+1<=x ->
  (∀ i,x-(q+1)<=i->i<x->kp (O:=O) key p i=kp key p (x-1)) ->
  (∀ p' m q',qi n p'->x<=m->m<=nrem->kM (O:=O) key p' m->q'+1<=m->(∀ i,m-(q'+1)<=i->i<m->kp (O:=O) key p' i=kp key p' (m-1))->G (p',m,q')) ->
  qP (ltK O key) n (kas_desc f p x q) G
 | 0,p,x,q,hP,h1,hx,hs,hq,he,h=>h p x q hP (Nat.le_refl _) (by omega) hs hq he
 | f+1,p,x,q,hP,h1,hx,hs,hq,he,h=>by
  have hsz:x<=p.size:=by rw [hP.size];omega
  refine ⟨hP.lt (by omega) _,hP.lt (by omega) _,?_⟩
  show qP _ _ (if O.blt (kp key p x) (kp key p (x-1))=true then _ else _) _
  cases hless:O.blt (kp key p x) (kp key p (x-1)) with
  | true =>
   rw [if_pos rfl]
   have step1:∀ p':Array Nat,(∀ k,kp (O:=O) key p' k=kp key p k)->kM (O:=O) key p' (x+1):=by
    intro p' hk i j hij hj
    rw [hk,hk]
    by_cases hjx:j<x
    ·exact hs i j hij hjx
    ·have hj':j=x:=by omega
     subst hj'
     by_cases hi':i=j
     ·subst hi';exact KeyOrd.kle_refl _
     ·exact KeyOrd.kle_trans (KeyOrd.kle_of_klt hless) (hs i (j-1) (by omega) (by omega))
   by_cases hneq:q > 0
   ·rw [if_pos hneq]
    exact vN hn f _ (x+1) 0 (hP.rev _ _) (by omega) (by omega) (step1 _ (xx hsz he)) (by omega) (fun i h1 h2=>by congr 1;omega) fun p' m q' a b=>h p' m q' a (by omega)
   ·rw [if_neg hneq]
    exact vN hn f _ (x+1) 0 hP (by omega) (by omega) (step1 _ fun _=>rfl) (by omega) (fun i h1 h2=>by congr 1;omega) fun p' m q' a b=>h p' m q' a (by omega)
  | false =>
   rw [if_neg Bool.false_ne_true]
   refine ⟨hP.lt (by omega) _,hP.lt (by omega) _,?_⟩
   show qP _ _ (if O.blt (kp key p (x-1)) (kp key p x)=true then _ else _) _
   cases hlarger:O.blt (kp key p (x-1)) (kp key p x) with
   | true=>rw [if_pos rfl];exact h p x q hP (Nat.le_refl _) (by omega) hs hq he
   | false =>
    rw [if_neg Bool.false_ne_true]
    have heqx:kp (O:=O) key p x=kp key p (x-1):=KeyOrd.kle_antisymm hlarger hless
    refine vN hn f p (x+1) (q+1) hP (by omega) (by omega) (fun i j hij hj=>?_) (by omega) (fun i h1 h2=>?_) fun p' m q' a b=>h p' m q' a (by omega)
    ·by_cases hjx:j<x
     ·exact hs i j hij hjx
     ·have hj':j=x:=by omega
      subst hj'
      by_cases hi':i=j
      ·subst hi';exact KeyOrd.kle_refl _
      ·rw [heqx];exact hs i (j-1) (by omega) (by omega)
    ·rw [show x+1-1=x by omega]
     by_cases hix:i=x
     ·subst hix;rfl
     ·rw [heqx];exact he i (by omega) (by omega)
theorem ua (hP:qi n p) {m nrem:Nat}{G:Nat×Array Nat->Prop}(hm:m+1<=nrem) (hn:nrem<=n) (hs:kM (O:=O) key p (m+1))
  (h:∀ k p',qi n p'->1<=k->k<=nrem->zh (O:=O) key p' k->G (k,p')):qP (ltK O key) n (kas_descPart m nrem p) G:=by
 refine qP.bind (vN hn _ p (m+1) 0 hP (by omega) (by omega) hs (by omega) (fun i h1 h2=>by congr 1;omega) fun p' k q hP' hk1 hk2 hs' hq he=>?_)
 have hsz:k<=p'.size:=by rw [hP'.size];omega
 show qP _ _ (if q > 0 then kas_tail3 k nrem (kas_rev p' (k-(q+1)) k) else kas_tail3 k nrem p') _
 by_cases hneq:q > 0
 ·rw [if_pos hneq]
  refine gv (hP'.rev _ _) (by omega) hk2 hn (fun i j hij hj=>?_) h
  rw [xx hsz he,xx hsz he]
  exact hs' i j hij hj
 ·rw [if_neg hneq]
  exact gv hP' (by omega) hk2 hn hs' h
theorem Yi (hP:qi n p) (hn:0<n) {G:Nat×Array Nat->Prop}(h:∀ k p',qi n p'->1<=k->k<=n->zh (O:=O) key p' k->G (k,p')):qP (ltK O key) n (kas_count n p) G:=by
 refine qP.bind (JJ hP hn _ 1 (Nat.le_refl 1) (fun i j hij hj=>by have:i=j:=(by omega);subst this;exact KeyOrd.kle_refl _) fun m hm1 hm2 hsm hor=>?_)
 by_cases hnn:m=n
 ·rw [if_pos (by simpa using hnn)]
  exact h m p hP hm1 (by omega) hsm
 ·rw [if_neg (by simpa using hnn)]
  have hlt:O.klt (kp key p m) (kp key p (m-1)):=by
   rcases hor with z | z
   ·omega
   ·exact z
  by_cases hgt:m > 1
  ·rw [if_pos hgt]
   refine ⟨hP.lt hn _,hP.lt hn _,?_⟩
   show qP _ _ (if O.blt (kp key p 0) (kp key p (m-1))=true then _ else _) _
   cases hrose:O.blt (kp key p 0) (kp key p (m-1)) with
   | true=>rw [if_pos rfl];exact h m p hP hm1 (by omega) hsm
   | false =>
    rw [if_neg Bool.false_ne_true]
    have hsz:m<=p.size:=by rw [hP.size];omega
    have hall:∀ k,0<=k->k<m->kp (O:=O) key p k=kp key p (m-1):=by
     intro k _ hk
     have a1:=hsm 0 k (by omega) hk
     have a2:=hsm k (m-1) (by omega) (by omega)
     exact KeyOrd.kle_antisymm a2 (KeyOrd.kle_trans hrose a1)
    refine ua (hP.rev _ _) (by omega) (Nat.le_refl _) (fun i j hij hj=>?_) h
    rw [xx hsz hall,xx hsz hall]
    by_cases hjn:j<m
    ·rw [hall i (by omega) (by omega),hall j (by omega) hjn];exact KeyOrd.kle_refl _
    ·have hj':j=m:=by omega
     subst hj'
     by_cases hi':i=j
     ·subst hi';exact KeyOrd.kle_refl _
     ·rw [hall i (by omega) (by omega)];exact KeyOrd.kle_of_klt hlt
  ·rw [if_neg hgt]
   have hm1':m=1:=by omega
   subst hm1'
   refine ua hP (by omega) (Nat.le_refl _) (fun i j hij hj=>?_) h
   by_cases hi':i=j
   ·subst hi';exact KeyOrd.kle_refl _
   ·have hi0:i=0:=by omega
    have hj1:j=1:=by omega
    subst hi0;subst hj1
    exact KeyOrd.kle_of_klt hlt
theorem uN (hP:qi n p) (hn:0<n) {k:Nat}(hs:zh (O:=O) key p k) {G:Nat->Prop}:∀ (f l r:Nat),l<=r->r<=k->r-l<=f ->
  (∀ i,i<l->O.kle (kp key p i) (kp key p k))->(∀ i,r<=i->i<k->O.klt (kp key p k) (kp key p i)) ->
  (∀ l,l<=k->(∀ i,i<l->O.kle (kp key p i) (kp key p k))->(∀ i,l<=i->i<k->O.klt (kp key p k) (kp key p i))->G l)->qP (ltK O key) n (kas_place p k f l r) G
 | 0,l,r,hlr,hrk,hm,hlo,hhi,h=>by
  have:l=r:=by omega
  subst this
  exact h l hrk hlo hhi
 | f+1,l,r,hlr,hrk,hm,hlo,hhi,h=>by
  unfold kas_place
  by_cases hge:l>=r
  ·rw [if_pos hge]
   have:l=r:=by omega
   subst this
   exact h l hrk hlo hhi
  ·rw [if_neg hge]
   refine ⟨hP.lt hn _,hP.lt hn _,?_⟩
   show qP _ _ (if O.blt (kp key p k) (kp key p ((l+r) / 2))=true then _ else _) _
   cases hless:O.blt (kp key p k) (kp key p ((l+r) / 2)) with
   | true =>
    rw [if_pos rfl]
    exact uN hP hn hs f l _ (by omega) (by omega) (by omega) hlo (fun i h1 h2=>KeyOrd.klt_of_klt_of_kle hless (hs _ _ h1 h2)) h
   | false =>
    rw [if_neg Bool.false_ne_true]
    exact uN hP hn hs f _ r (by omega) (by omega) (by omega) (fun i h1=>KeyOrd.kle_trans (hs i ((l+r) / 2) (by omega) (by omega)) (show O.kle _ _ from hless)) hhi h
theorem Zn (hn:0<n) {G:Array Nat->Prop}:∀ (f:Nat) (p:Array Nat) (k:Nat),qi n p->k+f=n->zh (O:=O) key p k ->
  (∀ p',qi n p'->zh (O:=O) key p' n->G p')->qP (ltK O key) n (kas_bin f p k) G
 | 0,p,k,hP,hk,hs,h=>h p hP (by rw [<- hk];exact hs)
 | f+1,p,k,hP,hk,hs,h=>by
  refine qP.bind (uN hP hn hs k 0 k (Nat.zero_le _) (Nat.le_refl _) (by omega) (fun i hi=>by omega) (fun i h1 h2=>by omega) fun l hlk hlo hhi=>?_)
  refine Zn hn f _ (k+1) (hP.bub _ _) (by omega) (fun i j hij hj=>?_) h
  have hks:k<p.size:=by rw [hP.size];omega
  rw [J8 hks (by omega),J8 hks (by omega),show k-(k-l)=l by omega]
  repeat' split
  all_goals first
   | (exfalso;omega)
   | exact KeyOrd.kle_refl _
   | exact hlo _ (by omega)
   | exact KeyOrd.kle_of_klt (hhi _ (by omega) (by omega))
   | exact hs _ _ (by omega) (by omega)
theorem ku (hn:0<n) {G:Array Nat->Prop}(h:∀ p',qi n p'->zh (O:=O) key p' n->G p'):qP (ltK O key) n (kas_sort n) G:=by
 refine qP.bind (Yi (Array.Perm.refl _) hn fun k p' hP h1 hk hs=>?_)
 show qP _ _ (if k<n then kas_bin (n-max k 1) p' (max k 1) else .ret p') _
 by_cases hkn:k<n
 ·rw [if_pos hkn,show max k 1=k by omega]
  exact Zn hn _ p' k hP (by omega) hs h
 ·rw [if_neg hkn]
  have e:k=n:=by omega
  subst e
  exact h p' hP hs
end
def zi:List Int->List Int->Bool
 | [],[]=>false
 | [],_::_=>true
 | _::_,[]=>false
 | a::x,b::y=>if a=b then zi x y else decide (a<b)
theorem uP:∀ a,zi a a=false
 | []=>rfl
 | a::x=>by unfold zi;rw [if_pos rfl];exact uP x
theorem wQ:∀ a b c,zi a b=true->zi b c=true->zi a c=true
 | [],[],_,h,_=>by cases h
 | [],_::_,[],_,h=>by cases h
 | [],_::_,_::_,_,_=>rfl
 | _::_,[],_,h,_=>by cases h
 | _::_,_::_,[],_,h=>by cases h
 | a::x,b::y,c::z,h1,h2=>by
  unfold zi at h1 h2 ⊢
  by_cases e1:a=b
  ·subst e1
   rw [if_pos rfl] at h1
   by_cases e2:a=c
   ·rw [if_pos e2] at h2 ⊢;exact wQ x y z h1 h2
   ·rw [if_neg e2] at h2 ⊢;exact h2
  ·rw [if_neg e1] at h1
   have h1':=of_decide_eq_true h1
   by_cases e2:b=c
   ·subst e2;rw [if_neg e1];exact h1
   ·rw [if_neg e2] at h2
    have h2':=of_decide_eq_true h2
    rw [if_neg (by omega)]
    exact decide_eq_true (by omega)
theorem Qs:∀ a b c,zi a c=true->zi a b=true\/zi b c=true
 | [],[],[],h=>by cases h
 | [],[],_::_,_=>.inr rfl
 | [],_::_,_,_=>.inl rfl
 | _::_,_,[],h=>by cases h
 | _::_,[],_::_,_=>.inr rfl
 | a::x,b::y,c::z,h=>by
  unfold zi at h ⊢
  by_cases e1:a=b
  ·subst e1
   rw [if_pos rfl]
   by_cases e2:a=c
   ·rw [if_pos e2] at h ⊢;exact Qs x y z h
   ·rw [if_neg e2] at h ⊢;exact .inr h
  ·rw [if_neg e1]
   by_cases e2:b=c
   ·subst e2;rw [if_neg e1] at h;exact .inl h
   ·rw [if_neg e2]
    by_cases e3:a=c
    ·subst e3
     by_cases hab:a<b
     ·exact .inl (decide_eq_true hab)
     ·exact .inr (decide_eq_true (by omega))
    ·rw [if_neg e3] at h
     have h':=of_decide_eq_true h
     by_cases hab:a<b
     ·exact .inl (decide_eq_true hab)
     ·exact .inr (decide_eq_true (by omega))
theorem kS:∀ a b,zi a b=false->zi b a=false->a=b
 | [],[],_,_=>rfl
 | [],_::_,h,_=>by cases h
 | _::_,[],_,h=>by cases h
 | a::x,b::y,h1,h2=>by
  unfold zi at h1 h2
  by_cases e:a=b
  ·subst e
   rw [if_pos rfl] at h1 h2
   rw [kS x y h1 h2]
  ·rw [if_neg e] at h1
   rw [if_neg (fun z=>e z.symm)] at h2
   have:=of_decide_eq_false h1
   have:=of_decide_eq_false h2
   omega
def wb:KeyOrd:=⟨List Int,zi,uP,wQ,Qs,kS⟩
def U3:KeyOrd:=⟨Int,fun a b=>decide (a<b),fun a=>by simp,fun a b c h1 h2=>by
  have:=of_decide_eq_true h1;have:=of_decide_eq_true h2;exact decide_eq_true (by omega),fun a b c h=>by
  have:=of_decide_eq_true h
  by_cases hab:a<b
  ·exact .inl (decide_eq_true hab)
  ·exact .inr (decide_eq_true (by omega)),fun a b h1 h2=>by
  have:=of_decide_eq_false h1;have:=of_decide_eq_false h2;omega⟩
end L2
end
section
namespace L2
open PySem PySem.Spec PySem.W PyProof.Rows
open PySem.AutoSeq1 (wpAny_loadPart')
open PySem.MeetsSeq PySem.MeetsSeq2 PySem.MeetsSeq3 PySem.SeqRoads2
theorem Ju {its:List Value}{xs:List Int}(h:IntsAre its xs) {i:Nat}(hi:i<its.length):∃ t,its[i]? = some (.int (xs[i]'(by have:=h.length;omega)) t):=by
 have hx:i<xs.length:=by have:=h.length;omega
 obtain ⟨u,e1,t,e2⟩:=jz.get (uu h) (i:=i) (x:=V.int xs[i]) (by rw [List.getElem?_map,List.getElem?_eq_getElem hx];rfl)
 exact ⟨t,by rw [e1,e2]⟩
theorem Yt (l b:Addr) (items items2:List Value) (n n2:Nat) (dd dd2:Option Addr) (sl sl2:Array (Option Value)) {xs ys:List Int}(hx:IntsAre items xs) (hy:IntsAre items2 ys) (k:Nat) :
  ∀ i:Nat,items.length-i=k->i<=items.length->i<=items2.length->Meets (Builtin.«list.__eq__.loop» ⟨[.ref l,.ref b,rawInt i,rawInt 0],[]⟩)
   (fun A R s=>s.heap.get? l=some { cls:=.type "list",dict:=dd,data:=.seq items.toArray n,slots:=sl }/\s.heap.get? b=some { cls:=.type "list",dict:=dd2,data:=.seq items2.toArray n2,slots:=sl2 } /\
    R (.ok (.ret (.bool (zi (xs.drop i) (ys.drop i))))) s):=by
 have l1:=hx.length
 have l2:=hy.length
 induction k with
 | zero =>
  intro i hk hi hi2 prog w A R s h
  obtain ⟨hp,g,d,tk,os⟩:=s;obtain ⟨hl,hb,h⟩:=h
  wp_walk using wpAny_loadPart' hl,wpAny_loadPart' hb
  have e1:items.toArray[((i:Nat):Int).toNat]? = none:=by simp;omega
  have hd:xs.drop i=[]:=by simp;omega
  rw [hd] at h
  rw [e1]
  wp_walk using wpAny_loadPart' hl,wpAny_loadPart' hb
  show R (.ok (.ret (.bool (decide (items.toArray.size<items2.toArray.size))))) _
  have e2:decide (items.toArray.size<items2.toArray.size)=zi [] (ys.drop i):=by
   by_cases hlt:i<ys.length
   ·rw [List.drop_eq_getElem_cons hlt]
    exact decide_eq_true (by simp;omega)
   ·rw [List.drop_of_length_le (by omega)]
    exact decide_eq_false (by simp;omega)
  rw [e2]
  exact h
 | succ k ih =>
  intro i hk hi hi2 prog w A R s h
  obtain ⟨hp,g,d,tk,os⟩:=s;obtain ⟨hl,hb,h⟩:=h
  have hlt:i<items.length:=by omega
  obtain ⟨t,e1'⟩:=Ju hx hlt
  have e1:items.toArray[((i:Nat):Int).toNat]? = some (.int (xs[i]'(by omega)) t):=by simpa using e1'
  wp_walk using wpAny_loadPart' hl,wpAny_loadPart' hb
  rw [e1]
  by_cases hlt2:i<items2.length
  ·obtain ⟨u,e2'⟩:=Ju hy hlt2
   have e2:items2.toArray[((i:Nat):Int).toNat]? = some (.int (ys[i]'(by omega)) u):=by simpa using e2'
   rw [e2]
   rw [List.drop_eq_getElem_cons (show i<xs.length by omega),List.drop_eq_getElem_cons (show i<ys.length by omega)] at h
   unfold zi at h
   refine wpAny_bind (wpAny_eqBool_int ?_)
   have hc:((i:Int)+1)=((i+1:Nat):Int):=by push_cast;rfl
   by_cases e:xs[i]'(by omega)=ys[i]'(by omega)
   ·rw [if_pos e] at h
    rw [beq_iff_eq.mpr e]
    wp_walk
    rw [hc]
    exact ⟨plainId_quiet plain_eq_loop _,codeAny_builtin entry_eq_loop (by
     rw [Around.under_plainId plain_eq_loop _]
     exact ih (i+1) (by omega) (by omega) (by omega) prog w A R _ ⟨hl,hb,h⟩)⟩
   ·rw [if_neg e] at h
    rw [beq_eq_false_iff_ne.mpr e]
    wp_walk using wpAny_loadPart' hl,wpAny_loadPart' hb
    rw [e1,e2]
    refine wpAny_bind (show wpAny (model prog w) _ (richCompare .Lt _ _) _ _ _ from lt_int ?_)
    exact wpAny_pure h
  ·have e2:items2.toArray[((i:Nat):Int).toNat]? = none:=by simp;omega
   rw [e2]
   rw [List.drop_eq_getElem_cons (show i<xs.length by omega),List.drop_of_length_le (show ys.length<=i by omega)] at h
   wp_walk using wpAny_loadPart' hl,wpAny_loadPart' hb
   show R (.ok (.ret (.bool (decide (items.toArray.size<items2.toArray.size))))) _
   rw [decide_eq_false (by simp;omega)]
   exact h
theorem Yr (l b:Addr) (items items2:List Value) (n n2:Nat) (dd dd2:Option Addr) (sl sl2:Array (Option Value)) {xs ys:List Int}(hx:IntsAre items xs) (hy:IntsAre items2 ys) :
  Meets (Builtin.«list.__lt__» ⟨[.ref l,.ref b],[]⟩)
   (fun A R s=>s.heap.get? l=some { cls:=.type "list",dict:=dd,data:=.seq items.toArray n,slots:=sl }/\s.heap.get? b=some { cls:=.type "list",dict:=dd2,data:=.seq items2.toArray n2,slots:=sl2 } /\
    R (.ok (.ret (.bool (zi xs ys)))) s):=by
 intro prog w A R s h
 obtain ⟨hp,g,d,tk,os⟩:=s;obtain ⟨hl,hb,h⟩:=h
 have f3:=AutoSeq1.sub_list_list
 wp_walk using wpAny_loadPart' hl,wpAny_loadPart' hb
 exact ⟨plainId_quiet plain_eq_loop _,codeAny_builtin entry_eq_loop (by
  rw [Around.under_plainId plain_eq_loop _]
  exact Yt l b items items2 n n2 dd dd2 sl sl2 hx hy _ 0 rfl (Nat.zero_le _) (Nat.zero_le _) prog w A R _ ⟨hl,hb,by simpa using h⟩)⟩
section
variable {prog:Program}{w:World}{A:Around}{E:Value->Shared->Prop}{s:Shared}
theorem Qb {l b:Addr}{items items2:List Value}{xs ys:List Int}{n n2:Nat}{dd dd2:Option Addr}{sl sl2:Array (Option Value)}{Q:Bool->Shared->Prop}(hu:A.units<cLine)
  (hl:s.heap.get? l=some { cls:=.type "list",dict:=dd,data:=.seq items.toArray n,slots:=sl }) (hb:s.heap.get? b=some { cls:=.type "list",dict:=dd2,data:=.seq items2.toArray n2,slots:=sl2 })
  (hx:IntsAre items xs) (hy:IntsAre items2 ys) (h:Q (zi xs ys) s):wpAny (model prog w) A (oneLt' true (.ref l) (.ref b)) Q E s:=by
 rw [oneLt'_eq]
 simp only [if_true]
 refine wpAny_bind (wpAny_cRoomFor hu ?_)
 refine wpAny_bind (wpAny_callSpecialIfBound?_slot ⟨_,hl,rfl⟩ PySem.F.slot_list_lt (call_meets PySem.F.slot_list_lt ⟨_,hl,rfl⟩ PySem.F.entry_list_lt (PySem.F.args_list_lt_2 _ _) (Yr l b items items2 n n2 dd dd2 sl sl2 hx hy) ⟨hl,hb,?_⟩))
 exact wpAny_truthy_bool h
theorem QZ {x y:Addr}{ox oy:Obj}{items items2:List Value}{xs ys:List Int}{n k:Nat}{Q:Bool->Shared->Prop}(hx:s.heap.get? x=some ox) (dx:ox.data = .seq items.toArray n) (hy:s.heap.get? y=some oy) (dy:oy.data = .seq items2.toArray k)
  (ix:IntsAre items xs) (iy:IntsAre items2 ys) (h:Q (zi xs ys) s):wpAny (model prog w) A (keyLt' (tuples' true) (.ref x) (.ref y)) Q E s:=by
 refine kat_lt hx dx hy dy ?_
 have go:∀ (items items2:List Value) (xs ys:List Int) (i:Nat) (fin:Bool),IntsAre items xs->IntsAre items2 ys->(∀ m:Nat,xs.length=m+items.length-items.length->True) ->
   fin=decide (items.length<items2.length)->Q (zi xs ys) s->KatLex prog w A true fin Q (items.zip items2) i s:=by
  intro items items2 xs ys i fin a b
  induction a generalizing items2 ys i with
  | nil =>
   intro _ hf hq
   cases b with
   | nil=>subst hf;exact hq
   | cons m u r=>subst hf;exact hq
  | cons m u r ih =>
   intro _ hf hq
   cases b with
   | nil=>subst hf;exact hq
   | cons m' u' r' =>
    refine kat_cons (wpAny_eqBool_int ?_)
    unfold zi at hq
    by_cases e:m=m'
    ·rw [beq_iff_eq.mpr e]
     rw [if_pos e] at hq
     refine kat_yes (ih _ _ _ r' (fun _ _=>trivial) ?_ hq)
     rw [hf]
     simp
    ·rw [beq_eq_false_iff_ne.mpr e]
     rw [if_neg e] at hq
     refine kat_no ?_
     cases hb:(true && i == 0) with
     | true=>exact oneLt_int hq
     | false=>exact kat_one _ _ (lt_int hq)
 have e:(items.toArray.toList.zip items2.toArray.toList)=items.zip items2:=by simp
 rw [e]
 exact go items items2 xs ys 0 _ ix iy (fun _ _=>trivial) (by simp) h
end
end L2
end
section
namespace L2
open PySem PySem.Spec PySem.W PyProof.Rows
section
variable {prog:Program}{w:World}{A:Around}{E:Value->Shared->Prop}{s:Shared}
theorem uo (its:List Value):(its.toArray.zip its.toArray).map (·.2)=its.toArray:=by
 apply Array.toList_inj.mp
 rw [Array.toList_map,ksk_zip]
 show (its.zip its).map Prod.snd=its
 rw [List.map_snd_zip]
 exact Nat.le_refl _
theorem vm (its:List Value):((List.range its.length).map fun i=>its.getD i Value.none)=its:=by
 apply List.ext_getElem
 ·simp
 ·intro i h1 h2
  simp at h1
  simp [h1]
theorem Xi {l:Addr}{its:List Value}{κ:SortKind}{lt:Nat->Nat->Bool}{G:List Nat->Prop}{Q:Value->Shared->Prop}(hl:s.heap.IsList l its.toArray) (h64:its.length<64)
  (hk:2<=its.length->∀ h',(∀ b o,s.heap.get? b=some o->h'.get? b=some o)->∀ Q':SortKind->Shared->Prop,Q' κ { s with heap:=h' }->wpAny (model prog w) A.in1.in1 (keyKind' its.toArray) Q' (fun _ _=>False) { s with heap:=h' })
  (hc:∀ h',(∀ b o,s.heap.get? b=some o->h'.get? b=some o)->∀ i j,i<its.length->j<its.length->∀ Q':Bool->Shared->Prop,Q' (lt i j) { s with heap:=h' } ->
   wpAny (model prog w) A.in1.in1 (keyLt' κ (its.getD i Value.none) (its.getD j Value.none)) Q' (fun _ _=>False) { s with heap:=h' })
  (hs:2<=its.length->qP lt its.length (kas_sort its.length) fun p=>qi its.length p/\G p.toList) (h1:its.length<2->G (List.range its.length))
  (h:∀ (ix:List Nat) (h':Heap) (n:Nat),ix.Perm (List.range its.length)->G ix->(∀ b o,s.heap.get? b=some o->h'.get? b=some o) ->
   h'.get? (s.heap.objs.size+1)=some (seqObj "list" (ix.map fun i=>its.getD i Value.none).toArray n)->Q (.ref (s.heap.objs.size+1)) { s with heap:=h' }) :
  wpAny (model prog w) A (call (.builtin "sorted") [.ref l]) Q E s:=by
 refine Calls.call_function_entry kind_sorted plain_sorted entry_sorted (args_sorted1 _) ?_
 unfold Builtin.«sorted»
 refine wpAny_bind (m:=checkCount "sorted" 1 1 _) (wpAny_pure ?_)
 refine wpAny_bind (collect_list hl ?_ (by rw [sizeLine_eq];omega))
 refine wpAny_bind (wpAny_newList ?_ (by rw [sizeLine_eq];omega))
 have hsz:((s.heap.push (seqObj "list" #[] 0)).update s.heap.objs.size (Obj.mapSeq (· ++ its.toArray))).objs.size=s.heap.objs.size+1:=by
  rw [Heap.size_update,size_push']
 have ho:(((s.heap.push (seqObj "list" #[] 0)).update s.heap.objs.size (Obj.mapSeq (· ++ its.toArray))).push (seqObj "list" its.toArray 0)).get? (s.heap.objs.size+1)=some (seqObj "list" its.toArray 0):=by
  rw [<- hsz];exact Heap.get?_push_size _ rfl
 have keep:∀ b o,s.heap.get? b=some o->(((s.heap.push (seqObj "list" #[] 0)).update s.heap.objs.size (Obj.mapSeq (· ++ its.toArray))).push (seqObj "list" its.toArray 0)).get? b=some o:=fun b o q=>by
  have hlt:b<s.heap.objs.size:=Heap.lt_size q
  rw [Heap.get?_push_ne _ _ _ (by rw [hsz];exact Nat.ne_of_lt (Nat.lt_succ_of_lt hlt)),Heap.get?_update_ne _ _ _ _ (Nat.ne_of_lt hlt),Heap.get?_push_ne _ _ _ (Nat.ne_of_lt hlt)]
  exact q
 show wpAny _ _ _ _ _ { s with heap:=((s.heap.push (seqObj "list" #[] 0)).update s.heap.objs.size (Obj.mapSeq (· ++ its.toArray))).push (seqObj "list" its.toArray 0) }
 rw [hsz]
 refine wpAny_bind (wpAny_holding (wpAny_call_entry slot_list_sort ⟨_,ho,rfl⟩ entry_list_sort ?body (args_list_sort _)))
 case body =>
  generalize hh0:((s.heap.push (seqObj "list" #[] 0)).update s.heap.objs.size (Obj.mapSeq (· ++ its.toArray))).push (seqObj "list" its.toArray 0)=h0 at ho keep
  generalize ha:s.heap.objs.size+1=a at ho h
  have aNew:∀ b o,s.heap.get? b=some o->b≠a:=fun b o q=>by have:=Heap.lt_size q;rw [<- ha];exact Nat.ne_of_lt (Nat.lt_succ_of_lt this)
  show wpAny (model prog w) A.in1.in1 (Builtin.«list.sort» ⟨[.ref a],[]⟩) _ _ { s with heap:=h0 }
  rw [list_sort_plain]
  have hal:a<h0.objs.size:=Heap.lt_size ho
  refine wpAny_bind (listItems_at ho rfl ?_)
  refine wpAny_bind (listUpdate_at ho rfl ?_ (by rw [List.size_toArray,sizeLine_eq];omega) (Nat.zero_le _))
  obtain ⟨e1,ho1⟩:∃ e1,(h0.update a (Obj.mapSeq fun _=>(#[]:Array Value))).get? a=some (seqObj "list" #[] e1):=⟨_,get?_update_seq ho (fun _=>#[])⟩
  refine wpAny_bind (seqEpoch_at ho1 rfl ?_)
  refine wpAny_bind (wpAny_newTuple ?_ (by show its.length<=_;rw [sizeLine_eq];omega))
  refine wpAny_bind (wpAny_newList ?_ (Nat.zero_le _))
  refine wpAny_holding ?_
  have ho6:(((h0.update a (Obj.mapSeq fun _=>(#[]:Array Value))).push (seqObj "tuple" its.toArray 0)).push (seqObj "list" #[] 0)).get? a=some (seqObj "list" #[] e1):=by
   rw [Heap.get?_push_ne _ _ _ (by rw [size_push',Heap.size_update];exact Nat.ne_of_lt (Nat.lt_succ_of_lt hal)),Heap.get?_push_ne _ _ _ (by rw [Heap.size_update];exact Nat.ne_of_lt hal)]
   exact ho1
  have keep6:∀ b o,s.heap.get? b=some o->(((h0.update a (Obj.mapSeq fun _=>(#[]:Array Value))).push (seqObj "tuple" its.toArray 0)).push (seqObj "list" #[] 0)).get? b=some o:=fun b o q =>
   Heap.get?_push_of_some _ (Heap.get?_push_of_some _ ((Heap.get?_update_ne _ _ _ _ (aNew b o q)).trans (keep b o q)))
  show wpAny (model prog w) A.in1.in1 _ _ _ { s with heap:=((h0.update a (Obj.mapSeq fun _=>(#[]:Array Value))).push (seqObj "tuple" its.toArray 0)).push (seqObj "list" #[] 0) }
  generalize ((h0.update a (Obj.mapSeq fun _=>(#[]:Array Value))).push (seqObj "tuple" its.toArray 0)).push (seqObj "list" #[] 0)=h6 at ho6 keep6
  dsimp only
  have fin:∀ (ix:List Nat),ix.Perm (List.range its.length)->G ix->∀ out:Array Value,out=(ix.map fun i=>its.getD i Value.none).toArray ->
    ∃ v,PySem.Fin.done (Flow.ret Value.none) = .done (.ret v)/\wpAny (model prog w) A.in1 (do let _ <- pure v;ret (Value.ref a)) (fun fin s'=>∃ v,fin = .done (.ret v)/\Q v s') E { s with heap:=h6.update a (Obj.mapSeq fun _=>out) }:=fun ix hp hg out ho'=>by
   refine ⟨_,rfl,wpAny_bind (wpAny_pure (wpAny_pure ⟨_,rfl,?_⟩))⟩
   subst ho'
   exact h ix _ _ hp hg (fun b o q=>(Heap.get?_update_ne _ _ _ _ (aNew b o q)).trans (keep6 b o q)) (get?_update_seq ho6 fun _=>_)
  by_cases h2:its.toArray.size<2
  ·rw [if_pos h2,if_pos h2]
   refine wpAny_bind (wpAny_pure ?_)
   rw [StateT.run_pure]
   refine wpAny_bind (wpAny_pure ?_)
   dsimp only
   refine wpAny_bind (seqEpoch_at ho6 rfl ?_)
   rw [uo]
   refine wpAny_bind (listUpdate_at ho6 rfl ?_ (Nat.zero_le _) (by rw [List.size_toArray,sizeLine_eq];omega))
   simp only [bne_self_eq_false,Bool.false_eq_true,if_false]
   rw [List.size_toArray] at h2
   exact wpAny_pure (fin _ (List.Perm.refl _) (h1 h2) _ (by rw [vm]))
  ·rw [if_neg h2,if_neg h2]
   rw [List.size_toArray] at h2
   refine wpAny_bind (wpAny_mono (hk (by omega) h6 keep6 (fun κ' s'=>κ'=κ/\s'={ s with heap:=h6 }) ⟨rfl,rfl⟩) (fun κ' s' q=>?_) fun _ _ x=>x.elim)
   obtain ⟨rfl,rfl⟩:=q
   refine wpAny_bind (wpAny_mono (kat_run (ks:=its) (vs:=its) (κ:=κ') (G:=fun p s'=>(qi its.length p/\G p.toList)/\s'={ s with heap:=h6 }) (Q:=fun st' s'=>∃ p:Array Nat,arrOf st'=p.map (kas_item (its.toArray.zip its.toArray))/\failedOf st'=none/\(qi its.length p/\G p.toList)/\s'={ s with heap:=h6 })
    rfl (by omega) h64 (fun p st' s' a1 a2 a3 a4=>⟨p,a2,a3,a4⟩) (qP.wp (I:=fun s'=>s'={ s with heap:=h6 }) (fun i j C s' hi hj hI hC=>?_) (fun p s' hp hI=>⟨hp,hI⟩) (hs (by omega)) rfl)) ?_ fun _ _ e=>e)
   ·subst hI
    exact hc h6 keep6 i j hi hj C (hC _ rfl)
   ·rintro ⟨⟨⟩,st'⟩ s' ⟨p,har,hf,⟨hP,hG⟩,rfl⟩
    dsimp only
    have hout:=kat_snds (ks:=its) (vs:=its) rfl har
    have hz:(List.toArray (p.toList.map fun i=>its.getD i Value.none)).size=its.length:=by rw [List.size_toArray,List.length_map,Array.length_toList,hP.size]
    rw [hout]
    refine wpAny_bind (seqEpoch_at ho6 rfl ?_)
    refine wpAny_bind (listUpdate_at ho6 rfl ?_ (Nat.zero_le _) (by rw [hz,sizeLine_eq];omega))
    rw [hf]
    simp only [bne_self_eq_false,Bool.false_eq_true,if_false]
    exact wpAny_pure (fin p.toList (by have:=Array.perm_iff_toList_perm.mp hP;simpa using this) hG _ rfl)
end
end L2
end
section
namespace L2
open PySem PySem.Spec PySem.W PyProof.Rows
def uf (O:KeyOrd) (key:Nat->O.α) (vs out:List V):Prop:=∃ ix:List Nat,ix.Perm (List.range vs.length)/\out=(ix.map fun i=>vs.getD i V.non)/\(ix.map key).Pairwise O.kle
theorem zh.pairwise {O:KeyOrd}{key:Nat->O.α}{p:Array Nat}{n:Nat}(hs:zh (O:=O) key p n) (hz:p.size=n):(p.toList.map key).Pairwise O.kle:=by
 rw [List.pairwise_iff_getElem]
 intro i j hi hj hij
 simp at hi hj
 have q:=hs i j (Nat.le_of_lt hij) (by omega)
 unfold kp at q
 have e1:p.getD i 0=p[i]:=by simp [Array.getD,hi]
 have e2:p.getD j 0=p[j]:=by simp [Array.getD,hj]
 rw [e1,e2] at q
 simpa using q
theorem Jg:∀ {vs:List V}{us:List Value},jz vs us->∀ i,jB (vs.getD i V.non) (us.getD i Value.none)
 | _,_,.nil,_=>rfl
 | _,_,.cons r _,0=>r
 | _,_,.cons _ t,i+1=>Jg t i
theorem uz {vs:List V}{us:List Value}(r:jz vs us):∀ ix:List Nat,jz (ix.map fun i=>vs.getD i V.non) (ix.map fun i=>us.getD i Value.none)
 | []=>.nil
 | i::ix=>.cons (Jg r i) (uz r ix)
theorem V6 {a b:Int}(h:U3.kle a b):a<=b:=Int.not_lt.mp (of_decide_eq_false h)
def yd (H:Hp) (vs:List V) (rows:List (List Int)):Prop:=Paired (fun v (r:List Int)=>∃ a,v=V.ref a/\H a=some (.lst (r.map V.int))) vs rows
theorem Paired.get {α β:Type}{F:α->β->Prop}:∀ {l₁:List α}{l₂:List β}{i:Nat}{x:α},Paired F l₁ l₂->l₁[i]? = some x->∃ y,l₂[i]? = some y/\F x y
 | _,_,_,_,.nil,e=>by simp at e
 | _,_,0,_,.cons r _,e=>by simp at e;subst e;exact ⟨_,rfl,r⟩
 | _,_,i+1,v,.cons _ t,e=>by
  obtain ⟨d,h1,h2⟩:=Paired.get (i:=i) (x:=v) t (by simpa using e)
  exact ⟨d,by simpa using h1,h2⟩
theorem xr:∀ {ns:List Int}{us:List Value},jz (ns.map V.int) us->IntsAre us ns
 | [],_,.nil=>.nil
 | n::ns,_,.cons ⟨t,e⟩ r=>by subst e;exact .cons n t (xr r)
section
variable {X:Cx}
theorem gj (K:PySem.W.Frag) (hu:X.A.units+64<cLine) (hK:X.K=K:=by rfl):qJ X (.builtin "sorted") (fun xs H Q=>∃ p vs rows,xs=[.ref p]/\SqL K H p vs/\vs.length<64/\yd H vs rows /\
  ∀ l H' out,H l=none->H' l=some (.lst out)->jj H H'->uf wb (fun i=>rows.getD i []) vs out->Q (.ref l) H'):=by
 subst hK
 intro pins s σ H xs us Q I r h
 obtain ⟨p,vs,rows,rfl,hq,h64,hr,k⟩:=h
 obtain ⟨u,rfl,ru⟩:=yb r
 cases ru
 obtain ⟨its,rv,pl,hz⟩:=I.list hq
 have hlen:its.length=vs.length:=rv.length.symm
 have item:∀ i,i<its.length->∃ a its' n,its.getD i Value.none = .ref a/\s.heap.get? a=some { cls:=.type "list",data:=.seq its'.toArray n }/\IntsAre its' (rows.getD i []):=fun i hi=>by
  have e1:vs[i]? = some (vs[i]'(by omega)):=List.getElem?_eq_getElem (by omega)
  obtain ⟨y,e2,a,e3,e4⟩:=Paired.get hr e1
  obtain ⟨u,e5,ru⟩:=rv.get e1
  rw [e3] at ru
  cases ru
  obtain ⟨z,its',n,rv',e6⟩:=I.hok a _ e4
  refine ⟨a,its',n,by rw [List.getD_eq_getElem?_getD,e5];rfl,e6,?_⟩
  rw [List.getD_eq_getElem?_getD,e2]
  exact xr rv'
 have hun:X.A.in1.in1.units<cLine:=by
  show X.A.units+1+1<cLine
  omega
 refine Xi (κ:=oneType') (lt:=ltK wb fun i=>rows.getD i []) (G:=fun ix=>(ix.map fun i=>rows.getD i []).Pairwise wb.kle) pl.isList (by omega) (fun h2 h' hk' Q' q=>?_) (fun h' hk' i j hi hj Q' q=>?_) (fun h2=>?_) (fun h1=>?_) fun ix h' n hp hg hk' hn=>?_
 ·refine kas_kind (T:=.type "list") h2 (fun v hv=>?_) rfl rfl q
  obtain ⟨i,hi,rfl⟩:=List.mem_iff_getElem.mp hv
  obtain ⟨a,its',n,e1,e2,_⟩:=item i hi
  have e3:its[i] = .ref a:=by rw [<- e1];simp [hi]
  rw [e3]
  exact (show Looks _ h' (typeOf (.ref a)) _ from (Looks.ld (hk' _ _ e2)).andThen .now)
 ·obtain ⟨a,its',n,e1,e2,e3⟩:=item i hi
  obtain ⟨b,its2,n2,f1,f2,f3⟩:=item j hj
  rw [e1,f1,keyLt'_oneType]
  exact Qb hun (hk' _ _ e2) (hk' _ _ f2) e3 f3 q
 ·exact ku (by omega) fun p' hP hS=>⟨hP,hS.pairwise hP.size⟩
 ·have hcase:its.length=0\/its.length=1:=by omega
  rcases hcase with z | z
  ·rw [z];exact List.Pairwise.nil
  ·rw [z];exact List.pairwise_singleton _ _
 ·have hf:H (s.heap.objs.size+1)=none:=I.hok.fresh (Nat.le_succ _)
  refine ⟨.ref _,upd H (s.heap.objs.size+1) (.lst (ix.map fun i=>vs.getD i V.non)),I.laid (t':=s.toks) hk' (Nat.le_succ _) ⟨?_,_,n,uz rv ix,hn⟩,rfl,k _ _ _ hf j6 (jj.new hf) ⟨ix,by rw [<- hlen];exact hp,rfl,hg⟩⟩
  rw [List.length_map,hp.length_eq,List.length_range]
  exact Nat.le_trans (by omega:its.length<=1000) (by decide)
end
end L2
end
section
namespace L2
open PySem PySem.Spec PySem.W PyProof.Rows
abbrev vK (qual:Str) (params:Arguments) (body:Expr) (scope:Scope) (pm:Value) (c:Addr) (ctv:Value):FuncData:=kla_fn "<lambda>" qual params body scope [] pm (.ref c) ctv
def Yy (f:Addr) (fd:FuncData):HO:=.ext fun h=>h.get? f=some { cls:=.type "function",data:=.func fd }
def X0 (c:Addr) (qual:Str):HO:=.ext fun h=>h.CodeRec (.ref c) qual
def Tab (H:Hp) (Pt:Addr) (pos:Pos) (qual:Str):Prop:=H Pt=some (.tbl #[])\/∃ c',H Pt=some (.tbl #[rawInt pos.line,rawInt pos.col,.ref c'])/\H c'=some (X0 c' qual)
theorem Tab.ne {H:Hp}{Pt:Addr}{pos:Pos}{qual:Str}(T:Tab H Pt pos qual):∃ ps,H Pt=some (.tbl ps):=by
 rcases T with z | ⟨c',z,_⟩
 ·exact ⟨_,z⟩
 ·exact ⟨_,z⟩
theorem Tab.same {H H':Hp}{Pt:Addr}{pos:Pos}{qual:Str}(T:Tab H Pt pos qual) (s:jj H H'):Tab H' Pt pos qual:=by
 rcases T with z | ⟨c',z,y⟩
 ·exact .inl (s _ _ z)
 ·exact .inr ⟨c',s _ _ z,s _ _ y⟩
theorem Tab.ext {H H':Hp}{Pt b:Addr}{pos:Pos}{qual:Str}{xs:List V}(T:Tab H Pt pos qual) (hb:H b=some (.lst xs)) (e:Ext b H H'):Tab H' Pt pos qual:=by
 rcases T with z | ⟨c',z,y⟩
 ·exact .inl (e _ _ z (jp z hb (by intro q;cases q)))
 ·exact .inr ⟨c',e _ _ z (jp z hb (by intro q;cases q)),e _ _ y (jp y hb (by intro q;cases q))⟩
theorem Tab.extN {H H':Hp}{Pt b:Addr}{pos:Pos}{qual:Str}(T:Tab H Pt pos qual) (hb:H b=none) (e:Ext b H H'):Tab H' Pt pos qual:=T.same fun c o h=>e c o h (j1 h hb)
def Bm (mg:Str->Option Value) (base:Heap):Prop:=∃ bm ob,mg "__builtins__" = some (.ref bm)/\bm≠builtinsNs/\base.get? bm=some ob/\ob.cls = .type "module" /\ ob.dict=some builtinsNs/\ob.data = .plain
theorem U4 {P:Program}{w:World}{K:PySem.W.Frag}{mg:Str->Option Value}{base:Heap}{k:Nat}{f c:Addr}{qual:Str}{params:Arguments}{body:Expr}{scope:Scope}{pm ctv:Value}{N:List Str}{x:Str}{A:Around}{outer:List Env}{s:Shared}{H:Hp}{u:Value}{v:V}{Q:VK}{t:TE}
  (ho:s.heap.get? f=some { cls:=.type "function",data:=.func (vK qual params body scope pm c ctv) }) (hcd:s.heap.CodeRec (.ref c) qual) (S:FnScope N [x] scope) (hr:Room (k+1) A) (e0:Env0 P w K mg base A outer s H)
  (hb:∀ pm c ctv u,bindArgs (vK qual params body scope pm c ctv) ⟨[u],[]⟩=pure [(x,u)]) (r:jB v u)
  (ht:PE (vt CX0 P w K mg base N qual scope f (.ref c) A outer s H E0).nox body t) (q:t (start N [v]) H Q) :
  codeAny (model P w) A (.call (.ref f) ⟨[u],[]⟩) (CR CX0 outer P w H s Q E0) s:=by
 have lim:s.heap.NoLimit:=e0.mod.nolimit.keeps fun b o e=>(e0.bs b o e).1
 have hkind:∀ y∈([x].zip [u]),scope.names.lookup y.1=some .local\/(scope.names.lookup y.1=some .cell/\((cellsFrom (s.heap.objs.size+1) scope.names []).lookup y.1).isSome=true):=fun ⟨n,v⟩ hy=>by
  rcases S.par n (List.of_mem_zip hy).1 with q | q
  ·exact .inl q
  ·exact .inr ⟨q,PySem.W.cellsFrom_some _ _ _ (.inl q)⟩
 refine kla_callFunE hr.depth ho rfl S.co S.gen rfl hcd ?_
 rw [hb]
 refine wpAny_pure (wpAny_newFunctionEnv_cells (binds:=[x].zip [u]) S.kind hkind fun env he s1 y=>?_)
 subst he
 refine ⟨lim.keeps y.toInCall.keep,kla_codeExpr ?_⟩
 have I:Inv (vt CX0 P w K mg base N qual scope f (.ref c) A outer s H E0) [] (start N [v]) H s1:=gW S hr.hd e0 rfl (Paired.cons r .nil) y
 refine wpAny_mono (ht.nox [] s1 (start N [v]) H _ I q) (fun u' s' hs=>?_) fun e s' hs=>hs
 obtain ⟨v',H',J,rv,q'⟩:=hs
 exact ⟨v',H',J.os,J.bare,J.base,J.hok,rv,q'⟩
section
variable {X:Cx}{pins:List (Addr×Obj)}{σ:St}{H:Hp}{s:Shared}
theorem YZ {E:Value->Shared->Prop}{c Pt:Addr}{params:Arguments}{body:Expr}{scope:Scope}{pos:Pos}{Q:Value->Shared->Prop}(I:Inv X pins σ H s) (hcode:X.env.code = .ref c) (CH:CodeHd X.base c Pt) (hB:Bm X.mg X.base)
  (hcl:closureFor scope X.env=pure []) (hdef:defaultsOf params X.env=([],[])) (T:Tab H Pt pos (X.env.qual ++ "<lambda>"))
  (k:∀ f H' s' pm c' ctv,Inv X pins σ H' s'->H f=none->H' f=some (Yy f (vK (X.env.qual ++ "<lambda>") params body scope pm c' ctv))->H' c'=some (X0 c' (X.env.qual ++ "<lambda>"))->Ext Pt H H'->Tab H' Pt pos (X.env.qual ++ "<lambda>")->Q (.ref f) s') :
  wpAny (model X.prog X.w) X.A (eval (.Lambda params body scope pos) X.env) Q E s:=by
 refine kla_eval hdef ?_
 obtain ⟨bm,ob,b1,b2,b3,b4,b5,b6⟩:=hB
 obtain ⟨ps0,hPt⟩:=T.ne
 have trk:∀ {b:Addr} {o:Obj},X.base.get? b=some o->b≠Pt:=fun {b o} e z=>by
  have:=(I.bs b o e).2
  rw [z,hPt] at this;cases this
 have hgN:s.heap.Ns mainGlobals X.mg:=I.ok.mod.glob.keeps I.bk
 have hgP:mainGlobals≠Pt:=by
  obtain ⟨o,es,ep,e,_⟩:=I.ok.mod.glob
  exact trk e
 have hbG:bm≠mainGlobals:=fun q=>by
  obtain ⟨o,es,ep,e,hd,_⟩:=I.ok.mod.glob
  rw [q,e] at b3;cases b3;rw [hd] at b6;cases b6
 have hBA:s.heap.BuiltinsAt X.mg Pt:=⟨bm,ob,b1,b2,hbG,trk b3,I.bk _ _ b3,b4,b5,b6⟩
 have LS:∀ (f:Addr) (fd:FuncData) (h1 h2:Heap),h1.get? f=some { cls:=.type "function",data:=.func fd }->(∀ o,h1.get? f=some o->h2.get? f=some o)->h2.get? f=some { cls:=.type "function",data:=.func fd }:=fun f fd h1 h2 e m=>m _ e
 have CS:∀ (c:Addr) (q:Str) (h1 h2:Heap),h1.CodeRec (.ref c) q->(∀ o,h1.get? c=some o->h2.get? c=some o)->h2.CodeRec (.ref c) q:=fun c q h1 h2 ⟨c',o,vs,t,e,g,r⟩ m=>by
  cases e
  exact ⟨c,o,vs,t,rfl,m _ g,r⟩
 rcases T with hT | ⟨c',hT,hC⟩
 ·have eT:s.heap.get? Pt=some (tabObj #[]):=I.hok Pt _ hT
  refine kla_makeFunction (mg:=X.mg) hcl I.ok.glob hgN hcode (CH.keeps I.bk) eT trivial rfl hgP hBA fun c' ctv h' tk hx hge hlt hrec htb=>?_
  have hcN:H c'=none:=I.hok.fresh hge
  have hsz:s.heap.objs.size<=h'.objs.size:=Nat.le_of_lt (Nat.lt_of_le_of_lt hge hlt)
  have hfN:H h'.objs.size=none:=I.hok.fresh hsz
  have neC:∀ {b:Addr} {o:Obj},s.heap.get? b=some o->b≠c':=fun {b o} e=>Nat.ne_of_lt (Nat.lt_of_lt_of_le (Heap.lt_size e) hge)
  have neF:∀ {b:Addr} {o:Obj},s.heap.get? b=some o->b≠h'.objs.size:=fun {b o} e=>Nat.ne_of_lt (Nat.lt_of_lt_of_le (Heap.lt_size e) hsz)
  have hPc:Pt≠c':=neC eT
  have hPf:Pt≠h'.objs.size:=neF eT
  have hcf:c'≠h'.objs.size:=Nat.ne_of_lt hlt
  have e':h'.get? Pt=some (tabObj #[rawInt pos.line,rawInt pos.col,.ref c']):=by simpa using htb
  have getF:∀ {b:Addr} {o:HO},H b=some o->b≠Pt->upd (upd (upd H Pt (.tbl #[rawInt pos.line,rawInt pos.col,.ref c'])) c' (X0 c' (X.env.qual ++ "<lambda>"))) h'.objs.size (Yy h'.objs.size (vK (X.env.qual ++ "<lambda>") params body scope ((X.mg "__name__").getD .none) c' ctv)) b=some o:=fun {b o} e n=>by
   rw [j5 (j1 e hfN),j5 (j1 e hcN),j5 n];exact e
  have atP:upd (upd (upd H Pt (.tbl #[rawInt pos.line,rawInt pos.col,.ref c'])) c' (X0 c' (X.env.qual ++ "<lambda>"))) h'.objs.size (Yy h'.objs.size (vK (X.env.qual ++ "<lambda>") params body scope ((X.mg "__name__").getD .none) c' ctv)) Pt=some (.tbl #[rawInt pos.line,rawInt pos.col,.ref c']):=by
   rw [j5 hPf,j5 hPc,j6]
  have atC:upd (upd (upd H Pt (.tbl #[rawInt pos.line,rawInt pos.col,.ref c'])) c' (X0 c' (X.env.qual ++ "<lambda>"))) h'.objs.size (Yy h'.objs.size (vK (X.env.qual ++ "<lambda>") params body scope ((X.mg "__name__").getD .none) c' ctv)) c'=some (X0 c' (X.env.qual ++ "<lambda>")):=by
   rw [j5 hcf,j6]
  refine k h'.objs.size (upd (upd (upd H Pt (.tbl #[rawInt pos.line,rawInt pos.col,.ref c'])) c' (X0 c' (X.env.qual ++ "<lambda>"))) h'.objs.size (Yy h'.objs.size (vK (X.env.qual ++ "<lambda>") params body scope ((X.mg "__name__").getD .none) c' ctv))) _ ((X.mg "__name__").getD .none) c' ctv ?_ hfN j6 atC (fun b o e n=>getF e n) (.inr ⟨c',atP,atC⟩)
  have kp1:∀ b o,b≠Pt->s.heap.get? b=some o->(h'.push (kla_obj "<lambda>" (X.env.qual ++ "<lambda>") params body scope [] ((X.mg "__name__").getD .none) c' ctv)).get? b=some o:=fun b o n e=>Heap.get?_push_of_some _ (hx b o n e)
  have nP:∀ {b:Addr},H b=none->b≠Pt:=fun {b} e z=>by rw [z,hT] at e;cases e
  refine I.step (g':=s.gens) (d':=s.drawn) (ch:=[]) (fun _ z=>nomatch z) (fun b o _ _ _ e n=>kp1 b o (nP n) e) (fun b o _ _ _ e n=>⟨o.slots,kp1 b o (nP n) e⟩) (fun b o _ e n=>?_) (fun b o _ e=>?_) (fun b xs e=>?_) (fun b o u e=>?_) (fun b ps e=>?_) (fun m hm=>?_) (fun b u e=>?_) I.bare
  ·rw [j5 (neF e),j5 (neC e),j5 (nP n)];exact n
  ·by_cases hb:b=Pt
   ·subst hb;exact ⟨_,Heap.get?_push_of_some _ e'⟩
   ·exact ⟨o,kp1 b o hb e⟩
  ·exact getF e (jp e hT (by intro z;cases z))
  ·exact getF e (jp e hT (by intro z;cases z))
  ·by_cases hb:b=Pt
   ·subst hb
    rw [hT] at e;cases e
    exact ⟨#[rawInt pos.line,rawInt pos.col,.ref c'],by rw [atP];simp⟩
   ·exact ⟨#[],by rw [getF e hb];simp⟩
  ·obtain ⟨o,es,ep,ho,r⟩:=hm
   exact ⟨o,es,ep,kp1 _ o (nP I.free) ho,r⟩
  ·by_cases h1:b=h'.objs.size
   ·subst h1
    rw [j6] at e;cases e
    exact ⟨Heap.get?_push_size _ rfl,⟨_,Heap.get?_push_size _ rfl⟩,fun h1 h2 e m=>LS _ _ h1 h2 e m⟩
   ·by_cases h2:b=c'
    ·subst h2
     rw [atC] at e;cases e
     obtain ⟨c2,oc,vs,t,e2,hoc,r⟩:=id hrec
     cases e2
     exact ⟨hrec.keeps fun b o e=>Heap.get?_push_of_some _ e,⟨_,Heap.get?_push_of_some _ hoc⟩,fun h1 h2 e m=>CS _ _ h1 h2 e m⟩
    ·by_cases h3:b=Pt
     ·subst h3
      rw [atP] at e;cases e
      exact Heap.get?_push_of_some _ e'
     ·rw [j5 h1,j5 h2,j5 h3] at e
      refine (I.hok b u e).stay (fun b' v hc q=>kp1 b' v ?_ q) (fun b' q=>getF q (jp q hT (by intro z;cases z))) fun b' xs q=>getF q (jp q hT (by intro z;cases z))
      rcases hc with z | z
      ·rw [z];exact h3
      ·exact jp z hT (by intro z;cases z)
 ·have eT:s.heap.get? Pt=some (tabObj #[rawInt pos.line,rawInt pos.col,.ref c']):=I.hok Pt _ hT
  have tri:TriplesOk (#[rawInt pos.line,rawInt pos.col,Value.ref c']:Array Value).toList:=TriplesOk_snoc pos.line pos.col (.ref c') [] trivial
  have hit:codeAmong pos (#[rawInt pos.line,rawInt pos.col,Value.ref c']:Array Value).toList=some (.ref c'):=codeAmong_snoc (c:=.ref c') [] trivial rfl
  refine kla_makeFunctionHit (mg:=X.mg) hcl I.ok.glob hgN hcode (CH.keeps I.bk) eT tri hit hBA fun ctv h' tk hk hsz=>?_
  have hfN:H h'.objs.size=none:=I.hok.fresh hsz
  refine k h'.objs.size (upd H h'.objs.size (Yy h'.objs.size (vK (X.env.qual ++ "<lambda>") params body scope ((X.mg "__name__").getD .none) c' ctv))) _ ((X.mg "__name__").getD .none) c' ctv ?_ hfN j6 (by rw [j5 (j1 hC hfN)];exact hC) (Ext.new hfN) (.inr ⟨c',by rw [j5 (j1 hT hfN)];exact hT,by rw [j5 (j1 hC hfN)];exact hC⟩)
  exact I.laid (fun b o e=>Heap.get?_push_of_some _ (hk b o e)) hsz ⟨Heap.get?_push_size _ rfl,⟨_,Heap.get?_push_size _ rfl⟩,fun h1 h2 e m=>LS _ _ h1 h2 e m⟩
theorem Inv.adopt {D:Addr}{ob:Obj}{o:HO}{h':Heap}{t':Nat}(I:Inv X ((D,ob)::pins) σ H s) (h1:X.s₀.heap.objs.size<=D) (h2:∀ x c,X.env.cells.lookup x=some c->c≠D) (h3:∀ p∈X.pn++pins,p.1≠D)
  (k:∀ b u,b≠D->s.heap.get? b=some u->h'.get? b=some u) (new:qe X.prog X.w (upd H D o) h' D o):Inv X pins σ (upd H D o) { s with heap:=h',toks:=t' }:=by
 obtain ⟨eD,nD,lD,_,_⟩:=I.pin (D,ob) (List.mem_append_right _ List.mem_cons_self)
 have I':Inv X pins σ H s:=I.pins_of fun p hp=>I.pin p (List.mem_append_right _ (List.mem_cons_of_mem _ hp))
 have nit:∀ b u,H b=some u->b≠D:=fun b u e z=>by rw [z,nD] at e;cases e
 have getF:∀ {b:Addr} {u:HO},H b=some u->upd H D o b=some u:=fun {b u} e=>by rw [j5 (nit b u e)];exact e
 refine I'.step (g':=s.gens) (d':=s.drawn) (ch:=[D]) (fun b hb=>?_) (fun b o _ _ hc e _=>k b o (fun z=>hc (by simp [z])) e) (fun b o _ _ hc e _=>⟨o.slots,k b o (fun z=>hc (by simp [z])) e⟩) (fun b o hc _ n=>by rw [j5 (fun z=>hc (by simp [z]))];exact n)
  (fun b o hc e=>⟨o,k b o (fun z=>hc (by simp [z])) e⟩) (fun _ _ e=>getF e) (fun _ _ _ e=>getF e) (fun b ps e=>⟨#[],by rw [getF e];simp⟩) (fun m hm=>?_) (fun b u e=>?_) I'.bare
 ·have e:b=D:=by simpa using hb
  subst e
  exact ⟨.inr h1,lD,h2,h3⟩
 ·obtain ⟨o,es,ep,ho,r⟩:=hm
  exact ⟨o,es,ep,k _ o (Ne.symm lD) ho,r⟩
 ·by_cases hb:b=D
  ·subst hb
   rw [j6] at e;cases e
   exact new
  ·rw [j5 hb] at e
   refine (I'.hok b u e).stay (fun c v hc q=>k c v ?_ q) (fun _ q=>getF q) fun _ _ q=>getF q
   rcases hc with z | z
   ·rw [z];exact hb
   ·exact nit c _ z
end
end L2
end
section
namespace L2
open PySem PySem.Spec PySem.W PyProof.Rows
def Wc (H:Hp) (ks:List V) (keyf:Nat->List Int) (j:Nat):Prop:=ks.length=j/\∀ i,i<j->∃ q,ks[i]? = some (V.ref q)/\H q=some (.tup ((keyf i).map V.int))
theorem JW {a b:List Value}(h:a.length=b.length):(a.toArray.zip b.toArray).map (·.2)=b.toArray:=by
 apply Array.toList_inj.mp
 rw [Array.toList_map,ksk_zip]
 show (a.zip b).map Prod.snd=b
 rw [List.map_snd_zip]
 omega
section
variable {X:Cx}{pins:List (Addr×Obj)}{σ:St}{H:Hp}{s:Shared}
theorem Qa {E:Value->Shared->Prop}{p f:Addr}{vs:List V}{keyf:Nat->List Int}{Q:Value->Shared->Prop}(I:Inv X pins σ H s) (hq:SqL X.K H p vs) (h64:vs.length<64) (hne:∀ i,i<vs.length->keyf i≠[])
  (hcall:∀ i v,vs[i]? = some v->∀ pins' s' H' u,Inv X pins' σ H' s'->jj H H'->jB v u->wpAny (model X.prog X.w) X.A.in1.in1 (call (.ref f) [u]) (EP X pins' σ fun kv H''=>jj H' H''/\∃ q,kv = .ref q/\H'' q=some (.tup ((keyf i).map V.int))) (fun _ _=>False) s')
  (k:∀ l H' out s',Inv X pins σ H' s'->H l=none->H' l=some (.lst out)->jj H H'->uf wb keyf vs out->Q (.ref l) s') :
  wpAny (model X.prog X.w) X.A (call (.builtin "sorted") [.ref p] [(Str.ofString "key",.ref f)]) Q E s:=by
 obtain ⟨its,rv,pl,hz⟩:=I.list hq
 have hlen:its.length=vs.length:=rv.length.symm
 refine call_function_entry_kw kind_sorted plain_sorted entry_sorted (ksk_s1 _ _) ?_
 unfold Builtin.«sorted»
 refine wpAny_bind (m:=checkCount "sorted" 1 1 _) (wpAny_pure ?_)
 refine wpAny_bind (collect_list pl.isList ?_ (by rw [sizeLine_eq];omega))
 refine wpAny_bind (wpAny_newList ?_ (by rw [sizeLine_eq];omega))
 have hsz:((s.heap.push (seqObj "list" #[] 0)).update s.heap.objs.size (Obj.mapSeq (· ++ its.toArray))).objs.size=s.heap.objs.size+1:=by
  rw [Heap.size_update,size_push']
 have ho:(((s.heap.push (seqObj "list" #[] 0)).update s.heap.objs.size (Obj.mapSeq (· ++ its.toArray))).push (seqObj "list" its.toArray 0)).get? (s.heap.objs.size+1)=some (seqObj "list" its.toArray 0):=by
  rw [<- hsz];exact Heap.get?_push_size _ rfl
 have keep:∀ b o,s.heap.get? b=some o->(((s.heap.push (seqObj "list" #[] 0)).update s.heap.objs.size (Obj.mapSeq (· ++ its.toArray))).push (seqObj "list" its.toArray 0)).get? b=some o:=fun b o q=>by
  have hlt:b<s.heap.objs.size:=Heap.lt_size q
  rw [Heap.get?_push_ne _ _ _ (by rw [hsz];exact Nat.ne_of_lt (Nat.lt_succ_of_lt hlt)),Heap.get?_update_ne _ _ _ _ (Nat.ne_of_lt hlt),Heap.get?_push_ne _ _ _ (Nat.ne_of_lt hlt)]
  exact q
 show wpAny _ _ _ _ _ { s with heap:=((s.heap.push (seqObj "list" #[] 0)).update s.heap.objs.size (Obj.mapSeq (· ++ its.toArray))).push (seqObj "list" its.toArray 0) }
 rw [hsz]
 refine wpAny_bind (wpAny_holding (wpAny_call_entry_kw slot_list_sort ⟨_,ho,rfl⟩ entry_list_sort ?body (ksk_l1 _ _)))
 case body =>
  generalize ((s.heap.push (seqObj "list" #[] 0)).update s.heap.objs.size (Obj.mapSeq (· ++ its.toArray))).push (seqObj "list" its.toArray 0)=h0 at ho keep
  generalize ha:s.heap.objs.size+1=a at ho
  have hDs:s.heap.objs.size<=a:=by rw [<- ha];exact Nat.le_succ _
  have aNew:∀ b o,s.heap.get? b=some o->b≠a:=fun b o q=>by have:=Heap.lt_size q;rw [<- ha];exact Nat.ne_of_lt (Nat.lt_succ_of_lt this)
  show wpAny (model X.prog X.w) X.A.in1.in1 (Builtin.«list.sort» ⟨[.ref a],[(Str.ofString "key",.ref f)]⟩) _ _ { s with heap:=h0 }
  rw [ksk_t1]
  unfold ksk_tree
  have hal:a<h0.objs.size:=Heap.lt_size ho
  refine wpAny_bind (listItems_at ho rfl ?_)
  refine wpAny_bind (listUpdate_at ho rfl ?_ (by rw [List.size_toArray,sizeLine_eq];omega) (Nat.zero_le _))
  obtain ⟨e1,ho1⟩:∃ e1,(h0.update a (Obj.mapSeq fun _=>(#[]:Array Value))).get? a=some (seqObj "list" #[] e1):=⟨_,get?_update_seq ho (fun _=>#[])⟩
  refine wpAny_bind (seqEpoch_at ho1 rfl ?_)
  refine wpAny_bind (wpAny_newTuple ?_ (by show its.length<=_;rw [sizeLine_eq];omega))
  refine wpAny_bind (wpAny_newList ?_ (Nat.zero_le _))
  refine wpAny_holding ?_
  have ho5:((h0.update a (Obj.mapSeq fun _=>(#[]:Array Value))).push (seqObj "tuple" its.toArray 0)).get? a=some (seqObj "list" #[] e1):=Heap.get?_push_of_some _ ho1
  have keep5:∀ b o,s.heap.get? b=some o->((h0.update a (Obj.mapSeq fun _=>(#[]:Array Value))).push (seqObj "tuple" its.toArray 0)).get? b=some o:=fun b o q =>
   Heap.get?_push_of_some _ ((Heap.get?_update_ne _ _ _ _ (aNew b o q)).trans (keep b o q))
  show wpAny (model X.prog X.w) X.A.in1.in1 (ksk_rest a (.ref f) false its.toArray e1 (.ref ((h0.update a (Obj.mapSeq fun _=>(#[]:Array Value))).push (seqObj "tuple" its.toArray 0)).objs.size)) _ _
   { s with heap:=((h0.update a (Obj.mapSeq fun _=>(#[]:Array Value))).push (seqObj "tuple" its.toArray 0)).push (seqObj "list" #[] 0) }
  generalize (h0.update a (Obj.mapSeq fun _=>(#[]:Array Value))).push (seqObj "tuple" its.toArray 0)=h5 at ho5 keep5
  have I5:Inv X pins σ H { s with heap:=h5,toks:=s.toks }:=I.kept keep5
  have hHa:H a=none:=I.hok.fresh hDs
  have hHk:H h5.objs.size=none:=I5.hok.fresh (Nat.le_refl _)
  have hLoc:a≠X.env.locals:=fun z=>by
   obtain ⟨m,⟨o,es,ep,e,_⟩,_⟩:=I.loc
   exact aNew _ _ e z.symm
  have hFs:a∉X.fs:=I.nofs hDs
  have hCell:∀ x c,X.env.cells.lookup x=some c->c≠a:=fun x c e=>by
   obtain ⟨v,o,e2,_⟩:=I.cell x c e
   exact aNew c o e2
  have hPins:∀ q∈X.pn++pins,q.1≠a:=fun q hq=>aNew _ _ (I.pin q hq).1
  have I6:Inv X ((a,seqObj "list" #[] e1)::pins) σ (upd H h5.objs.size (.lst [])) { s with heap:=h5.push (seqObj "list" #[] 0),toks:=s.toks }:=by
   refine Inv.pins_of (I5.lnew (its:=[]) (ys:=[]) .nil (Nat.zero_le _)) fun q hq=>?_
   rcases List.mem_cons.mp hq with rfl | hq
   ·refine ⟨Heap.get?_push_of_some _ ho5,?_,hLoc,hFs,fun v=>by intro z;cases z⟩
    rw [j5 (Nat.ne_of_lt (Heap.lt_size ho5))]
    exact hHa
   ·have J:=(I5.lnew (its:=[]) (ys:=[]) (t':=s.toks) .nil (Nat.zero_le _)).pin q (List.mem_append_right _ hq)
    exact J
  unfold ksk_rest
  refine wpAny_bind (wpAny_rule ?_)
  first
   | rw [List.forIn_toArray]
   | (rw [<- Array.forIn_toList];simp only [List.toList_toArray])
   | rw [<- Array.forIn_toList]
  refine wpAny_bind (ksk_fold (fun j s'=>∃ H' ks,Inv X ((a,seqObj "list" #[] e1)::pins) σ H' s'/\jj H H'/\H' h5.objs.size=some (.lst ks)/\Wc H' ks keyf j) its 0 _
   ⟨_,[],I6,jj.new hHk,j6,rfl,fun i hi=>absurd hi (Nat.not_lt_zero _)⟩ (fun j x s' hx hJ=>?_) fun s' hJ=>?_)
  ·-- a key
   rw [Nat.zero_add] at hJ ⊢
   obtain ⟨H',ks,J,sm,hk,hl,hks⟩:=hJ
   have hj:j<its.length:=(List.getElem?_eq_some_iff.mp hx).1
   have hv:vs[j]? = some (vs[j]'(by omega)):=List.getElem?_eq_getElem (by omega)
   obtain ⟨u,e5,ru⟩:=rv.get hv
   rw [hx] at e5
   cases e5
   refine wpAny_bind (wpAny_attempt (wpAny_mono (hcall j _ hv _ s' H' x J sm ru) (fun kv s'' hk2=>?_) fun _ _ hF=>hF.elim))
   obtain ⟨kv',H'',J2,rk,sm2,q,rfl,hqq⟩:=hk2
   dsimp only
   have hk':=sm2 _ _ hk
   obtain ⟨z,itk,n,rvk,hlk,ek⟩:=J2.lstM hk'
   refine wpAny_bind (listUpdate_at ek rfl ?_ (by rw [List.size_toArray,<- hlk,hl,sizeLine_eq];omega) (Nat.le_trans (Nat.le_of_eq (Array.size_push ..)) (by rw [List.size_toArray,<- hlk,hl,sizeLine_eq];omega)))
   refine wpAny_pure ⟨rfl,_,ks++[.ref q],J2.lset (t':=s''.toks) (its':=itk++[kv]) hk' ek (by simp) (rvk.append (.cons rk .nil)) (by rw [List.length_append,List.length_singleton,hl];exact Nat.le_trans (by omega:j+1<=1000) (by decide)),fun b o e=>?_,j6,?_,fun i hi=>?_⟩
   ·rw [j5 (j1 e hHk)]
    exact sm2 _ _ (sm _ _ e)
   ·rw [List.length_append,List.length_singleton,hl]
   ·by_cases hij:i<j
    ·obtain ⟨q',e6,e7⟩:=hks i hij
     refine ⟨q',by rw [List.getElem?_append_left (by omega)];exact e6,?_⟩
     have e8:=sm2 _ _ e7
     rw [j5 (jp e8 hk' (by intro z;cases z))]
     exact e8
    ·have:i=j:=by omega
     subst this
     refine ⟨q,by rw [List.getElem?_append_right (by omega),hl];simp,?_⟩
     rw [j5 (jp hqq hk' (by intro z;cases z))]
     exact hqq
  ·-- behind the keys
   rw [Nat.zero_add] at hJ
   obtain ⟨H',ks,J,sm,hk,hl,hks⟩:=hJ
   obtain ⟨z,itk,n,rvk,hlk,ek⟩:=J.lstM hk
   have hlk':itk.length=its.length:=by omega
   refine wpAny_bind (listItems_at ek rfl ?_)
   obtain ⟨eD,nD,_⟩:=J.pin (a,seqObj "list" #[] e1) (List.mem_append_right _ List.mem_cons_self)
   have hak:a≠h5.objs.size:=fun z=>by rw [z,hk] at nD;cases nD
   have keyAt:∀ i,i<its.length->∃ q itq o m,itk.getD i Value.none = .ref q/\s'.heap.get? q=some o/\o.cls = .type "tuple" /\ o.data = .seq itq.toArray m/\IntsAre itq (keyf i):=fun i hi=>by
    obtain ⟨q,e6,e7⟩:=hks i hi
    obtain ⟨u,e8,ru⟩:=rvk.get e6
    cases ru
    obtain ⟨zz,itq,rq,o,e9,ec,m,ed⟩:=J.hok q _ e7
    exact ⟨q,itq,o,m,by rw [List.getD_eq_getElem?_getD,e8];rfl,e9,ec,ed,xr rq⟩
   have fin:∀ (ix:List Nat) (st':SortSt),ix.Perm (List.range its.length)->(ix.map keyf).Pairwise wb.kle->failedOf st'=none->(arrOf st').map (·.2)=(ix.map fun i=>its.getD i Value.none).toArray ->
     wpAny (model X.prog X.w) X.A.in1.in1 (ksk_tail a false e1 (.ref h5.objs.size) st') (fun fin s'=>∃ v,fin = .done (.ret v)/\wpAny (model X.prog X.w) X.A.in1 (do let _ <- pure v;ret (Value.ref a)) (fun fin s'=>∃ v,fin = .done (.ret v)/\Q v s') E s') E s':=by
    intro ix st' hp hg hf hout
    unfold ksk_tail
    dsimp only
    rw [hout]
    have hol:(ix.map fun i=>its.getD i Value.none).length<64:=by rw [List.length_map,hp.length_eq,List.length_range];omega
    refine wpAny_bind (listUpdate_at ek rfl ?_ (by rw [List.size_toArray,hlk',sizeLine_eq];omega) (Nat.zero_le _))
    refine wpAny_bind (wpAny_letGo ?_)
    have J2:Inv X ((a,seqObj "list" #[] e1)::pins) σ (upd H' h5.objs.size (.lst [])) { s' with heap:=s'.heap.update h5.objs.size (Obj.mapSeq fun _=>(#[]:Array Value)),toks:=s'.toks }:=J.lset (its':=[]) (ys:=[]) hk ek rfl .nil (Nat.zero_le _)
    have eD2:(s'.heap.update h5.objs.size (Obj.mapSeq fun _=>(#[]:Array Value))).get? a=some (seqObj "list" #[] e1):=(Heap.get?_update_ne _ _ _ _ hak).trans eD
    refine wpAny_bind (seqEpoch_at eD2 rfl ?_)
    refine wpAny_bind (listUpdate_at eD2 rfl ?_ (Nat.zero_le _) (by simp only [Bool.false_eq_true,if_false];rw [List.size_toArray,sizeLine_eq];omega))
    rw [hf]
    simp only [bne_self_eq_false,Bool.false_eq_true,if_false]
    refine wpAny_pure ⟨_,rfl,wpAny_bind (wpAny_pure (wpAny_pure ⟨_,rfl,?_⟩))⟩
    have eo:∃ n,((s'.heap.update h5.objs.size (Obj.mapSeq fun _=>(#[]:Array Value))).update a (Obj.mapSeq fun _=>(ix.map fun i=>its.getD i Value.none).toArray)).get? a=some (seqObj "list" (ix.map fun i=>its.getD i Value.none).toArray n):=⟨_,get?_update_seq eD2 fun _=>_⟩
    obtain ⟨n',eo⟩:=eo
    have J3:=J2.adopt (o:=.lst (ix.map fun i=>vs.getD i V.non)) (t':=s'.toks) (Nat.le_trans I.sz hDs) hCell hPins
     (h':=(s'.heap.update h5.objs.size (Obj.mapSeq fun _=>(#[]:Array Value))).update a (Obj.mapSeq fun _=>(ix.map fun i=>its.getD i Value.none).toArray)) (fun b u n e=>(Heap.get?_update_ne _ _ _ _ n).trans e) ⟨by rw [List.length_map,hp.length_eq,List.length_range];exact Nat.le_trans (by omega:its.length<=1000) (by decide),_,n',uz rv ix,eo⟩
    refine k a _ _ _ J3 hHa j6 (fun b o e=>?_) ⟨ix,by rw [<- hlen];exact hp,rfl,hg⟩
    rw [j5 (j1 e hHa),j5 (j1 e hHk)]
    exact sm _ _ e
   unfold ksk_end
   dsimp only
   simp only [Bool.false_eq_true,if_false]
   by_cases h2:its.toArray.size<2
   ·rw [if_pos h2,if_pos h2]
    refine wpAny_bind (wpAny_pure ?_)
    rw [StateT.run_pure]
    refine wpAny_bind (wpAny_pure ?_)
    dsimp only
    rw [List.size_toArray] at h2
    refine fin (List.range its.length) _ (List.Perm.refl _) ?_ rfl ?_
    ·have hcase:its.length=0\/its.length=1:=by omega
     rcases hcase with z | z
     ·rw [z];exact List.Pairwise.nil
     ·rw [z];exact List.pairwise_singleton _ _
    ·rw [vm]
     exact JW hlk'
   ·rw [if_neg h2,if_neg h2]
    rw [List.size_toArray] at h2
    have tups:∃ fs,KatTups s'.heap itk fs/\0<fs.length/\∀ v∈fs,Looks (model X.prog X.w) s'.heap (typeOf v) (.type "int"):=by
     have go:∀ (l:List Value),(∀ i,i<l.length->∃ q itq o m ns,l.getD i Value.none = .ref q/\s'.heap.get? q=some o/\o.cls = .type "tuple" /\ o.data = .seq (List.toArray itq) m/\IntsAre itq ns/\ns≠[]) ->
       ∃ fs,KatTups s'.heap l fs/\fs.length=l.length/\∀ v∈fs,Looks (model X.prog X.w) s'.heap (typeOf v) (.type "int"):=by
      intro l
      induction l with
      | nil=>intro _;exact ⟨[],.nil,rfl,fun _ h=>nomatch h⟩
      | cons v l ih =>
       intro h
       obtain ⟨fs,t,e,lk⟩:=ih fun i hi=>h (i+1) (by rw [List.length_cons];omega)
       obtain ⟨q,itq,o,m,ns,e1,e2,e3,e4,e5,e6⟩:=h 0 (by rw [List.length_cons];omega)
       have e1':v = .ref q:=e1
       subst e1'
       cases e5 with
       | nil=>exact absurd rfl e6
       | cons n t' r =>
        refine ⟨.int n t'::fs,KatTups.cons e2 e3 e4 (by simp) t,by rw [List.length_cons,List.length_cons,e],fun v hv=>?_⟩
        rcases List.mem_cons.mp hv with rfl | hv
        ·exact Looks.of_pure rfl
        ·exact lk v hv
     obtain ⟨fs,t,e,lk⟩:=go itk fun i hi=>by
      obtain ⟨q,itq,o,m,a1,a2,a3,a4,a5⟩:=keyAt i (by omega)
      exact ⟨q,itq,o,m,keyf i,a1,a2,a3,a4,a5,hne i (by omega)⟩
     exact ⟨fs,t,by omega,lk⟩
    obtain ⟨fs,t,hfs,lk⟩:=tups
    refine wpAny_bind (kat_kind (T:=.type "int") t hfs lk rfl ?_)
    rw [show (Value.type "int" != Value.type "tuple")=true from rfl]
    refine wpAny_bind (wpAny_mono (kat_run (ks:=itk) (vs:=its) (κ:=tuples' true) (G:=fun p s2=>(qi its.length p/\(p.toList.map keyf).Pairwise wb.kle)/\s2=s') (Q:=fun st' s2=>∃ p:Array Nat,arrOf st'=p.map (kas_item (itk.toArray.zip its.toArray))/\failedOf st'=none/\(qi its.length p/\(p.toList.map keyf).Pairwise wb.kle)/\s2=s')
     hlk' (by omega) (by omega) (fun p st' s' a1 a2 a3 a4=>⟨p,a2,a3,a4⟩) (qP.wp (lt:=ltK wb keyf) (n:=its.length) (I:=fun s2=>s2=s') (fun i j C s2 hi hj hI hC=>?_) (fun p s2 hp hI=>⟨hp,hI⟩) (ku (by omega) fun p' hP hS=>⟨hP,hS.pairwise hP.size⟩) rfl)) ?_ fun _ _ e=>e)
    ·subst hI
     obtain ⟨q,itq,o,m,a1,a2,a3,a4,a5⟩:=keyAt i hi
     obtain ⟨q',itq',o',m',b1,b2,b3,b4,b5⟩:=keyAt j hj
     unfold kas_ask
     rw [a1,b1]
     exact QZ a2 a4 b2 b4 a5 b5 (hC _ rfl)
    ·rintro ⟨⟨⟩,st'⟩ s2 ⟨p,har,hf,⟨hP,hG⟩,rfl⟩
     dsimp only
     exact fin p.toList st' (by have:=Array.perm_iff_toList_perm.mp hP;simpa using this) hG hf (kat_snds hlk' har)
end
end L2
end
section
namespace L2
open PySem PySem.Spec PySem.W PyProof.Rows
section
variable {prog:Program}{w:World}{A:Around}{E:Value->Shared->Prop}{s:Shared}
theorem QV (n:Nat):Builtin.Slice.sliceAdjust none none (-1) (n:Int)=((n:Int)-1,-1):=by
 unfold Builtin.Slice.sliceAdjust
 simp
theorem XI (n:Nat):Builtin.Slice.slicePlaces ((n:Int)-1) (-1) (-1)=n:=by
 unfold Builtin.Slice.slicePlaces
 have h1:¬ ((-1:Int) > 0):=by decide
 simp only [h1,if_false]
 by_cases h:n=0
 ·subst h;simp
 ·rw [show (- -1:Int)=1 by decide]
  simp only [Int.ediv_one]
  split <;> omega
theorem uL {sl:Addr}{v3:Value}{n:Nat}{Q:Int×Int×Nat->Shared->Prop}(hs:s.heap.IsSliceOf sl .none .none v3) (pk:IsPart v3 (some (-1)))
  (h:Q ((n:Int)-1,-1,n) s):wpAny (model prog w) A (Builtin.Slice.sliceApplied (.ref sl) (pure (n:Int))) Q E s:=by
 obtain ⟨os,hos,hcs,hds⟩:=id hs
 unfold Builtin.Slice.sliceApplied Builtin.Slice.sliceFields
 refine wpAny_bind (wpAny_bind (wpAny_field hos hds (x:=.none) rfl (wpAny_bind (wpAny_field hos hds (x:=.none) rfl (wpAny_bind (wpAny_field hos hds (x:=v3) rfl (wpAny_pure ?_)))))))
 refine wpAny_bind (HT.slicePart_ pk ?_)
 show wpAny _ _ (if ((-1:Int) == 0)=true then _ else _) _ _ s
 rw [if_neg (by decide)]
 refine wpAny_bind (HT.slicePart_ .none (wpAny_bind (HT.slicePart_ .none (wpAny_bind (wpAny_pure ?_)))))
 show wpAny _ _ (match Builtin.Slice.sliceAdjust none none (-1) (n:Int) with | (lo,hi)=>pure (lo,(-1:Int),Builtin.Slice.slicePlaces lo hi (-1))) _ _ s
 rw [QV n]
 show wpAny _ _ (pure ((n:Int)-1,(-1:Int),Builtin.Slice.slicePlaces ((n:Int)-1) (-1) (-1))) _ _ s
 rw [XI]
 exact wpAny_pure h
theorem YY (xs:Array Value):((List.range xs.size).filterMap fun (m:Nat)=>xs[(((xs.size:Int)-1)+(m:Int) * -1).toNat]?).toArray=xs.toList.reverse.toArray:=by
 have e:((List.range xs.size).filterMap fun (m:Nat)=>xs[(((xs.size:Int)-1)+(m:Int) * -1).toNat]?)=((List.range xs.size).map fun k=>xs.size-1-k).filterMap (xs[·]?):=by
  rw [List.filterMap_map]
  congr 1
  funext m
  show xs[(((xs.size:Int)-1)+(m:Int) * -1).toNat]? = xs[xs.size-1-m]?
  congr 1
  omega
 rw [e,krv_range,List.filterMap_reverse,krv_all]
theorem uk {t sl:Addr}{items:Array Value}{v3:Value}{Q:Value->Shared->Prop}(ht:IsTup s.heap t items) (hs:s.heap.IsSliceOf sl .none .none v3) (pk:IsPart v3 (some (-1)))
  (h:Q (.ref s.heap.objs.size) { s with heap:=s.heap.push { cls:=.type "tuple",data:=.seq items.toList.reverse.toArray } }) (hsz:items.size<=sizeLine):wpAny (model prog w) A (getItem (.ref t) (.ref sl)) Q E s:=by
 have htake:sizeOk (.seq items.toList.reverse.toArray):=by
  show items.toList.reverse.toArray.size<=sizeLine
  rw [List.size_toArray,List.length_reverse,Array.length_toList]
  exact hsz
 obtain ⟨os,hos,hcs,hds⟩:=id hs
 have hTs:s.TypeIs (.ref sl) "slice":=⟨os,hos,hcs⟩
 unfold getItem
 try with_reducible refine wpAny_holding ?_
 first | refine wpAny_bind (wpAny_pure ?_) | skip
 refine wpAny_bind (wpAny_sequenceKey ht.typeIs (by decide) ?_)
 refine wpAny_bind (wpAny_callSpecial?_slot (name:=Str.ofString "__getitem__") ht.typeIs PyProof.Rows.slot_tuple_getitem
  (wpAny_call_entry PyProof.Rows.slot_tuple_getitem ht.typeIs entry_tuple_getitem ?_ (args_tuple_getitem _ _)))
 show wpAny _ _ (Builtin.Tuple.tupleItemsOf (.ref t) >>= _) _ _ s
 refine wpAny_bind (tupleItemsOf_ ht ?_)
 refine wpAny_bind (wpAny_typeOf hTs ?_)
 rw [if_pos (by decide)]
 refine wpAny_bind (uL hs pk ?_)
 show wpAny _ _ (if (((items.size:Int)-1) == 0 && (-1:Int) == 1 && items.size == items.size)=true then _ else _) _ _ s
 rw [if_neg (by simp),YY]
 first
  | exact wpAny_bind (m:=Builtin.Tuple.tupleExact _) (wpAny_newObj_type (wpAny_pure ⟨_,rfl,wpAny_pure h⟩) htake)
  | exact wpAny_bind (m:=Builtin.Tuple.tupleExact _) (wpAny_newObj_type (wpAny_bind (wpAny_pure (wpAny_pure ⟨_,rfl,wpAny_pure h⟩))) htake)
  | exact wpAny_bind (wpAny_bind (m:=Builtin.Tuple.tupleExact _) (wpAny_newObj_type (wpAny_pure (wpAny_pure ⟨_,rfl,wpAny_pure h⟩)) htake))
  | exact wpAny_bind (wpAny_bind (m:=Builtin.Tuple.tupleExact _) (wpAny_newObj_type (wpAny_pure ⟨_,rfl,wpAny_pure h⟩) htake))
end
section
variable {X:Cx}{e:Expr}{te:TE}{pos p2 p3 p4:Pos}{j3:Nat}
def Gu (K:PySem.W.Frag) (te:TE):TE:=fun σ H Q=>te σ H fun x H2=>∃ a xs,x = .ref a/\SqT K H2 a xs/\New H2 (.tup xs.reverse) Q
def E7 (K:PySem.W.Frag) (te:TE):TE:=fun σ H Q=>te σ H fun x H2=>∃ a xs,x = .ref a/\SqL K H2 a xs/\New H2 (.lst xs.reverse) Q
theorem U8 (K:PySem.W.Frag) (he:PE X e te) (hK:X.K=K:=by rfl):PE X (.Subscript e (.Slice none none (some (.UnaryOp .USub (.Constant (.int 1) j3 p3) p4)) p2) pos) (Gu K te):=by
 subst hK
 intro pins s σ H Q I h
 refine Subscript_ (thn (he pins s σ H _ I h) fun v s1 ⟨x,H1,I1,r1,q1⟩=>?_)
 refine wpAny_Slice ?_
 rw [evalPart_none]
 refine wpAny_pure ?_
 refine wpAny_pure ?_
 rw [evalPart_some]
 obtain ⟨a,xs,rfl,hx,q⟩:=q1
 refine thn (yZ zF j7 pins s1 σ H1 (fun y H2=>y = .int (-1)/\H2=H1) I1 ⟨_,rfl,rfl,rfl⟩) fun u s3 ⟨y,H3,I3,ry,ey,eH⟩=>?_
 subst ey eH
 obtain ⟨tk,rfl⟩:=ry
 cases r1
 have I4:Inv X pins σ H3 { s3 with heap:=s3.heap.push { cls:=.type "slice",data:=.fields #[.none,.none,.int (-1) tk] } }:=I3.kept (t':=s3.toks) fun b ob q=>Heap.get?_push_of_some _ q
 obtain ⟨its,r,ht,hz⟩:=I4.tuple hx
 have hlen:its.toArray.size=xs.length:=by rw [List.size_toArray];exact r.length.symm
 show wpAny (model X.prog X.w) X.A (subscriptTail e (.Slice none none (some (.UnaryOp .USub (.Constant (.int 1) j3 p3) p4)) p2) (.ref a) (.ref s3.heap.objs.size)) (EP X pins σ Q) X.xe { s3 with heap:=s3.heap.push { cls:=.type "slice",data:=.fields #[.none,.none,.int (-1) tk] } }
 refine tail_any (ops:=[.ref a,.ref s3.heap.objs.size]) ht.typeIs PyProof.Rows.slot_tuple_getitem.lookup ?_ (by with_unfolding_all rfl)
 refine uk ht (Heap.IsSliceOf.new ..) (.int _ _) ?_ (by rw [hlen];exact hz)
 have hf:=I4.hok.fresh (Nat.le_refl _)
 refine ⟨.ref _,_,I4.laid (t':=s3.toks) (o:=.tup xs.reverse) (fun b ob q=>Heap.get?_push_of_some _ q) (Nat.le_refl _) ?_,rfl,q.at _ hf⟩
 exact ⟨by rw [List.length_reverse];exact hz,_,r.reverse,IsTup.new _ _⟩
theorem Uy (K:PySem.W.Frag) (he:PE X e te) (hK:X.K=K:=by rfl):PE X (.Subscript e (.Slice none none (some (.UnaryOp .USub (.Constant (.int 1) j3 p3) p4)) p2) pos) (E7 K te):=by
 subst hK
 intro pins s σ H Q I h
 refine Subscript_ (thn (he pins s σ H _ I h) fun v s1 ⟨x,H1,I1,r1,q1⟩=>?_)
 refine wpAny_Slice ?_
 rw [evalPart_none]
 refine wpAny_pure ?_
 refine wpAny_pure ?_
 rw [evalPart_some]
 obtain ⟨a,xs,rfl,hx,q⟩:=q1
 refine thn (yZ zF j7 pins s1 σ H1 (fun y H2=>y = .int (-1)/\H2=H1) I1 ⟨_,rfl,rfl,rfl⟩) fun u s3 ⟨y,H3,I3,ry,ey,eH⟩=>?_
 subst ey eH
 obtain ⟨tk,rfl⟩:=ry
 cases r1
 have I4:Inv X pins σ H3 { s3 with heap:=s3.heap.push { cls:=.type "slice",data:=.fields #[.none,.none,.int (-1) tk] } }:=I3.kept (t':=s3.toks) fun b ob q=>Heap.get?_push_of_some _ q
 obtain ⟨its,r,ht,hz⟩:=I4.list hx
 have hlen:its.length=xs.length:=r.length.symm
 show wpAny (model X.prog X.w) X.A (subscriptTail e (.Slice none none (some (.UnaryOp .USub (.Constant (.int 1) j3 p3) p4)) p2) (.ref a) (.ref s3.heap.objs.size)) (EP X pins σ Q) X.xe { s3 with heap:=s3.heap.push { cls:=.type "slice",data:=.fields #[.none,.none,.int (-1) tk] } }
 refine tail_any (ops:=[.ref a,.ref s3.heap.objs.size]) ht.isList.typeIs slot_list_getitem.lookup ?_ (by with_unfolding_all rfl)
 refine wpAny_getItem_list_slice ht.isList (Heap.IsSliceOf.new ..) .none .none (.int _ _) (by decide) ?_ (by rw [List.size_toArray];omega)
 rw [krv_pick]
 have hf:=I4.hok.fresh (Nat.le_refl _)
 refine ⟨.ref _,_,I4.laid (t':=s3.toks) (o:=.lst xs.reverse) (fun b ob q=>Heap.get?_push_of_some _ q) (Nat.le_refl _) ?_,rfl,q.at _ hf⟩
 exact ⟨by rw [List.length_reverse];exact hz,_,0,r.reverse,Heap.get?_push_size _ rfl⟩
end
theorem SqL.extT {K:PySem.W.Frag}{Pt a:Addr}{H H':Hp}{xs:List V}{ps:Array Value}(hp:H Pt=some (.tbl ps)) (x:Ext Pt H H') (h:SqL K H a xs):SqL K H' a xs:=by
 rcases h with (h | ⟨o,h⟩) | h
 ·exact .inl (.inl (x _ _ h (jp h hp (by intro z;cases z))))
 ·exact .inl (.inr ⟨o,x _ _ h (jp h hp (by intro z;cases z))⟩)
 ·exact .inr h
section
variable {X:Cx}{e body:Expr}{ta:TA}{tb:TE}{params:Arguments}{scope:Scope}{lpos kpos p pos:Pos}{N:List Str}{x:Str}{c Pt:Addr}{k:Nat}
def WW (K:PySem.W.Frag) (Pt:Addr) (lpos:Pos) (qual:Str) (N:List Str) (ta:TA) (tb:TE):TE:=fun σ H Q=>ta σ H fun xs H1=>Tab H1 Pt lpos qual/\∃ (p:Addr) (vs:List V) (keyf:Nat->List Int),xs=[.ref p]/\SqL K H1 p vs/\vs.length<64/\(∀ i,i<vs.length->keyf i≠[]) /\
 (∀ H2,Ext Pt H1 H2->∀ i v,vs[i]? = some v->tb (start N [v]) H2 fun kv H3=>jj H2 H3/\∃ q,kv = .ref q/\H3 q=some (.tup ((keyf i).map V.int))) /\
 ∀ l H2 out,H1 l=none->H2 l=some (.lst out)->Ext Pt H1 H2->Tab H2 Pt lpos qual->uf wb keyf vs out->Q (.ref l) H2
theorem XN (hg:Gl X "sorted") (hm:X.mg "sorted" = none) (ha:PA X [e] ta) (hcode:X.env.code = .ref c) (CH:CodeHd X.base c Pt) (hB:Bm X.mg X.base) (hr:Room (k+3) X.A) (S:FnScope N [x] scope)
  (hb:∀ pm c ctv u,bindArgs (vK (X.env.qual ++ "<lambda>") params body scope pm c ctv) ⟨[u],[]⟩=pure [(x,u)])
  (hbody:∀ f c' s H,PE (vt CX0 X.prog X.w X.K X.mg X.base N (X.env.qual ++ "<lambda>") scope f (.ref c') X.A.in1.in1 X.stack s H E0).nox body tb)
  (hcl:closureFor scope X.env=pure []:=by rfl) (hdef:defaultsOf params X.env=([],[]):=by rfl)
  (he:backTo pos (starEach [e] X.env)=(false,eval e X.env)::backTo pos (starEach [] X.env):=by rfl) (hplain:(backTo pos (starEach [e] X.env)).any (·.1)=false:=by rfl) :
  PE X (.Call (.Name "sorted" p) [e] [⟨some (Str.ofString "key"),.Lambda params body scope lpos,kpos⟩] pos) (WW X.K Pt lpos (X.env.qual ++ "<lambda>") N ta tb):=by
 intro pins s σ H Q I h
 refine wpAny_Call_Name_kw (zY I hg hm boot_sorted ?_ (by decide) (by decide))
 refine callWith_kw (thn (ha pos pins s σ H _ I h) fun us s1 ⟨vs,H1,I1,r,q⟩=>?_) he hplain
 show wpAny _ _ (evalAll ((do let v <- eval (.Lambda params body scope lpos) X.env;standAt pos;pure v)::[])) _ _ s1
 obtain ⟨T,a,xs,keyf,e1,hx,h64,hne,hkey,hq⟩:=q
 subst e1
 obtain ⟨u0,rfl,ru⟩:=yb r
 cases ru
 obtain ⟨ps0,hPt⟩:=T.ne
 refine wpAny_evalAll_cons (wpAny_bind (YZ I1 hcode CH hB hcl hdef T fun f H2 s2 pm c' ctv I2 hf hf2 hc2 X2 T2=>wpAny_bind (wpAny_standAt (wpAny_pure (wpAny_evalAll_nil ?_)))))
 show wpAny _ _ (call (.builtin "sorted") [.ref a] [(Str.ofString "key",.ref f)]) _ _ s2
 refine Qa I2 (SqL.extT hPt X2 hx) h64 hne (fun i v hv pins' s' H' u I' sm ru=>?_) fun l H3 out s' I3 hl hl3 sm hs=>?_
 ·have X3:Ext Pt H1 H':=X2.trans (Ext.of_same sm)
  obtain ⟨ho,_⟩:=I'.hok f _ (sm _ _ hf2)
  obtain ⟨hcd,_⟩:=I'.hok c' _ (sm _ _ hc2)
  refine wpAny_call (codeAny_mono (U4 (k:=k) ho hcd S (hr.in1.in1) I'.env0.in1.in1 hb ru (hbody f c' s' H') (hkey H' X3 i v hv)) fun r s'' hq=>?_)
  cases r with
  | error e=>exact False.elim hq
  | ok fl =>
   cases fl with
   | ret u=>exact I'.after hq
   | next=>exact False.elim hq
   | brk=>exact False.elim hq
   | cont=>exact False.elim hq
 ·exact ⟨.ref l,H3,I3,rfl,hq l H3 out (X2.free hl (fun z=>by rw [z] at hl;obtain ⟨p2,z2⟩:=T2.ne;rw [z2] at hl;cases hl)) hl3 (X2.trans (Ext.of_same sm)) (T2.same sm) hs⟩
end
end L2
end
section
namespace L2
open PySem PySem.Spec PySem.W PyProof.Rows
theorem ZJ {P:Program}{w:World}{K:PySem.W.Frag}{mg mb:Str->Option Value}{k:Nat}{fa a c Pt:Addr}{fd:FuncData}{x:Str}{sp:Sp}{s₁:Shared}{vs:List Value}{ns:List Int}
  (KX:K.In s₁.heap) (hns:s₁.heap.Ns mainGlobals mg) (hb:s₁.heap.Ns builtinsNs mb) (hbb:∀ x:Str,x ≠ "__name__" -> mb x=bootBuiltins x) (hlim:s₁.heap.NoLimit) (hg:s₁.gens = #[])
  (ha:s₁.heap.get? a=some { cls:=.type "list",data:=.seq vs.toArray }) (hi:IntsAre vs ns) (hl:ns.length<=sizeLine) (hr:Room k callerA)
  (hPt:s₁.heap.get? Pt=some (tabObj #[])) (hKP:K.lookup Pt=none) (CH:CodeHd s₁.heap c Pt) (hB:Bm mg s₁.heap)
  (F:∀ base:Heap,K.In base->base.Ns mainGlobals mg->Bm mg base->FnOk P w K mg base CX0 k fa fd [x] sp) (hbind:∀ (s:Shared) (u:Value),BindsTo s fd ⟨[u],[]⟩ [(x,u)])
  (hsp:∀ H:Hp,SqL K H a (ns.map V.int)->H Pt=some (.tbl #[])->sp [.ref a] H (fun v _=>v = .bl true) fun _ _ _=>False) :
  codeAny (model P w) callerA (.call (.ref fa) ⟨[.ref a],[]⟩) (fun r s'=>r = .ok (.ret (.bool true))/\OldK s₁.heap s'.heap/\s'.os=s₁.os/\AllBare s'.gens) s₁:=by
 have rv:=uu hi
 have lenV:=hi.length
 have core:∀ H:Hp,H Pt=some (.tbl #[])->(∀ b,b≠Pt->H b=none\/∃ o xs,H b=some (.frz o (.lst xs)))->SqL K H a (ns.map V.int)->HOk P w H s₁.heap->(∀ b,H b≠none->b=a\/b=Pt)->(H a≠none->K.lookup a=none) ->
   codeAny (model P w) callerA (.call (.ref fa) ⟨[.ref a],[]⟩) (fun r s'=>r = .ok (.ret (.bool true))/\OldK s₁.heap s'.heap/\s'.os=s₁.os/\AllBare s'.gens) s₁:=by
  intro H hP hO hS hok hA hK
  have base_of:∀ {b:Addr} {o:Obj},s₁.heap.get? b=some o->H b=none->(hX s₁.heap H).get? b=some o:=fun e n=>YM e n
  have noA:∀ {b:Addr} {o:Obj},s₁.heap.get? b=some o->(∀ xs n,o.data≠.seq xs n)->(∀ vs,o.data = .fields vs->o.cls≠.none)->H b=none:=fun {b o} e d1 d2=>by
   cases q:H b with
   | none=>rfl
   | some u =>
    rcases hA b (by rw [q];simp) with e' | e'
    ·subst e'
     rw [ha] at e;cases e
     exact absurd rfl (d1 _ _)
    ·subst e'
     rw [hPt] at e;cases e
     exact absurd rfl (d2 _ rfl)
  have noD:∀ {b:Addr} {o:Obj} {es:Array DictEntry} {ep:Nat},s₁.heap.get? b=some o->o.data = .dict es ep->H b=none:=fun {b o es ep} e d =>
   noA e (fun xs n z=>by rw [d] at z;cases z) (fun vs z=>by rw [d] at z;cases z)
  have nsK:∀ {b:Addr} {m:Str->Option Value},s₁.heap.Ns b m->(hX s₁.heap H).Ns b m:=fun {b m} ⟨o,es,ep,e,d,r⟩=>⟨o,es,ep,base_of e (noD e d),d,r⟩
  have hKb:K.In (hX s₁.heap H):=fun b o e=>base_of (KX b o e) (by
   cases q:H b with
   | none=>rfl
   | some u =>
    rcases hA b (by rw [q];simp) with e' | e'
    ·subst e'
     rw [hK (by rw [q];simp)] at e;cases e
    ·subst e'
     rw [hKP] at e;cases e)
  have hBb:Bm mg (hX s₁.heap H):=by
   obtain ⟨bm,ob,b1,b2,b3,b4,b5,b6⟩:=hB
   exact ⟨bm,ob,b1,b2,base_of b3 (noA b3 (fun xs n z=>by rw [b6] at z;cases z) fun vs z=>by rw [b6] at z;cases z),b4,b5,b6⟩
  have hM:Mod K mg (hX s₁.heap H):=⟨hKb,nsK hns,⟨mb,nsK hb,hbb⟩,let ⟨mc,h1,h2⟩:=hlim;⟨mc,nsK h1,h2⟩⟩
  have e0:Env0 P w K mg (hX s₁.heap H) callerA [] s₁ H:=⟨rfl,hM,fun b o e=>Ud e,Nat.le_of_eq (ZX _ _),trivial,fun b hb=>absurd (show b∈([]:List Addr) from hb) (by simp),hok,.of_eq hg⟩
  refine codeAny_mono ((F _ hKb (nsK hns) hBb).run callerA [] s₁ H ⟨[.ref a],[]⟩ [.ref a] [.ref a] _ _ hr e0 (hbind s₁ (.ref a)) (.cons rfl .nil) (hsp H hS hP)) fun r s' h=>?_
  cases r with
  | error e=>exact False.elim h
  | ok fl =>
   cases fl with
   | next=>exact False.elim h
   | brk=>exact False.elim h
   | cont=>exact False.elim h
   | ret u =>
    obtain ⟨v,H',os,bare,un,hok',r',q⟩:=h
    have q':v = .bl true:=q
    subst q'
    obtain rfl:u=Value.bool true:=r'
    have kp:∀ b o,b≠Pt->s₁.heap.get? b=some o->s'.heap.get? b=some o:=fun b o hb e=>by
     cases q:H b with
     | none=>exact un.keep b o e q (by intro z;exact absurd (show b∈([]:List Addr) from z) (by simp)) (by simp)
     | some u =>
      rcases hO b hb with z | ⟨ob,xs,z⟩
      ·rw [q] at z;cases z
      ·have z2:=un.frzs b ob _ z
       obtain ⟨e1,_⟩:=hok b _ z
       obtain ⟨e2,_⟩:=hok' b _ z2
       rw [e] at e1;cases e1
       exact e2
    obtain ⟨more,hm⟩:=un.tbls Pt _ hP
    have hm':s'.heap.get? Pt=some { cls:=.none,data:=.fields (#[]++more) }:=hok' Pt _ hm
    refine ⟨rfl,⟨fun b o e=>?_,fun b o e=>?_⟩,os,bare⟩
    ·by_cases hb:b=Pt
     ·subst hb
      rw [hPt] at e;cases e
      exact .inr (.inl ⟨(CH.tab hPt).isCodeTable,rfl,#[],more,rfl,hm'⟩)
     ·exact .inl (kp b o hb e)
    ·by_cases hb:b=Pt
     ·subst hb;exact ⟨_,hm'⟩
     ·exact ⟨o,kp b o hb e⟩
 have haP:a≠Pt:=fun z=>by rw [z,hPt] at ha;cases ha
 cases hk:K.lookup a with
 | some o =>
  have e:=KX a o hk
  rw [ha] at e
  cases e
  refine core (fun b=>if b=Pt then some (.tbl #[]) else none) (if_pos rfl) (fun b hb=>.inl (if_neg hb)) (.inr ⟨_,vs.toArray,_,hk,rfl,rfl,rfl,by rw [List.size_toArray,lenV];exact hl,by simpa using rv⟩) (fun b u z=>?_) (fun b z=>?_) fun z=>absurd (if_neg haP) z
  ·by_cases hb:b=Pt
   ·have z':=(if_pos hb).symm.trans z
    cases z'
    subst hb
    exact hPt
   ·have z':=(if_neg hb).symm.trans z
    cases z'
  ·by_cases hb:b=Pt
   ·exact .inr hb
   ·exact absurd (if_neg hb) z
 | none =>
  refine core (fun b=>if b=Pt then some (.tbl #[]) else if b=a then some (.frz { cls:=.type "list",data:=.seq vs.toArray } (.lst (ns.map V.int))) else none) (if_pos rfl) (fun b hb=>?_)
   (.inl (.inr ⟨{ cls:=.type "list",data:=.seq vs.toArray },(if_neg haP).trans (if_pos rfl)⟩)) (fun b u z=>?_) (fun b z=>?_) fun _=>hk
  ·by_cases hb2:b=a
   ·exact .inr ⟨_,_,(if_neg hb).trans (if_pos hb2)⟩
   ·exact .inl ((if_neg hb).trans (if_neg hb2))
  ·by_cases hb:b=Pt
   ·have z':=(if_pos hb).symm.trans z
    cases z'
    subst hb
    exact hPt
   ·by_cases hb2:b=a
    ·have z':=((if_neg hb).trans (if_pos hb2)).symm.trans z
     cases z'
     subst hb2
     exact ⟨ha,by rw [List.length_map];exact hl,vs,_,rv,ha⟩
    ·have z':=((if_neg hb).trans (if_neg hb2)).symm.trans z
     cases z'
  ·by_cases hb:b=Pt
   ·exact .inr hb
   ·by_cases hb2:b=a
    ·exact .inl hb2
    ·exact absurd ((if_neg hb).trans (if_neg hb2)) z
def XU (K:PySem.W.Frag) (Pt:Addr):Sp:=fun vs H Q _=>∃ (a:Addr) (ns:List Int),vs=[.ref a]/\SqL K H a (ns.map V.int)/\ns.length<=63/\H Pt=some (.tbl #[])/\∀ H',Q (.bl true) H'
theorem UQ {l:PySem.W.OpenLaw}{q:Program}{loose:List Str}{XP:(Str->Option Value)->Heap->Prop}{YP:World->Heap->Prop}{d:DefRec}{K:Params->PySem.W.Frag}(k:Nat) (c Pt:Addr) (hr:Room k callerA) (hn:l.most=some 63) (hdf:d.params.defaults=[])
  (hY:∀ (w:World) (h:Heap),YP w h->(K w.params).In h/\h.get? Pt=some (tabObj #[])) (hKP:∀ p:Params,(K p).lookup Pt=none) (hC:∀ p:Params,codeHdIn (K p) c Pt=true)
  (F:∀ (w:World) (mg:Str->Option Value) (fa:Addr) (h:Heap),(K w.params).In h->h.Ns mainGlobals mg->mg d.name=some (.ref fa) ->
   ∃ fd:FuncData,(∀ (s:Shared) (u:Value),BindsTo s fd ⟨[u],[]⟩ [("_law_script",u)])/\∀ base:Heap,(K w.params).In base->base.Ns mainGlobals mg->Bm mg base->FnOk l.prog w (K w.params) mg base CX0 k fa fd ["_law_script"] (XU (K w.params) Pt)) :
  PySem.W.WalkO q loose XP YP l.row.toRowW d [] (fun f vs=>PySem.call f vs):=by
 refine Att.attach_call hn hdf fun w s₀ s₁ mg mb fa o pm cd doc a vs ns G Y ho hd hcd hmg hobj hints hlen hg=>?_
 obtain ⟨KX,hT⟩:=hY w _ Y
 obtain ⟨fd,hb,hF⟩:=F w mg fa _ KX G.T.g hmg
 exact ZJ (c:=c) KX G.T.g G.T.b G.T.builtins G.T.nolimit hg hobj hints (Nat.le_trans hlen (by decide)) hr hT (hKP w.params) (codeHd_of_K KX (hC w.params)) G.T.bmain hF hb fun H hS hP=>⟨a,ns,rfl,hS,hlen,hP,fun _=>rfl⟩
theorem Fun.okC {P:Program}{w:World}{K:PySem.W.Frag}{mg:Str->Option Value}{base:Heap}{x qual:Str}{st:Stmt}{f c:Addr}{oc:Value}{od an:Option Addr}{osl:Array (Option Value)}{kV doc pm ct:Value}{N ps:List Str}{k:Nat}{sp:Sp}
  (l:K.lookup f=some ⟨oc,od,.func (PySem.W.fnOf x qual (jW st) (jM st) (j8 st) .none kV doc pm an (.ref c) ct),osl⟩) (cd:PySem.W.codeIn K (.ref c) qual=true) (S:FnScope N ps (j8 st)) (len:∀ vs H Q E,sp vs H Q E->vs.length=ps.length)
  (hbody:∀ (A:Around) (outer:List Env) (s:Shared) (H:Hp) (vs:List V) (Q:VK) (E:XK),Room k (A.deeper (envOfC qual (j8 st) s.heap.objs.size f (.ref c)))->sp vs H Q E ->
   ∃ t,PSs (vt CX0 P w K mg base N qual (j8 st) f (.ref c) A outer s H E).nox (jM st) t/\t { nx:=fun _ H'=>Q .non H',rt:=Q } (start N vs) H) :
  FnOk P w K mg base CX0 (k+1) f (PySem.W.fnOf x qual (jW st) (jM st) (j8 st) .none kV doc pm an (.ref c) ct) ps sp:=by
 refine Vr l cd S len fun A outer s H vs Q E hr hsp=>?_
 obtain ⟨t,h,q⟩:=hbody A outer s H vs Q E hr hsp
 exact ⟨t,h.nox,q⟩
theorem Cal.mkC {P:Program}{w:World}{K:PySem.W.Frag}{mg:Str->Option Value}{base:Heap}{k:Nat}{x:Str}{ps:List Str}{sp:Sp}{st:Stmt}{h:Heap}{f c:Addr}{oc:Value}{od an:Option Addr}{osl:Array (Option Value)}{kV doc pm ct:Value}
  (X:K.In h) (G:h.Ns mainGlobals mg) (a:PySem.W.nsIn K mainGlobals x=some (some (.ref f)))
  (l:K.lookup f=some ⟨oc,od,.func (PySem.W.fnOf x x (jW st) (jM st) (j8 st) .none kV doc pm an (.ref c) ct),osl⟩) (cd:PySem.W.codeIn K (.ref c) x=true) (k':PySem.W.keepIn K (.ref f)=true)
  (hb:∀ (kV doc pm:Value) (an:Option Addr) (cdv ct:Value) (us:List Value),us.length=ps.length->bindArgs (PySem.W.fnOf x x (jW st) (jM st) (j8 st) .none kV doc pm an cdv ct) ⟨us,[]⟩=pure (ps.zip us))
  (ok:FnOk P w K mg base CX0 k f (PySem.W.fnOf x x (jW st) (jM st) (j8 st) .none kV doc pm an (.ref c) ct) ps sp):Cal P w K mg base k x ps sp:=by
 have F:=vp (st:=st) l cd k'
 exact ⟨f,_,ok,F.binds hb,PySem.W.mg_of X G a,k'⟩
end L2
end
section
namespace L2
open PySem PySem.Spec PySem.W PyProof.Rows
def Ite (K:PySem.W.Frag) (a:Addr):It :=
 ⟨fun i H=>∃ xs x,SqL K H a xs/\xs[i]? = some x,fun i H v H'=>∃ t x,v = .ref t/\H t=none/\H'=upd H t (.tup [.int i,x])/\∀ xs,SqL K H a xs->xs[i]? = some x,fun i H=>∃ xs,SqL K H a xs/\xs.length<=i⟩
theorem Yg {P:Program}{w:World}{K:PySem.W.Frag}{es:List Expr}{x1:Nat}{pos:Pos}(a e it:Addr) (hne:e≠it):Turn P w K (.Tuple es x1 pos) (Ite K a) [e,it] e (fun i h=>∃ old,IsEnum h e it i old/\h.IsListIter it a i) where
 mem:=by simp
 obj:=fun i h ⟨old,st1,st2⟩ b hb=>by
  rcases List.mem_cons.mp hb with rfl | hb
  ·exact ⟨_,st1,fun v z=>by
    have z':Data.fields _=Data.cell v:=z
    cases z'⟩
  ·have e:b=it:=by simpa using hb
   subst e
   obtain ⟨o,e,c,d⟩:=st2
   exact ⟨o,e,fun v z=>by rw [d] at z;cases z⟩
 keep:=fun i h h' ⟨old,st1,st2⟩ k=>⟨old,k e (by simp) _ st1,st2.at fun o z=>k it (by simp) o z⟩
 item:=by
  intro X hP hw hK hc i pins s σ H E I hf st hg
  subst hP hw hK
  obtain ⟨old,st1,st2⟩:=st
  obtain ⟨xs,x,hq,hx⟩:=hg
  obtain ⟨its,rv,p,hz⟩:=I.list hq
  obtain ⟨u,hu,ru⟩:=rv.get hx
  obtain ⟨f0,f1,f2,f3,f4,f5⟩:=hf e (by simp)
  obtain ⟨g0,g1,g2,g3,g4,g5⟩:=hf it (by simp)
  have hn:H s.heap.objs.size=none:=I.hok.fresh (Nat.le_refl _)
  refine wpAny_pyNext_enum_item st1 st2 p.isList (x:=u) (by simpa using hu) hne fun h' o1 o2 o3 o4 o5=>⟨_,rfl,?_⟩
  refine wpAny_letOwnedTupleGo_enum o1 fun h2 q1 sb=>?_
  have hel:e<s.heap.objs.size:=Heap.lt_size st1
  have kk:∀ b o,b≠e->b≠it->s.heap.get? b=some o->h2.get? b=some o:=fun b o n1 n2 z=>(sb.2 b n1).trans (o5 b o n1 n2 z)
  have et:h2.get? s.heap.objs.size=some { cls:=.type "tuple",data:=.seq #[.int i s.toks,u] }:=(sb.2 _ (Nat.ne_of_gt hel)).trans o3
  have tne:∀ b o,H b=some o->b≠e/\b≠it/\b≠s.heap.objs.size:=fun b o q=>⟨fun z=>(by rw [z,f0] at q;cases q),fun z=>(by rw [z,g0] at q;cases q),fun z=>(by rw [z,hn] at q;cases q)⟩
  have getF:∀ {b:Addr} {o:HO},H b=some o->upd H s.heap.objs.size (.tup [.int i,x]) b=some o:=fun {b o} q=>by rw [j5 (tne b o q).2.2];exact q
  have I1:Inv X pins σ (upd H s.heap.objs.size (.tup [.int i,x])) { s with heap:=h2,toks:=s.toks+1 }:=by
   refine I.step (g':=s.gens) (d':=s.drawn) (ch:=[e,it]) (fun b hb=>?_) (fun b o _ _ hc z _=>kk b o (fun y=>hc (by simp [y])) (fun y=>hc (by simp [y])) z) (fun b o _ _ hc z _=>⟨o.slots,kk b o (fun y=>hc (by simp [y])) (fun y=>hc (by simp [y])) z⟩)
    (fun b o hc z n=>by rw [j5 (Nat.ne_of_lt (Heap.lt_size z))];exact n) (fun b o hc z=>⟨o,kk b o (fun y=>hc (by simp [y])) (fun y=>hc (by simp [y])) z⟩) (fun _ _ q=>getF q) (fun _ _ _ q=>getF q) (fun b ps q=>⟨#[],by rw [getF q];simp⟩) (fun m hm=>?_) (fun b v q=>?_) I.bare
   ·rcases List.mem_cons.mp hb with rfl | hb
    ·exact ⟨f3,f1,f4,f5⟩
    ·have e:b=it:=by simpa using hb
     subst e
     exact ⟨g3,g1,g4,g5⟩
   ·obtain ⟨o,es,ep,ho,r⟩:=hm
    exact ⟨o,es,ep,kk _ o (Ne.symm f1) (Ne.symm g1) ho,r⟩
   ·by_cases hb:b=s.heap.objs.size
    ·subst hb
     rw [j6] at q;cases q
     exact ⟨by show 2<=sizeLine;decide,[.int i s.toks,u],.cons ⟨_,rfl⟩ (.cons ru .nil),⟨_,et,rfl,0,rfl⟩⟩
    ·rw [j5 hb] at q
     refine (I.hok b v q).stay (fun c o hc z=>kk c o ?_ ?_ z) (fun _ z=>getF z) fun _ _ z=>getF z
     ·rcases hc with z | z
      ·rw [z];exact (tne b v q).1
      ·exact (tne c _ z).1
     ·rcases hc with z | z
      ·rw [z];exact (tne b v q).2.1
      ·exact (tne c _ z).2.1
  have st2':h2.IsListIter it a (i+1):=o2.at fun o z=>(sb.2 it (Ne.symm hne)).trans z
  refine ⟨.ref s.heap.objs.size,_,I1,rfl,⟨_,x,rfl,hn,rfl,fun ys hy=>by rw [I.list_inj hy hq];exact hx⟩,⟨u,?_,st2'⟩,fun b hb=>?_⟩
  ·have:((i+1:Nat):Int)=(i:Int)+1:=by push_cast;rfl
   rw [this]
   exact q1
  ·rcases List.mem_cons.mp hb with rfl | hb
   ·rw [j5 (Nat.ne_of_lt hel)];exact f0
   ·have e:b=it:=by simpa using hb
    subst e
    obtain ⟨o,z,_⟩:=st2
    rw [j5 (Nat.ne_of_lt (Heap.lt_size z))];exact g0
 done:=by
  intro X hP hw hK hc i pins s σ H E I hf st hg
  subst hP hw hK
  obtain ⟨old,st1,st2⟩:=st
  obtain ⟨xs,hq,hx⟩:=hg
  obtain ⟨its,rv,p,hz⟩:=I.list hq
  obtain ⟨g0,g1,g2,g3,g4,g5⟩:=hf it (by simp)
  have hl:=rv.length
  exact wpAny_pyNext_enum_end (I.ok.hd hc) st1 st2 p.isList (by simp;omega) fun h' eb=>⟨rfl,I.turned (t':=s.toks) (fun b o hb e=>eb b o hb e) g0 g1 g3 g4 g5⟩
 self:=fun _ _ _ _ _ ⟨old,st1,_⟩ h=>wpAny_pyIter_enum st1 h
section
variable {X:Cx}
def E6 (K:PySem.W.Frag) (ta:TA):TI:=fun σ H R=>ta σ H fun vs H1=>∃ a,vs=[.ref a]/\(∃ xs,SqL K H1 a xs)/\R (Ite K a) H1
theorem Zo {es:List Expr}{x1:Nat}{tpos:Pos}{l:Expr}{ta:TA}{p pos:Pos}(K:PySem.W.Frag) (hg:Gl X "enumerate") (hm:X.mg "enumerate" = none) (ha:PA X [l] ta) (hs:starEach [l] X.env=[(false,eval l X.env)]:=by rfl) (hK:X.K=K:=by rfl) :
  PI X (.Tuple es x1 tpos) (.Call (.Name "enumerate" p) [l] [] pos) (E6 K ta):=by
 subst hK
 intro pins s σ H R I h
 refine Call_ (zY I hg hm boot_enumerate (PyProof.Rows.callWith_type1 (thn (ha pos pins s σ H _ I h) fun us s1 ⟨vs,H1,I1,r1,q1⟩=>?_) hs rfl))
 obtain ⟨a,e,⟨xs,hq⟩,q⟩:=q1
 subst e
 obtain ⟨u,rfl,ru⟩:=yb r1
 cases ru
 obtain ⟨its,rv,pl,hz⟩:=I1.list hq
 refine call_enumerate_list pl.isList fun h' i1 i2 i3 kk=>?_
 refine wpAny_pyIter_enum i1 ?_
 have I2:Inv X pins σ H1 { s1 with heap:=h',toks:=s1.toks }:=I1.kept kk
 refine ⟨_,[s1.heap.objs.size+1,s1.heap.objs.size],_,_,H1,rfl,I2,Yg a _ _ (by exact Nat.succ_ne_self _),⟨.none,i1,i2⟩,fun b hb=>?_,q⟩
 rcases List.mem_cons.mp hb with rfl | hb
 ·exact I1.fpOk (Nat.le_succ _) (I1.hok.fresh (Nat.le_succ _))
 ·have e:b=s1.heap.objs.size:=by simpa using hb
  subst e
  exact I1.fpOk (Nat.le_refl _) (I1.hok.fresh (Nat.le_refl _))
end
theorem ZY {K:PySem.W.Frag}{a acc:Addr}{xs:List V}{g:TG}{ti:TT}{te:TE}{R:Hp->Prop}{σ:St}{H:Hp}(Pv:Nat->St->Hp->Prop) (h0:Pv 0 σ H) (hl:∀ i σ H,i<=xs.length->Pv i σ H->SqL K H a xs)
  (hs:∀ i x σ H t,xs[i]? = some x->Pv i σ H->H t=none->g (.ref t) σ (upd H t (.tup [.int i,x])) fun σ3 H3=>ti σ3 H3 fun ok H4=>if ok=true then te σ3 H4 fun v H5=>∃ ys,H5 acc=some (.lst ys)/\ys.length<sizeLine/\Pv (i+1) σ3 (upd H5 acc (.lst (ys++[v]))) else Pv (i+1) σ3 H4)
  (hd:∀ σ H,Pv xs.length σ H->R H) :
  ∃ W:Nat->Nat->St->Hp->Prop,(∃ m,W 0 m σ H)/\∀ i m σ' H',W i m σ' H' ->
   ((Ite K a).stop i H'/\R H')\/((Ite K a).go i H'/\∃ NX:St->Hp->Prop,(∀ σ2 H2,NX σ2 H2->∃ m',m'<m/\W (i+1) m' σ2 H2) /\
    ∀ x H2,(Ite K a).yld i H' x H2->g x σ' H2 fun σ3 H3=>ti σ3 H3 fun ok H4=>if ok=true then te σ3 H4 fun v H5=>∃ ys,H5 acc=some (.lst ys)/\ys.length<sizeLine/\NX σ3 (upd H5 acc (.lst (ys++[v]))) else NX σ3 H4):=by
 refine ⟨fun i m σ H=>m=xs.length-i/\i<=xs.length/\Pv i σ H,⟨xs.length,by simp,Nat.zero_le _,h0⟩,?_⟩
 rintro i m σ H ⟨rfl,hi,p⟩
 have q:=hl i σ H hi p
 by_cases hlt:i<xs.length
 ·refine .inr ⟨⟨xs,xs[i],q,by simp [hlt]⟩,Pv (i+1),fun σ' H' p'=>⟨xs.length-(i+1),by omega,rfl,hlt,p'⟩,fun v H' y=>?_⟩
  obtain ⟨t,x,rfl,hn,rfl,y⟩:=y
  exact hs i x σ H t (y xs q) p hn
 ·have e:i=xs.length:=by omega
  subst e
  exact .inl ⟨⟨xs,q,Nat.le_refl _⟩,hd σ H p⟩
theorem Ve {K:PySem.W.Frag}{a:Addr}{xs:List V}{g:TG}{tb:TS}{D:Ends}{σ:St}{H:Hp}(Pv:Nat->St->Hp->Prop) (h0:Pv 0 σ H) (hl:∀ i σ H,i<=xs.length->Pv i σ H->SqL K H a xs)
  (hs:∀ i x σ H t,xs[i]? = some x->Pv i σ H->H t=none->g (.ref t) σ (upd H t (.tup [.int i,x])) fun σ2 H2=>tb { D with nx:=Pv (i+1),ct:=Pv (i+1),bk:=D.nx } σ2 H2) (hd:∀ σ H,Pv xs.length σ H->D.nx σ H) :
  ∃ W:Nat->Nat->St->Hp->Prop,(∃ m,W 0 m σ H)/\∀ i m σ H,W i m σ H ->
   ((Ite K a).stop i H/\D.nx σ H)\/((Ite K a).go i H/\∃ N:St->Hp->Prop,(∀ σ' H',N σ' H'->∃ m',m'<m/\W (i+1) m' σ' H')/\∀ x H',(Ite K a).yld i H x H'->g x σ H' fun σ2 H2=>tb { D with nx:=N,ct:=N,bk:=D.nx } σ2 H2):=by
 refine ⟨fun i m σ H=>m=xs.length-i/\i<=xs.length/\Pv i σ H,⟨xs.length,by simp,Nat.zero_le _,h0⟩,?_⟩
 rintro i m σ H ⟨rfl,hi,p⟩
 have q:=hl i σ H hi p
 by_cases hlt:i<xs.length
 ·refine .inr ⟨⟨xs,xs[i],q,by simp [hlt]⟩,Pv (i+1),fun σ' H' p'=>⟨xs.length-(i+1),by omega,rfl,hlt,p'⟩,fun v H' y=>?_⟩
  obtain ⟨t,x,rfl,hn,rfl,y⟩:=y
  exact hs i x σ H t (y xs q) p hn
 ·have e:i=xs.length:=by omega
  subst e
  exact .inl ⟨⟨xs,q,Nat.le_refl _⟩,hd σ H p⟩
end L2
end
section
namespace L2
open PySem PySem.Spec PySem.W PyProof.Rows
theorem Jh:∀ (l:List Int),(∀ n∈l,0<=n/\n<=2 ^ 20)->0<=l.sum/\l.sum<=2 ^ 20*l.length
 | [],_=>by simp
 | n::l,h=>by
  have ih:=Jh l fun m hm=>h m (List.mem_cons_of_mem _ hm)
  have h0:=h n List.mem_cons_self
  rw [List.sum_cons,List.length_cons]
  constructor
  ·omega
  ·push_cast
   omega
section
variable {X:Cx}
theorem Qn (K:PySem.W.Frag) (hc:X.calm=true) (hK:X.K=K:=by rfl):qJ X (.builtin "sum") (fun xs H Q=>∃ (p:Addr) (ns:List Int),xs=[.ref p]/\SqL K H p (ns.map V.int)/\ns.length<=1000/\(∀ n∈ns,0<=n/\n<=2 ^ 20)/\Q (.int ns.sum) H):=by
 subst hK
 intro pins s σ H xs us Q I r h
 obtain ⟨p,ns,rfl,hq,hl,hb,q⟩:=h
 obtain ⟨u,rfl,ru⟩:=yb r
 cases ru
 obtain ⟨its,rv,pl,hz⟩:=I.list hq
 have hI:=xr rv
 have hlen:=hI.length
 have hne:p≠s.heap.objs.size:=by
  obtain ⟨o,n,e,_⟩:=id pl
  exact Nat.ne_of_lt (Heap.lt_size e)
 refine call_sum_walk (wpAny_pyIter_list pl.isList ?_)
 refine ⟨s.heap.objs.size,_,_,_,_,_,fun i=>ns.getD i 0,rfl,Walks.list (show (X.A.in1).handled=none from I.ok.hd hc) s.heap.objs.size p hne its.toArray,⟨⟨_,Heap.get?_push_size _ rfl,rfl,rfl⟩,pl.isList.at fun o e=>Heap.get?_push_of_some _ e⟩,?_,?_,?_,?_⟩
 ·intro b hb'
  have hps:p<s.heap.objs.size:=by
   obtain ⟨o,n,e,_⟩:=id pl
   exact Heap.lt_size e
  show b<(s.heap.push _).objs.size
  rw [Heap.size_push]
  rcases List.mem_cons.mp hb' with rfl | hb'
  ·exact Nat.lt_succ_self _
  ·have e:b=p:=by simpa using hb'
   subst e
   exact Nat.lt_succ_of_lt hps
 ·intro i v hP
  have hP':its[i]? = some v:=by simpa using hP
  have hi:i<its.length:=(List.getElem?_eq_some_iff.mp hP').1
  obtain ⟨t,e⟩:=Ju hI hi
  rw [e] at hP'
  refine ⟨t,?_⟩
  show v=Value.int (ns.getD i 0) t
  rw [List.getD_eq_getElem?_getD,List.getElem?_eq_getElem (by omega)]
  exact (Option.some.inj hP').symm
 ·intro j hj
  have hj':j<ns.length:=by
   have:its.toArray.size=its.length:=by simp
   omega
  constructor
  ·show InLong (ns.getD j 0)
   rw [List.getD_eq_getElem?_getD,List.getElem?_eq_getElem hj']
   have:=hb _ (List.getElem_mem hj')
   show -(2 ^ 63)<=ns[j]/\ns[j]<2 ^ 63
   omega
  ·rw [preSum_getD]
   have:=Jh (ns.take (j+1)) fun n hn=>hb n (List.mem_of_mem_take hn)
   have hl2:(ns.take (j+1)).length<=1000:=by rw [List.length_take];omega
   show -(2 ^ 63)<=_/\_<2 ^ 63
   omega
 ·intro h' tk t' hk
  rw [preSum_getD,List.take_of_length_le (by simp;omega)]
  refine ⟨.int ns.sum,H,I.kept (t':=tk) fun b o eo=>hk b o (by
   intro z
   have:=List.mem_singleton.mp z
   subst this
   exact absurd (Heap.lt_size eo) (Nat.lt_irrefl _)) (Heap.get?_push_of_some _ eo),⟨t',rfl⟩,q⟩
theorem zk (K:PySem.W.Frag) (h:X.K=K:=by rfl):qJ X (.type "tuple") (fun xs H Q=>∃ p ys,xs=[.ref p]/\SqL K H p ys/\New H (.tup ys) Q):=by
 subst h
 exact hZ.weak fun _ _ _ ⟨p,ys,h1,h2,q⟩=>⟨p,ys,h1,.inl ⟨h2,q.at⟩⟩
end
end L2
end
section
namespace L2
open PySem PySem.Spec PySem.W PyProof.Rows
structure Nb2 (mg:Str->Option Value):Prop extends Nb mg where
 b_enumerate:mg "enumerate" = none
 b_sorted:mg "sorted" = none
 b_sum:mg "sum" = none
abbrev Rch:=Int×List Int
def tos (rs:List Rch):List Int:=rs.map (·.1)
def xO (rs:List Rch) (r:Nat):Int:=(rs.getD r (-1,[])).1
def zG (rs:List Rch) (r:Nat):List Int:=(rs.getD r (-1,[])).2
def xB (i:Nat) (t:Int):Bool:=if i=0 then decide (t = -1) else decide (0<=t/\t<i)
def okR (i:Nat) (r:Rch):Bool:=xB i r.1 && decide (1<=(r.2.length:Int)/\(r.2.length:Int)<=12) && r.2.all fun x=>decide (0<=x/\x<=99)
def uy (rs:List Rch):Bool:=(List.range rs.length).all fun i=>okR i (rs.getD i (-1,[]))
def xh (rs:List Rch):Prop:=∀ i,i<rs.length->xB i (xO rs i)=true
def jK (rs:List Rch) (h:Nat):Bool:=!decide ((h:Int)∈tos rs)
def js (rs:List Rch):List Nat:=(List.range rs.length).filter (jK rs)
def vc (rs:List Rch):Nat->Nat->List Int
 | 0,_=>[]
 | f+1,r=>(r:Int)::(if xO rs r<0 then [] else vc rs f (xO rs r).toNat)
def qt (rs:List Rch) (r:Nat):List Int:=vc rs (r+1) r
def jA (rs:List Rch) (way:List Int):Int:=(way.map fun r=>((zG rs r.toNat).length:Int)).sum
def zu (rs:List Rch):Bool:=decide (1<=(rs.length:Int)/\(rs.length:Int)<=8) && (uy rs && (decide (((js rs).length:Int)<=6) && (js rs).all fun h=>decide (jA rs (qt rs h)<=30)))
theorem wP {i:Nat}{t:Int}(h:xB i t=true):t<i/\(-1<=t)/\(t<0->i=0):=by
 unfold xB at h
 by_cases hi:i=0
 ·rw [if_pos hi] at h
  have:=of_decide_eq_true h
  omega
 ·rw [if_neg hi] at h
  have:=of_decide_eq_true h
  omega
theorem ZE {i:Nat}{r:Rch}(h:okR i r=true):xB i r.1=true:=by
 unfold okR at h
 rw [Bool.and_eq_true,Bool.and_eq_true] at h
 exact h.1.1
theorem JP {rs:List Rch}(h:uy rs=true) {i:Nat}{r:Rch}(hr:rs[i]? = some r):okR i r=true:=by
 unfold uy at h
 rw [List.all_eq_true] at h
 have hi:=(List.getElem?_eq_some_iff.mp hr).1
 have:=h i (List.mem_range.mpr hi)
 rw [List.getD_eq_getElem?_getD,hr] at this
 exact this
theorem jZ {rs:List Rch}(h:uy rs=true):xh rs:=fun i hi=>by
 have:=ZE (JP h (List.getElem?_eq_getElem hi))
 unfold xO
 rw [List.getD_eq_getElem?_getD,List.getElem?_eq_getElem hi]
 exact this
theorem JI {rs:List Rch}{i:Nat}{r:Rch}(h:rs[i]? = some r):xO rs i=r.1:=by
 unfold xO
 rw [List.getD_eq_getElem?_getD,h]
 rfl
theorem Jl {rs:List Rch}{i:Nat}{r:Rch}(h:rs[i]? = some r):zG rs i=r.2:=by
 unfold zG
 rw [List.getD_eq_getElem?_getD,h]
 rfl
theorem xh.lt {rs:List Rch}(L:xh rs) {r:Nat}(hr:r<rs.length):xO rs r<r:=(wP (L r hr)).1
theorem gQ {rs:List Rch}(L:xh rs):∀ (f g r:Nat),r<rs.length->r<f->r<g->vc rs f r=vc rs g r
 | 0,_,_,_,h,_=>by omega
 | _+1,0,_,_,_,h=>by omega
 | f+1,g+1,r,hr,h1,h2=>by
  unfold vc
  by_cases ht:xO rs r<0
  ·rw [if_pos ht,if_pos ht]
  ·rw [if_neg ht,if_neg ht]
   have hl:=L.lt hr
   rw [gQ L f g (xO rs r).toNat (by omega) (by omega) (by omega)]
theorem zt {rs:List Rch}(L:xh rs) {r:Nat}(hr:r<rs.length):qt rs r=(r:Int)::(if xO rs r<0 then [] else qt rs (xO rs r).toNat):=by
 unfold qt
 rw [vc]
 by_cases ht:xO rs r<0
 ·rw [if_pos ht,if_pos ht]
 ·rw [if_neg ht,if_neg ht]
  have hl:=L.lt hr
  rw [gQ L r ((xO rs r).toNat+1) (xO rs r).toNat (by omega) (by omega) (by omega)]
theorem U7 {rs:List Rch}(r:Nat):qt rs r≠[]:=by unfold qt vc;exact fun z=>nomatch z
theorem uj {rs:List Rch}(L:xh rs):∀ (r:Nat),r<rs.length->(qt rs r).length<=r+1
 | r,hr=>by
  rw [zt L hr]
  by_cases ht:xO rs r<0
  ·rw [if_pos ht];simp
  ·rw [if_neg ht]
   have hl:=L.lt hr
   have:=uj L (xO rs r).toNat (by omega)
   rw [List.length_cons]
   omega
 termination_by r=>r
 decreasing_by omega
theorem xJ {rs:List Rch}(L:xh rs):∀ (r:Nat),r<rs.length->∀ x∈qt rs r,0<=x/\x<rs.length
 | r,hr,x,hx=>by
  rw [zt L hr] at hx
  rcases List.mem_cons.mp hx with rfl | hx
  ·omega
  ·by_cases ht:xO rs r<0
   ·rw [if_pos ht] at hx;cases hx
   ·rw [if_neg ht] at hx
    have hl:=L.lt hr
    exact xJ L (xO rs r).toNat (by omega) x hx
 termination_by r=>r
 decreasing_by omega
theorem xw {rs:List Rch}{h:Nat}(hh:h∈js rs):h<rs.length:=by
 have:=(List.mem_filter.mp hh).1
 exact List.mem_range.mp this
theorem qX (rs:List Rch) (r:Int) (way:List Int):jA rs (r::way)=((zG rs r.toNat).length:Int)+jA rs way:=by
 unfold jA
 rw [List.map_cons,List.sum_cons]
theorem YS {α:Type}{p:α->Bool}{l l':List α}(h:l.Perm l'):l.all p=l'.all p:=by
 rw [Bool.eq_iff_iff,List.all_eq_true,List.all_eq_true]
 exact ⟨fun z x hx=>z x (h.mem_iff.mpr hx),fun z x hx=>z x (h.mem_iff.mp hx)⟩
def jX (rs:List Rch) (ws:List (List Int)):Prop:=ws.Perm ((js rs).map (qt rs))/\(ws.map List.reverse).Pairwise wb.kle
theorem jX.length {rs:List Rch}{ws:List (List Int)}(h:jX rs ws):ws.length=(js rs).length:=by rw [h.1.length_eq,List.length_map]
theorem jX.mem {rs:List Rch}{ws:List (List Int)}(h:jX rs ws) {w:List Int}(hw:w∈ws):∃ x∈js rs,w=qt rs x:=by
 obtain ⟨x,hx,e⟩:=List.mem_map.mp (h.1.mem_iff.mp hw)
 exact ⟨x,hx,e.symm⟩
theorem jX.all {rs:List Rch}{ws:List (List Int)}(h:jX rs ws):(ws.map fun w=>decide (jA rs w<=30)).all (fun b=>b)=(js rs).all fun x=>decide (jA rs (qt rs x)<=30):=by
 rw [List.all_map,YS h.1,List.all_map]
 rfl
theorem yc {O:KeyOrd}:∀ {l l':List O.α},l.Perm l'->l.Pairwise O.kle->l'.Pairwise O.kle->l=l'
 | [],l',h,_,_=>(List.nil_perm.mp h).symm
 | x::l,[],h,_,_=>by have:=h.length_eq;simp at this
 | x::l,y::l',h,h1,h2=>by
  have hx:=(List.pairwise_cons.mp h1)
  have hy:=(List.pairwise_cons.mp h2)
  have e:x=y:=by
   have m1:x∈y::l':=h.mem_iff.mp List.mem_cons_self
   have m2:y∈x::l:=h.mem_iff.mpr List.mem_cons_self
   rcases List.mem_cons.mp m1 with z | z
   ·exact z
   ·rcases List.mem_cons.mp m2 with z2 | z2
    ·exact z2.symm
    ·exact KeyOrd.kle_antisymm (hx.1 y z2) (hy.1 x z)
  subst e
  rw [yc (List.Perm.cons_inv h) hx.2 hy.2]
theorem jX.unique {rs:List Rch}{ws ws':List (List Int)}(h:jX rs ws) (h':jX rs ws'):ws=ws':=by
 have p:(ws.map List.reverse).Perm (ws'.map List.reverse):=(h.1.trans h'.1.symm).map _
 have e:=yc (O:=wb) p h.2 h'.2
 have e2:=congrArg (List.map List.reverse) e
 rw [List.map_map,List.map_map,show (List.reverse ∘ List.reverse:List Int->List Int)=id from funext fun x=>List.reverse_reverse x,List.map_id,List.map_id] at e2
 exact e2
theorem QP (rs:List Rch) (t:Int) (hs:List Int):tos (rs++[(t,hs)])=tos rs++[t]:=by unfold tos;rw [List.map_append];rfl
theorem uI {rs:List Rch}{x d:Rch}{i:Nat}(h:i<rs.length):(rs++[x]).getD i d=rs.getD i d:=by
 rw [List.getD_eq_getElem?_getD,List.getD_eq_getElem?_getD,List.getElem?_append_left h]
theorem xp {rs:List Rch}{x d:Rch}:(rs++[x]).getD rs.length d=x:=by
 rw [List.getD_eq_getElem?_getD,List.getElem?_append_right (Nat.le_refl _),Nat.sub_self]
 rfl
theorem gZ {rs:List Rch}{x:Rch}(h:uy rs=true) (hx:okR rs.length x=true):uy (rs++[x])=true:=by
 unfold uy at h ⊢
 rw [List.all_eq_true] at h ⊢
 intro i hi
 have hi':i<rs.length+1:=by have:=List.mem_range.mp hi;rw [List.length_append,List.length_singleton] at this;exact this
 by_cases hlt:i<rs.length
 ·rw [uI hlt];exact h i (List.mem_range.mpr hlt)
 ·have e:i=rs.length:=by omega
  subst e
  rw [xp];exact hx
theorem wO {rs:List Rch}{x:Rch}(L:xh rs):∀ (f r:Nat),r<rs.length->vc (rs++[x]) f r=vc rs f r
 | 0,_,_=>rfl
 | f+1,r,hr=>by
  have e:xO (rs++[x]) r=xO rs r:=by unfold xO;rw [uI hr]
  unfold vc
  rw [e]
  by_cases ht:xO rs r<0
  ·rw [if_pos ht,if_pos ht]
  ·rw [if_neg ht,if_neg ht,wO L f _ (by have:=L.lt hr;omega)]
theorem yM {rs:List Rch}{x:Rch}(L:xh rs) {r:Nat}(hr:r<rs.length):qt (rs++[x]) r=qt rs r:=wO L _ r hr
theorem xP {rs:List Rch}{x:Rch}:∀ (way:List Int),(∀ r∈way,0<=r/\r<rs.length)->jA (rs++[x]) way=jA rs way
 | [],_=>rfl
 | r::way,h=>by
  have h0:=h r List.mem_cons_self
  rw [qX,qX,xP way fun y hy=>h y (List.mem_cons_of_mem _ hy)]
  congr 2
  unfold zG
  rw [uI (by omega)]
theorem Xr {rs:List Rch}(L:xh rs) {t:Int}(h:t∈tos rs):t+1<rs.length:=by
 unfold tos at h
 obtain ⟨r,hr,rfl⟩:=List.mem_map.mp h
 obtain ⟨i,hi,e⟩:=List.mem_iff_getElem.mp hr
 have:=L.lt hi
 rw [JI (List.getElem?_eq_getElem hi),e] at this
 omega
theorem Xp {rs:List Rch}{t:Int}{hs:List Int}(L:xh rs) (h0:0<=t) (h1:t<rs.length) :
  (js (rs++[(t,hs)])).length=if t∈tos rs then (js rs).length+1 else (js rs).length:=by
 unfold js
 rw [List.length_append,List.length_singleton,List.range_succ,List.filter_append,List.length_append]
 have e1:(List.filter (jK (rs++[(t,hs)])) [rs.length]).length=1:=by
  have:jK (rs++[(t,hs)]) rs.length=true:=by
   unfold jK
   rw [QP,decide_eq_false]
   ·rfl
   ·intro z
    rcases List.mem_append.mp z with z | z
    ·have:=Xr L z;omega
    ·have:(rs.length:Int)=t:=by simpa using z
     omega
  simp [this]
 rw [e1]
 have e2:∀ h,jK (rs++[(t,hs)]) h=(jK rs h && !decide ((h:Int)=t)):=fun h=>by
  unfold jK
  rw [QP]
  by_cases a:(h:Int)∈tos rs
  ·rw [decide_eq_true (List.mem_append_left _ a),decide_eq_true a];rfl
  ·rw [decide_eq_false a]
   by_cases b:(h:Int)=t
   ·rw [decide_eq_true (List.mem_append_right _ (by simp [b])),decide_eq_true b];rfl
   ·rw [decide_eq_false (fun z=>(List.mem_append.mp z).elim a fun y=>b (by simpa using y)),decide_eq_false b];rfl
 have e3:List.filter (jK (rs++[(t,hs)])) (List.range rs.length)=List.filter (fun h:Nat=>!decide ((h:Int)=t)) (List.filter (jK rs) (List.range rs.length)):=by
  rw [List.filter_filter]
  congr 1
  funext h
  rw [e2,Bool.and_comm]
 rw [e3]
 have nd:(List.filter (jK rs) (List.range rs.length)).Nodup:=List.Nodup.sublist List.filter_sublist List.nodup_range
 generalize hl:List.filter (jK rs) (List.range rs.length)=l at nd
 have cnt:∀ (l:List Nat),l.Nodup->(List.filter (fun h:Nat=>!decide ((h:Int)=t)) l).length=if t.toNat∈l then l.length-1 else l.length:=by
  intro l
  induction l with
  | nil=>intro _;rfl
  | cons x l ih =>
   intro nd
   have nd':=List.nodup_cons.mp nd
   have ih:=ih nd'.2
   by_cases b:(x:Int)=t
   ·have hx:x=t.toNat:=by omega
    rw [List.filter_cons_of_neg (by simp [b]),ih,if_neg (by rw [<- hx];exact nd'.1),if_pos (by rw [hx];exact List.mem_cons_self)]
    simp
   ·have hx:t.toNat≠x:=by omega
    rw [List.filter_cons_of_pos (by simp [b]),List.length_cons,ih]
    by_cases m:t.toNat∈l
    ·rw [if_pos m,if_pos (List.mem_cons_of_mem _ m),List.length_cons]
     have:0<l.length:=List.length_pos_of_mem m
     omega
    ·rw [if_neg m,if_neg (fun z=>(List.mem_cons.mp z).elim hx m)]
     simp
 rw [cnt l nd]
 have hm:t.toNat∈l↔¬ t∈tos rs:=by
  rw [<- hl,List.mem_filter,List.mem_range]
  unfold jK
  have e:((t.toNat:Nat):Int)=t:=by omega
  rw [e]
  constructor
  ·rintro ⟨_,z⟩ y
   rw [decide_eq_true y] at z
   cases z
  ·intro z
   exact ⟨by omega,by rw [decide_eq_false z];rfl⟩
 by_cases m:t∈tos rs
 ·rw [if_pos m,if_neg (by rw [hm];exact fun z=>z m)]
 ·rw [if_neg m,if_pos (by rw [hm];exact m)]
  have:0<l.length:=List.length_pos_of_mem (hm.mpr m)
  omega
structure Grown (rs:List Rch):Prop where
 ok:uy rs=true
 heads:(js rs).length<=6
 deep:∀ i,i<rs.length->jA rs (qt rs i)<=30
theorem Grown.snoc {rs:List Rch}{t:Int}{hs:List Int}(G:Grown rs) (h0:0<=t) (h1:t<rs.length) (hx:okR rs.length (t,hs)=true) (hh:t∈tos rs->(js rs).length<6) (hd:jA rs (qt rs t.toNat)+hs.length<=30):Grown (rs++[(t,hs)]):=by
 have L:=jZ G.ok
 have ok':=gZ G.ok hx
 refine ⟨ok',?_,fun i hi=>?_⟩
 ·rw [Xp L h0 h1]
  split
  ·rename_i m;have:=hh m;omega
  ·exact G.heads
 ·rw [List.length_append,List.length_singleton] at hi
  by_cases hlt:i<rs.length
  ·rw [yM L hlt,xP _ (xJ L i hlt)]
   exact G.deep i hlt
  ·have e:i=rs.length:=by omega
   subst e
   have L':=jZ ok'
   have et:xO (rs++[(t,hs)]) rs.length=t:=by unfold xO;rw [xp]
   have eh:zG (rs++[(t,hs)]) rs.length=hs:=by unfold zG;rw [xp]
   rw [zt L' (by rw [List.length_append,List.length_singleton];omega),qX,Int.toNat_natCast,eh,et,if_neg (by omega),yM L (by omega),xP _ (xJ L _ (by omega))]
   omega
theorem Grown.good {rs:List Rch}(G:Grown rs) (h1:1<=rs.length) (h8:rs.length<=8):zu rs=true:=by
 unfold zu
 rw [decide_eq_true (show 1<=(rs.length:Int)/\(rs.length:Int)<=8 by omega),G.ok,decide_eq_true (show ((js rs).length:Int)<=6 by have:=G.heads;omega),Bool.true_and,Bool.true_and,Bool.true_and,List.all_eq_true]
 intro h hh
 exact decide_eq_true (G.deep h (xw hh))
theorem Grown.deep_snoc {rs:List Rch}{t:Int}{hs:List Int}(G:Grown rs) (h0:0<=t) (h1:t<rs.length) (hx:okR rs.length (t,hs)=true):jA (rs++[(t,hs)]) (qt (rs++[(t,hs)]) rs.length)=jA rs (qt rs t.toNat)+hs.length:=by
 have L:=jZ G.ok
 have L':=jZ (gZ G.ok hx)
 have et:xO (rs++[(t,hs)]) rs.length=t:=by unfold xO;rw [xp]
 have eh:zG (rs++[(t,hs)]) rs.length=hs:=by unfold zG;rw [xp]
 rw [zt L' (by rw [List.length_append,List.length_singleton];omega),qX,Int.toNat_natCast,eh,et,if_neg (by omega),yM L (by omega),xP _ (xJ L _ (by omega))]
 omega
def jg (H H':Hp):Prop:=∀ p xs,H p=some (.tup xs)->H' p=some (.tup xs)
theorem jg.same {H H':Hp}(s:jj H H'):jg H H':=fun _ _ h=>s _ _ h
theorem jg.trans {H H1 H2:Hp}(a:jg H H1) (b:jg H1 H2):jg H H2:=fun p xs h=>b p xs (a p xs h)
theorem jg.ext {b:Addr}{H H':Hp}(e:Ext b H H') (h:∀ xs,H b≠some (.tup xs)):jg H H':=fun p xs q=>e _ _ q fun z=>h xs (z ▸ q)
theorem jg.lst {b:Addr}{H H':Hp}{xs:List V}(e:Ext b H H') (h:H b=some (.lst xs)):jg H H':=.ext e fun ys z=>by rw [h] at z;cases z
theorem jg.new {b:Addr}{H H':Hp}(e:Ext b H H') (h:H b=none):jg H H':=.ext e fun ys z=>by rw [h] at z;cases z
theorem jg.tbl {b:Addr}{H H':Hp}{ps:Array Value}(e:Ext b H H') (h:H b=some (.tbl ps)):jg H H':=.ext e fun ys z=>by rw [h] at z;cases z
def Jz (H:Hp) (v:V) (r:Rch):Prop:=∃ p g,v=V.ref p/\H p=some (.tup [.int r.1,.ref g])/\H g=some (.tup (r.2.map V.int))
def jU (H:Hp) (vs:List V) (rs:List Rch):Prop:=Paired (Jz H) vs rs
theorem Jz.keep {H H':Hp}{v:V}{r:Rch}(k:jg H H') (h:Jz H v r):Jz H' v r:=by
 obtain ⟨p,g,e,h1,h2⟩:=h
 exact ⟨p,g,e,k _ _ h1,k _ _ h2⟩
theorem jU.keep {H H':Hp}{vs:List V}{rs:List Rch}(k:jg H H') (h:jU H vs rs):jU H' vs rs:=Paired.mapP h fun _ _ z=>z.keep k
theorem jU.length {H:Hp}{vs:List V}{rs:List Rch}(h:jU H vs rs):vs.length=rs.length:=Paired.length h
theorem jU.get {H:Hp}{vs:List V}{rs:List Rch}{i:Nat}{v:V}(h:jU H vs rs) (e:vs[i]? = some v):∃ r,rs[i]? = some r/\Jz H v r:=Paired.get h e
theorem jU.at {H:Hp}{vs:List V}{rs:List Rch}{i:Nat}{r:Rch}(h:jU H vs rs) (e:rs[i]? = some r):∃ v,vs[i]? = some v/\Jz H v r:=by
 have hi:i<vs.length:=by rw [h.length];exact (List.getElem?_eq_some_iff.mp e).1
 obtain ⟨r',e2,q⟩:=h.get (List.getElem?_eq_getElem hi)
 rw [e] at e2
 cases e2
 exact ⟨_,List.getElem?_eq_getElem hi,q⟩
theorem jU.snoc {H:Hp}{vs:List V}{rs:List Rch}{v:V}{r:Rch}(h:jU H vs rs) (q:Jz H v r):jU H (vs++[v]) (rs++[r]):=Paired.snoc h q
theorem kR:∀ (l:List Int),PyData.canLayAll0 (l.map PyData.int)=true/\PyData.depthAll (l.map PyData.int)=0
 | []=>⟨rfl,rfl⟩
 | n::l=>by
  have:=kR l
  simp [PyData.canLayAll0,PyData.canLay0,PyData.depthAll,PyData.depth,this.1,this.2]
def zR (H:Hp) (vs:List V) (ws:List (List Int)):Prop:=Paired (fun v (w:List Int)=>∃ a,v=V.ref a/\H a=some (.tup (w.map V.int))) vs ws
theorem zR.keep {H H':Hp}{vs:List V}{ws:List (List Int)}(k:jg H H') (h:zR H vs ws):zR H' vs ws:=Paired.mapP h fun _ _ ⟨a,e,q⟩=>⟨a,e,k _ _ q⟩
theorem zR.length {H:Hp}{vs:List V}{ws:List (List Int)}(h:zR H vs ws):vs.length=ws.length:=Paired.length h
theorem vU (x:Int) (l:List Int):inV (.int x) (l.map V.int)=decide (x∈l):=by
 unfold inV
 induction l with
 | nil=>rfl
 | cons y l ih =>
  rw [List.map_cons,List.any_cons,ih]
  by_cases e:x=y
  ·subst e
   rw [decide_eq_true (List.mem_cons_self (a:=x))]
   simp [eqV]
  ·by_cases m:x∈l
   ·rw [decide_eq_true m,decide_eq_true (List.mem_cons_of_mem _ m),Bool.or_true]
   ·rw [decide_eq_false m,decide_eq_false (fun z=>(List.mem_cons.mp z).elim e m),Bool.or_false]
    simp [eqV]
    exact fun z=>e z.symm
theorem yN (l:List Int):(l.map V.int).all vV=true:=by
 rw [List.all_map,List.all_eq_true]
 intro x _
 rfl
end L2
end
section
namespace L2
open PySem PySem.Spec PySem.W PyProof.Rows
section
variable {prog:Program}{w:World}{A:Around}{E:Value->Shared->Prop}{s:Shared}
theorem yS {t sl:Addr}{items:Array Value}{vl vu:Value}{lo hi:Option Int}{Q:Value->Shared->Prop}(ht:IsTup s.heap t items) (hs:s.heap.IsSliceOf sl vl vu .none) (pl:IsPart vl lo) (pu:IsPart vu hi)
  (hw:HT.sIx items.size 0 lo=0/\HT.sIx items.size items.size hi=items.size) (h:Q (.ref t) s):wpAny (model prog w) A (getItem (.ref t) (.ref sl)) Q E s:=by
 obtain ⟨os,hos,hcs,hds⟩:=id hs
 have hTs:s.TypeIs (.ref sl) "slice":=⟨os,hos,hcs⟩
 unfold getItem
 try with_reducible refine wpAny_holding ?_
 first | refine wpAny_bind (wpAny_pure ?_) | skip
 refine wpAny_bind (wpAny_sequenceKey ht.typeIs (by decide) ?_)
 refine wpAny_bind (wpAny_callSpecial?_slot (name:=Str.ofString "__getitem__") ht.typeIs PyProof.Rows.slot_tuple_getitem
  (wpAny_call_entry PyProof.Rows.slot_tuple_getitem ht.typeIs entry_tuple_getitem ?_ (args_tuple_getitem _ _)))
 show wpAny _ _ (Builtin.Tuple.tupleItemsOf (.ref t) >>= _) _ _ s
 refine wpAny_bind (tupleItemsOf_ ht ?_)
 refine wpAny_bind (wpAny_typeOf hTs ?_)
 rw [if_pos (by decide)]
 refine wpAny_bind (HT.sliceApplied_gen hs pl pu ?_)
 show wpAny _ _ (if (((HT.sIx items.size 0 lo:Nat):Int) == 0 && (1:Int) == 1 && (HT.sIx items.size items.size hi-HT.sIx items.size 0 lo) == items.size)=true then _ else _) _ _ s
 rw [hw.1,hw.2,if_pos (by simp)]
 refine wpAny_bind (wpAny_bind (wpAny_typeOf (T:="tuple") ht.typeIs (wpAny_pure ?_)))
 rw [if_pos (by rfl)]
 exact wpAny_bind (wpAny_rule (wpAny_pure ⟨_,rfl,wpAny_pure h⟩))
end
theorem VH {X:Cx}(K:PySem.W.Frag) (hK:X.K=K:=by rfl):SlR X (fun x lo hi H Q=>∃ a xs,x = .ref a/\H a=some (.tup xs)/\∀ p H',jj H H'->H' p=some (.tup (wf xs lo hi))->Q (.ref p) H'):=by
 subst hK
 intro pins s σ H x v vl vu lo hi sl Q I rx hs pl pu h
 obtain ⟨a,xs,rfl,hx,q⟩:=h
 cases rx
 obtain ⟨its,r,ht,hz⟩:=I.tuple (SqT.of hx)
 have hlen:its.toArray.size=xs.length:=by rw [List.size_toArray];exact r.length.symm
 refine ⟨"tuple",_,PyProof.Rows.slot_tuple_getitem.lookup,ht.typeIs,?_⟩
 by_cases hw:HT.sIx xs.length 0 lo=0/\HT.sIx xs.length xs.length hi=xs.length
 ·refine yS ht hs pl pu (by rw [hlen];exact hw) ⟨.ref a,H,I,rfl,q a H (jj.refl H) ?_⟩
  rw [hx]
  unfold wf
  rw [hw.1,hw.2,List.drop_zero,Nat.sub_zero,List.take_length]
 ·refine HT.getItem_tuple_cut ht hs pl pu (by rw [hlen];exact hw) ?_ (by rw [hlen];exact hz)
  rw [hlen]
  have hf:=I.fresh
  refine ⟨.ref s.heap.objs.size,_,I.laid (t':=s.toks) (o:=.tup (wf xs lo hi)) (fun b ob q=>Heap.get?_push_of_some _ q) (Nat.le_refl _) ?_,rfl,q _ _ (jj.new hf) j6⟩
  exact ⟨Nat.le_trans (uY xs lo hi) hz,_,(r.drop (HT.sIx xs.length 0 lo)).take (HT.sIx xs.length xs.length hi-HT.sIx xs.length 0 lo),IsTup.new _ _⟩
end L2
end
section
namespace L2
open PySem PySem.Spec PySem.W PyProof.Rows
section
variable {X:Cx}
end
end L2
end
section
namespace L2
open PySem PySem.Spec PySem.W PyProof.Rows
theorem Uv {X:Cx}{T id:String}{name:Str}{r:V->List V->Hp->VK->Prop}{o:Expr}{to:TE}{apos cpos:Pos}(K:PySem.W.Frag) (pa:PlainAttrs T) (slot:Slot T name id) (hty:typeOf (.builtin id)=pure (.type "method_descriptor")) (hm:MtR X id r) (ho:PE X o to)
  (hbase:attributeBase o name X.env (eval o X.env)=eval o X.env:=by rfl) (hline:(apos.endLine == cpos.line)=true:=by rfl) (hK:X.K=K:=by rfl) :
  PE X (.Call (.Attribute o name apos) [] [] cpos) (GI K T r to):=by
 subst hK
 first | exact YE pa slot hty hm ho hbase hline | exact YE pa slot hty hm ho
end L2
end
section
namespace L2
open PySem PySem.Spec PySem.W PyProof.Rows
section
variable {s:Shared}{A:Around}{prog:Program}{w:World}{E:Value->Shared->Prop}
theorem Gz {it t:Addr}{k:Nat}{its:Array Value}{v:Value}{Q:Value->Shared->Prop}(q:s.heap.IsTupleIter it t k) (p:s.heap.IsTuple t its) (e:its[k]? = some v)
  (z:∀ g,g.IsTupleIter it t (k+1)->Heap.SameBut it s.heap g->Q v { s with heap:=g }):wpAny (model prog w) A (Builtin.SmallTypes.nextOf (.ref it)) Q E s:=by
 obtain ⟨ob,gb,cb,db⟩:=id q;obtain ⟨ot,gt,_,nt,dt⟩:=p;unfold Builtin.SmallTypes.nextOf
 refine wpAny_bind (wpAny_callSpecial?_slot (name:=Str.ofString "__next__") q.typeIs F.slot_tuple_iterator_next (wpAny_call_entry F.slot_tuple_iterator_next q.typeIs F.entry_tuple_iterator_next ?_ (F.args_tuple_iterator_next_1 _)))
 show wpAny _ _ (field (.ref it) 0 >>= _) _ _ s;refine wpAny_bind (wpAny_field gb db (x:=.ref t) rfl ?_)
 show wpAny _ _ (if (Value.ref t == Value.none)=true then _ else _) _ _ s;rw [if_neg (show ¬ ((Value.ref t == Value.none)=true) from Bool.false_ne_true)]
 show wpAny _ _ (field (.ref it) 1 >>= _) _ _ s;refine wpAny_bind (wpAny_field gb db (x:=.int k 0) rfl ?_)
 show wpAny _ _ (seqItems? (.ref t) >>= _) _ _ s;refine wpAny_bind (wpAny_seqItems gt dt ?_)
 simp only [Int.toNat_natCast,e]
 refine wpAny_bind (wpAny_setField gb db (by simp) (wpAny_pure ⟨v,rfl,wpAny_pure (z _ ⟨_,Heap.get?_update_self _ gb (Obj.isFreed_of_fields (Obj.data_mapFields db _)),(Obj.cls_mapFields ..).trans cb,by rw [Obj.data_mapFields db];simp [rawInt]⟩ (Heap.SameBut.update ..))⟩))
theorem GD {it t:Addr}{k:Nat}{its:Array Value}{Q:Value->Shared->Prop}(hh:A.handled=none) (q:s.heap.IsTupleIter it t k) (p:s.heap.IsTuple t its) (e:its[k]? = none)
  (z:∀ g x,Heap.ExtBut it s.heap g->(∃ o,g.get? x=some o/\o.cls = .type "StopIteration")->E (.ref x) { s with heap:=g }):wpAny (model prog w) A (Builtin.SmallTypes.nextOf (.ref it)) Q E s:=by
 obtain ⟨ob,gb,cb,db⟩:=id q;obtain ⟨ot,gt,_,nt,dt⟩:=p;unfold Builtin.SmallTypes.nextOf
 refine wpAny_bind (wpAny_callSpecial?_slot (name:=Str.ofString "__next__") q.typeIs F.slot_tuple_iterator_next (wpAny_call_entry F.slot_tuple_iterator_next q.typeIs F.entry_tuple_iterator_next ?_ (F.args_tuple_iterator_next_1 _)))
 show wpAny _ _ (field (.ref it) 0 >>= _) _ _ s;refine wpAny_bind (wpAny_field gb db (x:=.ref t) rfl ?_)
 show wpAny _ _ (if (Value.ref t == Value.none)=true then _ else _) _ _ s;rw [if_neg (show ¬ ((Value.ref t == Value.none)=true) from Bool.false_ne_true)]
 show wpAny _ _ (field (.ref it) 1 >>= _) _ _ s;refine wpAny_bind (wpAny_field gb db (x:=.int k 0) rfl ?_)
 show wpAny _ _ (seqItems? (.ref t) >>= _) _ _ s;refine wpAny_bind (wpAny_seqItems gt dt ?_)
 simp only [Int.toNat_natCast,e]
 refine wpAny_bind (wpAny_rule (wpAny_bind (wpAny_setField gb db (by simp) ?_)))
 show wpAny _ _ (newExc (.type "StopIteration") [] >>= _) _ _ _;refine wpAny_bind ?_;simp only [newExc,newTuple]
 refine wpAny_bind (wpAny_newObj_type ?_ (by size_fits));refine wpAny_bind (m:=firstArgMember _ _) (wpAny_of_eq (a:=Value.none) (by first | rfl | (simp only [firstArgMember];rfl)) ?_)
 refine wpAny_newObj_type ?_ (by size_fits);simp only [raiseNew];refine wpAny_bind (wpAny_handled ?_);first | rw [hh] | rw [show A.in1.handled=none from hh]
 exact wpAny_bind (wpAny_pure (wpAny_throw (z _ _ (((Heap.SameBut.update ..).extBut.push _).push _) ⟨_,Heap.get?_push_size _ rfl,rfl⟩)))
structure Feeds (prog:Program) (w:World) (i l:Addr) (xs:Array Value) (S:Nat->Heap->Prop):Prop where
 keep:∀ k h h',S k h->(∀ o,h.get? i=some o->h'.get? i=some o)->(∀ o,h.get? l=some o->h'.get? l=some o)->S k h'
 obj:∀ k h,S k h->∃ o,h.get? i=some o/\∀ v,o.data≠.cell v
 item:∀ (A:Around) (E:Value->Shared->Prop) (k:Nat) (x:Value) (s:Shared) (Q:Value->Shared->Prop),S k s.heap->xs[k]? = some x->(∀ g,S (k+1) g->Heap.SameBut i s.heap g->Q x { s with heap:=g })->wpAny (model prog w) A (Builtin.SmallTypes.nextOf (.ref i)) Q E s
 done:∀ (A:Around) (E:Value->Shared->Prop) (k:Nat) (s:Shared) (Q:Value->Shared->Prop),A.handled=none->S k s.heap->xs[k]? = none->(∀ g x,Heap.ExtBut i s.heap g->(∃ o,g.get? x=some o/\o.cls = .type "StopIteration")->E (.ref x) { s with heap:=g })->wpAny (model prog w) A (Builtin.SmallTypes.nextOf (.ref i)) Q E s
theorem Feeds.but {i l b:Addr}{xs:Array Value}{S:Nat->Heap->Prop}(f:Feeds prog w i l xs S) {k:Nat}{h h':Heap}(q:S k h) (sb:Heap.SameBut b h h') (n1:i≠b) (n2:l≠b):S k h':=f.keep k h h' q (fun o e=>sb.extBut _ _ n1 e) fun o e=>sb.extBut _ _ n2 e
theorem XC {i l:Addr}{xs:Array Value}(n:l≠i):Feeds prog w i l xs fun k h=>h.IsListIter i l k/\h.IsList l xs where
 keep:=fun k h h' q k1 k2=>⟨q.1.at fun o e=>k1 o e,q.2.at fun o e=>k2 o e⟩
 obj:=fun k h q=>by obtain ⟨o,e,_,d⟩:=q.1;exact ⟨o,e,fun v z=>by rw [d] at z;cases z⟩
 item:=fun A E k x s Q q e z=>wpAny_nextOf_list_item q.1 q.2 e fun g q1 sb=>z g ⟨q1,q.2.extBut sb.extBut n⟩ sb
 done:=fun A E k s Q hh q e z=>wpAny_nextOf_list_end hh q.1 q.2 e z
theorem Ys {i l:Addr}{xs:Array Value}(n:l≠i):Feeds prog w i l xs fun k h=>h.IsTupleIter i l k/\h.IsTuple l xs where
 keep:=fun k h h' q k1 k2=>⟨q.1.at fun o e=>k1 o e,let ⟨o,e,r⟩:=q.2;⟨o,k2 o e,r⟩⟩
 obj:=fun k h q=>by obtain ⟨o,e,_,d⟩:=q.1;exact ⟨o,e,fun v z=>by rw [d] at z;cases z⟩
 item:=fun A E k x s Q q e z=>Gz q.1 q.2 e fun g q1 sb=>z g ⟨q1,q.2.extBut sb.extBut n⟩ sb
 done:=fun A E k s Q hh q e z=>GD hh q.1 q.2 e z
theorem Vq {z TI TO i1 i2 l1 l2:Addr}{k1 k2:Nat}{xs ys:Array Value}{x y a b:Value}{S1 S2:Nat->Heap->Prop}{Q:Value->Shared->Prop}(D:ZipApart z TI TO i1 i2 l1 l2) (f1:Feeds prog w i1 l1 xs S1) (f2:Feeds prog w i2 l2 ys S2)
  (g0:IsZip s.heap z TI TO .none) (gI:IsPair s.heap TI (.ref i1) (.ref i2)) (gO:IsPair s.heap TO a b) (q1:S1 k1 s.heap) (q2:S2 k2 s.heap) (ex:xs[k1]? = some x) (ey:ys[k2]? = some y)
  (R:∀ g,IsZip g z TI TO (rawInt s.heap.objs.size)->IsPair g TO x y->S1 (k1+1) g->S2 (k2+1) g->IsPair g s.heap.objs.size x y->g.objs.size=s.heap.objs.size+1 ->
   (∀ c o,c≠z->c≠TO->c≠i1->c≠i2->s.heap.get? c=some o->g.get? c=some o)->Q (.ref s.heap.objs.size) { s with heap:=g }):wpAny (model prog w) A (Builtin.«zip.__next__» ⟨[.ref z],[]⟩) (fun fin s'=>∃ v,fin = .done (.ret v)/\Q v s') E s:=by
 show wpAny _ _ (field (.ref z) 2 >>= _) _ _ _;refine wpAny_bind (wpAny_field g0 rfl (x:=.bool false) rfl ?_)
 show wpAny _ _ (field (.ref z) 3 >>= _) _ _ _;refine wpAny_bind (wpAny_field g0 rfl (x:=.ref TI) rfl ?_)
 refine wpAny_bind (wpAny_seqItems gI rfl ?_);show wpAny _ _ (Builtin.SmallTypes.ownedTupleIsFree (.ref z) >>= _) _ _ _
 refine wpAny_bind ?_;unfold Builtin.SmallTypes.ownedTupleIsFree;refine wpAny_bind (wpAny_field g0 rfl (x:=.none) rfl (wpAny_pure ?_));simp only [if_true]
 refine wpAny_bind (wpAny_rule ?_);refine wpAny_bind (wpAny_field g0 rfl (x:=.ref TO) rfl ?_)
 refine wpAny_bind (wpAny_setField_rec g0 (by simp) fun h1 g1 e1=>?_)
 replace g1:IsZip h1 z TI TO .ellipsis:=g1
 refine wpAny_bind ?_;simp only [List.zipIdx_cons,List.zipIdx_nil,List.forIn_cons,List.forIn_nil]
 refine wpAny_bind (wpAny_bind (wpAny_onRaise ?_));show wpAny _ _ (Builtin.SmallTypes.nextOf (.ref i1) >>= _) _ _ _
 refine wpAny_bind (f1.item _ _ k1 x _ _ (f1.but q1 e1 D.i1z D.l1z) ex fun h2 q1' e2=>wpAny_pure ?_)
 have gO2:IsPair h2 TO a b:=e2.extBut _ _ D.TOi1 (e1.extBut _ _ D.TOz gO)
 refine wpAny_bind (wpAny_seqItems gO2 rfl ?_);refine wpAny_bind (wpAny_updateSeq_pair gO2 fun h3 gO3 e3=>?_)
 replace gO3:IsPair h3 TO x b:=gO3
 refine wpAny_bind (wpAny_letGo (wpAny_pure ?_));refine wpAny_bind (wpAny_bind (wpAny_onRaise ?_));show wpAny _ _ (Builtin.SmallTypes.nextOf (.ref i2) >>= _) _ _ _
 refine wpAny_bind (f2.item _ _ k2 y _ _ (f2.but (f2.but (f2.but q2 e1 D.i2z D.l2z) e2 D.i12.symm D.l2i1) e3 D.TOi2.symm D.l2TO) ey fun h4 q2' e4=>wpAny_pure ?_)
 have gO4:IsPair h4 TO x b:=e4.extBut _ _ D.TOi2 gO3
 refine wpAny_bind (wpAny_seqItems gO4 rfl ?_);refine wpAny_bind (wpAny_updateSeq_pair gO4 fun h5 gO5 e5=>?_)
 replace gO5:IsPair h5 TO x y:=gO5
 refine wpAny_bind (wpAny_letGo (wpAny_pure (wpAny_pure ?_)));refine wpAny_bind (wpAny_seqItems gO5 rfl ?_);refine wpAny_bind (wpAny_newTuple ?_)
 have sz:h5.objs.size=s.heap.objs.size:=by rw [e5.1,e4.1,e3.1,e2.1,e1.1]
 have g5:IsZip h5 z TI TO .ellipsis:=e5.extBut _ _ D.TOz.symm (e4.extBut _ _ D.i2z.symm (e3.extBut _ _ D.TOz.symm (e2.extBut _ _ D.i1z.symm g1)))
 have k5:∀ c o,c≠z->c≠TO->c≠i1->c≠i2->s.heap.get? c=some o->h5.get? c=some o:=fun c o n1 n2 n3 n4 e=>e5.extBut _ _ n2 (e4.extBut _ _ n4 (e3.extBut _ _ n2 (e2.extBut _ _ n3 (e1.extBut _ _ n1 e))))
 have q15:S1 (k1+1) h5:=f1.but (f1.but (f1.but q1' e3 D.TOi1.symm D.l1TO) e4 D.i12 D.l1i2) e5 D.TOi1.symm D.l1TO
 have q25:S2 (k2+1) h5:=f2.but q2' e5 D.TOi2.symm D.l2TO
 have lz:z<h5.objs.size:=Heap.lt_size g5
 show wpAny _ _ (Builtin.SmallTypes.ownedTupleHandOut (.ref z) (.ref h5.objs.size) >>= _) _ _ _;refine wpAny_bind ?_;unfold Builtin.SmallTypes.ownedTupleHandOut
 have g6:IsZip (h5.push { cls:=.type "tuple",data:=.seq #[x,y] }) z TI TO .ellipsis:=Heap.get?_push_of_some _ g5
 refine wpAny_bind (wpAny_setField_rec g6 (by simp) fun h7 g7 e7=>?_)
 replace g7:IsZip h7 z TI TO (rawInt h5.objs.size):=g7
 refine wpAny_setField_rec g7 (by simp) fun h8 g8 e8=>?_
 replace g8:IsZip h8 z TI TO (rawInt h5.objs.size):=g8
 have up:∀ c o,c≠z->h5.get? c=some o->h8.get? c=some o:=fun c o n e=>e8.extBut _ _ n (e7.extBut _ _ n (Heap.get?_push_of_some _ e))
 have gT:IsPair h8 h5.objs.size x y:=e8.extBut _ _ (Nat.ne_of_gt lz) (e7.extBut _ _ (Nat.ne_of_gt lz) (Heap.get?_push_size _ rfl))
 have sz8:h8.objs.size=h5.objs.size+1:=by rw [e8.1,e7.1,Heap.size_push]
 rw [sz] at g8 gT sz8
 refine wpAny_pure ⟨_,rfl,?_⟩;show Q (.ref h5.objs.size) _;rw [sz]
 exact R h8 g8 (up _ _ D.TOz gO5) (f1.keep _ _ _ q15 (fun o e=>up _ o D.i1z e) fun o e=>up _ o D.l1z e) (f2.keep _ _ _ q25 (fun o e=>up _ o D.i2z e) fun o e=>up _ o D.l2z e) gT sz8 fun c o n1 n2 n3 n4 e=>up c o n1 (k5 c o n1 n2 n3 n4 e)
theorem VO {z TI TO i1 i2 l1 l2:Addr}{k1 k2:Nat}{xs ys:Array Value}{a b:Value}{S1 S2:Nat->Heap->Prop}{Q:Fin->Shared->Prop}(hh:A.handled=none) (D:ZipApart z TI TO i1 i2 l1 l2) (f1:Feeds prog w i1 l1 xs S1) (f2:Feeds prog w i2 l2 ys S2)
  (g0:IsZip s.heap z TI TO .none) (gI:IsPair s.heap TI (.ref i1) (.ref i2)) (gO:IsPair s.heap TO a b) (q1:S1 k1 s.heap) (q2:S2 k2 s.heap) (ed:xs[k1]? = none\/ys[k2]? = none)
  (R:∀ g e,(∀ c o,c≠z->c≠TO->c≠i1->c≠i2->s.heap.get? c=some o->g.get? c=some o)->(∃ o,g.get? e=some o/\o.cls = .type "StopIteration")->E (.ref e) { s with heap:=g }):wpAny (model prog w) A (Builtin.«zip.__next__» ⟨[.ref z],[]⟩) Q E s:=by
 show wpAny _ _ (field (.ref z) 2 >>= _) _ _ _;refine wpAny_bind (wpAny_field g0 rfl (x:=.bool false) rfl ?_)
 show wpAny _ _ (field (.ref z) 3 >>= _) _ _ _;refine wpAny_bind (wpAny_field g0 rfl (x:=.ref TI) rfl ?_)
 refine wpAny_bind (wpAny_seqItems gI rfl ?_);show wpAny _ _ (Builtin.SmallTypes.ownedTupleIsFree (.ref z) >>= _) _ _ _
 refine wpAny_bind ?_;unfold Builtin.SmallTypes.ownedTupleIsFree;refine wpAny_bind (wpAny_field g0 rfl (x:=.none) rfl (wpAny_pure ?_));simp only [if_true]
 refine wpAny_bind (wpAny_rule ?_);refine wpAny_bind (wpAny_field g0 rfl (x:=.ref TO) rfl ?_)
 refine wpAny_bind (wpAny_setField_rec g0 (by simp) fun h1 g1 e1=>?_)
 replace g1:IsZip h1 z TI TO .ellipsis:=g1
 refine wpAny_bind ?_;simp only [List.zipIdx_cons,List.zipIdx_nil,List.forIn_cons,List.forIn_nil]
 refine wpAny_bind (wpAny_bind (wpAny_onRaise ?_));show wpAny _ _ (Builtin.SmallTypes.nextOf (.ref i1) >>= _) _ _ _
 cases ex:xs[k1]? with
 | none =>
  refine wpAny_bind (f1.done _ _ k1 _ _ hh (f1.but q1 e1 D.i1z D.l1z) ex fun h2 e e2 he=>?_)
  obtain ⟨oe,ge,ce⟩:=he
  have g2:IsZip h2 z TI TO .ellipsis:=e2 _ _ D.i1z.symm g1
  have ne:e≠z:=fun q=>by subst q;rw [g2] at ge;cases ge;simp at ce
  exact wpAny_setField_rec g2 (by simp) fun h3 _ e3=>R h3 e (fun c o n1 _ n3 _ q=>e3.extBut _ _ n1 (e2 _ _ n3 (e1.extBut _ _ n1 q))) ⟨oe,e3.extBut _ _ ne ge,ce⟩
 | some x =>
  have ey:ys[k2]? = none:=by rcases ed with q | q;rw [ex] at q;cases q;exact q
  refine wpAny_bind (f1.item _ _ k1 x _ _ (f1.but q1 e1 D.i1z D.l1z) ex fun h2 q1' e2=>wpAny_pure ?_)
  have gO2:IsPair h2 TO a b:=e2.extBut _ _ D.TOi1 (e1.extBut _ _ D.TOz gO)
  refine wpAny_bind (wpAny_seqItems gO2 rfl ?_);refine wpAny_bind (wpAny_updateSeq_pair gO2 fun h3 gO3 e3=>?_)
  refine wpAny_bind (wpAny_letGo (wpAny_pure ?_));refine wpAny_bind (wpAny_bind (wpAny_onRaise ?_));show wpAny _ _ (Builtin.SmallTypes.nextOf (.ref i2) >>= _) _ _ _
  refine wpAny_bind (f2.done _ _ k2 _ _ hh (f2.but (f2.but (f2.but q2 e1 D.i2z D.l2z) e2 D.i12.symm D.l2i1) e3 D.TOi2.symm D.l2TO) ey fun h4 e e4 he=>?_)
  obtain ⟨oe,ge,ce⟩:=he
  have g4:IsZip h4 z TI TO .ellipsis:=e4 _ _ D.i2z.symm (e3.extBut _ _ D.TOz.symm (e2.extBut _ _ D.i1z.symm g1))
  have ne:e≠z:=fun q=>by subst q;rw [g4] at ge;cases ge;simp at ce
  exact wpAny_setField_rec g4 (by simp) fun h5 _ e5=>R h5 e (fun c o n1 n2 n3 n4 q=>e5.extBut _ _ n1 (e4 _ _ n4 (e3.extBut _ _ n2 (e2.extBut _ _ n3 (e1.extBut _ _ n1 q))))) ⟨oe,e5.extBut _ _ ne ge,ce⟩
theorem Gq {z TI TO i1 i2 l1 l2:Addr}{k1 k2:Nat}{xs ys:Array Value}{x y a b:Value}{S1 S2:Nat->Heap->Prop}{Q:Option Value->Shared->Prop}(D:ZipApart z TI TO i1 i2 l1 l2) (f1:Feeds prog w i1 l1 xs S1) (f2:Feeds prog w i2 l2 ys S2)
  (g0:IsZip s.heap z TI TO .none) (gI:IsPair s.heap TI (.ref i1) (.ref i2)) (gO:IsPair s.heap TO a b) (q1:S1 k1 s.heap) (q2:S2 k2 s.heap) (ex:xs[k1]? = some x) (ey:ys[k2]? = some y)
  (R:∀ g,IsZip g z TI TO (rawInt s.heap.objs.size)->IsPair g TO x y->S1 (k1+1) g->S2 (k2+1) g->IsPair g s.heap.objs.size x y->g.objs.size=s.heap.objs.size+1 ->
   (∀ c o,c≠z->c≠TO->c≠i1->c≠i2->s.heap.get? c=some o->g.get? c=some o)->Q (some (.ref s.heap.objs.size)) { s with heap:=g }):wpAny (model prog w) A (pyNext (.ref z)) Q E s:=by
 have ty:s.TypeIs (.ref z) "zip":=⟨_,g0,rfl⟩
 unfold pyNext;exact wpAny_bind (wpAny_attempt (wpAny_callSpecial?_slot (name:=Str.ofString "__next__") ty F.slot_zip_next (wpAny_call_entry F.slot_zip_next ty F.entry_zip_next
   (Vq D f1 f2 g0 gI gO q1 q2 ex ey fun g a1 a2 a3 a4 a5 a6 a7=>wpAny_pure (R g a1 a2 a3 a4 a5 a6 a7)) (F.args_zip_next_1 _))))
theorem GU {z TI TO i1 i2 l1 l2:Addr}{k1 k2:Nat}{xs ys:Array Value}{a b:Value}{S1 S2:Nat->Heap->Prop}{Q:Option Value->Shared->Prop}(hh:A.handled=none) (D:ZipApart z TI TO i1 i2 l1 l2) (f1:Feeds prog w i1 l1 xs S1) (f2:Feeds prog w i2 l2 ys S2)
  (g0:IsZip s.heap z TI TO .none) (gI:IsPair s.heap TI (.ref i1) (.ref i2)) (gO:IsPair s.heap TO a b) (q1:S1 k1 s.heap) (q2:S2 k2 s.heap) (ed:xs[k1]? = none\/ys[k2]? = none)
  (R:∀ g,(∀ c o,c≠z->c≠TO->c≠i1->c≠i2->s.heap.get? c=some o->g.get? c=some o)->Q none { s with heap:=g }):wpAny (model prog w) A (pyNext (.ref z)) Q E s:=by
 have ty:s.TypeIs (.ref z) "zip":=⟨_,g0,rfl⟩
 unfold pyNext;refine wpAny_bind (wpAny_attempt (wpAny_callSpecial?_slot (name:=Str.ofString "__next__") ty F.slot_zip_next (wpAny_call_entry F.slot_zip_next ty F.entry_zip_next (VO hh D f1 f2 g0 gI gO q1 q2 ed fun g e hk he=>?_) (F.args_zip_next_1 _))))
 obtain ⟨o,ho,hc⟩:=he
 exact wpAny_bind (wpAny_isInstance (T:="StopIteration") (b:=true) ⟨o,ho,hc⟩ isSubtype_stop (wpAny_pure (R _ hk)))
def WI (t:Bool):String:=match t with | true=>"tuple_iterator" | false=>"list_iterator"
def ItK (t:Bool) (h:Heap) (i l:Addr) (k:Nat):Prop:=match t with | true=>h.IsTupleIter i l k | false=>h.IsListIter i l k
def IsK (t:Bool) (h:Heap) (l:Addr) (xs:Array Value):Prop:=match t with | true=>h.IsTuple l xs | false=>h.IsList l xs
def SqK (t:Bool) (K:PySem.W.Frag) (H:Hp) (a:Addr) (xs:List V):Prop:=match t with | true=>SqT K H a xs | false=>SqL K H a xs
theorem IsK.at {t:Bool}{h h':Heap}{l:Addr}{xs:Array Value}(q:IsK t h l xs) (k:∀ o,h.get? l=some o->h'.get? l=some o):IsK t h' l xs:=by
 cases t with
 | true=>obtain ⟨o,e,r⟩:=q;exact ⟨o,k o e,r⟩
 | false=>exact Heap.IsList.at q fun o e=>k o e
theorem IsK.lt {t:Bool}{h:Heap}{l:Addr}{xs:Array Value}(q:IsK t h l xs):l<h.objs.size:=by
 cases t with
 | true=>obtain ⟨o,e,r⟩:=q;exact Heap.lt_size e
 | false=>obtain ⟨o,e,r⟩:=q;exact Heap.lt_size e
theorem ItK.at {t:Bool}{h h':Heap}{i l:Addr}{k:Nat}(q:ItK t h i l k) (f:∀ o,h.get? i=some o->h'.get? i=some o):ItK t h' i l k:=by
 cases t with
 | true=>obtain ⟨o,e,r⟩:=q;exact ⟨o,f o e,r⟩
 | false=>obtain ⟨o,e,r⟩:=q;exact ⟨o,f o e,r⟩
theorem ItK.obj {t:Bool}{h:Heap}{i l:Addr}{k:Nat}(q:ItK t h i l k):∃ o,h.get? i=some o/\∀ v,o.data≠.cell v:=by
 cases t with
 | true=>obtain ⟨o,e,_,d⟩:=q;exact ⟨o,e,fun v z=>by rw [d] at z;cases z⟩
 | false=>obtain ⟨o,e,_,d⟩:=q;exact ⟨o,e,fun v z=>by rw [d] at z;cases z⟩
theorem ItK.of {t:Bool}{h:Heap}{i l:Addr}(e:h.get? i=some { cls:=.type (WI t),data:=.fields #[.ref l,.int 0 0] }):ItK t h i l 0:=by
 cases t with
 | true=>exact ⟨_,e,rfl,rfl⟩
 | false=>exact ⟨_,e,rfl,rfl⟩
theorem Jv {t:Bool}{i l:Addr}{xs:Array Value}(n:l≠i):Feeds prog w i l xs fun k h=>ItK t h i l k/\IsK t h l xs:=by
 cases t with
 | true=>exact Ys n
 | false=>exact XC n
theorem Zk {t:Bool}{l:Addr}{xs:Array Value}{Q:Value->Shared->Prop}(q:IsK t s.heap l xs) (z:Q (.ref s.heap.objs.size) { s with heap:=s.heap.push { cls:=.type (WI t),data:=.fields #[.ref l,.int 0 0] } }):wpAny (model prog w) A (pyIter (.ref l)) Q E s:=by
 cases t with
 | true=>exact wpAny_pyIter_tuple q z
 | false=>exact wpAny_pyIter_list q z
abbrev zp1 (t:Bool) (h:Heap) (l:Addr):Heap:=h.push { cls:=.type (WI t),data:=.fields #[.ref l,.int 0 0] }
abbrev zp2 (t u:Bool) (h:Heap) (l m:Addr):Heap:=zp1 u (zp1 t h l) m
abbrev zp3 (t u:Bool) (h:Heap) (l m:Addr):Heap:=(zp2 t u h l m).push { cls:=.type "tuple",data:=.seq #[.ref h.objs.size,.ref (zp1 t h l).objs.size] }
abbrev zp4 (t u:Bool) (h:Heap) (l m:Addr):Heap:=(zp3 t u h l m).push { cls:=.type "tuple",data:=.seq #[.none,.none] }
abbrev zp5 (t u:Bool) (h:Heap) (l m:Addr):Heap:=(zp4 t u h l m).push { cls:=.type "zip",data:=.fields #[.none,.bool false,.bool false,.ref (zp2 t u h l m).objs.size,.ref (zp3 t u h l m).objs.size] }
theorem ZF (t u:Bool) (l m:Addr) (xs ys:Array Value) :
  Meets (Builtin.«zip.__new__» ⟨[.type "zip",.ref l,.ref m],[]⟩) (fun _ R s=>IsK t s.heap l xs/\IsK u s.heap m ys/\R (.ok (.ret (.ref (zp4 t u s.heap l m).objs.size))) { s with heap:=zp5 t u s.heap l m }) :=
 .of_wp fun prog w A R s0 h=>by
  obtain ⟨hp,g,d,tk,os⟩:=s0;obtain ⟨q1,q2,h⟩:=h;have hsub:=sub_zip
  have p1:IsK t (Shared.heap ⟨hp,g,d,tk,os⟩) l xs:=q1
  have p2:IsK u (Shared.heap ⟨zp1 t hp l,g,d,tk,os⟩) m ys:=q2.at fun o e=>Heap.get?_push_of_some _ e
  wp_walk using Zk p1,Zk p2
  exact ⟨_,rfl,h⟩
theorem Wq {t u:Bool}{l m:Addr}{xs ys:Array Value}{Q:Value->Shared->Prop}(q1:IsK t s.heap l xs) (q2:IsK u s.heap m ys)
  (R:∀ g,IsZip g (s.heap.objs.size+4) (s.heap.objs.size+2) (s.heap.objs.size+3) .none->IsPair g (s.heap.objs.size+2) (.ref s.heap.objs.size) (.ref (s.heap.objs.size+1)) ->
   IsPair g (s.heap.objs.size+3) .none .none->ItK t g s.heap.objs.size l 0->ItK u g (s.heap.objs.size+1) m 0->(∀ c o,s.heap.get? c=some o->g.get? c=some o)->Q (.ref (s.heap.objs.size+4)) { s with heap:=g }) :
  wpAny (model prog w) A (call (.type "zip") [.ref l,.ref m]) Q E s:=by
 refine callType_new F.called_zip (by decide) (F.typeCall_zip_2 _ _) (F.newCall_zip_2 _ _) (fun obj=>F.args_object_init_3 obj _ _) F.entry_zip_new (ZF t u l m xs ys) ⟨q1,q2,?_⟩
 have z1:(zp1 t s.heap l).objs.size=s.heap.objs.size+1:=Heap.size_push ..
 have z2:(zp2 t u s.heap l m).objs.size=s.heap.objs.size+2:=by rw [Heap.size_push,z1]
 have z3:(zp3 t u s.heap l m).objs.size=s.heap.objs.size+3:=by rw [Heap.size_push,z2]
 have z4:(zp4 t u s.heap l m).objs.size=s.heap.objs.size+4:=by rw [Heap.size_push,z3]
 have g5:(zp5 t u s.heap l m).get? (zp4 t u s.heap l m).objs.size=some _:=Heap.get?_push_size _ rfl
 have g4:(zp5 t u s.heap l m).get? (zp3 t u s.heap l m).objs.size=some _:=Heap.get?_push_of_some _ (Heap.get?_push_size _ rfl)
 have g3:(zp5 t u s.heap l m).get? (zp2 t u s.heap l m).objs.size=some _:=Heap.get?_push_of_some _ (Heap.get?_push_of_some _ (Heap.get?_push_size _ rfl))
 have g2:(zp5 t u s.heap l m).get? (zp1 t s.heap l).objs.size=some _:=Heap.get?_push_of_some _ (Heap.get?_push_of_some _ (Heap.get?_push_of_some _ (Heap.get?_push_size _ rfl)))
 have g1:(zp5 t u s.heap l m).get? s.heap.objs.size=some _:=Heap.get?_push_of_some _ (Heap.get?_push_of_some _ (Heap.get?_push_of_some _ (Heap.get?_push_of_some _ (Heap.get?_push_size _ rfl))))
 show _/\_
 rw [z2,z3,z4] at g5;rw [z1,z2] at g3;rw [z3] at g4;rw [z1] at g2;rw [z4]
 exact ⟨⟨_,g5,rfl⟩,R _ g5 g3 g4 (.of g1) (.of g2) fun c o x=>Heap.get?_push_of_some _ (Heap.get?_push_of_some _ (Heap.get?_push_of_some _ (Heap.get?_push_of_some _ (Heap.get?_push_of_some _ x))))⟩
end
section
variable {X:Cx}{s:Shared}{σ:St}{H:Hp}{pins:List (Addr×Obj)}
theorem YA {t:Bool}{a:Addr}{xs:List V}(I:Inv X pins σ H s) (h:SqK t X.K H a xs):∃ its:List Value,jz xs its/\IsK t s.heap a its.toArray/\xs.length<=sizeLine:=by
 cases t with
 | true=>exact I.tuple h
 | false=>obtain ⟨its,r,p,z⟩:=I.list h;exact ⟨its,r,p.isList,z⟩
theorem Qy {t:Bool}{a:Addr}{xs ys:List V}(I:Inv X pins σ H s) (h:SqK t X.K H a xs) (h':SqK t X.K H a ys):xs=ys:=by
 cases t with
 | true=>exact I.tuple_inj h h'
 | false=>exact I.list_inj h h'
end
def VQ (K:PySem.W.Frag) (t u:Bool) (l1 l2:Addr):It :=
 ⟨fun i H=>∃ xs ys x y,SqK t K H l1 xs/\SqK u K H l2 ys/\xs[i]? = some x/\ys[i]? = some y,fun i H v H'=>∃ p x y,v = .ref p/\H p=none/\H'=upd H p (.tup [x,y])/\(∀ xs,SqK t K H l1 xs->xs[i]? = some x)/\∀ ys,SqK u K H l2 ys->ys[i]? = some y,
  fun i H=>∃ xs ys,SqK t K H l1 xs/\SqK u K H l2 ys/\(xs.length<=i\/ys.length<=i)⟩
theorem Yq {t u:Bool}{P:Program}{w:World}{K:PySem.W.Frag}{es:List Expr}{x1:Nat}{pos:Pos}{z TI TO i1 i2 l1 l2:Addr}(D:ZipApart z TI TO i1 i2 l1 l2) :
  Turn P w K (.Tuple es x1 pos) (VQ K t u l1 l2) [z,TI,TO,i1,i2] z (fun i h=>∃ a b,IsZip h z TI TO .none/\IsPair h TI (.ref i1) (.ref i2)/\IsPair h TO a b/\ItK t h i1 l1 i/\ItK u h i2 l2 i) where
 mem:=by simp
 obj:=fun i h ⟨a,b,t1,t2,t3,t4,t5⟩ c hc=>by
  simp only [List.mem_cons,List.not_mem_nil,or_false] at hc
  rcases hc with rfl | rfl | rfl | rfl | rfl
  ·exact ⟨_,t1,fun v e=>by have e':Data.fields _=Data.cell v:=e;cases e'⟩
  ·exact ⟨_,t2,fun v e=>by have e':Data.seq _ _=Data.cell v:=e;cases e'⟩
  ·exact ⟨_,t3,fun v e=>by have e':Data.seq _ _=Data.cell v:=e;cases e'⟩
  ·exact t4.obj
  ·exact t5.obj
 keep:=fun i h h' ⟨a,b,t1,t2,t3,t4,t5⟩ k=>⟨a,b,k z (by simp) _ t1,k TI (by simp) _ t2,k TO (by simp) _ t3,t4.at fun o e=>k i1 (by simp) o e,t5.at fun o e=>k i2 (by simp) o e⟩
 item:=by
  intro X hP hw hK hc i pins s σ H E I hf st hg
  subst hP hw hK
  obtain ⟨a,b,t1,t2,t3,t4,t5⟩:=st
  obtain ⟨xs,ys,x,y,hq1,hq2,hx,hy⟩:=hg
  obtain ⟨its1,rv1,p1,_⟩:=YA I hq1
  obtain ⟨its2,rv2,p2,_⟩:=YA I hq2
  obtain ⟨u1,hu1,ru1⟩:=rv1.get hx
  obtain ⟨u2,hu2,ru2⟩:=rv2.get hy
  have hn:H s.heap.objs.size=none:=I.hok.fresh (Nat.le_refl _)
  have fz:=hf z (by simp)
  have fTO:=hf TO (by simp)
  have f1:=hf i1 (by simp)
  have f2:=hf i2 (by simp)
  refine Gq D (Jv D.l1i1) (Jv D.l2i2) t1 t2 t3 ⟨t4,p1⟩ ⟨t5,p2⟩ (x:=u1) (y:=u2) (by simpa using hu1) (by simpa using hu2) fun h' o1 o2 o3 o4 o5 o6 o7=>⟨_,rfl,?_⟩
  obtain ⟨o3,_⟩:=o3;obtain ⟨o4,_⟩:=o4
  refine wpAny_letOwnedTupleGo_zip o1 fun h2 q1 sb=>?_
  have hzl:z<s.heap.objs.size:=Heap.lt_size t1
  have kk:∀ c o,c≠z->c≠TO->c≠i1->c≠i2->s.heap.get? c=some o->h2.get? c=some o:=fun c o n1 n2 n3 n4 e=>(sb.2 c n1).trans (o7 c o n1 n2 n3 n4 e)
  have et:h2.get? s.heap.objs.size=some { cls:=.type "tuple",data:=.seq #[u1,u2] }:=(sb.2 _ (Nat.ne_of_gt hzl)).trans o5
  have tne:∀ c o,H c=some o->c≠z/\c≠TO/\c≠i1/\c≠i2/\c≠s.heap.objs.size:=fun c o q=>⟨fun e=>(by rw [e,fz.1] at q;cases q),fun e=>(by rw [e,fTO.1] at q;cases q),fun e=>(by rw [e,f1.1] at q;cases q),fun e=>(by rw [e,f2.1] at q;cases q),fun e=>(by rw [e,hn] at q;cases q)⟩
  have getF:∀ {c:Addr} {o:HO},H c=some o->upd H s.heap.objs.size (.tup [x,y]) c=some o:=fun {c o} q=>by rw [j5 (tne c o q).2.2.2.2];exact q
  have nin:∀ {c:Addr},c∉[z,TO,i1,i2]->c≠z/\c≠TO/\c≠i1/\c≠i2:=fun {c} h=>by simpa using h
  have I1:Inv X pins σ (upd H s.heap.objs.size (.tup [x,y])) { s with heap:=h2,toks:=s.toks }:=by
   refine I.step (g':=s.gens) (d':=s.drawn) (ch:=[z,TO,i1,i2]) (fun c hc'=>?_) (fun c o _ _ hc' e _=>kk c o (nin hc').1 (nin hc').2.1 (nin hc').2.2.1 (nin hc').2.2.2 e) (fun c o _ _ hc' e _=>⟨o.slots,kk c o (nin hc').1 (nin hc').2.1 (nin hc').2.2.1 (nin hc').2.2.2 e⟩)
    (fun c o _ e n=>by rw [j5 (Nat.ne_of_lt (Heap.lt_size e))];exact n) (fun c o hc' e=>⟨o,kk c o (nin hc').1 (nin hc').2.1 (nin hc').2.2.1 (nin hc').2.2.2 e⟩) (fun _ _ q=>getF q) (fun _ _ _ q=>getF q) (fun c ps q=>⟨#[],by rw [getF q];simp⟩) (fun m hm=>?_) (fun c v q=>?_) I.bare
   ·simp only [List.mem_cons,List.not_mem_nil,or_false] at hc'
    rcases hc' with rfl | rfl | rfl | rfl
    ·exact ⟨fz.2.2.2.1,fz.2.1,fz.2.2.2.2.1,fz.2.2.2.2.2⟩
    ·exact ⟨fTO.2.2.2.1,fTO.2.1,fTO.2.2.2.2.1,fTO.2.2.2.2.2⟩
    ·exact ⟨f1.2.2.2.1,f1.2.1,f1.2.2.2.2.1,f1.2.2.2.2.2⟩
    ·exact ⟨f2.2.2.2.1,f2.2.1,f2.2.2.2.2.1,f2.2.2.2.2.2⟩
   ·obtain ⟨o,es,ep,ho,r⟩:=hm
    exact ⟨o,es,ep,kk _ o (Ne.symm fz.2.1) (Ne.symm fTO.2.1) (Ne.symm f1.2.1) (Ne.symm f2.2.1) ho,r⟩
   ·by_cases hb:c=s.heap.objs.size
    ·subst hb
     rw [j6] at q;cases q
     exact ⟨by show 2<=sizeLine;decide,[u1,u2],.cons ru1 (.cons ru2 .nil),⟨_,et,rfl,0,rfl⟩⟩
    ·rw [j5 hb] at q
     have hh:=tne c v q
     refine (I.hok c v q).stay (fun c' o hc' e=>?_) (fun _ e=>getF e) fun _ _ e=>getF e
     have hh':c'≠z/\c'≠TO/\c'≠i1/\c'≠i2:=by
      rcases hc' with e | e
      ·rw [e];exact ⟨hh.1,hh.2.1,hh.2.2.1,hh.2.2.2.1⟩
      ·have:=tne c' _ e;exact ⟨this.1,this.2.1,this.2.2.1,this.2.2.2.1⟩
     exact kk c' o hh'.1 hh'.2.1 hh'.2.2.1 hh'.2.2.2 e
  have s2:∀ {c:Addr} {o:Obj},c≠z->h'.get? c=some o->h2.get? c=some o:=fun n e=>(sb.2 _ n).trans e
  refine ⟨.ref s.heap.objs.size,_,I1,rfl,⟨_,x,y,rfl,hn,rfl,fun ys' hy'=>by rw [Qy I hy' hq1];exact hx,fun ys' hy'=>by rw [Qy I hy' hq2];exact hy⟩,⟨u1,u2,q1,kk _ _ D.TIz D.TITO D.TIi1 D.TIi2 t2,s2 D.TOz o2,o3.at fun o e=>s2 D.i1z e,o4.at fun o e=>s2 D.i2z e⟩,fun c hc'=>?_⟩
  have hl:c<s.heap.objs.size:=by
   simp only [List.mem_cons,List.not_mem_nil,or_false] at hc'
   rcases hc' with rfl | rfl | rfl | rfl | rfl
   ·exact hzl
   ·exact Heap.lt_size t2
   ·exact Heap.lt_size t3
   ·obtain ⟨o,e,_⟩:=t4.obj;exact Heap.lt_size e
   ·obtain ⟨o,e,_⟩:=t5.obj;exact Heap.lt_size e
  rw [j5 (Nat.ne_of_lt hl)]
  exact (hf c hc').1
 done:=by
  intro X hP hw hK hc i pins s σ H E I hf st hg
  subst hP hw hK
  obtain ⟨a,b,t1,t2,t3,t4,t5⟩:=st
  obtain ⟨xs,ys,hq1,hq2,hend⟩:=hg
  obtain ⟨its1,rv1,p1,_⟩:=YA I hq1
  obtain ⟨its2,rv2,p2,_⟩:=YA I hq2
  have e1:=rv1.length
  have e2:=rv2.length
  have fz:=hf z (by simp)
  have fTO:=hf TO (by simp)
  have f1:=hf i1 (by simp)
  have f2:=hf i2 (by simp)
  have tne:∀ c o,H c=some o->c≠z/\c≠TO/\c≠i1/\c≠i2:=fun c o q=>⟨fun e=>(by rw [e,fz.1] at q;cases q),fun e=>(by rw [e,fTO.1] at q;cases q),fun e=>(by rw [e,f1.1] at q;cases q),fun e=>(by rw [e,f2.1] at q;cases q)⟩
  have nin:∀ {c:Addr},c∉[z,TO,i1,i2]->c≠z/\c≠TO/\c≠i1/\c≠i2:=fun {c} h=>by simpa using h
  refine GU (I.ok.hd hc) D (Jv D.l1i1) (Jv D.l2i2) t1 t2 t3 ⟨t4,p1⟩ ⟨t5,p2⟩ ?_ fun h' kk=>⟨rfl,?_⟩
  ·rcases hend with h | h
   ·exact .inl (by simp;omega)
   ·exact .inr (by simp;omega)
  ·refine I.step (g':=s.gens) (d':=s.drawn) (t':=s.toks) (ch:=[z,TO,i1,i2]) (fun c hc'=>?_) (fun c o _ _ hc' e _=>kk c o (nin hc').1 (nin hc').2.1 (nin hc').2.2.1 (nin hc').2.2.2 e) (fun c o _ _ hc' e _=>⟨o.slots,kk c o (nin hc').1 (nin hc').2.1 (nin hc').2.2.1 (nin hc').2.2.2 e⟩)
    (fun _ _ _ _ n=>n) (fun c o hc' e=>⟨o,kk c o (nin hc').1 (nin hc').2.1 (nin hc').2.2.1 (nin hc').2.2.2 e⟩) (fun _ _ q=>q) (fun _ _ _ q=>q) (fun c ps q=>⟨#[],by rw [q];simp⟩) (fun m hm=>?_) (fun c v q=>?_) I.bare
   ·simp only [List.mem_cons,List.not_mem_nil,or_false] at hc'
    rcases hc' with rfl | rfl | rfl | rfl
    ·exact ⟨fz.2.2.2.1,fz.2.1,fz.2.2.2.2.1,fz.2.2.2.2.2⟩
    ·exact ⟨fTO.2.2.2.1,fTO.2.1,fTO.2.2.2.2.1,fTO.2.2.2.2.2⟩
    ·exact ⟨f1.2.2.2.1,f1.2.1,f1.2.2.2.2.1,f1.2.2.2.2.2⟩
    ·exact ⟨f2.2.2.2.1,f2.2.1,f2.2.2.2.2.1,f2.2.2.2.2.2⟩
   ·obtain ⟨o,es,ep,ho,r⟩:=hm
    exact ⟨o,es,ep,kk _ o (Ne.symm fz.2.1) (Ne.symm fTO.2.1) (Ne.symm f1.2.1) (Ne.symm f2.2.1) ho,r⟩
   ·have hh:=tne c v q
    refine (I.hok c v q).stay (fun c' o hc' e=>?_) (fun _ e=>e) fun _ _ e=>e
    have hh':c'≠z/\c'≠TO/\c'≠i1/\c'≠i2:=by
     rcases hc' with e | e
     ·rw [e];exact hh
     ·exact tne c' _ e
    exact kk c' o hh'.1 hh'.2.1 hh'.2.2.1 hh'.2.2.2 e
 self:=fun _ _ _ _ _ ⟨_,_,t1,_⟩ h=>wpAny_pyIter_zip t1 h
section
variable {X:Cx}
def E1 (K:PySem.W.Frag) (ta:TA):TI:=fun σ H R=>ta σ H fun vs H1=>∃ t u a b,vs=[.ref a,.ref b]/\(∃ xs,SqK t K H1 a xs)/\(∃ ys,SqK u K H1 b ys)/\R (VQ K t u a b) H1
theorem UP {es:List Expr}{x1:Nat}{tpos:Pos}{l r:Expr}{ta:TA}{p pos:Pos}(K:PySem.W.Frag) (hg:Gl X "zip") (hm:X.mg "zip" = none) (ha:PA X [l,r] ta) (hs:starEach [l,r] X.env=(false,eval l X.env)::starEach [r] X.env:=by rfl) (hs2:(backTo pos (starEach [r] X.env)).any (·.1)=false:=by rfl) (hK:X.K=K:=by rfl) :
  PI X (.Tuple es x1 tpos) (.Call (.Name "zip" p) [l,r] [] pos) (E1 K ta):=by
 subst hK
 intro pins s σ H R I h
 refine Call_ (zY I hg hm boot_zip (PyProof.Rows.callWith_type1 (thn (ha pos pins s σ H _ I h) fun us s1 ⟨vs,H1,I1,r1,q1⟩=>?_) hs hs2))
 obtain ⟨t,t2,a,b,e,⟨xs,hq⟩,⟨ys,hq2⟩,q⟩:=q1
 subst e
 obtain ⟨u,u2,rfl,ru,ru2⟩:=Zl r1
 cases ru
 cases ru2
 obtain ⟨its,rv,pl,_⟩:=YA I1 hq
 obtain ⟨its2,rv2,pl2,_⟩:=YA I1 hq2
 refine Wq pl pl2 fun h' z1 z2 z3 z4 z5 kk=>?_
 refine wpAny_pyIter_zip z1 ?_
 have I2:Inv X pins σ H1 { s1 with heap:=h',toks:=s1.toks }:=I1.kept kk
 have la:a<s1.heap.objs.size:=pl.lt
 have lb:b<s1.heap.objs.size:=pl2.lt
 have D:ZipApart (s1.heap.objs.size+4) (s1.heap.objs.size+2) (s1.heap.objs.size+3) s1.heap.objs.size (s1.heap.objs.size+1) a b:=by
  constructor <;> first | exact Nat.ne_of_lt la | exact Nat.ne_of_lt lb | exact Nat.ne_of_lt (Nat.lt_of_lt_of_le la (Nat.le_add_right _ _)) | exact Nat.ne_of_lt (Nat.lt_of_lt_of_le lb (Nat.le_add_right _ _)) | (apply Nat.ne_of_lt;omega) | (apply Nat.ne_of_gt;omega)
 refine ⟨_,[s1.heap.objs.size+4,s1.heap.objs.size+2,s1.heap.objs.size+3,s1.heap.objs.size,s1.heap.objs.size+1],_,_,H1,rfl,I2,Yq D,⟨.none,.none,z1,z2,z3,z4,z5⟩,fun c hc=>?_,q⟩
 have hle:s1.heap.objs.size<=c:=by
  simp only [List.mem_cons,List.not_mem_nil,or_false] at hc
  rcases hc with rfl | rfl | rfl | rfl | rfl
  ·exact Nat.le_add_right _ _
  ·exact Nat.le_add_right _ _
  ·exact Nat.le_add_right _ _
  ·exact Nat.le_refl _
  ·exact Nat.le_add_right _ _
 exact I1.fpOk hle (I1.hok.fresh hle)
end
theorem Jf {K:PySem.W.Frag}{t0 u0:Bool}{a b acc:Addr}{xs ys:List V}{g:TG}{ti:TT}{te:TE}{R:Hp->Prop}{σ:St}{H:Hp}(hl2:xs.length=ys.length) (Pv:Nat->St->Hp->Prop) (h0:Pv 0 σ H) (hl:∀ i σ H,i<=xs.length->Pv i σ H->SqK t0 K H a xs/\SqK u0 K H b ys)
  (hs:∀ i x y σ H t,xs[i]? = some x->ys[i]? = some y->Pv i σ H->H t=none->g (.ref t) σ (upd H t (.tup [x,y])) fun σ3 H3=>ti σ3 H3 fun ok H4=>if ok=true then te σ3 H4 fun v H5=>∃ zs,H5 acc=some (.lst zs)/\zs.length<sizeLine/\Pv (i+1) σ3 (upd H5 acc (.lst (zs++[v]))) else Pv (i+1) σ3 H4)
  (hd:∀ σ H,Pv xs.length σ H->R H) :
  ∃ W:Nat->Nat->St->Hp->Prop,(∃ m,W 0 m σ H)/\∀ i m σ' H',W i m σ' H' ->
   ((VQ K t0 u0 a b).stop i H'/\R H')\/((VQ K t0 u0 a b).go i H'/\∃ NX:St->Hp->Prop,(∀ σ2 H2,NX σ2 H2->∃ m',m'<m/\W (i+1) m' σ2 H2) /\
    ∀ x H2,(VQ K t0 u0 a b).yld i H' x H2->g x σ' H2 fun σ3 H3=>ti σ3 H3 fun ok H4=>if ok=true then te σ3 H4 fun v H5=>∃ zs,H5 acc=some (.lst zs)/\zs.length<sizeLine/\NX σ3 (upd H5 acc (.lst (zs++[v]))) else NX σ3 H4):=by
 refine ⟨fun i m σ H=>m=xs.length-i/\i<=xs.length/\Pv i σ H,⟨xs.length,by simp,Nat.zero_le _,h0⟩,?_⟩
 rintro i m σ H ⟨rfl,hi,p⟩
 obtain ⟨q,q2⟩:=hl i σ H hi p
 by_cases hlt:i<xs.length
 ·refine .inr ⟨⟨xs,ys,xs[i],ys[i]'(by omega),q,q2,by simp [hlt],List.getElem?_eq_getElem (by omega)⟩,Pv (i+1),fun σ' H' p'=>⟨xs.length-(i+1),by omega,rfl,hlt,p'⟩,fun v H' y=>?_⟩
  obtain ⟨t,x,y',rfl,hn,rfl,y1,y2⟩:=y
  exact hs i x y' σ H t (y1 xs q) (y2 ys q2) p hn
 ·have e:i=xs.length:=by omega
  subst e
  exact .inl ⟨⟨xs,ys,q,q2,.inl (Nat.le_refl _)⟩,hd σ H p⟩
end L2
end
section
namespace L2
open PySem PySem.Spec PySem.W PyProof.Rows
mutual
inductive Dat (H:Hp):V->PyData->Prop
 | non:Dat H .non .none
 | bl (b:Bool):Dat H (.bl b) (.bool b)
 | int (i:Int):Dat H (.int i) (.int i)
 | str (x:Str):Dat H (.str x) (.str x)
 | tup {p:Addr} {vs:List V} {ds:List PyData}:H p=some (.tup vs)->DatL H vs ds->Dat H (.ref p) (.tuple ds)
 | lst {p:Addr} {vs:List V} {ds:List PyData}:H p=some (.lst vs)->DatL H vs ds->Dat H (.ref p) (.list ds)
inductive DatL (H:Hp):List V->List PyData->Prop
 | nil:DatL H [] []
 | cons {v:V} {vs:List V} {d:PyData} {ds:List PyData}:Dat H v d->DatL H vs ds->DatL H (v::vs) (d::ds)
end
mutual
theorem Dat.ext {M:Addr->Prop}{H H':Hp}(x:YJ M H H') (hM:∀ c,M c->∀ vs,H c≠some (.lst vs)/\H c≠some (.tup vs)):∀ {v:V}{d:PyData},Dat H v d->Dat H' v d
 | _,_,.non=>.non
 | _,_,.bl b=>.bl b
 | _,_,.int i=>.int i
 | _,_,.str y=>.str y
 | _,_,.tup h r=>.tup (x _ _ h fun z=>(hM _ z _).2 h) (DatL.ext x hM r)
 | _,_,.lst h r=>.lst (x _ _ h fun z=>(hM _ z _).1 h) (DatL.ext x hM r)
theorem DatL.ext {M:Addr->Prop}{H H':Hp}(x:YJ M H H') (hM:∀ c,M c->∀ vs,H c≠some (.lst vs)/\H c≠some (.tup vs)):∀ {vs:List V}{ds:List PyData},DatL H vs ds->DatL H' vs ds
 | _,_,.nil=>.nil
 | _,_,.cons h r=>.cons (Dat.ext x hM h) (DatL.ext x hM r)
end
theorem Dat.same {H H':Hp}{v:V}{d:PyData}(s:jj H H') (h:Dat H v d):Dat H' v d:=h.ext (M:=fun _=>False) (YJ.of_same s) (fun _ z=>z.elim)
theorem DatL.length {H:Hp}:∀ {vs:List V}{ds:List PyData},DatL H vs ds->vs.length=ds.length
 | _,_,.nil=>rfl
 | _,_,.cons _ r=>congrArg Nat.succ r.length
theorem DatL.get {H:Hp}:∀ {vs:List V}{ds:List PyData}{i:Nat}{v:V},DatL H vs ds->vs[i]? = some v->∃ d,ds[i]? = some d/\Dat H v d
 | _,_,_,_,.nil,e=>by simp at e
 | _,_,0,_,.cons r _,e=>by simp at e;subst e;exact ⟨_,rfl,r⟩
 | _,_,i+1,v,.cons _ t,e=>by
  obtain ⟨d,h1,h2⟩:=DatL.get (i:=i) (v:=v) t (by simpa using e)
  exact ⟨d,by simpa using h1,h2⟩
def xT:Nat->PyData->Bool
 | 0,_=>false
 | _+1,.none=>true
 | _+1,.bool _=>true
 | _+1,.int _=>true
 | _+1,.str _=>true
 | n+1,.list ds=>decide (ds.length<=1000) && ds.all (xT n)
 | n+1,.tuple ds=>decide (ds.length<=1000) && ds.all (xT n)
 | _+1,_=>false
def VT (n:Nat):Sp:=fun vs H Q _=>∃ (x y:V) (d:PyData),vs=[x,y]/\Dat H x d/\Dat H y d/\xT n d=true/\∀ H',jj H H'->Q (.bl true) H'
theorem gX {n:Nat}{ds:List PyData}(h:ds.length<=1000) (a:ds.all (xT n)=true):xT (n+1) (.list ds)=true:=by
 show (decide (ds.length<=1000) && ds.all (xT n))=true
 rw [decide_eq_true h,a];rfl
theorem Qg (K:PySem.W.Frag):PySem.W.kitOne K (.type "str") (.type "bool")=some false:=(qa K _ _).trans (by decide +kernel)
theorem Xs (K:PySem.W.Frag):PySem.W.kitOne K (.type "str") (.type "int")=some false:=(qa K _ _).trans (by decide +kernel)
theorem wu (K:PySem.W.Frag):PySem.W.kitOne K (.type "str") (.type "str")=some true:=(qa K _ _).trans (by decide +kernel)
end L2
end
section
namespace L2
open PySem PySem.Spec PySem.W PyProof.Rows
def Two (vs:Array Value) (a0:Value):Prop:=vs[0]? = some a0/\vs[2]? = some .none
theorem Two.put {vs:Array Value}{a0:Value}(t:Two vs a0) (x:Value):Two (vs.setIfInBounds 1 x) a0 :=
 ⟨by rw [Array.getElem?_setIfInBounds_ne (by decide)];exact t.1,by rw [Array.getElem?_setIfInBounds_ne (by decide)];exact t.2⟩
theorem VB (o:Obj) (f:Array Value->Array Value):(o.mapFields f).dict=o.dict:=by
 obtain ⟨c,d,dt,sl⟩:=o
 cases dt <;> rfl
def OnT (h B:Heap) (e:Addr) (cls a0 fl:Value):Prop :=
 ∃ oe vs T oT ts,h.get? e=some oe/\(oe.cls=cls/\Two vs a0/\oe.dict=none)/\oe.data = .fields vs/\vs[1]? = some (.ref T)/\B.get? T=none/\T≠e/\h.get? T=some oT/\oT.data = .fields ts/\ts[3]? = some fl
section
variable {M:Model}{A:Around}{E:Value->Shared->Prop}{s:Shared}{B:Heap}{env:Env}{outer l:List Env}{L e:Addr}{cls a0 fl:Value}{Q:Unit->Shared->Prop}
theorem km (st:B.StaysIn s.heap) (fu:s.heap.FunFrames B l) (on:OnT s.heap B e cls a0 fl)
  (k:∀ g,B.StaysIn g->g.FunFrames B l->OnT g B e cls a0 .none->(∀ b o,s.heap.get? b=some o->(∀ vs,o.data≠.fields vs)->g.get? b=some o)->Q () { s with heap:=g }):wpAny M A (setFlight (.ref e) none) Q E s:=by
 obtain ⟨oe,vs,T,oT,ts,ge,gc,gd,g1,gB,gn,gT,gD,g3⟩:=on
 have z3:3<ts.size:=(Array.getElem?_eq_some_iff.mp g3).1
 have ot:∀ b,b≠T->(s.heap.update T (Obj.mapFields (·.setIfInBounds 3 ((none:Option Addr).elim Value.none fun f=>rawInt f)))).get? b=s.heap.get? b:=fun b hb =>
  Heap.get?_update_other _ _ hb.symm
 have nr:∀ {b o},s.heap.get? b=some o->(∀ vs,o.data≠.fields vs)->b≠T:=fun hb hn q=>by
  rw [q,gT] at hb
  cases hb
  exact hn ts gD
 unfold setFlight
 refine wpAny_bind (wpAny_field ge gd g1 ?_)
 rw [if_pos (by simp)]
 refine wpAny_setField gT gD z3 (k _ (fun b o hb=>?_) (fu.of_keeps fun b o hb hn=>⟨o,?_,rfl⟩) ?_ fun b o hb hn=>?_)
 ·rw [ot b fun q=>by rw [q,gB] at hb;cases hb]
  exact st b o hb
 ·rw [ot b (nr hb hn)]
  exact hb
 ·refine ⟨oe,vs,T,_,_,?_,gc,gd,g1,gB,gn,Heap.get?_update_self _ gT (Obj.isFreed_of_fields (Obj.data_mapFields gD _)),Obj.data_mapFields gD _,by simp [z3]⟩
  rw [ot e gn.symm]
  exact ge
 ·rw [ot b (nr hb hn)]
  exact hb
theorem QJ {oe:Obj}{vs:Array Value}{head:Value}{nx:Bool}(fr:A.frames=some (env::outer)) (fu:s.heap.FunFrames B (env::outer)) (hL:env.frame=some L) (ge:s.heap.get? e=some oe) (st:B.StaysIn s.heap) (ne:B.get? e=none) (gd:oe.data = .fields vs)
  (z1:1<vs.size) (tw:Two vs a0) (dn:oe.dict=none) (k:∀ g,B.StaysIn g->g.FunFrames B (env::outer)->OnT g B e oe.cls a0 (rawInt L)->s.heap.UpToSlots g->Q () { s with heap:=g }) :
  wpAny M A (do let a <- frameOf env;let pl <- entryPlaceOf L nx;let b <- EntryCells.newEntry head a .none (rawInt L) .none pl;setField (.ref e) 1 b) Q E s:=by
 have out:e∉(env::outer).filterMap (·.frame):=fun q=>by
  obtain ⟨_,o,ho,hn⟩:=fu.mem q
  rw [ge] at ho
  cases ho
  exact hn vs gd
 refine wpAny_bind (wpAny_frameOf_fun fr fu hL fun g1 so=>?_)
 refine wpAny_bind (wpAny_entryPlaceOf fun pl sh=>?_)
 unfold EntryCells.newEntry newFields
 refine wpAny_bind (wpAny_newObj_type ?_ (sh.sizeOk5 _ _ _ _ _))
 have e1:g1.get? e=some oe:=(so.2.1 e out).trans ge
 have s1:B.StaysIn g1:=fun b o hb=>(so.2.1 b fun q=>by rw [(fu.mem q).1] at hb;cases hb).trans (st b o hb)
 generalize hnew:({ cls:=.type "traceback",dict:=none,data:=.fields ([head,.ref L,.none,rawInt L,.none]++(if pl.isEmpty then List.replicate 6 Value.none else pl)).toArray }:Obj)=new
 have nd:new.data = .fields ([head,.ref L,.none,rawInt L,.none]++(if pl.isEmpty then List.replicate 6 Value.none else pl)).toArray:=by rw [<- hnew]
 have e2:=Heap.get?_push_of_some (h:=g1) new e1
 refine wpAny_setField e2 gd z1 ?_
 have Te:g1.objs.size≠e:=Nat.ne_of_gt (Heap.lt_size e1)
 have d3:=Obj.data_mapFields gd (·.setIfInBounds 1 (Value.ref g1.objs.size))
 have e3:=Heap.get?_update_self (Obj.mapFields (·.setIfInBounds 1 (Value.ref g1.objs.size))) e2 (Obj.isFreed_of_fields d3)
 have T3:((g1.push new).update e (Obj.mapFields (·.setIfInBounds 1 (Value.ref g1.objs.size)))).get? g1.objs.size=some new:=by
  rw [Heap.get?_update_other _ _ Te.symm]
  exact Heap.get?_push_size g1 (Obj.isFreed_of_fields nd)
 have kp:∀ {b o},b≠e->g1.get? b=some o->((g1.push new).update e (Obj.mapFields (·.setIfInBounds 1 (Value.ref g1.objs.size)))).get? b=some o:=fun hb q=>by
  rw [Heap.get?_update_other _ _ hb.symm]
  exact Heap.get?_push_of_some _ q
 have nr:∀ {b o},s.heap.get? b=some o->(∀ vs,o.data≠.fields vs)->b≠e:=fun hb hn q=>by
  rw [q,ge] at hb
  cases hb
  exact hn vs gd
 refine k _ (fun b o hb=>kp (fun q=>by rw [q,ne] at hb;cases hb) (s1 b o hb)) (fu.of_keeps fun b o hb hn=>?_) ?_ fun b o hb hn=>?_
 ·obtain ⟨sl,hs⟩:=so.2.2 b o hb
  exact ⟨_,kp (nr hb hn) hs,rfl⟩
 ·exact ⟨_,_,g1.objs.size,_,_,e3,⟨Obj.cls_mapFields _ _,tw.put _,(VB _ _).trans dn⟩,d3,by simp [z1],s1.fresh,Te,T3,nd,by first | (simp;done) | (rcases sh with rfl | ⟨_,_,_,_,_,_,_,rfl⟩ <;> simp)⟩
 ·obtain ⟨sl,hs⟩:=so.2.2 b o hb
  exact ⟨sl,kp (nr hb hn) hs⟩
theorem Ut (fr:A.frames=some (env::outer)) (fu:s.heap.FunFrames B (env::outer)) (hL:env.frame=some L) (on:OnT s.heap B e cls a0 .none) (st:B.StaysIn s.heap) (ne:B.get? e=none)
  (k:∀ g,B.StaysIn g->g.FunFrames B (env::outer)->OnT g B e cls a0 (rawInt L)->s.heap.UpToSlots g->Q () { s with heap:=g }):wpAny M A (noteFrame (.ref e) env) Q E s:=by
 obtain ⟨oe,vs,T,oT,ts,ge,⟨rfl,tw,dn⟩,gd,g1,gB,gn,gT,gD,g3⟩:=on
 unfold noteFrame
 simp only [hL]
 refine wpAny_bind (wpAny_field ge gd g1 ?_)
 rw [if_pos (by simp)]
 refine wpAny_bind (wpAny_field gT gD g3 ?_)
 rw [if_neg (by simp [rawInt])]
 refine wpAny_bind (wpAny_setField gT gD (Array.getElem?_eq_some_iff.mp g3).1 ?_)
 have ot:∀ b,b≠T->(s.heap.update T (Obj.mapFields (·.setIfInBounds 3 Value.none))).get? b=s.heap.get? b:=fun b hb =>
  Heap.get?_update_other _ _ hb.symm
 have nr:∀ {b o},s.heap.get? b=some o->(∀ vs,o.data≠.fields vs)->b≠T:=fun hb hn q=>by
  rw [q,gT] at hb
  cases hb
  exact hn ts gD
 refine QJ (oe:=oe) (vs:=vs) (a0:=a0) fr (fu.of_keeps fun b o hb hn=>⟨o,?_,rfl⟩) hL ?_ (fun b o hb=>?_) ne gd (Array.getElem?_eq_some_iff.mp g1).1 tw dn fun g k1 k2 k3 k4=>k g k1 k2 k3 fun b o hb hn=>?_
 ·exact (ot b (nr hb hn)).trans hb
 ·exact (ot e gn.symm).trans ge
 ·exact (ot b fun q=>by rw [q,gB] at hb;cases hb).trans (st b o hb)
 ·exact k4 b o ((ot b (nr hb hn)).trans hb) hn
theorem Vc (fr:A.frames=some (env::outer)) (fu:s.heap.FunFrames B (env::outer)) (hL:env.frame=some L) (on:OnT s.heap B e cls a0 .none) (st:B.StaysIn s.heap) (ne:B.get? e=none)
  (k:∀ g,B.StaysIn g->g.FunFrames B (env::outer)->OnT g B e cls a0 .none->s.heap.UpToSlots g->Q () { s with heap:=g }):wpAny M A (leaving env (.ref e)) Q E s:=by
 unfold leaving
 refine wpAny_bind (Ut fr fu hL on st ne fun g k1 k2 k3 k4=>?_)
 exact km (s:={ s with heap:=g }) k1 k2 k3 fun g' m1 m2 m3 m4=>k g' m1 m2 m3 (k4.trans fun b o hb hn=>⟨o.slots,m4 b o hb hn⟩)
theorem Xv {h:Heap}{args:List Value}(fr:A.frames=some (env::outer)) (hL:env.frame=some L) (st:B.StaysIn h) (fu:h.FunFrames B (env::outer)) (hx:Heap.MadeExcOf h s.heap e cls args)
  (k:∀ g t,B.StaysIn g->g.FunFrames B (env::outer)->OnT g B e cls (.ref t) .none->B.get? e=none->s.heap.UpToSlots g->Q () { s with heap:=g }):wpAny M A (leaving env (.ref e)) Q E s:=by
 obtain ⟨t,ge,tn,gt⟩:=hx.there
 have new:B.get? e=none:=by
  cases q:B.get? e with
  | none=>rfl
  | some o =>
   have:=st e o q
   rw [hx.new] at this
   cases this
 unfold leaving noteFrame
 simp only [hL]
 refine wpAny_bind (wpAny_bind (wpAny_field (x:=.none) ge rfl rfl ?_))
 rw [if_neg (by decide)]
 refine QJ (a0:=.ref t) fr (fu.of_keeps fun b o hb _=>⟨o,hx.keeps b o hb,rfl⟩) hL ge (fun b o hb=>hx.keeps b o (st b o hb)) new rfl (by simp) ⟨rfl,rfl⟩ rfl fun g k1 k2 k3 k4=>?_
 exact km (s:={ s with heap:=g }) k1 k2 k3 fun g' m1 m2 m3 m4=>k g' t m1 m2 m3 new (k4.trans fun b o hb hn=>⟨o.slots,m4 b o hb hn⟩)
end
end L2
end
section
namespace L2
open PySem PySem.Spec PySem.W PyProof.Rows
structure Fly (g:Heap) (H:Hp) (h:Heap) (a:Addr) (cls fl:Value):Prop where
 na:g.get? a=none
 ha:H a=none
 ob:∃ oe vs T oT ts a0,h.get? a=some oe/\(oe.cls=cls/\Two vs a0/\oe.dict=none)/\oe.data = .fields vs/\vs[1]? = some (.ref T)/\g.get? T=none/\H T=none/\T≠a/\h.get? T=some oT/\oT.data = .fields ts/\ts[3]? = some fl
theorem Fly.mono {g g':Heap}{H:Hp}{h:Heap}{a:Addr}{cls fl:Value}(f:Fly g H h a cls fl) (l:∀ b o,g'.get? b=some o->∃ o',g.get? b=some o'):Fly g' H h a cls fl:=by
 have no:∀ {b},g.get? b=none->g'.get? b=none:=fun {b} e=>by
  cases q:g'.get? b with
  | none=>rfl
  | some o =>
   obtain ⟨o',e'⟩:=l b o q
   rw [e] at e'
   cases e'
 obtain ⟨oe,vs,T,oT,ts,a0,h1,h2,h3,h4,h5,h6⟩:=f.ob
 exact ⟨no f.na,f.ha,oe,vs,T,oT,ts,a0,h1,h2,h3,h4,no h5,h6⟩
def CX1 (P:Program) (w:World):CXT:=fun outer H s E e s' =>
 ∃ a cls H',e = .ref a/\s'.os=s.os/\AllBare s'.gens/\Un (frs outer) [] H H' s.heap s'.heap/\HOk P w H' s'.heap/\Fly s.heap H' s'.heap a cls .none/\E cls none H'
def zS (X:Cx) (pins:List (Addr×Obj)) (σ:St) (H':Hp) (s1:Shared) (a:Addr) (cls fl:Value):Prop :=
 ∃ s H,Inv X pins σ H s/\s1.os=s.os/\AllBare s1.gens/\Un (frs X.stack) [] H H' s.heap s1.heap/\HOk X.prog X.w H' s1.heap/\Fly s.heap H' s1.heap a cls fl
theorem wX {P:Program}{w:World}{H:Hp}{h:Heap}{a:Addr}{o:HO}(x:qe P w H h a o):∃ ob,h.get? a=some ob:=by
 cases o with
 | lst xs=>obtain ⟨_,_,_,_,e⟩:=x;exact ⟨_,e⟩
 | tup xs=>obtain ⟨_,_,_,ob,e,_⟩:=x;exact ⟨_,e⟩
 | dK kvs=>obtain ⟨_,_,_,_,ob,_,_,e,_⟩:=x;exact ⟨_,e⟩
 | dT kvs=>obtain ⟨_,_,_,_,ob,_,_,e,_⟩:=x;exact ⟨_,e⟩
 | set S n=>obtain ⟨ob,_,_,_,e,_⟩:=x;exact ⟨_,e⟩
 | ins C dx fs=>obtain ⟨_,_,_,e,_⟩:=x;exact ⟨_,e⟩
 | own y=>exact x
 | xd fs=>obtain ⟨_,⟨_,_,_,e,_⟩,_⟩:=x;exact ⟨_,e⟩
 | rng lo hi=>obtain ⟨_,_,_,e⟩:=x;exact ⟨_,e⟩
 | frz ob u=>obtain ⟨e,_⟩:=x;exact ⟨_,e⟩
 | tbl ps=>exact ⟨_,(show h.get? a=some _ from x)⟩
 | met f y=>exact ⟨_,(show h.get? a=some _ from x)⟩
 | ext φ=>obtain ⟨_,e,_⟩:=x;exact e
section
variable {X:Cx}{pins:List (Addr×Obj)}{σ:St}{H H':Hp}{s s1:Shared}{a:Addr}{cls fl:Value}
theorem zS.inv (f:zS X pins σ H' s1 a cls fl):Inv X pins σ H' s1:=by
 obtain ⟨s,H,I,os,b,u,ok,fy⟩:=f
 exact I.call' os u ok b (fun b z=>absurd z (by simp))
theorem zS.fly (hex:X.ex=[]) (f:zS X pins σ H' s1 a cls fl):Fly X.s₀.heap H' s1.heap a cls fl:=by
 obtain ⟨s,H,I,os,b,u,ok,fy⟩:=f
 exact fy.mono fun c o e=>I.base.there c o e (by rw [hex];exact fun z=>by cases z)
theorem zS.under (f:zS X pins σ H' s1 a cls .none):∃ B a0,(B.StaysIn s1.heap/\B.get? a=none/\s1.heap.FunFrames B X.stack/\OnT s1.heap B a cls a0 .none) /\
  ∀ h2 fl2,B.StaysIn h2->s1.heap.UpToSlots h2->OnT h2 B a cls a0 fl2->zS X pins σ H' { s1 with heap:=h2 } a cls fl2:=by
 have I1:=f.inv
 obtain ⟨s,H,I,os,b,u,ok,fy⟩:=f
 obtain ⟨oe,vs,T,oT,ts,a0,h1,h2,h3,h4,h5,h6,h7,h8,h9,h10⟩:=fy.ob
 have fr:=I1.stack
 have fs:∀ b∈frs X.stack,b≠a/\b≠T:=fun b hb=>by
  obtain ⟨_,o,ho,hn⟩:=fr.mem hb
  refine ⟨fun z=>?_,fun z=>?_⟩
  ·rw [z,h1] at ho;cases ho;exact hn _ h3
  ·rw [z,h8] at ho;cases ho;exact hn _ h9
 have in_:∀ env∈X.stack,∀ c,env.frame=some c->c∈a::T::frs X.stack:=fun env he c hc=>List.mem_cons_of_mem _ (List.mem_cons_of_mem _ (List.mem_filterMap.mpr ⟨env,he,hc⟩))
 have noB:∀ {c o},s1.heap.get? c=some o->c≠a->c≠T->c∉frs X.stack->(hideAll s1.heap (a::T::frs X.stack)).get? c=some o:=fun e n1 n2 n3 =>
  hideAll_get _ e (by simp only [List.mem_cons,not_or];exact ⟨n1,n2,n3⟩)
 refine ⟨hideAll s1.heap (a::T::frs X.stack),a0,⟨fun b o q=>of_hideAll _ q,hideAll_none _ (.head _),funFrames_hide fr in_,oe,vs,T,oT,ts,h1,h2,h3,h4,hideAll_none _ (.tail _ (.head _)),h7,h8,h9,h10⟩,fun hp fl2 st up tr=>?_⟩
 have lo:∀ {c o},s.heap.get? c=some o->c≠a/\c≠T:=fun {c o} e=>⟨fun z=>(by rw [z,fy.na] at e;cases e),fun z=>(by rw [z,h5] at e;cases e)⟩
 have frn:∀ {c o},s1.heap.get? c=some o->c∈frs X.stack->∀ vs,o.data≠.fields vs:=fun e hc=>by
  obtain ⟨_,o',ho,hn⟩:=fr.mem hc
  rw [e] at ho;cases ho;exact hn
 refine ⟨s,H,I,os,b,⟨fun c o e n nf nx=>?_,fun c o e n hf nx=>?_,fun c o e n nx=>u.free c o e n nx,fun c o e nx=>?_,u.tups,u.frzs,u.tbls⟩,fun c o hc=>?_,?_⟩
 ·exact st _ _ (noB (u.keep c o e n nf nx) (lo e).1 (lo e).2 nf)
 ·obtain ⟨sl,e1⟩:=u.slot c o e n hf nx
  obtain ⟨sl2,e2⟩:=up c _ e1 (frn e1 hf)
  exact ⟨sl2,e2⟩
 ·obtain ⟨o1,e1⟩:=u.there c o e nx
  by_cases hf:c∈frs X.stack
  ·obtain ⟨sl2,e2⟩:=up c _ e1 (frn e1 hf)
   exact ⟨_,e2⟩
  ·exact ⟨o1,st _ _ (noB e1 (lo e).1 (lo e).2 hf)⟩
 ·refine (ok c o hc).stay (fun c' o' hc' e=>?_) (fun _ e=>e) fun _ _ e=>e
  have hne:H' c'≠none:=by
   rcases hc' with z | z
   ·rw [z,hc];exact fun y=>by cases y
   ·rw [z];exact fun y=>by cases y
  exact st _ _ (noB e (fun z=>hne (by rw [z];exact fy.ha)) (fun z=>hne (by rw [z];exact h6)) fun z=>hne (I1.stkFree _ z))
 ·obtain ⟨oe2,vs2,T2,oT2,ts2,g1,g2,g3,g4,g5,g6,g7,g8,g9⟩:=tr
  have key:T2=T\/s1.heap.get? T2=none:=by
   cases q:s1.heap.get? T2 with
   | none=>exact .inr rfl
   | some o =>
    refine .inl ?_
    by_cases hT:T2=T
    ·exact hT
    ·by_cases hf:T2∈frs X.stack
     ·obtain ⟨sl2,e2⟩:=up T2 _ q (frn q hf)
      rw [e2] at g7
      cases g7
      exact absurd g8 (frn q hf _)
     ·have:=noB q g6 hT hf
      rw [g5] at this
      cases this
  refine ⟨fy.na,fy.ha,oe2,vs2,T2,oT2,ts2,a0,g1,g2,g3,g4,?_,?_,g6,g7,g8,g9⟩
  ·rcases key with z | z
   ·rw [z];exact h5
   ·cases q:s.heap.get? T2 with
    | none=>rfl
    | some o =>
     obtain ⟨o',e'⟩:=u.there T2 o q (by simp)
     rw [z] at e'
     cases e'
  ·rcases key with z | z
   ·rw [z];exact h6
   ·cases q:H' T2 with
    | none=>rfl
    | some o =>
     obtain ⟨o',e'⟩:=wX (ok T2 o q)
     rw [z] at e'
     cases e'
theorem zS.leave {Q:Unit->Shared->Prop}{E:Value->Shared->Prop}(f:zS X pins σ H' s1 a cls .none) (st:X.stack=X.env::X.outer) (hf:X.env.frame=some X.env.locals)
  (k:∀ h2,zS X pins σ H' { s1 with heap:=h2 } a cls .none->Q () { s1 with heap:=h2 }):wpAny (model X.prog X.w) X.A (leaving X.env (.ref a)) Q E s1:=by
 obtain ⟨B,a0,fw,up⟩:=f.under
 have fr:X.A.frames=some (X.env::X.outer):=by rw [<- st];exact f.inv.ok.frames
 rw [st] at fw
 obtain ⟨f1,f2,f3,f4⟩:=fw
 exact Vc fr f3 hf f4 f1 f2 fun h2 k1 k2 k3 k4=>k h2 (up h2 .none k1 k4 k3)
theorem XO {vs:List Value}{h1:Heap}{Q:Unit->Shared->Prop}{E:Value->Shared->Prop}(I:Inv X pins σ H s) (hx:Heap.MadeExcOf s.heap h1 a cls vs) (st:X.stack=X.env::X.outer) (hf:X.env.frame=some X.env.locals)
  (k:∀ h2,zS X pins σ H { s with heap:=h2 } a cls .none->Q () { s with heap:=h2 }):wpAny (model X.prog X.w) X.A (leaving X.env (.ref a)) Q E { s with heap:=h1 }:=by
 have fr:X.A.frames=some (X.env::X.outer):=by rw [<- st];exact I.ok.frames
 have fun0:=I.stack
 have in_:∀ env∈X.stack,∀ c,env.frame=some c->c∈frs X.stack:=fun env he c hc=>List.mem_filterMap.mpr ⟨env,he,hc⟩
 have fun1:=funFrames_hide fun0 in_
 have frn:∀ {c o},s.heap.get? c=some o->c∈frs X.stack->∀ vs,o.data≠.fields vs:=fun e hc=>by
  obtain ⟨_,o',ho,hn⟩:=fun0.mem hc
  rw [e] at ho;cases ho;exact hn
 rw [st] at fun1
 refine Xv (s:={ s with heap:=h1 }) (B:=hideAll s.heap (frs (X.env::X.outer))) (h:=s.heap) fr hf (fun b o q=>of_hideAll _ q) fun1 hx fun h2 t b1 b2 fw b3 up=>?_
 rw [<- st] at fw b1
 obtain ⟨oe,ws,T,oT,ts,g1,g2,g3,g4,g5,g6,g7,g8,g9⟩:=fw
 have keepB:∀ {c o},s.heap.get? c=some o->c∉frs X.stack->h2.get? c=some o:=fun e n=>b1 _ _ (hideAll_get _ e n)
 have slotB:∀ {c o},s.heap.get? c=some o->c∈frs X.stack->∃ sl,h2.get? c=some { o with slots:=sl }:=fun {c o} e hc=>up c o (hx.keeps _ _ e) (frn e hc)
 have nT:s.heap.get? T=none:=by
  cases q:s.heap.get? T with
  | none=>rfl
  | some o =>
   exfalso
   by_cases hc:T∈frs X.stack
   ·obtain ⟨sl,e⟩:=slotB q hc
    rw [e] at g7
    cases g7
    exact frn q hc _ g8
   ·rw [hideAll_get _ q hc] at g5
    cases g5
 have hn:∀ {c},s.heap.get? c=none->H c=none:=fun {c} e=>by
  cases q:H c with
  | none=>rfl
  | some o =>
   obtain ⟨o',e'⟩:=wX (I.hok c o q)
   rw [e] at e'
   cases e'
 refine k h2 ⟨s,H,I,rfl,I.bare,⟨fun c o e n nf nx=>keepB e nf,fun c o e n hf nx=>slotB e hf,fun c o e n nx=>n,fun c o e nx=>?_,fun _ _ e=>e,fun _ _ _ e=>e,fun c ps e=>⟨#[],by rw [e];simp⟩⟩,fun c o hc=>?_,hx.new,hn hx.new,oe,ws,T,oT,ts,.ref t,g1,g2,g3,g4,nT,hn nT,g6,g7,g8,g9⟩
 ·by_cases hc:c∈frs X.stack
  ·obtain ⟨sl,e2⟩:=slotB e hc
   exact ⟨_,e2⟩
  ·exact ⟨o,keepB e hc⟩
 ·refine (I.hok c o hc).stay (fun c' o' hc' e=>?_) (fun _ e=>e) fun _ _ e=>e
  refine keepB e fun z=>?_
  have:=I.stkFree _ z
  rcases hc' with y | y
  ·rw [y,hc] at this;cases this
  ·rw [y] at this;cases this
end
def Acc (X:Cx) (J:Value->St->Hp->Prop):Prop:=∀ (pins:List (Addr×Obj)) (σ:St) (H':Hp) (s1:Shared) (a:Addr) (cls:Value),zS X pins σ H' s1 a cls .none->J cls σ H'->X.xe (.ref a) s1
def Wm (sp:Sp) (J:Value->St->Hp->Prop) (t:TA):TE:=fun σ H Q=>t σ H fun vs H1=>sp vs H1 Q fun cls _ H'=>J cls σ H'
structure CalX (P:Program) (w:World) (K:PySem.W.Frag) (mg:Str->Option Value) (base:Heap) (k:Nat) (x:Str) (ps:List Str) (sp:Sp):Prop where
 ex:∃ f fd,FnOk P w K mg base (CX1 P w) k f fd ps sp/\yf K fd ps []/\mg x=some (.ref f)/\PySem.W.keepIn K (.ref f)=true
theorem xG {X:Cx}{k:Nat}{x:Str}{ps:List Str}{sp:Sp}{e:Expr}{es:List Expr}{t:TA}{p pos:Pos}{J:Value->St->Hp->Prop}(c:CalX X.prog X.w X.K X.mg X.base k x ps sp) (hr:Room k X.A) (ac:Acc X J) (hg:Gl X x) (ha:PA X (e::es) t)
  (hdb:(x == ("__debug__" : Str))=false:=by decide) (he:starEach (e::es) X.env=(false,eval e X.env)::starEach es X.env:=by rfl) (hpl:(backTo pos (starEach es X.env)).any (·.1)=false:=by rfl) :
  PE X (.Call (.Name x p) (e::es) [] pos) (Wm sp J t):=by
 obtain ⟨f,fd,F,hb,hm,hk⟩:=c.ex
 intro pins s σ H Q I h
 refine wpAny_Call_Name_kw (um I hg hm ?_ hdb)
 refine PySem.W.callWith_K (h₀:=X.base) I.ok.mod.kin hk (thn (ha pos pins s σ H _ I h) fun us s1 ⟨vs,H1,I1,r,q⟩=>⟨I1.kIn,?_⟩) he hpl
 have hl:us.length=ps.length:=by rw [<- r.length];exact F.len _ _ _ _ q
 have hb':=hb s1 us I1.kIn (by rw [List.append_nil];exact hl)
 rw [List.append_nil] at hb'
 refine wpAny_call (codeAny_mono (F.run X.A X.stack s1 H1 ⟨us,[]⟩ us vs Q _ hr I1.env0 hb' r q) fun r s' hq=>?_)
 cases r with
 | error e =>
  obtain ⟨a,cls,H',rfl,os,b,u,ok,fy,j⟩:=hq
  exact ac pins σ H' s' a cls ⟨s1,H1,I1,os,b,u,ok,fy⟩ j
 | ok fl =>
  cases fl with
  | ret u=>exact I1.after hq
  | next=>exact False.elim hq
  | brk=>exact False.elim hq
  | cont=>exact False.elim hq
theorem CalX.cal {P:Program}{w:World}{K:PySem.W.Frag}{mg:Str->Option Value}{base:Heap}{k:Nat}{x:Str}{ps:List Str}{sp:Sp}(c:CalX P w K mg base k x ps sp):Cal P w K mg base k x ps (fun vs H Q _=>sp vs H Q E0):=by
 obtain ⟨f,fd,F,hb,hm,hk⟩:=c.ex
 refine ⟨f,fd,⟨fun vs H Q E h=>F.len vs H Q E0 h,fun A outer s H args us vs Q E hr he hb hv hs=>codeAny_mono (F.run A outer s H args us vs Q E0 hr he hb hv hs) fun r s' q=>?_⟩,hb,hm,hk⟩
 cases r with
 | error e =>
  obtain ⟨a,cls,H',_,_,_,_,_,_,j⟩:=q
  exact False.elim j
 | ok fl =>
  cases fl with
  | ret u=>exact q
  | next=>exact q
  | brk=>exact q
  | cont=>exact q
theorem qr {P:Program}{w:World}{K:PySem.W.Frag}{mg:Str->Option Value}{base:Heap}{N:List Str}{qual:Str}{scope:Scope}{f:Addr}{cd:Value}{A:Around}{outer:List Env}{s:Shared}{H:Hp}{E:XK} :
  Acc (vt (CX1 P w) P w K mg base N qual scope f cd A outer s H E) fun cls _ H'=>E cls none H':=by
 intro pins σ H' s1 a cls fl j
 refine zS.leave (X:=vt (CX1 P w) P w K mg base N qual scope f cd A outer s H E) fl rfl rfl fun h2 f2=>?_
 exact ⟨a,cls,H',rfl,f2.inv.os,f2.inv.bare,f2.inv.base,f2.inv.hok,f2.fly rfl,j⟩
def GP (X:Cx) (J:Value->St->Hp->Prop):Prop:=∀ (pins:List (Addr×Obj)) (σ:St) (H:Hp) (s:Shared) (h1:Heap) (a:Addr) (cls:Value) (vs:List Value),Inv X pins σ H s->Heap.MadeExcOf s.heap h1 a cls vs->J cls σ H->X.xe (.ref a) { s with heap:=h1 }
theorem ze {P:Program}{w:World}{K:PySem.W.Frag}{mg:Str->Option Value}{base:Heap}{N:List Str}{qual:Str}{scope:Scope}{f:Addr}{cd:Value}{A:Around}{outer:List Env}{s:Shared}{H:Hp}{E:XK} :
  GP (vt (CX1 P w) P w K mg base N qual scope f cd A outer s H E) fun cls _ H'=>E cls none H':=by
 intro pins σ H' s1 h1 a cls vs I hx j
 refine XO (X:=vt (CX1 P w) P w K mg base N qual scope f cd A outer s H E) I hx rfl rfl fun h2 f2=>?_
 exact ⟨a,cls,H',rfl,f2.inv.os,f2.inv.bare,f2.inv.base,f2.inv.hok,f2.fly rfl,j⟩
theorem WN {K:PySem.W.Frag}{h:Heap}{C:Addr}{bmB:List Value}{newId:String}(X:K.In h) (q:excIn K C bmB newId=true) :
  ∃ bm N nm q bs hdct sn sub ab col dd k0 k1 k2 k3 k5 mN,h.get? C=some (excClassObj nm q C N bs bm hdct sn sub ab col dd k0 k1 k2 k3 k5 newId)/\h.Ns N mN/\mN "__init__" = none/\OwnTail h bmB bm:=by
 unfold excIn at q
 split at q
 ·rename_i dd cd sl ho
  split at q
  ·rename_i C' bm k0 k1 k2 k3 n k5 em es
   simp only [Bool.and_eq_true,beq_iff_eq,Bool.not_eq_true'] at q
   obtain ⟨⟨⟨⟨⟨rfl,rfl⟩,e1⟩,e2⟩,e3⟩,e4⟩:=q
   obtain ⟨nm,bs,mro,ns,qn,hd,sn,sub,ab,col,del⟩:=cd
   dsimp only at em e1 e3 e4
   subst em e1
   have e5:sl = #[k0,k1,k2,k3,some (.builtin n),k5]:=by obtain ⟨l⟩:=sl;simp only at es;rw [es]
   subst e5
   exact ⟨bm,ns,nm,qn,bs,hd,sn,sub,ab,col,dd,k0,k1,k2,k3,k5,_,X _ _ ho,.of_isNs (isNs_of_in X e3),nsMap_none_of_in X e3 e4,tail_of_in X e2⟩
  ·cases q
 ·cases q
theorem xq {X:Cx}{x:Str}{np cpos pos:Pos}{e:Expr}{es:List Expr}{t:TA}{C:Addr}{B newId initId:String}{bmB:List Value}{J:Value->St->Hp->Prop}(FB:ExcBaseFacts B newId initId bmB) (O:excIn X.K C bmB newId=true) (hm:X.mg x=some (.ref C)) (hc:X.calm=true) (am:GP X J)
  (hg:Gl X x) (ha:PA X (e::es) t) (hdb:(x == ("__debug__" : Str))=false:=by decide) (he:starEach (e::es) X.env=(false,eval e X.env)::starEach es X.env:=by rfl) (hpl:(backTo cpos (starEach es X.env)).any (·.1)=false:=by rfl) :
  PS X (.Raise (some (.Call (.Name x np) (e::es) [] cpos)) none pos) (fun D σ H=>t σ H fun vs H1=>vs.length<=sizeLine/\J (.ref C) σ H1):=by
 intro pins s σ H D I h
 obtain ⟨bm,N,nm,q,bs,hdct,sn,sub,ab,col,dd,k0,k1,k2,k3,k5,mN,hC,hN,hni,T⟩:=WN I.ok.mod.kin O
 have h':=ha cpos pins s σ H _ I h
 rw [he] at h'
 refine wpAny_Raise_call_subT (C:=C) (nm:=nm) (q:=q) (N:=N) (bs:=bs) (bm:=bm) (hdct:=hdct) (sn:=sn) (sub:=sub) (ab:=ab) (col:=col) (dd:=dd) (k0:=k0) (k1:=k1) (k2:=k2) (k3:=k3) (k5:=k5)
  FB (mN:=mN) (T.hasType FB.hasBase) (I.ok.hd hc) (by rw [he];show (false || (backTo cpos (starEach es X.env)).any (·.1))=false;rw [hpl];rfl) hni (um I hg hm ⟨rfl,?_⟩ hdb)
 rw [he]
 refine Calls.evalArgs_plain (thn h' fun us s2 ⟨vs,H2,I2,r,hl,j⟩=>⟨rfl,by rw [<- r.length];exact hl,I2.bk _ _ hC,hN.keeps I2.bk,T.keeps I2.bk,fun h1 a hx=>am pins σ H2 s2 h1 a (.ref C) _ I2 hx j⟩)
theorem Fun.okX {P:Program}{w:World}{K:PySem.W.Frag}{mg:Str->Option Value}{base:Heap}{x qual:Str}{st:Stmt}{f:Addr}{fd:FuncData}{N ps:List Str}{k:Nat}{sp:Sp}(F:Fun K x qual st f fd) (S:FnScope N ps (j8 st)) (len:∀ vs H Q E,sp vs H Q E->vs.length=ps.length)
  (hbody:∀ (cdv:Value) (A:Around) (outer:List Env) (s:Shared) (H:Hp) (vs:List V) (Q:VK) (E:XK),Room k (A.deeper (envOfC qual (j8 st) s.heap.objs.size f cdv))->sp vs H Q E ->
   ∃ t,PSs (vt (CX1 P w) P w K mg base N qual (j8 st) f cdv A outer s H E) (jM st) t/\t { nx:=fun _ H'=>Q .non H',rt:=Q } (start N vs) H):FnOk P w K mg base (CX1 P w) (k+1) f fd ps sp:=by
 obtain ⟨oc,od,kV,doc,pm,an,cdv,ct,osl,rfl,lk,hcd⟩:=F.ex
 exact Vr lk hcd S len fun A outer s H vs Q E hr hsp=>hbody cdv A outer s H vs Q E hr hsp
theorem CalX.mk' {P:Program}{w:World}{K:PySem.W.Frag}{mg:Str->Option Value}{base:Heap}{k:Nat}{x:Str}{ps:List Str}{sp:Sp}{st:Stmt}{h:Heap}{f:Addr}{oc:Value}{od an:Option Addr}{osl:Array (Option Value)}{kV doc pm cdv ct:Value}
  (X:K.In h) (G:h.Ns mainGlobals mg) (a:PySem.W.nsIn K mainGlobals x=some (some (.ref f)))
  (l:K.lookup f=some ⟨oc,od,.func (PySem.W.fnOf x x (jW st) (jM st) (j8 st) .none kV doc pm an cdv ct),osl⟩) (c:PySem.W.codeIn K cdv x=true) (k':PySem.W.keepIn K (.ref f)=true)
  (hb:∀ (kV doc pm:Value) (an:Option Addr) (cdv ct:Value) (us:List Value),us.length=ps.length->bindArgs (PySem.W.fnOf x x (jW st) (jM st) (j8 st) .none kV doc pm an cdv ct) ⟨us,[]⟩=pure (ps.zip us))
  (ok:∀ {f:Addr} {fd:FuncData},Fun K x x st f fd->FnOk P w K mg base (CX1 P w) k f fd ps sp):CalX P w K mg base k x ps sp:=by
 have F:=vp (st:=st) l c k'
 exact ⟨f,_,ok F,F.binds hb,PySem.W.mg_of X G a,k'⟩
end L2
end
section
namespace L2
open PySem PySem.Spec PySem.W PyProof.Rows
section
variable {X:Cx}{pins pn:List (Addr×Obj)}{σ:St}{H:Hp}{s:Shared}{J:Value->St->Hp->Prop}
theorem okP (ok:X.Ok) (Y:Cx) (h:Y={ X with pn:=Y.pn,xe:=Y.xe }):Y.Ok:=by
 rw [h]
 exact ⟨ok.mod,ok.kind,ok.glob,ok.blt,ok.above,ok.inj,ok.has,ok.cab,ok.hd,ok.frames,ok.stk,ok.exf,ok.bs,ok.bsz,ok.noex,ok.exfs,ok.funs,ok.frf⟩
theorem spOf {Y:Cx}{pins':List (Addr×Obj)}{D:Ends}{f:Flow}{s':Shared}(g:∀ {σ H},Inv Y pins' σ H s'->Inv X pins σ H s') (h:SP Y pins' D f s'):SP X pins D f s':=by
 cases f with
 | next=>obtain ⟨σ',H',I,q⟩:=h;exact ⟨σ',H',g I,q⟩
 | brk=>obtain ⟨σ',H',I,q⟩:=h;exact ⟨σ',H',g I,q⟩
 | cont=>obtain ⟨σ',H',I,q⟩:=h;exact ⟨σ',H',g I,q⟩
 | ret u=>obtain ⟨v,σ',H',I,r,q⟩:=h;exact ⟨v,σ',H',g I,r,q⟩
end
end L2
end
section
namespace L2
open PySem PySem.Spec PySem.W PyProof.Rows
section
variable {s:Shared}{A:Around}{prog:Program}{w:World}{E:Value->Shared->Prop}
end
section
variable {X:Cx}
end
end L2
end
section
namespace L2
open PySem PySem.Spec PySem.W PyProof.Rows
end L2
end
section
namespace L2
open PySem PySem.Spec PySem.W PyProof.Rows
section
variable {X:Cx}{o e:Expr}{es:List Expr}{to:TE}{t:TA}{name:Str}{apos cpos:Pos}{id:String}{r:V->List V->Hp->VK->Prop}
end
end L2
end
section
namespace L2
open PySem PySem.Spec PySem.W PyProof.Rows
abbrev wk (ifs:List Expr) (env:Env):Sem Bool:=forIn ifs true fun c r=>if r=true then do let ok <- isTrue c env (eval c env);pure (ForInStep.yield ok) else pure (ForInStep.yield r)
abbrev xn (elt tg iter tg2 iter2:Expr) (ifs ifs2:List Expr) (scope:Scope) (pos:Pos):Expr:=.ListComp elt [⟨tg,iter,ifs,0⟩,⟨tg2,iter2,ifs2,0⟩] scope pos
theorem ZN (elt tg iter tg2 iter2:Expr) (ifs ifs2:List Expr) (scope:Scope) (pos:Pos) (it acc:Value) (env:Env) :
  compTurn (xn elt tg iter tg2 iter2 ifs ifs2 scope pos) 0 it acc env=(standAt iter.pos >>= fun _=>pyNext it >>= fun r=>match r with
   | none=>pure (.done .next)
   | some v=>letOwnedTupleGo tg it v >>= fun _=>assign tg env v >>= fun _=>wk ifs env >>= fun ok =>
    (if ok=true then (eval iter2 env >>= fun x=>standAt iter2.pos >>= fun _=>foldedSetIterable iter2 env x >>= fun x=>holding [x] (pyIter x) >>= fun i2=>runOwn (.compStart (xn elt tg iter tg2 iter2 ifs ifs2 scope pos) 1 i2 acc env) env >>= fun _=>again (.compLoop (xn elt tg iter tg2 iter2 ifs ifs2 scope pos) 0 it acc env))
     else again (.compLoop (xn elt tg iter tg2 iter2 ifs ifs2 scope pos) 0 it acc env))):=by
 rfl
theorem V5 (elt tg iter tg2 iter2:Expr) (ifs ifs2:List Expr) (scope:Scope) (pos:Pos) (it acc:Value) (env:Env) :
  compTurn (xn elt tg iter tg2 iter2 ifs ifs2 scope pos) 1 it acc env=(standAt iter2.pos >>= fun _=>pyNext it >>= fun r=>match r with
   | none=>pure (.done .next)
   | some v=>letOwnedTupleGo tg2 it v >>= fun _=>assign tg2 env v >>= fun _=>wk ifs2 env >>= fun ok =>
    (if ok=true then ((eval elt env >>= fun x=>call (.builtin "list.append") [acc,x] >>= fun _=>pure ()) >>= fun _=>again (.compLoop (xn elt tg iter tg2 iter2 ifs ifs2 scope pos) 1 it acc env))
     else again (.compLoop (xn elt tg iter tg2 iter2 ifs ifs2 scope pos) 1 it acc env))):=by
 rfl
section
variable {s:Shared}{A:Around}{prog:Program}{w:World}{R:Result->Shared->Prop}{elt tg iter tg2 iter2:Expr}{ifs ifs2:List Expr}{scope:Scope}{pos:Pos}{it acc:Value}{env:Env}
theorem YG (I:Nat->Shared->Prop)
  (turn:∀ n s,I n s->wpAny (model prog w) A (pyNext it) (fun r s₁=>match r with
   | none=>R (.ok .next) s₁
   | some v=>wpAny (model prog w) A (letOwnedTupleGo tg2 it v) (fun _ s₂=>wpAny (model prog w) A (assign tg2 env v) (fun _ s₃=>wpAny (model prog w) A (wk ifs2 env) (fun ok s₄ =>
      if ok=true then wpAny (model prog w) A (eval elt env) (fun x s₅=>wpAny (model prog w) A (call (.builtin "list.append") [acc,x]) (fun _ s₆=>∃ m,m<n/\I m s₆) (fun _ _=>False) s₅) (fun _ _=>False) s₄
      else ∃ m,m<n/\I m s₄) (fun _ _=>False) s₃) (fun _ _=>False) s₂) (fun _ _=>False) s₁) (fun _ _=>False) s)
  (n:Nat) (h:I n s):codeAny (model prog w) A (.compLoop (xn elt tg iter tg2 iter2 ifs ifs2 scope pos) 1 it acc env) R s:=by
 refine codeAny_loop rfl I (fun n s hI=>?_) n h
 show wpAny _ A ((compTurn (xn elt tg iter tg2 iter2 ifs ifs2 scope pos) 1 it acc env).onRaise (fun x=>do noteFrame x env;theTreesLotGoes x)) _ _ s
 refine wpAny_noted ?_;rw [V5]
 refine wpAny_bind (wpAny_standAt (wpAny_bind (wpAny_mono (turn n s hI) (fun r s₁ h₁=>?_) fun _ _ h'=>h'.elim)))
 cases r with
 | none=>exact wpAny_pure h₁
 | some v =>
  refine wpAny_bind (wpAny_mono h₁ (fun _ s₂ h₂=>?_) fun _ _ h'=>h'.elim)
  refine wpAny_bind (wpAny_mono h₂ (fun _ s₃ h₃=>wpAny_bind (wpAny_mono h₃ (fun ok s₄ h₄=>?_) fun _ _ h'=>h'.elim)) fun _ _ h'=>h'.elim)
  cases ok with
  | false=>exact wpAny_pure ⟨rfl,h₄⟩
  | true=>exact wpAny_bind (wpAny_bind (wpAny_mono h₄ (fun x s₅ h₅=>wpAny_bind (wpAny_mono h₅ (fun _ s₆ h₆=>wpAny_pure (wpAny_pure ⟨rfl,h₆⟩)) fun _ _ h'=>h'.elim)) fun _ _ h'=>h'.elim))
theorem ZU {R:Result->Shared->Prop}(h0:codeAny (model prog w) A (.compLoop (xn elt tg iter tg2 iter2 ifs ifs2 scope pos) 1 it acc env) R s)
  (h:wpAny (model prog w) A (pyIter it) (fun i2 s'=>codeAny (model prog w) A (.compLoop (xn elt tg iter tg2 iter2 ifs ifs2 scope pos) 1 i2 acc env) R s') (fun _ _=>False) s) :
  codeAny (model prog w) A (.compStart (xn elt tg iter tg2 iter2 ifs ifs2 scope pos) 1 it acc env) R s:=by
 refine codeAny_of_tree ?_
 show wpAny _ _ ((compStart (xn elt tg iter tg2 iter2 ifs ifs2 scope pos) 1 it acc env).onRaise (fun x=>do noteFrame x env;standAt theWindowsPlace)) _ _ s
 refine wpAny_notedAt ?_;unfold compStart;show wpAny _ _ (ask >>= _) _ _ s
 refine wpAny_bind (wpAny_askSetting (wpAny_ite ?_))
 split
 ·first | exact wpAny_bind (wpAny_pure (wpAny_pure (And.intro rfl h0))) | exact wpAny_pure (And.intro rfl h0)
 ·first
   | exact wpAny_bind (wpAny_rule (wpAny_bind (wpAny_standAt (wpAny_bind (wpAny_mono h (fun i2 s' h'=>wpAny_pure (And.intro rfl h')) fun _ _ x=>x.elim)))))
   | (refine wpAny_bind (wpAny_rule ?_);show wpAny _ _ (standAt iter2.pos >>= _) _ _ s;exact wpAny_bind (wpAny_standAt (wpAny_bind (wpAny_mono h (fun i2 s' h'=>wpAny_pure (And.intro rfl h')) fun _ _ x=>x.elim))))
theorem Y7 (I:Nat->Shared->Prop) (hs2:∀ x,foldedSetIterable iter2 env x=pure x)
  (turn:∀ n s,I n s->wpAny (model prog w) A (pyNext it) (fun r s₁=>match r with
   | none=>R (.ok .next) s₁
   | some v=>wpAny (model prog w) A (letOwnedTupleGo tg it v) (fun _ s₂=>wpAny (model prog w) A (assign tg env v) (fun _ s₃=>wpAny (model prog w) A (wk ifs env) (fun ok s₄ =>
      if ok=true then wpAny (model prog w) A (eval iter2 env) (fun x s₅=>wpAny (model prog w) A (pyIter x) (fun i2 s₆=>codeAny (model prog w) A (.compStart (xn elt tg iter tg2 iter2 ifs ifs2 scope pos) 1 i2 acc env) (fun r s'=>match r with | .ok _=>∃ m,m<n/\I m s' | .error _=>False) s₆) (fun _ _=>False) s₅) (fun _ _=>False) s₄
      else ∃ m,m<n/\I m s₄) (fun _ _=>False) s₃) (fun _ _=>False) s₂) (fun _ _=>False) s₁) (fun _ _=>False) s)
  (n:Nat) (h:I n s):codeAny (model prog w) A (.compLoop (xn elt tg iter tg2 iter2 ifs ifs2 scope pos) 0 it acc env) R s:=by
 refine codeAny_loop rfl I (fun n s hI=>?_) n h
 show wpAny _ A ((compTurn (xn elt tg iter tg2 iter2 ifs ifs2 scope pos) 0 it acc env).onRaise (fun x=>do noteFrame x env;theTreesLotGoes x)) _ _ s
 refine wpAny_noted ?_;rw [ZN]
 refine wpAny_bind (wpAny_standAt (wpAny_bind (wpAny_mono (turn n s hI) (fun r s₁ h₁=>?_) fun _ _ h'=>h'.elim)))
 cases r with
 | none=>exact wpAny_pure h₁
 | some v =>
  refine wpAny_bind (wpAny_mono h₁ (fun _ s₂ h₂=>?_) fun _ _ h'=>h'.elim)
  refine wpAny_bind (wpAny_mono h₂ (fun _ s₃ h₃=>wpAny_bind (wpAny_mono h₃ (fun ok s₄ h₄=>?_) fun _ _ h'=>h'.elim)) fun _ _ h'=>h'.elim)
  cases ok with
  | false=>exact wpAny_pure ⟨rfl,h₄⟩
  | true =>
   refine wpAny_bind (wpAny_mono h₄ (fun x s₅ h₅=>wpAny_bind (wpAny_standAt (wpAny_bind (wpAny_of_eq (hs2 x) (wpAny_bind (wpAny_holding (wpAny_mono h₅ (fun i2 s₆ h₆=>wpAny_bind (wpAny_runOwn ?_)) fun _ _ h'=>h'.elim))))))) fun _ _ h'=>h'.elim)
   rw [Around.mark_none]
   refine codeAny_mono h₆ fun r s' q=>?_
   cases r with
   | ok f=>exact wpAny_pure ⟨rfl,q⟩
   | error e=>exact q.elim
end
def kz (acc:Addr) (g2:TG) (ti2:TT) (te:TE) (J2:It) (NX:St->Hp->Prop) (σ3:St) (H5:Hp):Prop :=
 ∃ W2:Nat->Nat->St->Hp->Prop,(∃ m,W2 0 m σ3 H5)/\∀ j m σ6 H6,W2 j m σ6 H6->(J2.stop j H6/\NX σ6 H6)\/(J2.go j H6/\∃ NX2:St->Hp->Prop,(∀ σ7 H7,NX2 σ7 H7->∃ m',m'<m/\W2 (j+1) m' σ7 H7) /\
  ∀ y H7,J2.yld j H6 y H7->g2 y σ6 H7 fun σ8 H8=>ti2 σ8 H8 fun ok2 H9=>if ok2=true then te σ8 H9 fun v H10=>∃ ys,H10 acc=some (.lst ys)/\ys.length<sizeLine/\NX2 σ8 (upd H10 acc (.lst (ys++[v]))) else NX2 σ8 H9)
section
variable {X:Cx}{pos:Pos}
def Wl (own:Nat) (caps:List Nat) (wi:TI) (g:TG) (ti:TT) (wi2:TI) (g2:TG) (ti2:TT) (te:TE):TE:=fun σ H Q=>wi σ H fun J H1=>∀ acc,H1 acc=none ->
 ∃ W:Nat->Nat->St->Hp->Prop,(∃ m,W 0 m (yU own caps σ) (upd H1 acc (.lst [])))/\∀ i m σ' H',W i m σ' H' ->
  (J.stop i H'/\Q (.ref acc) H') \/
  (J.go i H'/\∃ NX:St->Hp->Prop,(∀ σ2 H2,NX σ2 H2->∃ m',m'<m/\W (i+1) m' σ2 H2) /\
   ∀ x H2,J.yld i H' x H2->g x σ' H2 fun σ3 H3=>ti σ3 H3 fun ok H4=>if ok=true then wi2 σ3 H4 fun J2 H5=>kz acc g2 ti2 te J2 NX σ3 H5 else NX σ3 H4)
theorem Yo {osc:Scope}{ON N:List Str}{scope:Scope}{own:Nat}{caps:List Nat}{cl:List (Str×Addr)}{tg elt iter tg2 iter2:Expr}{ifs ifs2:List Expr}{g g2:TG}{ti ti2:TT}{wi2:TI}{te:TE}{pins:List (Addr×Obj)}{σ:St}{H:Hp}{s:Shared}{fp:List Addr}{it:Addr}
  {tn:Nat->Heap->Prop} {J:It} {Q:VK} {RR:Value->Addr->Result->Shared->Prop} {E:Value->Shared->Prop}
  (hc:X.calm=true) (S:CompSc osc ON scope own N caps) (hsc:X.env.scope=osc) (hN:X.N=ON) (hcl:∀ x,cl.lookup x=if (x,NameKind.free)∈scope.names then X.env.cells.lookup x else none)
  (hg:∀ cl C s H ex,PG (X.block scope cl C N s H ex) tg g) (hif:∀ cl C s H ex,JG (X.block scope cl C N s H ex) ifs ti) (hi2:∀ cl C s H ex,PI (X.block scope cl C N s H ex) tg2 iter2 wi2) (hg2:∀ cl C s H ex,PG (X.block scope cl C N s H ex) tg2 g2) (hif2:∀ cl C s H ex,JG (X.block scope cl C N s H ex) ifs2 ti2) (he:∀ cl C s H ex,PE (X.block scope cl C N s H ex) elt te) (hs2:∀ env x,foldedSetIterable iter2 env x=pure x)
  (I:Inv X pins σ H s) (T:Turn X.prog X.w X.K tg J fp it tn) (st:tn 0 s.heap) (hf:∀ b∈fp,uG X pins H b)
  (hw:∀ acc,H acc=none->∃ W:Nat->Nat->St->Hp->Prop,(∃ m,W 0 m (yU own caps σ) (upd H acc (.lst [])))/\∀ i m σ' H',W i m σ' H' ->
   (J.stop i H'/\Q (.ref acc) H')\/(J.go i H'/\∃ NX:St->Hp->Prop,(∀ σ2 H2,NX σ2 H2->∃ m',m'<m/\W (i+1) m' σ2 H2) /\
    ∀ x H2,J.yld i H' x H2->g x σ' H2 fun σ3 H3=>ti σ3 H3 fun ok H4=>if ok=true then wi2 σ3 H4 fun J2 H5=>kz acc g2 ti2 te J2 NX σ3 H5 else NX σ3 H4))
  (fin:∀ (D C:Addr) (H':Hp) (s':Shared),Inv X pins σ H' s'->BlockAt X pins H' C->(∃ m,s'.heap.Ns C m)->Q (.ref D) H'->RR (.ref D) C (.ok .next) s') :
  wpAny (model X.prog X.w) X.A (newList []) (fun acc s₃=>wpAny (model X.prog X.w) X.A (newFunctionEnv scope X.env.globals cl [] X.env.qual none .none (some X.env)) (fun cenv s₄ =>
   codeAny (model X.prog X.w) X.A (.compStart (xn elt tg iter tg2 iter2 ifs ifs2 scope pos) 0 (.ref it) acc { cenv with scope:=relabel scope X.env }) (RR acc cenv.locals) s₄) E s₃) E s:=by
 have hfs:∀ b∈fp,b<s.heap.objs.size:=fun b hb=>by
  obtain ⟨o,e,_⟩:=T.obj _ _ st b hb
  exact Heap.lt_size e
 refine wpAny_newObj_type (wpAny_newFunctionEnv S.nocell (by intro y hy;simp at hy) (fun h₁ hns₁ hsb₁=>?_) S.kind)
 dsimp only at hns₁ hsb₁ ⊢
 generalize hH2:s.heap.push { cls:=.type "list",dict:=none,data:=.seq ([]:List Value).toArray }=H2 at hns₁ hsb₁ ⊢
 have hCsz:H2.objs.size=s.heap.objs.size+1:=by rw [<- hH2,Heap.size_push]
 have old:∀ b o,s.heap.get? b=some o->h₁.get? b=some o:=fun b o e=>hsb₁.extBut b o (Nat.ne_of_lt (by rw [hCsz];exact Nat.lt_succ_of_lt (Heap.lt_size e))) (Heap.get?_push_of_some _ (hH2 ▸ Heap.get?_push_of_some _ e))
 have eD:h₁.get? s.heap.objs.size=some { cls:=.type "list",data:=.seq #[] }:=hsb₁.extBut _ _ (Nat.ne_of_lt (by omega)) (Heap.get?_push_of_some _ (hH2 ▸ Heap.get?_push_size _ rfl))
 have hDn:H s.heap.objs.size=none:=I.hok.fresh (Nat.le_refl _)
 obtain ⟨W,⟨m0,w0⟩,turn⟩:=hw s.heap.objs.size hDn
 have hns:h₁.Ns H2.objs.size fun _=>none:=hns₁
 have I1:Inv (X.block scope cl H2.objs.size N s H fp) [] (yU own caps σ) (upd H s.heap.objs.size (.lst [])) { s with heap:=h₁,toks:=s.toks+([]:List (Str×Value)).length } :=
  uQ S hsc hN hcl I hf hfs rfl hCsz old eD hns _
 have st1:tn 0 h₁:=T.keep 0 _ _ st fun b _ o e=>old b o e
 have fpB:∀ {H':Hp},(∀ b∈fp,H' b=none)->∀ b∈fp,uG (X.block scope cl H2.objs.size N s H fp) [] H' b:=fun {H'} hn b hb=>by
  have ok:=I1.ok
  exact ⟨hn b hb,(ok.exf b hb).1,ok.exfs b hb,.inl hb,(ok.exf b hb).2,fun p hp=>absurd (show p∈([]:List (Addr×Obj)) from hp) (by simp)⟩
 have back:∀ {σ':St} {H':Hp} {s':Shared},Inv (X.block scope cl H2.objs.size N s H fp) [] σ' H' s'->Q (.ref s.heap.objs.size) H'->RR (.ref s.heap.objs.size) H2.objs.size (.ok .next) s':=fun {σ' H' s'} J1 q=>by
  have J2:Inv X pins σ H' s':=I.call' (ch:=fp) J1.os J1.base J1.hok J1.bare fun b hb=>⟨(hf b hb).2.2.2.1,(hf b hb).2.1,(hf b hb).2.2.2.2.1,(hf b hb).2.2.2.2.2⟩
  obtain ⟨m,hm,_⟩:=J1.loc
  refine fin _ _ H' s' J2 ⟨J1.free,Nat.ne_of_gt (Nat.lt_of_lt_of_le I.lt (by omega)),Nat.le_trans I.sz (by omega),fun x c e z=>?_,fun p hp z=>?_⟩ ⟨m,hm⟩ q
  ·obtain ⟨v,y⟩:=I.cell x c e
   have h1:H2.objs.size<s.heap.objs.size:=z ▸ y.lt
   exact absurd h1 (by omega)
  ·have h1:H2.objs.size<s.heap.objs.size:=z ▸ Heap.lt_size (I.pin p hp).1
   exact absurd h1 (by omega)
 have loop:∀ s₃:Shared,s₃={ s with heap:=h₁,toks:=s.toks+([]:List (Str×Value)).length } ->
   codeAny (model X.prog X.w) X.A (.compLoop (xn elt tg iter tg2 iter2 ifs ifs2 scope pos) 0 (.ref it) (.ref s.heap.objs.size) (compEnvC scope cl H2.objs.size X.env)) (RR (.ref s.heap.objs.size) H2.objs.size) s₃:=by
  rintro s₃ rfl
  refine Y7 (fun n s'=>∃ i σ' H',Inv (X.block scope cl H2.objs.size N s H fp) [] σ' H' s'/\tn i s'.heap/\(∀ b∈fp,H' b=none)/\W i n σ' H') (hs2 _) ?_ m0
   ⟨0,_,_,I1,st1,fun b hb=>by rw [j5 (Nat.ne_of_lt (hfs b hb))];exact (hf b hb).1,w0⟩
  rintro n s3 ⟨i,σ3,H3,I3,st3,fr3,w3⟩
  rcases turn i n σ3 H3 w3 with ⟨stop,qn⟩ | ⟨go,NX,hNX,step⟩
  ·refine thn (T.done (X.block scope cl H2.objs.size N s H fp) rfl rfl rfl hc i [] s3 σ3 H3 _ I3 (fpB fr3) st3 stop) fun r s4 ⟨hr,I4⟩=>?_
   subst hr
   exact back I4 qn
  ·refine thn (T.item (X.block scope cl H2.objs.size N s H fp) rfl rfl rfl hc i [] s3 σ3 H3 _ I3 (fpB fr3) st3 go) fun r s4 ⟨u,hr,h4⟩=>?_
   subst hr
   refine thn h4 fun _ s5 ⟨x,H5,I5,r5,y5,st5,fr5⟩=>?_
   have I5':=I5.pinned (fpB fr5) (T.obj _ _ st5)
   refine thn (hg cl H2.objs.size s H fp _ s5 σ3 H5 x u _ I5' r5 (step x H5 y5)) fun _ s6 ⟨σ6,H6,I6,q6⟩=>?_
   refine thn (hif cl H2.objs.size s H fp _ s6 σ6 H6 _ I6 q6) fun ok s7 ⟨H7,I7,q7⟩=>?_
   have again:∀ {s8:Shared} {σ8:St} {H8:Hp},Inv (X.block scope cl H2.objs.size N s H fp) ([]++zo fp s5.heap) σ8 H8 s8->NX σ8 H8->∃ m,m<n/\∃ i σ' H',Inv (X.block scope cl H2.objs.size N s H fp) [] σ' H' s8/\tn i s8.heap/\(∀ b∈fp,H' b=none)/\W i m σ' H':=fun {s8 σ8 H8} I8 n8=>by
    obtain ⟨m',hm,w8⟩:=hNX σ8 H8 n8
    refine ⟨m',hm,i+1,σ8,H8,I8.unpinned,T.keep _ _ _ st5 fun b hb o e=>(I8.pin (b,o) (List.mem_append_right _ (List.mem_append_right _ (qI hb e)))).1,fun b hb=>?_,w8⟩
    obtain ⟨o,e,d⟩:=T.obj _ _ st5 b hb
    exact (I8.pin (b,o) (List.mem_append_right _ (List.mem_append_right _ (qI hb e)))).2.1
   cases ok with
   | false =>
    rw [if_neg Bool.false_ne_true] at q7 ⊢
    exact again I7 q7
   | true =>
    rw [if_pos rfl] at q7 ⊢
    refine thn (hi2 cl H2.objs.size s H fp _ s7 σ6 H7 _ I7 q7) fun v s8 h8=>thn h8 fun itv s9 h9=>?_
    obtain ⟨it2,fp2,tn2,J2,H9,e,I9,T2,st9,f9,W2,⟨m2,w2⟩,turn2⟩:=h9
    subst e
    have stat2:∀ {H':Hp},(∀ b∈fp2,H' b=none)->∀ b∈fp2,uG (X.block scope cl H2.objs.size N s H fp) ([]++zo fp s5.heap) H' b:=fun hn b hb=>⟨hn b hb,(f9 b hb).2⟩
    have inner:codeAny (model X.prog X.w) X.A (.compLoop (xn elt tg iter tg2 iter2 ifs ifs2 scope pos) 1 (.ref it2) (.ref s.heap.objs.size) (compEnvC scope cl H2.objs.size X.env)) (fun r s'=>match r with | .ok _=>∃ m,m<n/\∃ i σ' H',Inv (X.block scope cl H2.objs.size N s H fp) [] σ' H' s'/\tn i s'.heap/\(∀ b∈fp,H' b=none)/\W i m σ' H' | .error _=>False) s9:=by
     refine YG (fun n2 s'=>∃ j σ' H',Inv (X.block scope cl H2.objs.size N s H fp) ([]++zo fp s5.heap) σ' H' s'/\tn2 j s'.heap/\(∀ b∈fp2,H' b=none)/\W2 j n2 σ' H') ?_ m2 ⟨0,_,_,I9,st9,fun b hb=>(f9 b hb).1,w2⟩
     rintro n2 s10 ⟨j,σ10,H10,I10,st10,fr10,w10⟩
     rcases turn2 j n2 σ10 H10 w10 with ⟨stop2,nx2⟩ | ⟨go2,NX2,hNX2,step2⟩
     ·refine thn (T2.done (X.block scope cl H2.objs.size N s H fp) rfl rfl rfl hc j _ s10 σ10 H10 _ I10 (stat2 fr10) st10 stop2) fun r s11 ⟨hr,I11⟩=>?_
      subst hr
      exact again I11 nx2
     ·refine thn (T2.item (X.block scope cl H2.objs.size N s H fp) rfl rfl rfl hc j _ s10 σ10 H10 _ I10 (stat2 fr10) st10 go2) fun r s11 ⟨u2,hr,h11⟩=>?_
      subst hr
      refine thn h11 fun _ s12 ⟨x2,H12,I12,r12,y12,st12,fr12⟩=>?_
      have I12':=I12.pinned (stat2 fr12) (T2.obj _ _ st12)
      refine thn (hg2 cl H2.objs.size s H fp _ s12 σ10 H12 x2 u2 _ I12' r12 (step2 x2 H12 y12)) fun _ s13 ⟨σ13,H13,I13,q13⟩=>?_
      refine thn (hif2 cl H2.objs.size s H fp _ s13 σ13 H13 _ I13 q13) fun ok2 s14 ⟨H14,I14,q14⟩=>?_
      have again2:∀ {s15:Shared} {σ15:St} {H15:Hp},Inv (X.block scope cl H2.objs.size N s H fp) (([]++zo fp s5.heap)++zo fp2 s12.heap) σ15 H15 s15->NX2 σ15 H15->∃ m,m<n2/\∃ j σ' H',Inv (X.block scope cl H2.objs.size N s H fp) ([]++zo fp s5.heap) σ' H' s15/\tn2 j s15.heap/\(∀ b∈fp2,H' b=none)/\W2 j m σ' H':=fun {s15 σ15 H15} I15 n15=>by
       obtain ⟨m',hm,w15⟩:=hNX2 σ15 H15 n15
       refine ⟨m',hm,j+1,σ15,H15,I15.unpinned,T2.keep _ _ _ st12 fun b hb o e=>(I15.pin (b,o) (List.mem_append_right _ (List.mem_append_right _ (qI hb e)))).1,fun b hb=>?_,w15⟩
       obtain ⟨o,e,d⟩:=T2.obj _ _ st12 b hb
       exact (I15.pin (b,o) (List.mem_append_right _ (List.mem_append_right _ (qI hb e)))).2.1
      cases ok2 with
      | false =>
       rw [if_neg Bool.false_ne_true] at q14 ⊢
       exact again2 I14 q14
      | true =>
       rw [if_pos rfl] at q14 ⊢
       refine thn (he cl H2.objs.size s H fp _ s14 σ13 H14 _ I14 q14) fun v15 s15 ⟨y15,H15,I15,r15,ys,e15,z15,q15⟩=>?_
       refine thn (qo _ s15 σ13 H15 (.ref s.heap.objs.size) [y15] _ [v15] (fun _ H16=>NX2 σ13 H16) I15 rfl (.cons r15 .nil) ⟨_,ys,y15,rfl,rfl,e15,z15,q15⟩) fun _ s16 ⟨_,H16,I16,_,q16⟩=>?_
       exact again2 I16 q16
    exact ZU inner (T2.self _ 0 _ _ _ st9 inner)
 exact codeAny_compStart_list (loop _ rfl) (T.self _ 0 _ _ _ st1 (loop _ rfl))
theorem YK {osc:Scope}{ON N:List Str}{scope:Scope}{own:Nat}{caps:List Nat}{tg elt iter tg2 iter2:Expr}{ifs ifs2:List Expr}{wi wi2:TI}{g g2:TG}{ti ti2:TT}{te:TE}(S:CompSc osc ON scope own N caps)
  (hc:X.calm=true) (hsc:X.env.scope=osc) (hN:X.N=ON) (hi:PI X tg iter wi)
  (hg:∀ cl C s H ex,PG (X.block scope cl C N s H ex) tg g) (hif:∀ cl C s H ex,JG (X.block scope cl C N s H ex) ifs ti) (hi2:∀ cl C s H ex,PI (X.block scope cl C N s H ex) tg2 iter2 wi2) (hg2:∀ cl C s H ex,PG (X.block scope cl C N s H ex) tg2 g2) (hif2:∀ cl C s H ex,JG (X.block scope cl C N s H ex) ifs2 ti2) (he:∀ cl C s H ex,PE (X.block scope cl C N s H ex) elt te)
  (hs:∀ x,foldedSetIterable iter X.env x=pure x:=by intro _;rfl) (hs2:∀ env x,foldedSetIterable iter2 env x=pure x:=by intro _ _;rfl):PE X (.ListComp elt [⟨tg,iter,ifs,0⟩,⟨tg2,iter2,ifs2,0⟩] scope pos) (Wl own caps wi g ti wi2 g2 ti2 te):=by
 intro pins s σ H Q I h
 obtain ⟨cl,hclos,hcl⟩:=vk (Z1 S hsc I)
 rw [eval_ListComp]
 refine wpAny_comprehension_free (use:=none) rfl hs hclos S.kind S.loc (thn (hi pins s σ H _ I h) fun v s1 h1=>thn h1 fun itv s2 h2=>?_)
 obtain ⟨it,fp,tn,J,H2,e,I2,T,st2,f2,hw⟩:=h2
 subst e
 refine Yo (RR:=fun acc C=>compPost (model X.prog X.w) X.A X.xe none (EP X pins σ Q) acc C) hc S hsc hN hcl hg hif hi2 hg2 hif2 he hs2 I2 T st2 f2 hw fun D C H' s' J1 B ⟨m,hm⟩ q=>?_
 exact ⟨m,hm,fun h' hs'=>⟨.ref D,H',B.gone J1 hs',rfl,q⟩⟩
end
end L2
end
section
namespace L2
open PySem PySem.Spec PySem.W PyProof.Rows
structure CalM (P:Program) (w:World) (K:PySem.W.Frag) (mg:Str->Option Value) (base:Heap) (k:Nat) (C:Addr) (m:Str) (ps:List Str) (sp:Sp):Prop where
 ex:∃ f fd,FnOk P w K mg base CX0 k f fd ps sp/\yf K fd ps []/\Meth K C m f
structure CalMX (P:Program) (w:World) (K:PySem.W.Frag) (mg:Str->Option Value) (base:Heap) (k:Nat) (C:Addr) (m:Str) (ps:List Str) (sp:Sp):Prop where
 ex:∃ f fd,FnOk P w K mg base (CX1 P w) k f fd ps sp/\yf K fd ps []/\Meth K C m f
section
variable {X:Cx}{k:Nat}{f C:Addr}{fd:FuncData}{ps:List Str}{sp:Sp}{x m:Str}{p pos apos:Pos}{e o:Expr}{es:List Expr}{ta:TE}{t:TA}{J:Value->St->Hp->Prop}
theorem E3 {pins:List (Addr×Obj)}{σ:St}{H:Hp}{s:Shared}{Q:VK}{us:List Value}{vs:List V}(F:FnOk X.prog X.w X.K X.mg X.base (CX1 X.prog X.w) k f fd ps sp) (hr:Room k X.A) (hb:yf X.K fd ps []) (ac:Acc X J)
  (I:Inv X pins σ H s) (r:jz vs us) (h:sp vs H Q fun cls _ H'=>J cls σ H'):wpAny (model X.prog X.w) X.A (call (.ref f) us) (EP X pins σ Q) X.xe s:=by
 have hl:us.length=ps.length:=by rw [<- r.length];exact F.len _ _ _ _ h
 have hb':=hb s us I.kIn (by rw [List.append_nil];exact hl)
 rw [List.append_nil] at hb'
 refine wpAny_call (codeAny_mono (F.run X.A X.stack s H ⟨us,[]⟩ us vs Q _ hr I.env0 hb' r h) fun r s' hq=>?_)
 cases r with
 | error e =>
  obtain ⟨a,cls,H',rfl,os,b,u,ok,fy,j⟩:=hq
  exact ac pins σ H' s' a cls ⟨s,H,I,os,b,u,ok,fy⟩ j
 | ok fl =>
  cases fl with
  | ret u=>exact I.after hq
  | next=>exact False.elim hq
  | brk=>exact False.elim hq
  | cont=>exact False.elim hq
theorem pe_m {pl:Sem Bool}(he:PE X o ta) (c:Cls X.K C) (cm:CalM X.prog X.w X.K X.mg X.base k C m ps sp) (hr:Room k X.A) (ha:PA X (e::es) t)
  (hst:starEach (e::es) X.env=(false,eval e X.env)::starEach es X.env:=by rfl) (hpl:(backTo pos (starEach es X.env)).any (·.1)=false:=by rfl)
  (ht:eval (.Call (.Attribute o m apos) (e::es) [] pos) X.env=(do let ov <- eval o X.env;standAt apos.atName;let (f,first) <- holding [ov] (getMethod ov m pl);callWith pos f first (backTo pos (starEach (e::es) X.env)) (backToKw pos (keywordEach [] X.env))):=by rfl) :
  PE X (.Call (.Attribute o m apos) (e::es) [] pos) (UY C m sp [] E0 ta t):=by
 obtain ⟨f,fd,F,hb,hm⟩:=cm.ex
 exact UK he c hm F hr hb .nil UV ha hst hpl ht
def WK (C:Addr) (m:Str) (sp:Sp) (J:Value->St->Hp->Prop) (ta:TE) (t:TA):TE:=fun σ H Q=>ta σ H fun x H1=>∃ a dx fs,x = .ref a/\H1 a=some (.ins C dx fs)/\fs.lookup m=none/\t σ H1 fun vs H2=>sp (x::vs) H2 Q fun cls _ H'=>J cls σ H'
theorem zy {pl:Sem Bool}(he:PE X o ta) (c:Cls X.K C) (cm:CalMX X.prog X.w X.K X.mg X.base k C m ps sp) (hr:Room k X.A) (ac:Acc X J) (ha:PA X (e::es) t)
  (hst:starEach (e::es) X.env=(false,eval e X.env)::starEach es X.env:=by rfl) (hpl:(backTo pos (starEach es X.env)).any (·.1)=false:=by rfl)
  (ht:eval (.Call (.Attribute o m apos) (e::es) [] pos) X.env=(do let ov <- eval o X.env;standAt apos.atName;let (f,first) <- holding [ov] (getMethod ov m pl);callWith pos f first (backTo pos (starEach (e::es) X.env)) (backToKw pos (keywordEach [] X.env))):=by rfl) :
  PE X (.Call (.Attribute o m apos) (e::es) [] pos) (WK C m sp J ta t):=by
 obtain ⟨f,fd,F,hb,hm⟩:=cm.ex
 intro pins s σ H Q I h
 refine PySem.W.methodCall_KW (pl:=pl) (thn (he pins s σ H _ I h) fun u s1 ⟨x,H1,I1,rx,a,dx,fs,ex,ea,l,q⟩=>?_) ht
 subst ex
 obtain rfl:u=Value.ref a:=rx
 refine vf I1 ea c hm l ?_
 refine PySem.W.callWith_K (first:=[.ref a]) (h₀:=X.base) I.ok.mod.kin hm.kp (thn (ha pos pins s1 σ H1 _ I1 q) fun us s2 ⟨vs,H2,I2,r,q2⟩=>⟨I2.kIn,?_⟩) hst hpl
 exact E3 (us:=.ref a::us) (vs:=.ref a::vs) F hr hb ac I2 (.cons rfl r) q2
structure MakX (P:Program) (w:World) (K:PySem.W.Frag) (mg:Str->Option Value) (base:Heap) (k:Nat) (C:Addr) (x:Str) (ps:List Str) (sp:Sp):Prop where
 ex:∃ f fd,FnOk P w K mg base (CX1 P w) k f fd ps sp/\yf K fd ps []/\Mk K C f/\mg x=some (.ref C)
def WJ (C:Addr) (sp:Sp) (J:Value->St->Hp->Prop) (t:TA):TE:=fun σ H Q=>t σ H fun vs H1=>∀ x dx,H1 x=none->H1 dx=none->dx≠x ->
 sp (.ref x::vs) (upd (upd H1 dx (.own x)) x (.ins C dx [])) (fun v H2=>v = .non/\Q (.ref x) H2) fun cls _ H'=>J cls σ H'
theorem U1 (c:MakX X.prog X.w X.K X.mg X.base k C x ps sp) (hr:Room (k+1) X.A) (ac:Acc X J) (hg:Gl X x) (ha:PA X (e::es) t) (hdb:(x == ("__debug__" : Str))=false:=by decide) (he:starEach (e::es) X.env=(false,eval e X.env)::starEach es X.env:=by rfl) (hpl:(backTo pos (starEach es X.env)).any (·.1)=false:=by rfl) :
  PE X (.Call (.Name x p) (e::es) [] pos) (WJ C sp J t):=by
 obtain ⟨f,fd,F,hb,M,hm⟩:=c.ex
 intro pins s0 σ H0 Q I0 h0
 refine wpAny_Call_Name_kw (um I0 hg hm ?_ hdb)
 refine PySem.W.callWith_K (h₀:=X.base) I0.ok.mod.kin M.kp (thn (ha pos pins s0 σ H0 _ I0 h0) fun us s ⟨vs,H,I,r,h⟩=>⟨I.kIn,?_⟩) he hpl
 have hq:=h (s.heap.objs.size+1) s.heap.objs.size (I.hok.fresh (Nat.le_succ _)) (I.hok.fresh (Nat.le_refl _)) (Nat.ne_of_lt (Nat.lt_succ_self _))
 have I2:=Inv.made (C:=C) I
 have r2:jz (V.ref (s.heap.objs.size+1)::vs) (Value.ref (s.heap.objs.size+1)::us):=.cons rfl r
 have hl:(Value.ref (s.heap.objs.size+1)::us).length=ps.length:=by rw [<- r2.length];exact F.len _ _ _ _ hq
 have hb':=hb { s with heap:=_ } (Value.ref (s.heap.objs.size+1)::us) I2.kIn (by rw [List.append_nil];exact hl)
 rw [List.append_nil] at hb'
 refine wpAny_call (YT (f:=f) I.kIn M.makes M.init (beq_iff_eq.mp M.fn) (codeAny_mono (F.run _ X.stack _ _ ⟨Value.ref (s.heap.objs.size+1)::us,[]⟩ (Value.ref (s.heap.objs.size+1)::us) _ _ _ (hr.make C us []) (I2.env0.make C us []) hb' r2 hq) fun r s' hq'=>?_))
 cases r with
 | error e =>
  obtain ⟨a,cls,H',rfl,os,b,u,ok,fy,j⟩:=hq'
  exact ac pins σ H' s' a cls ⟨_,_,I2,os,b,u,ok,fy⟩ j
 | ok fl =>
  cases fl with
  | ret u =>
   obtain ⟨v,H',I3,rv,ev,q3⟩:=I2.after hq'
   subst ev
   exact ⟨rv,⟨V.ref (s.heap.objs.size+1),H',I3,rfl,q3⟩⟩
  | next=>exact False.elim hq'
  | brk=>exact False.elim hq'
  | cont=>exact False.elim hq'
theorem x5 {f:Str}(K:PySem.W.Frag) (he:PE X e ta) (hb:attributeBase e f X.env (eval e X.env)=eval e X.env:=by rfl) (hK:X.K=K:=by rfl):PE X (.Attribute e f pos) (GC K ta f):=by subst hK;exact Gm he hb
theorem vT {f:Str}{value:Expr}{pos':Pos}{tv:TE}(K:PySem.W.Frag) (ha:PE X o ta) (hv:PE X value tv) (hs:swapsWith value (some (.Attribute o f pos')) pos.line X.env=pure false:=by rfl) (hK:X.K=K:=by rfl):PS X (.Assign [.Attribute o f pos'] value pos) (Gs K ta tv f):=by subst hK;exact WL ha hv hs
end
theorem Wx {K:PySem.W.Frag}{a acc:Addr}{xs:List V}{g2:TG}{ti2:TT}{te:TE}{NX:St->Hp->Prop}{σ:St}{H:Hp}(Pv:Nat->St->Hp->Prop) (h0:Pv 0 σ H) (hl:∀ i σ H,i<=xs.length->Pv i σ H->SqT K H a xs)
  (hs:∀ i x σ H,xs[i]? = some x->Pv i σ H->g2 x σ H fun σ3 H3=>ti2 σ3 H3 fun ok H4=>if ok=true then te σ3 H4 fun v H5=>∃ ys,H5 acc=some (.lst ys)/\ys.length<sizeLine/\Pv (i+1) σ3 (upd H5 acc (.lst (ys++[v]))) else Pv (i+1) σ3 H4)
  (hd:∀ σ H,Pv xs.length σ H->NX σ H):kz acc g2 ti2 te (Itt K a) NX σ H:=by
 refine ⟨fun i m σ H=>m=xs.length-i/\i<=xs.length/\Pv i σ H,⟨xs.length,by simp,Nat.zero_le _,h0⟩,fun i m σ H z=>?_⟩
 obtain ⟨rfl,hi,p⟩:=z
 have q:=hl i σ H hi p
 by_cases hlt:i<xs.length
 ·refine .inr ⟨⟨xs,xs[i],q,by simp [hlt]⟩,Pv (i+1),fun σ' H' p'=>⟨xs.length-(i+1),by omega,rfl,hlt,p'⟩,fun x H' y=>?_⟩
  obtain ⟨e,y⟩:=y
  subst e
  exact hs i x σ _ (y xs q) p
 ·obtain rfl:i=xs.length:=by omega
  exact .inl ⟨⟨xs,q,Nat.le_refl _⟩,hd σ H p⟩
theorem Yl {K:PySem.W.Frag}{a acc:Addr}{xs:List V}{g g2:TG}{ti ti2:TT}{wi2:TI}{te:TE}{R:Hp->Prop}{σ:St}{H:Hp}(Pv:Nat->St->Hp->Prop) (h0:Pv 0 σ H) (hl:∀ i σ H,i<=xs.length->Pv i σ H->SqT K H a xs)
  (hs:∀ i x σ H,xs[i]? = some x->Pv i σ H->g x σ H fun σ3 H3=>ti σ3 H3 fun ok H4=>if ok=true then wi2 σ3 H4 fun J2 H5=>kz acc g2 ti2 te J2 (Pv (i+1)) σ3 H5 else Pv (i+1) σ3 H4)
  (hd:∀ σ H,Pv xs.length σ H->R H) :
  ∃ W:Nat->Nat->St->Hp->Prop,(∃ m,W 0 m σ H)/\∀ i m σ' H',W i m σ' H' ->
   ((Itt K a).stop i H'/\R H')\/((Itt K a).go i H'/\∃ NX:St->Hp->Prop,(∀ σ2 H2,NX σ2 H2->∃ m',m'<m/\W (i+1) m' σ2 H2) /\
    ∀ x H2,(Itt K a).yld i H' x H2->g x σ' H2 fun σ3 H3=>ti σ3 H3 fun ok H4=>if ok=true then wi2 σ3 H4 fun J2 H5=>kz acc g2 ti2 te J2 NX σ3 H5 else NX σ3 H4):=by
 refine ⟨fun i m σ H=>m=xs.length-i/\i<=xs.length/\Pv i σ H,⟨xs.length,by simp,Nat.zero_le _,h0⟩,fun i m σ H z=>?_⟩
 obtain ⟨rfl,hi,p⟩:=z
 have q:=hl i σ H hi p
 by_cases hlt:i<xs.length
 ·refine .inr ⟨⟨xs,xs[i],q,by simp [hlt]⟩,Pv (i+1),fun σ' H' p'=>⟨xs.length-(i+1),by omega,rfl,hlt,p'⟩,fun x H' y=>?_⟩
  obtain ⟨e,y⟩:=y
  subst e
  exact hs i x σ _ (y xs q) p
 ·obtain rfl:i=xs.length:=by omega
  exact .inl ⟨⟨xs,q,Nat.le_refl _⟩,hd σ H p⟩
theorem Js {X:Cx}:Acc X fun _ _ _=>False:=fun _ _ _ _ _ _ _ z=>z.elim
end L2
end
section
namespace L2
open PySem PySem.Spec PySem.W PyProof.Rows
inductive gN (K:PySem.W.Frag) (n:Str) (s:Stmt):Prop
 | mk {f:Addr} {oc kV dc pm cd ct:Value} {od an:Option Addr} {sl:Array (Option Value)} (a:nsIn K mainGlobals n=some (some (.ref f))) (l:K.lookup f=some ⟨oc,od,.func (fnOf n n (jW s) (jM s) (j8 s) .none kV dc pm an cd ct),sl⟩) (c:codeIn K cd n=true) (k:keepIn K (.ref f)=true)
inductive gM (K:PySem.W.Frag) (C:Addr) (m q:Str) (s:Stmt):Prop
 | mk {f:Addr} {oc kV dc pm cd ct:Value} {od an:Option Addr} {sl:Array (Option Value)} (a:findIn K (.ref C) m=some (some (.ref f))) (i:isFn K (.ref f)=true) (l:K.lookup f=some ⟨oc,od,.func (fnOf m q (jW s) (jM s) (j8 s) .none kV dc pm an cd ct),sl⟩) (c:codeIn K cd q=true) (k:keepIn K (.ref f)=true)
structure gE (K:PySem.W.Frag) (n:Str) (C:Addr):Prop where
 e:nsIn K mainGlobals n=some (some (.ref C))
 x:excIn K C [.type "ValueError",.type "Exception",.type "BaseException",.type "object"] "ValueError.__new__" = true
 m:exmOne K (.ref C) (.ref C)=some true
abbrev gB (x q:Str) (st:Stmt) (ps:List Str):Prop:=∀ (kV doc pm:Value) (an:Option Addr) (cdv ct:Value) (us:List Value),us.length=ps.length->bindArgs (fnOf x q (jW st) (jM st) (j8 st) .none kV doc pm an cdv ct) ⟨us,[]⟩=pure (ps.zip us)
inductive Zt (P:Program) (w:World) (K:PySem.W.Frag) (mg:Str->Option Value) (base:Heap):Prop
 | mk {h:Heap} (X:K.In h) (G:h.Ns mainGlobals mg)
section
variable {P:Program}{w:World}{K:PySem.W.Frag}{mg:Str->Option Value}{base:Heap}{k:Nat}{x q:Str}{ps:List Str}{sp:Sp}{st:Stmt}{C:Addr}
theorem gN.cal (a:gN K x st) (z:Zt P w K mg base) (hb:gB x x st ps)
  (ok:∀ {f:Addr} {fd:FuncData},Fun K x x st f fd->FnOk P w K mg base CX0 k f fd ps sp):Cal P w K mg base k x ps sp:=by
 obtain ⟨a,l,c,k'⟩:=a
 obtain ⟨X,G⟩:=z
 exact Cal.mk' X G a l c k' hb ok
theorem gN.calX (a:gN K x st) (z:Zt P w K mg base) (hb:gB x x st ps)
  (ok:∀ {f:Addr} {fd:FuncData},Fun K x x st f fd->FnOk P w K mg base (CX1 P w) k f fd ps sp):CalX P w K mg base k x ps sp:=by
 obtain ⟨a,l,c,k'⟩:=a
 obtain ⟨X,G⟩:=z
 exact CalX.mk' X G a l c k' hb ok
theorem gM.cal (a:gM K C x q st) (z:Zt P w K mg base) (hb:gB x q st ps)
  (ok:∀ {f:Addr} {fd:FuncData},Fun K x q st f fd->FnOk P w K mg base CX0 k f fd ps sp):CalM P w K mg base k C x ps sp:=by
 obtain ⟨a,i,l,c,k'⟩:=a
 have F:=vp (st:=st) l c k'
 exact ⟨_,_,ok F,F.binds hb,⟨a,i,k'⟩⟩
theorem gM.calX (a:gM K C x q st) (z:Zt P w K mg base) (hb:gB x q st ps)
  (ok:∀ {f:Addr} {fd:FuncData},Fun K x q st f fd->FnOk P w K mg base (CX1 P w) k f fd ps sp):CalMX P w K mg base k C x ps sp:=by
 obtain ⟨a,i,l,c,k'⟩:=a
 have F:=vp (st:=st) l c k'
 exact ⟨_,_,ok F,F.binds hb,⟨a,i,k'⟩⟩
theorem gM.mak {y:Str}(a:gM K C "__init__" q st) (z:Zt P w K mg base) (m:makesIn K C=true) (kc:keepIn K (.ref C)=true) (n:nsIn K mainGlobals y=some (some (.ref C))) (hb:gB "__init__" q st ps)
  (ok:∀ {f:Addr} {fd:FuncData},Fun K "__init__" q st f fd->FnOk P w K mg base (CX1 P w) k f fd ps sp):MakX P w K mg base k C y ps sp:=by
 obtain ⟨a,i,l,c,k'⟩:=a
 obtain ⟨X,G⟩:=z
 have F:=vp (st:=st) l c k'
 exact ⟨_,_,ok F,F.binds hb,⟨m,a,i,kc⟩,mg_of X G n⟩
end
theorem bnd1 {fd:FuncData}{ps:List Str}{us:List Value}(hl:us.length=1) (h:∀ a,bindArgs fd ⟨[a],[]⟩=pure (ps.zip [a])):bindArgs fd ⟨us,[]⟩=pure (ps.zip us):=match us,hl with | [a],_=>h a
theorem bnd2 {fd:FuncData}{ps:List Str}{us:List Value}(hl:us.length=2) (h:∀ a b,bindArgs fd ⟨[a,b],[]⟩=pure (ps.zip [a,b])):bindArgs fd ⟨us,[]⟩=pure (ps.zip us):=match us,hl with | [a,b],_=>h a b
theorem bnd3 {fd:FuncData}{ps:List Str}{us:List Value}(hl:us.length=3) (h:∀ a b c,bindArgs fd ⟨[a,b,c],[]⟩=pure (ps.zip [a,b,c])):bindArgs fd ⟨us,[]⟩=pure (ps.zip us):=match us,hl with | [a,b,c],_=>h a b c
theorem bnd4 {fd:FuncData}{ps:List Str}{us:List Value}(hl:us.length=4) (h:∀ a b c d,bindArgs fd ⟨[a,b,c,d],[]⟩=pure (ps.zip [a,b,c,d])):bindArgs fd ⟨us,[]⟩=pure (ps.zip us):=match us,hl with | [a,b,c,d],_=>h a b c d
theorem bnd5 {fd:FuncData}{ps:List Str}{us:List Value}(hl:us.length=5) (h:∀ a b c d e,bindArgs fd ⟨[a,b,c,d,e],[]⟩=pure (ps.zip [a,b,c,d,e])):bindArgs fd ⟨us,[]⟩=pure (ps.zip us):=match us,hl with | [a,b,c,d,e],_=>h a b c d e
theorem bnd6 {fd:FuncData}{ps:List Str}{us:List Value}(hl:us.length=6) (h:∀ a b c d e f,bindArgs fd ⟨[a,b,c,d,e,f],[]⟩=pure (ps.zip [a,b,c,d,e,f])):bindArgs fd ⟨us,[]⟩=pure (ps.zip us):=match us,hl with | [a,b,c,d,e,f],_=>h a b c d e f
end L2
end
section
namespace L2
open PySem PySem.Spec PySem.W PyProof.Rows
theorem Yp {X:Cx}{a:Expr}{ta:TE}(K:PySem.W.Frag) (ha:PE X a ta) (he:∀ whole,isTrue a X.env whole=(do let v <- whole;standAt a.pos;holding [v] (truthy v)):=by intro _;rfl) (hK:X.K=K:=by rfl) :
  PT X a (fun σ H Q=>ta σ H fun x H'=>∃ k,G8 K x H' k/\Q k H'):=by subst hK;exact Vv ha he
theorem iteP {c:Bool}{A B:Prop}(h:c=true) (k:A):if c=true then A else B:=by rw [if_pos h];exact k
theorem VX {t u:TT}(ht:∀ σ H Q Q',(∀ b H1,Q b H1->Q' b H1)->t σ H Q->t σ H Q') (hu:∀ σ H Q Q',(∀ b H1,Q b H1->Q' b H1)->u σ H Q->u σ H Q'):∀ σ H Q Q',(∀ b H1,Q b H1->Q' b H1)->G7 t u σ H Q->G7 t u σ H Q':=by
 intro σ H Q Q' h q
 refine ht σ H _ _ (fun c H1 z=>?_) q
 cases c with
 | true=>exact yn (hu σ H1 Q Q' h z)
 | false=>exact vM (h _ _ z)
abbrev K2:=Int×Int
def xU (t:T3):K2:=(t.1,t.2.1)
def jr (rs:List T3):List K2:=rs.flatMap fun r=>List.replicate r.2.2.toNat (xU r)
def xy (rs:List T3):Prop:=(∀ r∈rs,1<=r.2.2)/\rs.Pairwise fun a b=>a.1<b.1
def zO (acc:List T3) (h:T3):List T3:=match acc.getLast? with
 | some r=>if xU r=xU h then acc.dropLast++[(h.1,h.2.1,r.2.2+1)] else acc++[(h.1,h.2.1,1)]
 | none=>acc++[(h.1,h.2.1,1)]
def grp (hs:List T3):List T3:=hs.foldl zO []
theorem ke {acc:List T3}{y p m l:Int}:zO (acc++[(y,p,m)]) (y,p,l)=acc++[(y,p,m+1)]:=by
 unfold zO
 rw [List.getLast?_concat]
 simp [xU]
theorem gz {acc:List T3}{h:T3}(n:∀ r,acc.getLast? = some r->xU r≠xU h):zO acc h=acc++[(h.1,h.2.1,1)]:=by
 unfold zO
 cases e:acc.getLast? with
 | none=>rfl
 | some r =>
  show (if xU r=xU h then acc.dropLast++[(h.1,h.2.1,r.2.2+1)] else acc++[(h.1,h.2.1,1)])=_
  rw [if_neg (n r e)]
theorem gY {y p:Int}:∀ {hs:List T3}{acc:List T3}{m:Int},(∀ h∈hs,xU h=(y,p))->hs.foldl zO (acc++[(y,p,m)])=acc++[(y,p,m+hs.length)]
 | [],acc,m,_=>by simp
 | h::hs,acc,m,a=>by
  obtain ⟨a1,a2,a3⟩:=h
  have e:=a _ List.mem_cons_self
  have e1:a1=y/\a2=p:=by simpa [xU] using e
  obtain ⟨rfl,rfl⟩:=e1
  rw [List.foldl_cons,ke,gY fun h hh=>a h (List.mem_cons_of_mem _ hh)]
  simp
  omega
theorem YB {y p:Int}{hs:List T3}{acc:List T3}(a:∀ h∈hs,xU h=(y,p)) (h0:hs≠[]) (n:∀ r,acc.getLast? = some r->xU r≠(y,p)):hs.foldl zO acc=acc++[(y,p,(hs.length:Int))]:=by
 cases hs with
 | nil=>exact absurd rfl h0
 | cons h hs =>
  have e:=a _ List.mem_cons_self
  rw [List.foldl_cons,gz (fun r hr=>by rw [e];exact n r hr)]
  obtain ⟨a1,a2,a3⟩:=h
  have e1:a1=y/\a2=p:=by simpa [xU] using e
  obtain ⟨rfl,rfl⟩:=e1
  rw [gY fun h hh=>a h (List.mem_cons_of_mem _ hh)]
  simp
  omega
theorem zr (r:T3) (rs:List T3):jr (r::rs)=List.replicate r.2.2.toNat (xU r)++jr rs:=rfl
theorem qf (a b:List T3):jr (a++b)=jr a++jr b:=List.flatMap_append
theorem J5 {α β:Type}{f:α->β}:∀ {hs:List α}{a b:List β},hs.map f=a++b->∃ h1 h2,hs=h1++h2/\h1.map f=a/\h2.map f=b
 | hs,[],b,e=>⟨[],hs,rfl,rfl,e⟩
 | [],x::a,b,e=>by simp at e
 | h::hs,x::a,b,e=>by
  rw [List.map_cons,List.cons_append] at e
  injection e with e1 e2
  obtain ⟨h1,h2,rfl,q1,q2⟩:=J5 e2
  exact ⟨h::h1,h2,rfl,by rw [List.map_cons,e1,q1],q2⟩
theorem gL:∀ {rs:List T3}{hs:List T3}{acc:List T3},hs.map xU=jr rs->xy rs->(∀ r,acc.getLast? = some r->∀ x∈rs,r.1<x.1)->hs.foldl zO acc=acc++rs
 | [],hs,acc,e,_,_=>by
  have:hs=[]:=List.map_eq_nil_iff.mp e
  rw [this];simp
 | (y,p,m)::rs,hs,acc,e,g,n=>by
  rw [zr] at e
  obtain ⟨h1,h2,rfl,q1,q2⟩:=J5 e
  have g1:1<=m:=g.1 _ List.mem_cons_self
  have l1:h1.length=m.toNat:=by
   have:=congrArg List.length q1
   rw [List.length_map,List.length_replicate] at this
   exact this
  have a1:∀ h∈h1,xU h=(y,p):=fun h hh=>by
   have:xU h∈List.replicate m.toNat (y,p):=by
    have z:xU h∈h1.map xU:=List.mem_map_of_mem hh
    rw [q1] at z
    exact z
   exact (List.mem_replicate.mp this).2
  have ne:h1≠[]:=fun z=>by rw [z] at l1;simp at l1;omega
  rw [List.foldl_append,YB a1 ne (fun r hr z=>by
   have:=n r hr _ List.mem_cons_self
   have z1:r.1=y:=congrArg Prod.fst z
   simp at this
   omega)]
  have gp:=List.pairwise_cons.mp g.2
  rw [gL (rs:=rs) q2 ⟨fun r hr=>g.1 r (List.mem_cons_of_mem _ hr),gp.2⟩ (fun r hr x hx=>by
   rw [List.getLast?_concat] at hr
   have:(y,p,(h1.length:Int))=r:=by simpa using hr
   rw [<- this]
   exact gp.1 x hx),List.append_assoc,l1]
  have:((m.toNat:Nat):Int)=m:=by omega
  rw [this]
  rfl
theorem kP {rs hs:List T3}(e:hs.map xU=jr rs) (g:xy rs):grp hs=rs:=by
 unfold grp
 rw [gL e g (fun r z=>by cases z)]
 rfl
theorem yC {rs:List T3}(g:xy rs):rs.length<=(jr rs).length:=by
 have:∀ {rs:List T3},(∀ r∈rs,1<=r.2.2)->rs.length<=(jr rs).length:=by
  intro rs
  induction rs with
  | nil=>intro _;exact Nat.le_refl _
  | cons r rs ih =>
   intro a
   have:=ih fun r hr=>a r (List.mem_cons_of_mem _ hr)
   have h1:=a r List.mem_cons_self
   rw [zr,List.length_append,List.length_replicate,List.length_cons]
   omega
 exact this g.1
structure Tk (rs:List T3) (m0:Int) (left off:List T3) (m:Int):Prop where
 keys:jr left++jr off.reverse=jr rs
 gl:xy left
 go:xy off.reverse
 cnt:((jr off.reverse).length:Int)=m0-m
 m0':0<=m
 sep:0<m->∀ a∈left,∀ b∈off,a.1<b.1
theorem Tk.start {rs:List T3}{m:Int}(g:xy rs) (h:0<=m):Tk rs m rs [] m:=⟨by simp [jr],g,⟨fun r h=>by simp at h,by simp⟩,by simp [jr],h,fun _ _ _ _ h=>by cases h⟩
theorem Tk.whole {rs:List T3}{m0 m:Int}{left off:List T3}{y p h:Int}(t:Tk rs m0 (left++[(y,p,h)]) off m) (hm:0<m) (hh:h<=m):Tk rs m0 left (off++[(y,p,h)]) (m-h):=by
 have h1:1<=h:=t.gl.1 _ (List.mem_append_right _ List.mem_cons_self)
 have pw:=List.pairwise_append.mp t.gl.2
 refine ⟨?_,⟨fun r hr=>t.gl.1 r (List.mem_append_left _ hr),pw.1⟩,?_,?_,by omega,?_⟩
 ·rw [List.reverse_append,qf,<- t.keys,qf,List.append_assoc]
  rfl
 ·rw [List.reverse_append]
  refine ⟨fun r hr=>?_,?_⟩
  ·rcases List.mem_append.mp hr with z | z
   ·have:r=(y,p,h):=by simpa using z
    rw [this];exact h1
   ·exact t.go.1 r z
  ·show List.Pairwise _ ((y,p,h)::off.reverse)
   exact List.pairwise_cons.mpr ⟨fun b hb=>t.sep hm _ (List.mem_append_right _ List.mem_cons_self) b (List.mem_reverse.mp hb),t.go.2⟩
 ·rw [List.reverse_append,qf,List.length_append]
  have:=t.cnt
  have e:((jr [(y,p,h)].reverse).length:Int)=h:=by
   show ((List.replicate h.toNat (xU (y,p,h))++[]).length:Int)=h
   rw [List.append_nil,List.length_replicate]
   omega
  push_cast
  omega
 ·intro hm' a ha b hb
  rcases List.mem_append.mp hb with z | z
  ·exact t.sep hm a (List.mem_append_left _ ha) b z
  ·have:b=(y,p,h):=by simpa using z
   rw [this]
   exact pw.2.2 a ha _ List.mem_cons_self
theorem Tk.part {rs:List T3}{m0 m:Int}{left off:List T3}{y p h:Int}(t:Tk rs m0 (left++[(y,p,h)]) off m) (hm:0<m) (hh:m<h):Tk rs m0 (left++[(y,p,h-m)]) (off++[(y,p,m)]) 0:=by
 have pw:=List.pairwise_append.mp t.gl.2
 have e:∀ k:Int,jr [(y,p,k)]=List.replicate k.toNat (y,p):=fun k=>by
  show List.replicate k.toNat (xU (y,p,k))++[]=_
  rw [List.append_nil]
  rfl
 refine ⟨?_,⟨fun r hr=>?_,?_⟩,⟨fun r hr=>?_,?_⟩,?_,Int.le_refl _,fun z=>absurd z (by omega)⟩
 ·rw [List.reverse_append,qf,qf,<- t.keys,qf,List.append_assoc,List.append_assoc,show [(y,p,m)].reverse=[(y,p,m)] from rfl,e,e,e]
  congr 1
  rw [<- List.append_assoc]
  congr 1
  rw [List.replicate_append_replicate]
  congr 1
  omega
 ·rcases List.mem_append.mp hr with z | z
  ·exact t.gl.1 r (List.mem_append_left _ z)
  ·have:r=(y,p,h-m):=by simpa using z
   rw [this]
   show 1<=h-m
   omega
 ·refine List.pairwise_append.mpr ⟨pw.1,by simp,fun a ha b hb=>?_⟩
  have:b=(y,p,h-m):=by simpa using hb
  rw [this]
  exact pw.2.2 a ha (y,p,h) List.mem_cons_self
 ·rw [List.reverse_append] at hr
  rcases List.mem_append.mp hr with z | z
  ·have:r=(y,p,m):=by simpa using z
   rw [this]
   show 1<=m
   omega
  ·exact t.go.1 r z
 ·rw [List.reverse_append]
  show List.Pairwise _ ((y,p,m)::off.reverse)
  exact List.pairwise_cons.mpr ⟨fun b hb=>t.sep hm _ (List.mem_append_right _ List.mem_cons_self) b (List.mem_reverse.mp hb),t.go.2⟩
 ·rw [List.reverse_append,qf,List.length_append]
  have:=t.cnt
  have e2:((jr [(y,p,m)].reverse).length:Int)=m:=by
   rw [show [(y,p,m)].reverse=[(y,p,m)] from rfl,e,List.length_replicate]
   omega
  push_cast
  omega
end L2
end
section
namespace L2
open PySem PySem.Spec PyProof.Rows
end L2
namespace L2
open PySem PySem.Spec PyProof.Rows
section
variable (P:Program) (w:World)
end
section
variable {P:Program}{w:World}{H H':Hp}{h h':Heap}{a:Addr}{o:HO}
end
section
variable {P:Program}{w:World}{H:Hp}{h h':Heap}{x e:Addr}{o':HO}
end
section
variable {fs fs' ex ex':List Addr}{H H1 H2:Hp}{h h1 h2 h':Heap}{a x e:Addr}{o:HO}
end
end L2
namespace L2
open PySem PySem.Spec PyProof.Rows
section
variable {X:Cx}{pins:List (Addr×Obj)}{σ:List (Option V)}{H H':Hp}{s:Shared}{h':Heap}
end
end L2
namespace L2
open PySem PySem.Spec PyProof.Rows
section
variable {X:Cx}
variable {a b:Expr}{ta tb:TE}{pos:Pos}
variable {tA tB':TT}{vw:List Expr}
end
end L2
namespace L2
open PySem PySem.Spec PyProof.Rows
section
variable {X:Cx}{pins:List (Addr×Obj)}{σ:St}{H:Hp}{s:Shared}{a:Addr}{xs ys:List V}
end
section
variable {X:Cx}{pins:List (Addr×Obj)}{σ:St}{H:Hp}{s:Shared}{E:Value->Shared->Prop}
end
section
variable {X:Cx}{st:Stmt}{vw:List Stmt}{t u:TS}{e:Expr}{te:TE}{pos:Pos}
end
section
variable {X:Cx}{pos:Pos}
end
section
variable {X:Cx}{pos:Pos}
end
end L2
namespace L2
open PySem PySem.Spec PyProof.Rows
section
variable {X:Cx}{tg:Expr}
end
end L2
namespace L2
open PySem PySem.Spec PyProof.Rows
section
variable {X:Cx}{a b c:Expr}{ta tb tc:TE}{pos:Pos}
end
section
variable {X:Cx}{a b c:Expr}{ta tb tc:TE}{pos:Pos}
end
end L2
namespace L2
open PySem PySem.Spec PyProof.Rows
section
variable {prog:Program}{w:World}{A:Around}{E:Value->Shared->Prop}{s:Shared}{K:PySem.W.Frag}{x dx C f:Addr}{mA:Str->Option Value}{name:Str}{v:Value}
end
section
variable {P:Program}{w:World}{H H':Hp}{h h':Heap}{a C dx:Addr}{fs fs':List (Str×V)}
end
section
variable {X:Cx}{pins:List (Addr×Obj)}{σ:St}{H:Hp}{s:Shared}{a C dx:Addr}{fs:List (Str×V)}{f:Str}{v:V}{A:Around}{E:Value->Shared->Prop}
end
section
variable {X:Cx}{o e value:Expr}{f:Str}{pos pos' tpos:Pos}{ta tv:TE}
end
section
variable {X:Cx}{pins:List (Addr×Obj)}{σ:St}{H:Hp}{s:Shared}{A:Around}{E:Value->Shared->Prop}{Q:Value->Shared->Prop}{c:Value}{b:Bool}
end
end L2
namespace L2
open PySem PySem.Spec PyProof.Rows
section
variable {X:Cx}{e:Expr}{es:List Expr}{te:TE}{t:TA}{pos:Pos}
end
section
variable {X:Cx}{pins:List (Addr×Obj)}{σ:St}{H:Hp}{s s':Shared}
end
section
variable {X:Cx}{CX:CXT}{k:Nat}{f C:Addr}{fd:FuncData}{ps:List Str}{sp:Sp}{dvs:List V}{ds:List Value}{E:XK}{x m:Str}{p pos apos:Pos}{e o:Expr}{es:List Expr}{ta:TE}{t:TA}
end
section
variable {X:Cx}{CX:CXT}{k:Nat}{f C:Addr}{fd:FuncData}{ps ks:List Str}{sp:Sp}{E:XK}{x m:Str}{p pos apos kpos:Pos}{e o:Expr}{es:List Expr}{kws:List Keyword}{te ta:TE}{t tk:TA}{nm:Option Str}
variable {g:List Value->List Value->List Value}{gV:List V->List V->List V}
end
end L2
namespace L2
open PySem PySem.Spec PyProof.Rows
section
variable {X:Cx}{x:Str}{p pos:Pos}{e:Expr}{es:List Expr}{t:TA}{id T:String}{r:List V->Hp->VK->Prop}
end
end L2
namespace L2
open PySem PySem.Spec PyProof.Rows
section
variable {κ:Type} [DecidableEq κ]
def qE (kvs:List (κ×V)) (k:κ):Option V:=(kvs.find? fun kv=>decide (kv.1=k)).map (·.2)
def qA (kvs:List (κ×V)) (k:κ) (v:V):List (κ×V) :=
 if (kvs.any fun kv=>decide (kv.1=k))=true then kvs.map (fun kv=>if kv.1=k then (kv.1,v) else kv) else kvs++[(k,v)]
theorem yt {k:κ}:qE ([]:List (κ×V)) k=none:=rfl
theorem kE {p:κ×V}{r:List (κ×V)}{k:κ}(e:p.1=k):qE (p::r) k=some p.2:=by simp [qE,List.find?_cons,e]
theorem wH {p:κ×V}{r:List (κ×V)}{k:κ}(e:¬ p.1=k):qE (p::r) k=qE r k:=by simp [qE,List.find?_cons,e]
theorem wx (k:κ):∀ kvs:List (κ×V),(kvs.any fun kv=>decide (kv.1=k))=(qE kvs k).isSome
 | []=>rfl
 | p::r=>by
  rw [List.any_cons]
  by_cases e:p.1=k
  ·simp only [kE e,decide_eq_true e,Bool.true_or,Option.isSome_some]
  ·rw [wH e,decide_eq_false e,Bool.false_or];exact wx k r
theorem yj (kvs:List (κ×V)) (k:κ) (v:V):(qA kvs k v).length<=kvs.length+1:=by
 unfold qA
 split
 ·rw [List.length_map];omega
 ·rw [List.length_append,List.length_cons,List.length_nil];omega
theorem yu {kvs:List (κ×V)}{k:κ}(v:V) (h:qE kvs k=none):qA kvs k v=kvs++[(k,v)]:=by
 unfold qA
 rw [wx,h]
 exact if_neg (by decide)
theorem yh.isSome_eq {o:Option V}{u:Option Value}(r:yh o u):o.isSome=u.isSome:=by
 cases o with
 | none=>cases u with
  | none=>rfl
  | some _=>exact (show False from r).elim
 | some _=>cases u with
  | none=>exact (show False from r).elim
  | some _=>rfl
theorem yh.getD {o:Option V}{u:Option Value}{d:V}{d':Value}(r:yh o u) (rd:jB d d'):jB (o.getD d) (u.getD d'):=by
 cases o with
 | none=>cases u with
  | none=>exact rd
  | some _=>exact (show False from r).elim
 | some _=>cases u with
  | none=>exact (show False from r).elim
  | some _=>exact r
theorem KV.val {kvs:List (κ×V)}{vs:List (κ×Value)}(r:KV kvs vs) (k:κ):yh (qE kvs k) (valueAt vs k):=by
 unfold KV at r
 induction r with
 | nil=>exact True.intro
 | @cons p q ps qs h t ih =>
  obtain ⟨h1,h2⟩:=h
  by_cases e:p.1=k
  ·have e':q.1=k:=h1.symm.trans e
   have b:valueAt (q::qs) k=some q.2:=by simp [valueAt,List.find?_cons,e']
   rw [kE e,b];exact h2
  ·have e':¬ q.1=k:=fun z=>e (h1.trans z)
   have b:valueAt (q::qs) k=valueAt qs k:=by simp [valueAt,List.find?_cons,e']
   rw [wH e,b];exact ih
theorem KV.any {kvs:List (κ×V)}{vs:List (κ×Value)}(r:KV kvs vs) (k:κ):(kvs.any fun kv=>decide (kv.1=k))=vs.any fun kv=>decide (kv.1=k):=by
 unfold KV at r
 induction r with
 | nil=>rfl
 | cons h t ih=>rw [List.any_cons,List.any_cons,ih,h.1]
theorem KV.repl {kvs:List (κ×V)}{vs:List (κ×Value)}(r:KV kvs vs) (k:κ) {y:V}{u:Value}(ry:jB y u) :
  KV (kvs.map fun kv=>if kv.1=k then (kv.1,y) else kv) (vs.map fun kv=>if kv.1=k then (kv.1,u) else kv):=by
 unfold KV at r ⊢
 induction r with
 | nil=>exact .nil
 | @cons p q ps qs h t ih =>
  rw [List.map_cons,List.map_cons]
  refine .cons ?_ ih
  obtain ⟨h1,h2⟩:=h
  by_cases e:p.1=k
  ·rw [if_pos e,if_pos (h1.symm.trans e)];exact ⟨h1,ry⟩
  ·rw [if_neg e,if_neg (fun z=>e (h1.trans z))];exact ⟨h1,h2⟩
theorem KV.put {kvs:List (κ×V)}{vs:List (κ×Value)}(r:KV kvs vs) (k:κ) {y:V}{u:Value}(ry:jB y u):KV (qA kvs k y) (stored vs k u):=by
 unfold qA stored
 rw [r.any k]
 by_cases e:(vs.any fun kv=>decide (kv.1=k))=true
 ·rw [if_pos e,if_pos e];exact r.repl k ry
 ·rw [if_neg e,if_neg e];exact Paired.snoc r ⟨rfl,ry⟩
theorem KV.length {kvs:List (κ×V)}{vs:List (κ×Value)}(r:KV kvs vs):kvs.length=vs.length:=Paired.length r
end
theorem kT {P:Program}{w:World}{k:Key}{u:Value}(r:jB (kV k) u):(jC P w).is k u=true:=by
 cases k with
 | inl i=>obtain ⟨t,e⟩:=(show ∃ t,u=Value.int i t from r);subst e;exact Qj P w i t
 | inr x=>obtain ⟨t,e⟩:=(show ∃ t,u=Value.str x t from r);subst e;exact JU P w x t
theorem gU {P:Program}{w:World}:∀ {ks:List Key}{us:List Value},jz (ks.map kV) us->ItemsAre (jC P w) ks us
 | [],_,r=>by rw [List.map_nil] at r;cases r;exact .nil
 | k::ks,_,r=>by
  rw [List.map_cons] at r
  cases r with
  | cons h t=>exact .cons (kT h) (gU t)
abbrev KT (H:Hp):List (List Key×V)->List (List Key×Addr×Value)->Prop:=Paired fun p q=>p.1=q.1/\H q.2.1=some (.tup (p.1.map kV))/\jB p.2 q.2.2
theorem KT.val {H:Hp}{kvs:List (List Key×V)}{xs:List (List Key×Addr×Value)}(r:KT H kvs xs) (k:List Key):yh (qE kvs k) ((atKey xs k).map (·.2)):=by
 induction r with
 | nil=>exact True.intro
 | @cons p q ps qs h t ih =>
  obtain ⟨h1,_,h2⟩:=h
  by_cases e:p.1=k
  ·have e':q.1=k:=h1.symm.trans e
   have b:atKey (q::qs) k=some q.2:=by simp [atKey,List.find?_cons,e']
   rw [kE e,b];exact h2
  ·have e':¬ q.1=k:=fun z=>e (h1.trans z)
   have b:atKey (q::qs) k=atKey qs k:=by simp [atKey,List.find?_cons,e']
   rw [wH e,b];exact ih
theorem KT.repl {H:Hp}{kvs:List (List Key×V)}{xs:List (List Key×Addr×Value)}(r:KT H kvs xs) (k:List Key) {y:V}{u:Value}(ry:jB y u) :
  KT H (kvs.map fun kv=>if kv.1=k then (kv.1,y) else kv) (xs.map (putAt k u)):=by
 induction r with
 | nil=>exact .nil
 | @cons p q ps qs h t ih =>
  rw [List.map_cons,List.map_cons]
  refine .cons ?_ ih
  obtain ⟨h1,h2,h3⟩:=h
  unfold putAt
  by_cases e:p.1=k
  ·rw [if_pos e,if_pos (h1.symm.trans e)];exact ⟨h1,h2,ry⟩
  ·rw [if_neg e,if_neg (fun z=>e (h1.trans z))];exact ⟨h1,h2,h3⟩
theorem KT.put {H:Hp}{kvs:List (List Key×V)}{xs:List (List Key×Addr×Value)}(r:KT H kvs xs) (k:List Key) {b:Addr}{y:V}{u:Value}(hb:H b=some (.tup (k.map kV))) (ry:jB y u) :
  KT H (qA kvs k y) (storedH xs k b u):=by
 have e:(kvs.any fun kv=>decide (kv.1=k))=(atKey xs k).isSome:=by
  rw [wx,(r.val k).isSome_eq,Option.isSome_map]
 unfold qA storedH
 rw [e]
 by_cases q:(atKey xs k).isSome=true
 ·rw [if_pos q,if_pos q];exact r.repl k ry
 ·rw [if_neg q,if_neg q];exact Paired.snoc r ⟨rfl,hb,ry⟩
theorem KT.keeps {H H':Hp}{kvs:List (List Key×V)}{xs:List (List Key×Addr×Value)}(r:KT H kvs xs) (ht:∀ b ys,H b=some (.tup ys)->H' b=some (.tup ys)):KT H' kvs xs :=
 Paired.mapP r fun _ _ z=>⟨z.1,ht _ _ z.2.1,z.2.2⟩
section
variable {P:Program}{w:World}{H:Hp}{h:Heap}{a:Addr}
theorem W1 {u:HO}(ok:HOk P w H h) (e:Rd H a u):qe P w H h a u:=e.ok ok
theorem vR {kvs:List (Key×V)}(ok:HOk P w H h) (e:Rd H a (.dK kvs)):kvs.length<=sizeLine/\(a == sysModules)=false/\∃ vs,KV kvs vs/\h.DictOf (jC P w) a vs :=
 show qe P w H h a (.dK kvs) from W1 ok e
theorem YU {kvs:List (Key×V)}(ok:HOk P w H h) (e:H a=some (.dK kvs)):kvs.length<=sizeLine/\(a == sysModules)=false/\∃ vs,KV kvs vs/\h.DictOf (jC P w) a vs:=vR ok (.inl e)
theorem ko {ks:List Key}(ok:HOk P w H h) (e:H a=some (.tup (ks.map kV))):(tupleKind (jC P w)).is h ks a:=by
 obtain ⟨_,its,r,o,h1,h2,n,h3⟩:=(show qe P w H h a (.tup (ks.map kV)) from ok a _ e)
 exact ⟨o,its.toArray,n,h1,h2,h3,by simpa using gU r⟩
theorem gP {kvs:List (List Key×V)}(ok:HOk P w H h) (e:Rd H a (.dT kvs)):kvs.length<=sizeLine/\(a == sysModules)=false /\
  ∃ xs,KT H kvs xs/\h.DictOfH (tupleKind (jC P w)) a xs:=by
 obtain ⟨z,y,xs,r,o,es,ep,h1,h2,h3,h4,h5⟩:=(show qe P w H h a (.dT kvs) from W1 ok e)
 refine ⟨z,y,xs,r,o,es,ep,h1,h2,h3,h4,fun x hx=>?_,h5⟩
 have all:∀ {l:List (List Key×V)} {m:List (List Key×Addr×Value)},KT H l m->∀ x∈m,(tupleKind (jC P w)).is h x.1 x.2.1:=by
  intro l m q
  induction q with
  | nil=>intro x hx;exact nomatch hx
  | @cons p q ps qs hq t ih =>
   intro x hx
   rcases List.mem_cons.mp hx with e | hx
   ·subst e
    exact ko ok (by rw [<- hq.1];exact hq.2.1)
   ·exact ih x hx
 exact all r x hx
theorem GY {kvs:List (List Key×V)}(ok:HOk P w H h) (e:H a=some (.dT kvs)):kvs.length<=sizeLine/\(a == sysModules)=false /\
  ∃ xs,KT H kvs xs/\h.DictOfH (tupleKind (jC P w)) a xs:=gP ok (.inl e)
end
def qN (H:Hp) (a:Addr) (y:V) (r:Option V):Prop :=
 (∃ kvs k,Rd H a (.dK kvs)/\y=kV k/\r=qE kvs k)\/∃ kvs k b,Rd H a (.dT kvs)/\y = .ref b/\H b=some (.tup (k.map kV))/\r=qE kvs k
def gm (H:Hp) (a:Addr) (y v:V) (H':Hp):Prop :=
 (∃ kvs k,H a=some (.dK kvs)/\y=kV k/\kvs.length<sizeLine/\H'=upd H a (.dK (qA kvs k v))) \/
 ∃ kvs k b,H a=some (.dT kvs)/\y = .ref b/\H b=some (.tup (k.map kV))/\kvs.length<sizeLine/\H'=upd H a (.dT (qA kvs k v))
theorem qN.k {H:Hp}{a:Addr}{kvs:List (Key×V)}{k:Key}(e:H a=some (.dK kvs)):qN H a (kV k) (qE kvs k):=.inl ⟨kvs,k,.inl e,rfl,rfl⟩
theorem gm.k {H:Hp}{a:Addr}{kvs:List (Key×V)}{k:Key}{v:V}(e:H a=some (.dK kvs)) (hl:kvs.length<sizeLine):gm H a (kV k) v (upd H a (.dK (qA kvs k v))):=.inl ⟨kvs,k,e,rfl,hl,rfl⟩
section
variable {X:Cx}{pins:List (Addr×Obj)}{σ:St}{H:Hp}{s:Shared}{a:Addr}{y v:V}{u r:Value}{o:Option V}{A:Around}{E:Value->Shared->Prop}
theorem Inv.big (I:Inv X pins σ H s):sysModules<s.heap.objs.size:=by
 have h:mainGlobals<s.heap.objs.size:=(I.mod.glob.keeps I.bk).lt
 exact Nat.lt_trans (by decide) h
theorem Yc {Q:Value->Shared->Prop}(hu:A.units+1<cLine) (I:Inv X pins σ H s) (g:qN H a y (some v)) (ry:jB y u) (h:∀ w' s',Inv X pins σ H s'->jB v w'->Q w' s') :
  wpAny (model X.prog X.w) A (getItem (.ref a) u) Q E s:=by
 rcases g with ⟨kvs,k,e,ey,l⟩ | ⟨kvs,k,b,e,ey,eb,l⟩
 ·subst ey
  obtain ⟨z,hd,vs,rel,dd⟩:=vR I.hok e
  obtain ⟨w',hw,rw'⟩:=yh.some_of (v:=v) (o:=valueAt vs k) (by rw [l];exact rel.val k)
  exact wpAny_getItem_of (kT ry) dd.mapOf hw (h w' _ (I.tok _) rw')
 ·subst ey
  cases (show u=Value.ref b from ry)
  obtain ⟨z,hd,xs,rel,dd⟩:=gP I.hok e
  obtain ⟨w',hw,rw'⟩:=yh.some_of (v:=v) (o:=(atKey xs k).map (·.2)) (by rw [l];exact rel.val k)
  obtain ⟨p,hp,hp2⟩:=Option.map_eq_some_iff.mp hw
  refine wpAny_getItem_heap (tupleKind_room_in1 hu) (ko I.hok eb) dd hp ?_
  rw [hp2]
  exact h w' _ (I.tok _) rw'
theorem d_in {Q:Value->Shared->Prop}(hu:A.units+1<cLine) (I:Inv X pins σ H s) (g:qN H a y o) (ry:jB y u) (h:∀ s',Inv X pins σ H s'->Q (.bool o.isSome) s') :
  wpAny (model X.prog X.w) A (compareOp .In u (.ref a)) Q E s:=by
 rcases g with ⟨kvs,k,e,ey,l⟩ | ⟨kvs,k,b,e,ey,eb,l⟩
 ·subst ey
  obtain ⟨z,hd,vs,rel,dd⟩:=vR I.hok e
  refine wpAny_in_of (kT ry) hd dd.mapOf ?_
  rw [<- (rel.val k).isSome_eq,<- l]
  exact h _ (I.tok _)
 ·subst ey
  cases (show u=Value.ref b from ry)
  obtain ⟨z,hd,xs,rel,dd⟩:=gP I.hok e
  refine wpAny_in_heap (tupleKind_room_in1 hu) (ko I.hok eb) hd dd ?_
  have q:=(rel.val k).isSome_eq
  rw [Option.isSome_map] at q
  rw [<- q,<- l]
  exact h _ (I.tok _)
theorem JB {h':Heap}{t':Nat}{ob:HO}(I:Inv X pins σ H s) (mu:Mut (H a)) (hs:Heap.SameBut a s.heap h') (he:∃ q,h'.get? a=some q) (new:qe X.prog X.w (upd H a ob) h' a ob) :
  Inv X pins σ (upd H a ob) { s with heap:=h',toks:=t' } :=
 I.write (x:=a) (e:=a) mu (.inl rfl) (fun b q hb z=>(hs.2 b hb).trans z) he new
theorem Xf {P:Program}{w:World}{H':Hp}{h':Heap}{kvs:List (Key×V)}{vs:List (Key×Value)}(z:kvs.length<=sizeLine) (hd:(a == sysModules)=false) (rel:KV kvs vs) (dd:h'.DictOf (jC P w) a vs) :
  qe P w H' h' a (.dK kvs):=⟨z,hd,vs,rel,dd⟩
theorem ZI {H':Hp}{Q:Unit->Shared->Prop}(hu:A.units+1<cLine) (I:Inv X pins σ H s) (g:gm H a y v H') (ry:jB y u) (rv:jB v r) (h:∀ s',Inv X pins σ H' s'->Q () s') :
  wpAny (model X.prog X.w) A (setItem (.ref a) u r) Q E s:=by
 rcases g with ⟨kvs,k,e,ey,l,eH⟩ | ⟨kvs,k,b,e,ey,eb,l,eH⟩
 ·subst ey eH
  obtain ⟨z,hd,vs,rel,dd⟩:=YU I.hok e
  have hz:vs.length<=sizeLine:=by rw [<- rel.length];exact z
  have hl:(qA kvs k v).length<=sizeLine:=by have:=yj kvs k v;omega
  refine wpAny_setItem_pairs (hsz:=hz) (kT ry) dd fun h' dd' hs=>h _ ?_
  have he:∃ q,h'.get? a=some q:=let ⟨q,_,_,hq,_⟩:=dd';⟨q,hq⟩
  exact JB I (by rw [e];exact True.intro) hs he (Xf hl hd (rel.put k rv) dd')
 ·subst ey eH
  cases (show u=Value.ref b from ry)
  obtain ⟨z,hd,xs,rel,dd⟩:=GY I.hok e
  have hz:xs.length<=sizeLine:=by rw [<- Paired.length rel];exact z
  have hl:(qA kvs k v).length<=sizeLine:=by have:=yj kvs k v;omega
  refine wpAny_setItem_heap (hsz:=hz) (tupleKind_room_in1 hu) (ko I.hok eb) dd fun h' dd' hs=>h _ ?_
  obtain ⟨q,es,ep,hq,h2,h3,h4,_,h5⟩:=dd'
  refine JB I (by rw [e];exact True.intro) hs ⟨q,hq⟩ ⟨hl,hd,_,(rel.put k eb rv).keeps fun c ys ec=>?_,q,es,ep,hq,h2,h3,h4,h5⟩
  rw [j5 (jp ec e (fun z=>nomatch z))]
  exact ec
end
section
variable {X:Cx}{pins:List (Addr×Obj)}{σ:St}{H:Hp}{s:Shared}{a:Addr}{kvs:List (Key×V)}{k:Key}{u:Value}{A:Around}{E:Value->Shared->Prop}
end
def E5 (i:Expr):Prop:=∀ ov iv,subscripted i false ov iv=operate [ov,iv] (getItem ov iv)
theorem VY {prog:Program}{w:World}{A:Around}{E:Value->Shared->Prop}{s:Shared}{env:Env}{value slice:Expr}{pos:Pos}{T id:String}{Q:Value->Shared->Prop}
  (hl:typeLookup (.type T) "__getitem__" = pure (some (.builtin id))) (hs:E5 slice)
  (h:wpAny (model prog w) A (eval value env) (fun o s₁=>wpAny (model prog w) A (eval slice env) (fun i s₂=>s₂.TypeIs o T/\wpAny (model prog w) A (getItem o i) Q E s₂) E s₁) E s) :
  wpAny (model prog w) A (eval (.Subscript value slice pos) env) Q E s:=by
 refine Subscript_ (wpAny_mono h (fun o s₁ h₁=>wpAny_mono h₁ (fun i s₂ h₂=>?_) fun _ _ x=>x) fun _ _ x=>x)
 obtain ⟨hT,h₂⟩:=h₂
 unfold subscriptTail
 refine wpAny_bind ?_
 rw [getitemInPython_of_ne hT.not_modules]
 refine wpAny_bind (wpAny_specialOf hT hl ?_)
 have fin:wpAny (model prog w) A (subscripted slice false o i) (fun r s₃=>wpAny (model prog w) A (letTemporaryGo value o r >>= fun _=>pure r) Q E s₃) E s₂:=by
  rw [hs o i]
  exact wpAny_operating (wpAny_mono h₂ (fun r s₃ h₃=>wpAny_bind (wpAny_letTemporaryGo (wpAny_pure h₃))) fun _ _ x=>x)
 first
  | exact wpAny_pure (wpAny_bind fin)
  | exact wpAny_bind (wpAny_pure (wpAny_bind fin))
  | exact wpAny_bind fin
theorem QF {X:Cx}{pins:List (Addr×Obj)}{σ:St}{H:Hp}{s:Shared}{a:Addr}{y:V}{o:Option V}(I:Inv X pins σ H s) (g:qN H a y o):s.TypeIs (.ref a) "dict":=by
 rcases g with ⟨kvs,k,e,_,_⟩ | ⟨kvs,k,b,e,_,_,_⟩
 ·obtain ⟨_,_,vs,_,dd⟩:=vR I.hok e
  exact dd.typeIs
 ·obtain ⟨_,_,xs,_,dd⟩:=gP I.hok e
  exact dd.typeIs
def Gw (td ty:TE):TE:=fun σ H Q=>td σ H fun x H1=>ty σ H1 fun y H2=>∃ a v,x = .ref a/\qN H2 a y (some v)/\Q v H2
def tDIn (ty td:TE):TE:=fun σ H Q=>ty σ H fun y H1=>td σ H1 fun x H2=>∃ a o,x = .ref a/\qN H2 a y o/\Q (.bl o.isSome) H2
def GW (td ty tv:TE):TS:=fun D σ H=>tv σ H fun v H1=>td σ H1 fun x H2=>ty σ H2 fun y H3=>∃ a H4,x = .ref a/\gm H3 a y v H4/\D.nx σ H4
section
variable {X:Cx}{o i e value:Expr}{pos pos' tpos:Pos}{td ty tv:TE}
theorem jN (hu:X.A.units+1<cLine) (ho:PE X o td) (hi:PE X i ty) (hs:E5 i):PE X (.Subscript o i pos) (Gw td ty):=by
 intro pins s σ H Q I h
 refine VY PySem.F.slot_dict_getitem.lookup hs (thn (ho pins s σ H _ I h) fun u s1 ⟨x,H1,I1,rx,q1⟩=>thn (hi pins s1 σ H1 _ I1 q1) fun iv s2 ⟨y,H2,I2,ry,a,v,ex,g,q2⟩=>?_)
 subst ex
 obtain rfl:u=Value.ref a:=rx
 exact ⟨QF I2 g,Yc hu I2 g ry fun w' s3 I3 rw'=>⟨v,H2,I3,rw',q2⟩⟩
theorem WZ (hu:X.A.units+1<cLine) (hi:PE X i ty) (ho:PE X o td):PC X .In i o (tDIn ty td):=by
 intro pins s σ H Q I h
 refine thn (hi pins s σ H _ I h) fun iv s1 ⟨y,H1,I1,ry,q1⟩=>thn (ho pins s1 σ H1 _ I1 q1) fun u s2 ⟨x,H2,I2,rx,a,ov,ex,g,q2⟩=>?_
 subst ex
 obtain rfl:u=Value.ref a:=rx
 exact d_in hu I2 g ry fun s3 I3=>⟨.bl ov.isSome,H2,I3,rfl,q2⟩
theorem yP (hu:X.A.units+1<cLine) (ho:PE X o td) (hi:PE X i ty) (hv:PE X value tv) (hs:swapsWith value (some (.Subscript o i pos')) pos.line X.env=pure false) :
  PS X (.Assign [.Subscript o i pos'] value pos) (GW td ty tv):=by
 intro pins s σ H D I h
 refine wpAny_Assign_Subscript (thn (hv pins s σ H _ I h) fun r s1 ⟨v,H1,I1,rv,q1⟩=>thn (ho pins s1 σ H1 _ I1 q1) fun u s2 ⟨x,H2,I2,rx,q2⟩=>thn (hi pins s2 σ H2 _ I2 q2) fun iv s3 ⟨y,H3,I3,ry,a,H4,ex,g,q3⟩=>?_) hs
 subst ex
 obtain rfl:u=Value.ref a:=rx
 exact ZI hu I3 g ry rv fun s4 I4=>⟨σ,H4,I4,q3⟩
end
theorem Qd {P:Program}{w:World}{H:Hp}(h:Heap) (hb:sysModules<h.objs.size):qe P w H (h.push { cls:=.type "dict",data:=.dict #[] }) h.objs.size (.dK []) :=
 ⟨Nat.zero_le _,beq_eq_false_iff_ne.mpr (Ne.symm (Nat.ne_of_lt hb)),[],.nil,Heap.DictOf.new h⟩
def Wp:TE:=fun _ H Q=>∀ p,H p=none->Q (.ref p) (upd H p (.dK []))
section
variable {X:Cx}{pos:Pos}
theorem vZ:PE X (.Dict [] [] pos) Wp:=fun pins s σ H Q I h =>
 wpAny_Dict_empty ⟨.ref s.heap.objs.size,_,I.laid (a:=s.heap.objs.size) (o:=.dK []) (t':=s.toks) (fun _ _ q=>Heap.get?_push_of_some _ q) (Nat.le_refl _) (Qd s.heap I.big),rfl,h _ (I.hok.fresh (Nat.le_refl _))⟩
end
def QT:List (TE×TE)->St->Hp->(List (V×V)->Hp->Prop)->Prop
 | [],_,H,Q=>Q [] H
 | (tk,tv)::r,σ,H,Q=>tk σ H fun x H1=>tv σ H1 fun y H2=>QT r σ H2 fun ps H3=>Q ((x,y)::ps) H3
abbrev VV:List (V×V)->List (Value×Value)->Prop:=Paired fun p q=>jB p.1 q.1/\jB p.2 q.2
def PPs (X:Cx) (pos:Pos) (keys:List (Option Expr)) (values:List Expr) (trs:List (TE×TE)):Prop :=
 ∀ (pins:List (Addr×Obj)) (s:Shared) (σ:St) (H:Hp) (Q:List (V×V)->Hp->Prop),Inv X pins σ H s->QT trs σ H Q ->
  wpAny (model X.prog X.w) X.A (evalPairs (pairTrees keys values X.env pos)) (fun vs s'=>∃ ps H',Inv X pins σ H' s'/\VV ps vs/\Q ps H') X.xe s
theorem UF {X:Cx}{pos:Pos}:PPs X pos [] [] []:=fun pins s σ H Q I h=>pairTrees_nil_walk ⟨[],H,I,.nil,h⟩
theorem kg {X:Cx}{pos:Pos}{k v:Expr}{ks:List (Option Expr)}{vs:List Expr}{tk tv:TE}{trs:List (TE×TE)}(hk:PE X k tk) (hv:PE X v tv) (hr:PPs X pos ks vs trs) :
  PPs X pos (some k::ks) (v::vs) ((tk,tv)::trs):=fun pins s σ H Q I h =>
 pairTrees_cons_walk (thn (hk pins s σ H _ I h) fun u s1 ⟨x,H1,I1,rx,q1⟩=>thn (hv pins s1 σ H1 _ I1 q1) fun w2 s2 ⟨y,H2,I2,ry,q2⟩ =>
  thn (hr pins s2 σ H2 _ I2 q2) fun ws s3 ⟨ps,H3,I3,rel,q3⟩=>⟨(x,y)::ps,H3,I3,.cons ⟨rx,ry⟩ rel,q3⟩)
def qV (kvs more:List (Key×V)):List (Key×V):=more.foldl (fun acc kv=>qA acc kv.1 kv.2) kvs
theorem KV.merge:∀ {more:List (Key×V)}{rs:List (Key×Value)}{kvs:List (Key×V)}{vs:List (Key×Value)},KV more rs->KV kvs vs->KV (qV kvs more) (merged vs rs):=by
 intro more rs kvs vs r
 unfold KV at r
 induction r generalizing kvs vs with
 | nil=>intro q;exact q
 | @cons p q ps qs h t ih =>
  intro r0
  have e:KV (qA kvs p.1 p.2) (stored vs q.1 q.2):=by
   have:=r0.put p.1 h.2
   rw [<- h.1];exact this
  exact ih e
theorem zE:∀ (more kvs:List (Key×V)),(qV kvs more).length<=kvs.length+more.length
 | [],kvs=>by show kvs.length<=kvs.length+0;omega
 | p::r,kvs=>by
  have h1:=zE r (qA kvs p.1 p.2)
  have h2:=yj kvs p.1 p.2
  show (qV (qA kvs p.1 p.2) r).length<=_
  rw [List.length_cons];omega
theorem wJ {P:Program}{w:World}:∀ {kvs:List (Key×V)}{ws:List (Value×Value)},VV (kvs.map fun kv=>(kV kv.1,kv.2)) ws->∃ rs,Carries (jC P w) ws rs/\KV kvs rs
 | [],_,r=>by rw [List.map_nil] at r;cases r;exact ⟨[],True.intro,.nil⟩
 | p::kvs,_,r=>by
  rw [List.map_cons] at r
  cases r with
  | @cons a b as bs h t =>
   obtain ⟨rs,c,q⟩:=wJ (P:=P) (w:=w) t
   obtain ⟨b1,b2⟩:=b
   exact ⟨(p.1,b2)::rs,⟨kT h.1,rfl,c⟩,.cons ⟨rfl,h.2⟩ q⟩
def GZ (trs:List (TE×TE)):TE:=fun σ H Q=>∀ p,H p=none->QT trs σ (upd H p (.dK [])) fun ps H2=>H2 p=some (.dK [])/\∃ kvs:List (Key×V),ps=kvs.map (fun kv=>(kV kv.1,kv.2))/\kvs.length<=15/\Q (.ref p) (upd H2 p (.dK (qV [] kvs)))
theorem U6 {X:Cx}{pos:Pos}{keys:List (Option Expr)}{values:List Expr}{trs:List (TE×TE)}(h:PPs X pos keys values trs) (hall:keys.all (·.isSome)=true) (hl:keys.length=values.length) (h0:keys≠[])
  (h15:keys.length<=15):PE X (.Dict keys values pos) (GZ trs):=by
 intro pins s σ H Q I q
 have hn:=I.hok.fresh (Nat.le_refl s.heap.objs.size)
 have I1:=I.laid (a:=s.heap.objs.size) (o:=.dK []) (h':=s.heap.push { cls:=.type "dict",data:=.dict #[] }) (t':=s.toks) (fun _ _ q=>Heap.get?_push_of_some _ q) (Nat.le_refl _) (Qd s.heap I.big)
 refine wpAny_Dict_walk (knd:=jC X.prog X.w) hall hl h0 h15 (thn (h pins _ σ _ _ I1 (q _ hn)) fun ws s2 ⟨ps,H2,I2,rel,e,kvs,ep,lk,q2⟩=>?_)
 subst ep
 obtain ⟨rs,c,rk⟩:=wJ (P:=X.prog) (w:=X.w) rel
 obtain ⟨z,hd,vs0,r0,dd⟩:=YU I2.hok e
 cases r0
 refine ⟨rs,c,dd,fun h' dd' hs=>⟨.ref s.heap.objs.size,_,?_,rfl,q2⟩⟩
 have hz:(qV [] kvs).length<=sizeLine:=by
  have h1:=zE kvs []
  rw [List.length_nil] at h1
  rw [sizeLine_eq];omega
 have he:∃ q,h'.get? s.heap.objs.size=some q:=let ⟨q,_,_,hq,_⟩:=dd';⟨q,hq⟩
 exact JB I2 (by rw [e];exact True.intro) hs he (Xf hz hd (rk.merge .nil) dd')
structure M2 (X:Cx) (o:Expr) (m:Str) (apos:Pos) (e f:Expr) (cpos:Pos):Prop where
 base:attributeBase o m X.env (eval o X.env)=eval o X.env
 few:((backTo cpos (starEach [e,f] X.env)).all (fun x=>!x.1) && (backToKw cpos (keywordEach [] X.env)).all (fun x=>x.1.isSome)
  && decide (([e,f]:List Expr).length+([]:List Keyword).length+(if ([]:List Keyword).isEmpty then 0 else 1)<30))=true
 line:(apos.endLine == cpos.line)=true
 trees:backTo cpos (starEach [e,f] X.env)=[(false,eval e X.env),(false,eval f X.env)]
def IsD (H:Hp) (a:Addr):Prop:=(∃ kvs,Rd H a (.dK kvs))\/∃ kvs,Rd H a (.dT kvs)
theorem WQ {X:Cx}{pins:List (Addr×Obj)}{σ:St}{H:Hp}{s:Shared}{a:Addr}(I:Inv X pins σ H s) (d:IsD H a) :
  s.TypeIs (.ref a) "dict" /\ (∀ b,Value.ref a = .ref b->∃ ob,s.heap.get? b=some ob/\ob.dict=none)/\(a == sysModules)=false:=by
 rcases d with ⟨kvs,e⟩ | ⟨kvs,e⟩
 ·obtain ⟨_,hd,vs,_,dd⟩:=vR I.hok e
  refine ⟨dd.typeIs,fun b q=>?_,hd⟩
  cases q
  obtain ⟨ob,_,_,h1,h2,_⟩:=dd
  exact ⟨ob,h1,h2.2.1⟩
 ·obtain ⟨_,hd,xs,_,dd⟩:=gP I.hok e
  refine ⟨dd.typeIs,fun b q=>?_,hd⟩
  cases q
  obtain ⟨ob,_,_,h1,h2,_⟩:=dd
  exact ⟨ob,h1,h2.2.1⟩
section
variable {X:Cx}{pins:List (Addr×Obj)}{σ:St}{H:Hp}{s:Shared}{a:Addr}{y d:V}{u r:Value}{o:Option V}{A:Around}{E:Value->Shared->Prop}
theorem Wn {Q:Value->Shared->Prop}(hu:A.units+1<cLine) (I:Inv X pins σ H s) (g:qN H a y o) (ry:jB y u) (rd:jB d r) (h:∀ w' s',Inv X pins σ H s'->jB (o.getD d) w'->Q w' s') :
  wpAny (model X.prog X.w) A (call (.builtin "dict.get") [.ref a,u,r]) Q E s:=by
 rcases g with ⟨kvs,k,e,ey,l⟩ | ⟨kvs,k,b,e,ey,eb,l⟩
 ·subst ey
  obtain ⟨z,hd,vs,rel,dd⟩:=vR I.hok e
  refine call_meetsIn PySem.F.slot_dict_get dd.typeIs PySem.F.entry_dict_get (PySem.F.args_dict_get_3 _ _ _) (meets_dict_get_default (jC X.prog X.w) a (kT ry) hd r) ⟨_,dd.mapOf,h _ _ (I.tok _) ?_⟩
  rw [l]
  exact (rel.val k).getD rd
 ·subst ey
  cases (show u=Value.ref b from ry)
  obtain ⟨z,hd,xs,rel,dd⟩:=gP I.hok e
  refine call_meetsIn PySem.F.slot_dict_get dd.typeIs PySem.F.entry_dict_get (PySem.F.args_dict_get_3 _ _ _) (meetsH_dict_get_default (tupleKind (jC X.prog X.w)) a b hd r) ⟨tupleKind_room_in1 hu,k,xs,ko I.hok eb,dd,h _ _ (I.tok _) ?_⟩
  rw [l]
  exact (rel.val k).getD rd
end
def WD (td ty tx:TE):TE:=fun σ H Q=>td σ H fun x H1=>∃ a,x = .ref a/\IsD H1 a/\ty σ H1 fun y H2=>tx σ H2 fun z H3=>∃ o,qN H3 a y o/\Q (o.getD z) H3
section
variable {X:Cx}{o e f:Expr}{apos cpos:Pos}{td ty tx:TE}
theorem QM (hu:X.A.units+1<cLine) (ho:PE X o td) (he:PE X e ty) (hf:PE X f tx) (m:M2 X o "get" apos e f cpos):PE X (.Call (.Attribute o "get" apos) [e,f] [] cpos) (WD td ty tx):=by
 intro pins s σ H Q I h
 refine wpAny_Call_method m.base m.few m.line PySem.F.plainAttrs_dict PySem.F.slot_dict_get PySem.F.type_dict_get (thn (ho pins s σ H _ I h) fun u s1 ⟨x,H1,I1,rx,a,ex,d,q1⟩=>?_)
 subst ex
 obtain rfl:u=Value.ref a:=rx
 obtain ⟨t1,t2,_⟩:=WQ I1 d
 refine ⟨t1,t2,?_⟩
 rw [m.trees]
 refine Calls.callWith_builtin rfl (Calls.evalArgs_plain (Calls.spliced_cons (thn (he pins s1 σ H1 _ I1 q1) fun iv s2 ⟨y,H2,I2,ry,q2⟩ =>
  Calls.spliced_cons (thn (hf pins s2 σ H2 _ I2 q2) fun fv s3 ⟨z,H3,I3,rz,ov,g,q3⟩=>Calls.spliced_nil ?_))))
 exact Wn hu I3 g ry rz fun w' s4 I4 rw'=>⟨_,H3,I4,rw',q3⟩
end
section
variable {X:Cx}{pins:List (Addr×Obj)}{σ:St}{H:Hp}{s:Shared}{a:Addr}{kvs:List (Key×V)}{A:Around}{E:Value->Shared->Prop}
end
section
variable {X:Cx}{pins:List (Addr×Obj)}{σ:St}{H:Hp}{s:Shared}{a:Addr}{y:V}{u:Value}{A:Around}{E:Value->Shared->Prop}
end
end L2
namespace Att
open PySem PySem.W PySem.Calls PyProof.Rows
section
variable {prog:Program}{w:World}{A:Around}{E:Value->Shared->Prop}{s:Shared}{K:Frag}
end
end Att
namespace L2
open PySem PySem.Spec PyProof.Rows
end L2
namespace L2
open PySem PySem.Spec PyProof.Rows
end L2
namespace L2
open PySem PySem.Spec PyProof.Rows
section
variable {P:Program}{w:World}{K:PySem.W.Frag}{mg:Str->Option Value}{base:Heap}
end
section
variable {X:Cx}
end
section
variable {κ:Type} [DecidableEq κ]
theorem wq:∀ {l:List κ}{k:κ},l.Nodup->¬ k∈l->(l++[k]).Nodup
 | [],k,_,_=>by simp
 | a::r,k,h,hk=>by
  obtain ⟨h1,h2⟩:=List.nodup_cons.mp h
  show (a::(r++[k])).Nodup
  refine List.nodup_cons.mpr ⟨fun m=>?_,wq h2 fun m=>hk (List.mem_cons.mpr (Or.inr m))⟩
  rcases List.mem_append.mp m with q | q
  ·exact h1 q
  ·exact hk (List.mem_cons.mpr (Or.inl (List.mem_singleton.mp q).symm))
end
end L2
end
section
namespace L2
open PySem PySem.Spec PySem.W PyProof.Rows
section
variable {prog:Program}{w:World}{A:Around}{E:Value->Shared->Prop}{s:Shared}
theorem Q0 {its:List Value}{κ:SortKind}{lt:Nat->Nat->Bool}{G:List Nat->Prop}{Q:Value->Shared->Prop}(h64:its.length<64)
  (hk:2<=its.length->∀ h',(∀ b o,s.heap.get? b=some o->h'.get? b=some o)->∀ Q':SortKind->Shared->Prop,Q' κ { s with heap:=h' }->wpAny (model prog w) A.in1.in1 (keyKind' its.toArray) Q' (fun _ _=>False) { s with heap:=h' })
  (hc:∀ h',(∀ b o,s.heap.get? b=some o->h'.get? b=some o)->∀ i j,i<its.length->j<its.length->∀ Q':Bool->Shared->Prop,Q' (lt i j) { s with heap:=h' } ->
   wpAny (model prog w) A.in1.in1 (keyLt' κ (its.getD i Value.none) (its.getD j Value.none)) Q' (fun _ _=>False) { s with heap:=h' })
  (hs:2<=its.length->qP lt its.length (kas_sort its.length) fun p=>qi its.length p/\G p.toList) (h1:its.length<2->G (List.range its.length))
  (h:∀ (ix:List Nat) (h':Heap) (n:Nat),ix.Perm (List.range its.length)->G ix->(∀ b o,s.heap.get? b=some o->h'.get? b=some o) ->
   h'.get? (s.heap.objs.size)=some (seqObj "list" (ix.map fun i=>its.getD i Value.none).toArray n)->Q (.ref (s.heap.objs.size)) { s with heap:=h' }) :
  wpAny (model prog w) A.in1 (newList its >>= fun l=>holding [l] (call (.builtin "list.sort") [l] []) >>= fun _=>ret l) (fun fin s'=>∃ v,fin = .done (.ret v)/\Q v s') E s:=by
 refine wpAny_bind (wpAny_newList ?_ (by rw [sizeLine_eq];omega))
 have ho:(s.heap.push (seqObj "list" its.toArray 0)).get? (s.heap.objs.size)=some (seqObj "list" its.toArray 0):=Heap.get?_push_size _ rfl
 have keep:∀ b o,s.heap.get? b=some o->(s.heap.push (seqObj "list" its.toArray 0)).get? b=some o:=fun b o q=>by
  exact Heap.get?_push_of_some _ q
 show wpAny _ _ _ _ _ { s with heap:=s.heap.push (seqObj "list" its.toArray 0) }
 refine wpAny_bind (wpAny_holding (wpAny_call_entry slot_list_sort ⟨_,ho,rfl⟩ entry_list_sort ?body (args_list_sort _)))
 case body =>
  generalize hh0:s.heap.push (seqObj "list" its.toArray 0)=h0 at ho keep
  generalize ha:s.heap.objs.size=a at ho h
  have aNew:∀ b o,s.heap.get? b=some o->b≠a:=fun b o q=>by have:=Heap.lt_size q;rw [<- ha];exact Nat.ne_of_lt this
  show wpAny (model prog w) A.in1.in1 (Builtin.«list.sort» ⟨[.ref a],[]⟩) _ _ { s with heap:=h0 }
  rw [list_sort_plain]
  have hal:a<h0.objs.size:=Heap.lt_size ho
  refine wpAny_bind (listItems_at ho rfl ?_)
  refine wpAny_bind (listUpdate_at ho rfl ?_ (by rw [List.size_toArray,sizeLine_eq];omega) (Nat.zero_le _))
  obtain ⟨e1,ho1⟩:∃ e1,(h0.update a (Obj.mapSeq fun _=>(#[]:Array Value))).get? a=some (seqObj "list" #[] e1):=⟨_,get?_update_seq ho (fun _=>#[])⟩
  refine wpAny_bind (seqEpoch_at ho1 rfl ?_)
  refine wpAny_bind (wpAny_newTuple ?_ (by show its.length<=_;rw [sizeLine_eq];omega))
  refine wpAny_bind (wpAny_newList ?_ (Nat.zero_le _))
  refine wpAny_holding ?_
  have ho6:(((h0.update a (Obj.mapSeq fun _=>(#[]:Array Value))).push (seqObj "tuple" its.toArray 0)).push (seqObj "list" #[] 0)).get? a=some (seqObj "list" #[] e1):=by
   rw [Heap.get?_push_ne _ _ _ (by rw [size_push',Heap.size_update];exact Nat.ne_of_lt (Nat.lt_succ_of_lt hal)),Heap.get?_push_ne _ _ _ (by rw [Heap.size_update];exact Nat.ne_of_lt hal)]
   exact ho1
  have keep6:∀ b o,s.heap.get? b=some o->(((h0.update a (Obj.mapSeq fun _=>(#[]:Array Value))).push (seqObj "tuple" its.toArray 0)).push (seqObj "list" #[] 0)).get? b=some o:=fun b o q =>
   Heap.get?_push_of_some _ (Heap.get?_push_of_some _ ((Heap.get?_update_ne _ _ _ _ (aNew b o q)).trans (keep b o q)))
  show wpAny (model prog w) A.in1.in1 _ _ _ { s with heap:=((h0.update a (Obj.mapSeq fun _=>(#[]:Array Value))).push (seqObj "tuple" its.toArray 0)).push (seqObj "list" #[] 0) }
  generalize ((h0.update a (Obj.mapSeq fun _=>(#[]:Array Value))).push (seqObj "tuple" its.toArray 0)).push (seqObj "list" #[] 0)=h6 at ho6 keep6
  dsimp only
  have fin:∀ (ix:List Nat),ix.Perm (List.range its.length)->G ix->∀ out:Array Value,out=(ix.map fun i=>its.getD i Value.none).toArray ->
    ∃ v,PySem.Fin.done (Flow.ret Value.none) = .done (.ret v)/\wpAny (model prog w) A.in1 (do let _ <- pure v;ret (Value.ref a)) (fun fin s'=>∃ v,fin = .done (.ret v)/\Q v s') E { s with heap:=h6.update a (Obj.mapSeq fun _=>out) }:=fun ix hp hg out ho'=>by
   refine ⟨_,rfl,wpAny_bind (wpAny_pure (wpAny_pure ⟨_,rfl,?_⟩))⟩
   subst ho'
   exact h ix _ _ hp hg (fun b o q=>(Heap.get?_update_ne _ _ _ _ (aNew b o q)).trans (keep6 b o q)) (get?_update_seq ho6 fun _=>_)
  by_cases h2:its.toArray.size<2
  ·rw [if_pos h2,if_pos h2]
   refine wpAny_bind (wpAny_pure ?_)
   rw [StateT.run_pure]
   refine wpAny_bind (wpAny_pure ?_)
   dsimp only
   refine wpAny_bind (seqEpoch_at ho6 rfl ?_)
   rw [uo]
   refine wpAny_bind (listUpdate_at ho6 rfl ?_ (Nat.zero_le _) (by rw [List.size_toArray,sizeLine_eq];omega))
   simp only [bne_self_eq_false,Bool.false_eq_true,if_false]
   rw [List.size_toArray] at h2
   exact wpAny_pure (fin _ (List.Perm.refl _) (h1 h2) _ (by rw [vm]))
  ·rw [if_neg h2,if_neg h2]
   rw [List.size_toArray] at h2
   refine wpAny_bind (wpAny_mono (hk (by omega) h6 keep6 (fun κ' s'=>κ'=κ/\s'={ s with heap:=h6 }) ⟨rfl,rfl⟩) (fun κ' s' q=>?_) fun _ _ x=>x.elim)
   obtain ⟨rfl,rfl⟩:=q
   refine wpAny_bind (wpAny_mono (kat_run (ks:=its) (vs:=its) (κ:=κ') (G:=fun p s'=>(qi its.length p/\G p.toList)/\s'={ s with heap:=h6 }) (Q:=fun st' s'=>∃ p:Array Nat,arrOf st'=p.map (kas_item (its.toArray.zip its.toArray))/\failedOf st'=none/\(qi its.length p/\G p.toList)/\s'={ s with heap:=h6 })
    rfl (by omega) h64 (fun p st' s' a1 a2 a3 a4=>⟨p,a2,a3,a4⟩) (qP.wp (I:=fun s'=>s'={ s with heap:=h6 }) (fun i j C s' hi hj hI hC=>?_) (fun p s' hp hI=>⟨hp,hI⟩) (hs (by omega)) rfl)) ?_ fun _ _ e=>e)
   ·subst hI
    exact hc h6 keep6 i j hi hj C (hC _ rfl)
   ·rintro ⟨⟨⟩,st'⟩ s' ⟨p,har,hf,⟨hP,hG⟩,rfl⟩
    dsimp only
    have hout:=kat_snds (ks:=its) (vs:=its) rfl har
    have hz:(List.toArray (p.toList.map fun i=>its.getD i Value.none)).size=its.length:=by rw [List.size_toArray,List.length_map,Array.length_toList,hP.size]
    rw [hout]
    refine wpAny_bind (seqEpoch_at ho6 rfl ?_)
    refine wpAny_bind (listUpdate_at ho6 rfl ?_ (Nat.zero_le _) (by rw [hz,sizeLine_eq];omega))
    rw [hf]
    simp only [bne_self_eq_false,Bool.false_eq_true,if_false]
    exact wpAny_pure (fin p.toList (by have:=Array.perm_iff_toList_perm.mp hP;simpa using this) hG _ rfl)
theorem Xx {v:Value}{Q:Value->Shared->Prop}(hcol:wpAny (model prog w) A.in1 (collect v) (fun its s1=>wpAny (model prog w) A.in1 (newList its >>= fun l=>holding [l] (call (.builtin "list.sort") [l] []) >>= fun _=>ret l) (fun fin s'=>∃ v,fin = .done (.ret v)/\Q v s') E s1) E s) :
  wpAny (model prog w) A (call (.builtin "sorted") [v]) Q E s:=by
 refine Calls.call_function_entry kind_sorted plain_sorted entry_sorted (args_sorted1 _) ?_
 unfold Builtin.«sorted»
 refine wpAny_bind (m:=checkCount "sorted" 1 1 _) (wpAny_pure ?_)
 exact wpAny_bind hcol
end
section
variable {X:Cx}
theorem Inv.laidN {pins:List (Addr×Obj)}{σ:St}{H:Hp}{s:Shared}{h':Heap}{a:Addr}{o:HO}{t':Nat}(I:Inv X pins σ H s) (k:∀ b u,s.heap.get? b=some u->h'.get? b=some u) (hn:s.heap.get? a=none) (new:H a=none->qe X.prog X.w (upd H a o) h' a o):H a=none/\Inv X pins σ (upd H a o) { s with heap:=h',toks:=t' }:=by
 have hH:H a=none:=by
  cases q:H a with
  | none=>rfl
  | some u =>
   obtain ⟨ob,e⟩:=wX (I.hok a u q)
   rw [hn] at e
   cases e
 have ne:∀ {b u},s.heap.get? b=some u->b≠a:=fun e z=>by rw [z,hn] at e;cases e
 refine ⟨hH,I.un ⟨fun b u q _ _ _=>k b u q,fun b u q _ _ _=>⟨u.slots,k b u q⟩,fun b u q n _=>by rw [j5 (ne q)];exact n,fun b u q _=>⟨u,k b u q⟩,fun b xs q=>by rw [j5 (j1 q hH)];exact q,fun b u xs q=>by rw [j5 (j1 q hH)];exact q,fun b ps q=>⟨#[],by rw [j5 (j1 q hH),q];simp⟩⟩ fun b u e=>?_⟩
 by_cases hb:b=a
 ·subst hb;rw [j6] at e;cases e;exact new hH
 ·rw [j5 hb] at e
  exact (I.hok b u e).stay (fun c v _ q=>k c v q) (fun c q=>by rw [j5 (j1 q hH)];exact q) fun c xs q=>by rw [j5 (j1 q hH)];exact q
theorem Jm (K:PySem.W.Frag) (hca:X.calm=true) (hK:X.K=K:=by rfl):qJ X (.builtin "sorted") (fun xs H Q=>∃ (p:Addr) (kvs:List (Key×V)) (ns:List Int),xs=[.ref p]/\H p=some (.dK kvs)/\kvs.map (·.1)=ns.map Sum.inl/\ns.length<64 /\
  ∀ (l:Addr) H' (ns':List Int),H l=none->H' l=some (.lst (ns'.map V.int))->jj H H'->ns'.Perm ns->ns'.Pairwise (· <= ·)->Q (.ref l) H'):=by
 subst hK
 intro pins s σ H xs us Q I r h
 obtain ⟨p,kvs,ns,rfl,hp0,hks,h64,k⟩:=h
 obtain ⟨u,rfl,ru⟩:=yb r
 cases ru
 obtain ⟨hz,lo,vs,kv,dd⟩:=YU I.hok hp0
 obtain ⟨ep,hat⟩:=dd.dictAt
 have hvl:vs.length=ns.length:=by
  have e1:kvs.length=vs.length:=Paired.length kv
  have e2:=congrArg List.length hks
  rw [List.length_map,List.length_map] at e2
  omega
 refine Xx (kdu_collect (kdl_dict (knd:=jC X.prog X.w) (kvs:=vs) (ep:=ep) lo) (I.ok.hd hca) hat (Nat.le_of_lt (jd (by omega))) fun h1 tk acc hk1 hacc=>?_)
 have hal:acc.toList.length=ns.length:=by rw [Array.length_toList,hacc.1,hvl]
 have item:∀ i,i<acc.toList.length->∃ t,acc.toList.getD i Value.none = .int (ns.getD i 0) t:=fun i hi=>by
  have hi2:i<acc.size:=by rw [Array.length_toList] at hi;exact hi
  obtain ⟨key,x,hx,his⟩:=hacc.2 i acc[i] (Array.getElem?_eq_getElem hi2)
  have hi3:i<kvs.length:=by
   have e1:kvs.length=vs.length:=Paired.length kv
   omega
  obtain ⟨q,hq,e1,_⟩:=Paired.get kv (List.getElem?_eq_getElem hi3)
  rw [hx] at hq
  cases hq
  have e2:(kvs.map (·.1))[i]? = some key:=by rw [List.getElem?_map,List.getElem?_eq_getElem hi3];exact congrArg some e1
  have hin:i<ns.length:=by omega
  rw [hks,List.getElem?_map,List.getElem?_eq_getElem hin] at e2
  cases e2
  obtain ⟨t,et⟩:=Value.isInt_shape his
  refine ⟨t,?_⟩
  rw [List.getD_eq_getElem?_getD,Array.getElem?_toList,Array.getElem?_eq_getElem hi2,et,List.getD_eq_getElem?_getD,List.getElem?_eq_getElem hin]
  rfl
 generalize acc.toList=its at hal item
 refine Q0 (s:={ s with heap:=h1,toks:=tk }) (κ:=oneType') (lt:=ltK U3 fun i=>ns.getD i 0) (G:=fun ix=>(ix.map fun i=>ns.getD i 0).Pairwise U3.kle) (by omega) (fun h2 h' hk' Q' q=>?_) (fun h' hk' i j hi hj Q' q=>?_) (fun h2=>?_) (fun h1=>?_) fun ix h' n hp hg hk' hn=>?_
 ·refine kas_kind (T:=.type "int") h2 (fun v hv=>?_) rfl rfl q
  obtain ⟨i,hi,rfl⟩:=List.mem_iff_getElem.mp hv
  obtain ⟨t,e1⟩:=item i hi
  have e3:its[i] = .int (ns.getD i 0) t:=by rw [<- e1];simp [hi]
  rw [e3]
  exact Looks.of_pure rfl
 ·obtain ⟨t,e1⟩:=item i hi
  obtain ⟨u,e2⟩:=item j hj
  rw [e1,e2]
  exact kat_lt_int q
 ·exact ku (by omega) fun p' hP hS=>⟨hP,hS.pairwise hP.size⟩
 ·have hcase:its.length=0\/its.length=1:=by omega
  rcases hcase with z | z
  ·rw [z];exact List.Pairwise.nil
  ·rw [z];exact List.pairwise_singleton _ _
 ·have hn0:s.heap.get? h1.objs.size=none:=by
   cases q:s.heap.get? h1.objs.size with
   | none=>rfl
   | some u=>exact absurd (Heap.lt_size (hk1 _ _ q)) (Nat.lt_irrefl _)
  have hv:jz ((ix.map fun i=>ns.getD i 0).map V.int) (ix.map fun i=>its.getD i Value.none):=by
   have hb:∀ i∈ix,i<its.length:=fun i hi=>by have:=hp.mem_iff.mp hi;simpa using this
   clear hp hg hn
   induction ix with
   | nil=>exact .nil
   | cons i ix ih =>
    obtain ⟨t,e⟩:=item i (hb i List.mem_cons_self)
    exact .cons ⟨t,e⟩ (ih fun j hj=>hb j (List.mem_cons_of_mem _ hj))
  have hns:((List.range its.length).map fun i=>ns.getD i 0)=ns:=by
   apply List.ext_getElem
   ·simp [hal]
   ·intro i h1 h2
    simp [h2]
  have hsz:((ix.map fun i=>ns.getD i 0).map V.int).length<=sizeLine:=by
   rw [List.length_map,List.length_map,hp.length_eq,List.length_range]
   exact Nat.le_trans (by omega:its.length<=1000) (by decide)
  obtain ⟨hf,J⟩:=Inv.laidN (o:=.lst ((ix.map fun i=>ns.getD i 0).map V.int)) (t':=tk) I (fun b o e=>hk' b o (hk1 b o e)) hn0 fun _=>⟨hsz,_,n,hv,hn⟩
  refine ⟨.ref _,upd H h1.objs.size (.lst ((ix.map fun i=>ns.getD i 0).map V.int)),J,rfl,k _ _ _ hf j6 (jj.new hf) ?_ ?_⟩
  ·have:=hp.map fun i=>ns.getD i 0
   rw [hns] at this
   exact this
  ·exact List.Pairwise.imp (R:=U3.kle) (fun {a b} z=>V6 z) hg
end
end L2
end
section
namespace L2
open PySem PySem.Spec PySem.W PyProof.Rows
theorem Inv.freeze {X:Cx}{pins:List (Addr×Obj)}{σ:St}{H:Hp}{s:Shared}{a:Addr}{o:Obj}{kvs:List (Key×V)}(I:Inv X pins σ H s) (e:H a=some (.dK kvs)) (ho:s.heap.get? a=some o):Inv X pins σ (upd H a (.frz o (.dK kvs))) s:=by
 refine I.un (t':=s.toks) ⟨fun b u q _ _ _=>q,fun b u q _ _ _=>⟨u.slots,q⟩,fun b u q n _=>?_,fun b u q _=>⟨u,q⟩,fun b xs q=>?_,fun b u xs q=>?_,fun b ps q=>⟨#[],?_⟩⟩ fun b u q=>?_
 ·rw [j5 (fun z=>by rw [z,e] at n;cases n)];exact n
 ·rw [j5 (jp q e (by intro z;cases z))];exact q
 ·rw [j5 (jp q e (by intro z;cases z))];exact q
 ·rw [j5 (jp q e (by intro z;cases z)),q];simp
 ·by_cases hb:b=a
  ·subst hb
   rw [j6] at q
   cases q
   exact ⟨ho,I.hok _ _ e⟩
  ·rw [j5 hb] at q
   exact (I.hok b u q).stay (fun c v _ q=>q) (fun c q=>by rw [j5 (jp q e (by intro z;cases z))];exact q) fun c xs q=>by rw [j5 (jp q e (by intro z;cases z))];exact q
def Itd (a:Addr) (o:Obj) (kvs:List (Key×V)):It :=
 ⟨fun i H=>H a=some (.frz o (.dK kvs))/\i<kvs.length,fun i H x H'=>H'=H/\∃ q,kvs[i]? = some q/\x=kV q.1,fun i H=>H a=some (.frz o (.dK kvs))/\kvs.length<=i⟩
theorem relK {P:Program}{w:World}{k:Key}{v:Value}(h:(jC P w).is k v=true):jB (kV k) v:=by
 cases k with
 | inl i=>exact Value.isInt_shape h
 | inr x=>exact Value.isStrOf_shape h
theorem Ye {P:Program}{w:World}{K:PySem.W.Frag}{tg:Expr}{a it:Addr}{o:Obj}{kvs:List (Key×V)}{vs:List (Key×Value)}{ep:Nat}(kv:KV kvs vs) (HD:∀ h:Heap,h.get? a=some o->h.DictAt (jC P w) a vs ep):Turn P w K tg (Itd a o kvs) [it] it (fun i h=>h.IsKeyIter it a i vs.length ep) where
 mem:=by simp
 obj:=fun i h st b hb=>by
  have e:b=it:=by simpa using hb
  subst e
  obtain ⟨o,e,c,d⟩:=st
  exact ⟨o,e,fun v z=>by rw [d] at z;cases z⟩
 keep:=fun i h h' st k=>st.at fun o e=>k it (by simp) o e
 item:=by
  intro X hP hw hK hc i pins s σ H E I hf st hg
  subst hP hw hK
  obtain ⟨hq,hi⟩:=hg
  have hat:=HD s.heap (I.hok _ _ hq).1
  have hl:kvs.length=vs.length:=Paired.length kv
  obtain ⟨f0,f1,f2,f3,f4,f5⟩:=hf it (by simp)
  obtain ⟨⟨k,x⟩,hx,ek,_⟩:=Paired.get kv (List.getElem?_eq_getElem hi)
  refine wpAny_pyNext_dict_item st hat hx fun key h' hkey st' sb=>?_
  have I1:Inv X pins σ H { s with heap:=h' }:=I.turned (t':=s.toks) (fun b o hb e=>(sb.2 b hb).trans e) f0 f1 f3 f4 f5
  obtain ⟨ob,e,c,d⟩:=id st'
  exact ⟨key,rfl,Qu (s:={ s with heap:=h' }) e c d (by decide) ⟨kV k,H,I1,relK hkey,⟨rfl,_,List.getElem?_eq_getElem hi,by rw [show (kvs[i]'hi).1=k from ek]⟩,st',fun b hb=>(hf b hb).1⟩⟩
 done:=by
  intro X hP hw hK hc i pins s σ H E I hf st hg
  subst hP hw hK
  obtain ⟨hq,hi⟩:=hg
  have hat:=HD s.heap (I.hok _ _ hq).1
  have hl:kvs.length=vs.length:=Paired.length kv
  obtain ⟨f0,f1,f2,f3,f4,f5⟩:=hf it (by simp)
  exact wpAny_pyNext_dict_end (I.ok.hd hc) st hat (by simp;omega) fun h' eb=>⟨rfl,I.turned (t':=s.toks) (fun b o hb e=>eb b o hb e) f0 f1 f3 f4 f5⟩
 self:=fun _ _ _ _ _ st h=>wpAny_pyIter_keyiter st h
def iDic (td:TE):TI:=fun σ H R=>td σ H fun x H1=>∃ a kvs,x = .ref a/\((H1 a=some (.dK kvs)/\∀ o,R (Itd a o kvs) (upd H1 a (.frz o (.dK kvs))))\/∃ o,H1 a=some (.frz o (.dK kvs))/\R (Itd a o kvs) H1)
theorem Z8 {X:Cx}{tg l:Expr}{td:TE}(hl:PE X l td):PI X tg l (iDic td):=by
 intro pins s σ H R I h
 refine thn (hl pins s σ H _ I h) fun v s1 ⟨x,H1,I1,r1,a,kvs,e,q⟩=>?_
 subst e
 cases r1
 have main:∀ {H2:Hp} {o:Obj},Inv X pins σ H2 s1->H2 a=some (.frz o (.dK kvs))->R (Itd a o kvs) H2->wpAny (model X.prog X.w) X.A (pyIter (.ref a)) (PIE X pins σ tg R) X.xe s1:=fun {H2 o} I2 e2 q2=>by
  have ho:=(I2.hok _ _ e2).1
  obtain ⟨hz,lo,vs,kv,dd⟩:=vR I2.hok (.inr ⟨o,e2⟩)
  obtain ⟨ep,ob,es,h1,hrest⟩:=dd.dictAt
  rw [ho] at h1
  cases h1
  have HD:∀ h:Heap,h.get? a=some o->h.DictAt (jC X.prog X.w) a vs ep:=fun h e=>⟨o,es,e,hrest⟩
  refine wpAny_pyIter_dict lo (HD _ ho) ?_
  refine ⟨s1.heap.objs.size,[s1.heap.objs.size],_,_,H2,rfl,I2.kept (t':=s1.toks) fun b o e=>Heap.get?_push_of_some _ e,Ye kv HD,⟨_,Heap.get?_push_size _ rfl,rfl,rfl⟩,fun b hb=>?_,q2⟩
  have e:b=s1.heap.objs.size:=by simpa using hb
  subst e
  exact I2.fpOk (Nat.le_refl _) (I2.hok.fresh (Nat.le_refl _))
 rcases q with ⟨e1,q1⟩ | ⟨o,e1,q1⟩
 ·obtain ⟨hz,lo,vs,kv,dd⟩:=vR I1.hok (.inl e1)
  obtain ⟨ep,ob,es,h1,hrest⟩:=dd.dictAt
  exact main (I1.freeze e1 h1) j6 (q1 ob)
 ·exact main I1 e1 q1
theorem QC {a:Addr}{o:Obj}{kvs:List (Key×V)}{g:TG}{tb:TS}{D:Ends}{σ:St}{H:Hp}(Pv:Nat->St->Hp->Prop) (h0:Pv 0 σ H) (hl:∀ i σ H,i<=kvs.length->Pv i σ H->H a=some (.frz o (.dK kvs)))
  (hs:∀ i q σ H,kvs[i]? = some q->Pv i σ H->g (kV q.1) σ H fun σ2 H2=>tb { D with nx:=Pv (i+1),ct:=Pv (i+1),bk:=D.nx } σ2 H2) (hd:∀ σ H,Pv kvs.length σ H->D.nx σ H) :
  ∃ W:Nat->Nat->St->Hp->Prop,(∃ m,W 0 m σ H)/\∀ i m σ H,W i m σ H ->
   ((Itd a o kvs).stop i H/\D.nx σ H)\/((Itd a o kvs).go i H/\∃ N:St->Hp->Prop,(∀ σ' H',N σ' H'->∃ m',m'<m/\W (i+1) m' σ' H')/\∀ x H',(Itd a o kvs).yld i H x H'->g x σ H' fun σ2 H2=>tb { D with nx:=N,ct:=N,bk:=D.nx } σ2 H2):=by
 refine ⟨fun i m σ H=>m=kvs.length-i/\i<=kvs.length/\Pv i σ H,⟨kvs.length,by simp,Nat.zero_le _,h0⟩,?_⟩
 rintro i m σ H ⟨rfl,hi,p⟩
 have q:=hl i σ H hi p
 by_cases hlt:i<kvs.length
 ·refine .inr ⟨⟨q,hlt⟩,Pv (i+1),fun σ' H' p'=>⟨kvs.length-(i+1),by omega,rfl,hlt,p'⟩,fun x H' y=>?_⟩
  obtain ⟨e,z,hz,ex⟩:=y
  subst e ex
  exact hs i z σ _ hz p
 ·obtain rfl:i=kvs.length:=by omega
  exact .inl ⟨⟨q,Nat.le_refl _⟩,hd σ H p⟩
end L2
end
section
namespace L2
open PySem PySem.Spec PySem.W PyProof.Rows
theorem Yz {P:Program}{w:World}{K:PySem.W.Frag}{tg:Expr}(it:Addr) (lo:Int) (n:Nat):Turn P w K tg (Itr lo n) [it] it (fun i h=>IsLongIter h it (lo+(i:Nat)*1) ((n:Int)-(i:Nat)) 1) where
 mem:=by simp
 obj:=fun i h st b hb=>by
  have e:b=it:=by simpa using hb
  subst e
  exact ⟨_,st,fun v z=>by
   have z':Data.fields _=Data.cell v:=z
   cases z'⟩
 keep:=fun i h h' st k=>k it (by simp) _ st
 item:=by
  intro X hP hw hK hc i pins s σ H E I hf st hg
  subst hP hw hK
  obtain ⟨f0,f1,f2,f3,f4,f5⟩:=hf it (by simp)
  have W:=Walks.longrange (prog:=X.prog) (w:=X.w) (I.ok.hd hc) it lo 1 n
  refine W.item i s _ _ hg st fun v h' tk hv st' kk=>?_
  obtain ⟨t,rfl⟩:=hv
  have I1:Inv X pins σ H { s with heap:=h',toks:=tk }:=I.turned (fun b o hb e=>kk b o (by simpa using hb) e) f0 f1 f3 f4 f5
  refine ⟨_,rfl,Qu (s:={ s with heap:=h',toks:=tk }) (n:="longrange_iterator") st' rfl rfl (by decide) ⟨.int (lo+i),H,I1,⟨t,?_⟩,⟨rfl,rfl⟩,st',fun b hb=>(hf b hb).1⟩⟩
  rw [Int.mul_one]
 done:=by
  intro X hP hw hK hc i pins s σ H E I hf st hg
  subst hP hw hK
  obtain ⟨f0,f1,f2,f3,f4,f5⟩:=hf it (by simp)
  exact wpAny_pyNext_long_end (I.ok.hd hc) st (by have:n<=i:=hg;omega) fun h' eb=>⟨rfl,I.turned (t':=s.toks) (fun b o hb e=>eb b o hb e) f0 f1 f3 f4 f5⟩
 self:=fun _ _ _ _ _ st h=>wpAny_pyIter_longiter st h
section
variable {X:Cx}{tg:Expr}
theorem Yn {pins:List (Addr×Obj)}{σ:St}{H:Hp}{s:Shared}{R:It->Hp->Prop}{E:Value->Shared->Prop}{lo hi:Int}{t u v:Tok}{tk:Nat}(I:Inv X pins σ H s)
  (q:R (Itr lo (hi-lo).toNat) H):wpAny (model X.prog X.w) X.A (pyIter (.ref s.heap.objs.size)) (PIE X pins σ tg R) E { s with heap:=s.heap.push { cls:=.type "range",data:=.fields #[.int lo t,.int hi u,.int 1 v] },toks:=tk }:=by
 have I1:Inv X pins σ H { s with heap:=s.heap.push { cls:=.type "range",data:=.fields #[.int lo t,.int hi u,.int 1 v] },toks:=tk }:=I.kept fun b o e=>Heap.get?_push_of_some _ e
 have e1:lo+((0:Nat):Int)*1=lo:=by simp
 have e2:(((hi-lo).toNat:Nat):Int)-((0:Nat):Int)=Builtin.Range.rangeSize lo hi 1:=by rw [rangeSize_one];split <;> omega
 have fp:∀ b∈[(s.heap.push { cls:=.type "range",data:=.fields #[.int lo t,.int hi u,.int 1 v] }).objs.size],_:=fun b hb=>by
  have e:b=(s.heap.push { cls:=.type "range",data:=.fields #[.int lo t,.int hi u,.int 1 v] }).objs.size:=by simpa using hb
  subst e
  exact I1.fpOk (Nat.le_refl _) (I1.hok.fresh (Nat.le_refl _))
 by_cases sm:Builtin.Range.small lo hi 1=true
 ·refine wpAny_pyIter_range (IsRange.new ..) sm ?_
  refine ⟨(s.heap.push { cls:=.type "range",data:=.fields #[.int lo t,.int hi u,.int 1 v] }).objs.size,[(s.heap.push { cls:=.type "range",data:=.fields #[.int lo t,.int hi u,.int 1 v] }).objs.size],_,_,H,rfl,
   I1.kept (t':=tk) fun b o e=>Heap.get?_push_of_some _ e,wZ _ lo (hi-lo).toNat,?_,fp,q⟩
  show IsRangeIter _ _ (lo+((0:Nat):Int)*1) ((((hi-lo).toNat:Nat):Int)-((0:Nat):Int)) 1
  rw [e1,e2]
  exact Heap.get?_push_size _ rfl
 ·refine wpAny_pyIter_longrange (IsRange.new ..) (by simpa using sm) ?_
  refine ⟨(s.heap.push { cls:=.type "range",data:=.fields #[.int lo t,.int hi u,.int 1 v] }).objs.size,[(s.heap.push { cls:=.type "range",data:=.fields #[.int lo t,.int hi u,.int 1 v] }).objs.size],_,_,H,rfl,
   I1.kept (t':=tk) fun b o e=>Heap.get?_push_of_some _ e,Yz _ lo (hi-lo).toNat,?_,fp,q⟩
  show IsLongIter _ _ (lo+((0:Nat):Int)*1) ((((hi-lo).toNat:Nat):Int)-((0:Nat):Int)) 1
  rw [e1,e2]
  exact Heap.get?_push_size _ rfl
def GS (ta:TA):TI:=fun σ H R=>ta σ H fun vs H1=>∃ i j:Int,vs=[.int i,.int j]/\R (Itr i (j-i).toNat) H1
theorem ZG {a b:Expr}{ta:TA}{p pos:Pos}(hg:Gl X "range") (hm:X.mg "range" = none) (ha:PA X [a,b] ta) (hs:starEach [a,b] X.env=[(false,eval a X.env),(false,eval b X.env)]:=by rfl) (hs2:starEach [b] X.env=[(false,eval b X.env)]:=by rfl) :
  PI X tg (.Call (.Name "range" p) [a,b] [] pos) (GS ta):=by
 intro pins s σ H R I h
 refine Call_ (zY I hg hm boot_range (PyProof.Rows.callWith_type1 (thn (ha pos pins s σ H _ I h) fun us s1 ⟨vs,H1,I1,r1,q1⟩=>?_) (by rw [hs,hs2]) (by rw [hs2];rfl)))
 obtain ⟨i,j,e,q⟩:=q1
 subst e
 cases r1 with
 | cons r rr =>
  cases rr with
  | cons r' rr =>
   cases rr
   obtain ⟨t,rfl⟩:=r
   obtain ⟨t',rfl⟩:=r'
   exact call_range_2 (Yn I1 q)
end
end L2
end
section
namespace L2
open PySem PySem.Spec PySem.W PyProof.Rows
def Fz (a:Addr) (kvs:List (Key×V)) (o:Obj) (H H4:Hp):Prop:=H4 a=some (.frz o (.dK kvs))/\(H4=H\/(H a=some (.dK kvs)/\H4=upd H a (.frz o (.dK kvs))))
theorem Fz.at {a:Addr}{kvs:List (Key×V)}{o:Obj}{H H4:Hp}(f:Fz a kvs o H H4) {c:Addr}{u:HO}(h:H c=some u) (n:c≠a):H4 c=some u:=by
 rcases f.2 with rfl | ⟨_,rfl⟩
 ·exact h
 ·rw [j5 n];exact h
theorem gq {a:Addr}{kvs:List (Key×V)}{g:TG}{tb:TS}{D:Ends}{σ:St}{H:Hp}(h:Rd H a (.dK kvs)) (Pv:Obj->Nat->St->Hp->Prop) (h0:∀ o H4,Fz a kvs o H H4->Pv o 0 σ H4) (hl:∀ o i σ H,i<=kvs.length->Pv o i σ H->H a=some (.frz o (.dK kvs)))
  (hs:∀ o i q σ H,kvs[i]? = some q->Pv o i σ H->g (kV q.1) σ H fun σ2 H2=>tb { D with nx:=Pv o (i+1),ct:=Pv o (i+1),bk:=D.nx } σ2 H2) (hd:∀ o σ H,Pv o kvs.length σ H->D.nx σ H) :
  ∃ a' kvs',V.ref a = .ref a'/\((H a'=some (.dK kvs')/\∀ o,∃ W:Nat->Nat->St->Hp->Prop,(∃ m,W 0 m σ (upd H a' (.frz o (.dK kvs'))))/\∀ i m σ H,W i m σ H ->
   ((Itd a' o kvs').stop i H/\D.nx σ H)\/((Itd a' o kvs').go i H/\∃ N:St->Hp->Prop,(∀ σ' H',N σ' H'->∃ m',m'<m/\W (i+1) m' σ' H')/\∀ x H',(Itd a' o kvs').yld i H x H'->g x σ H' fun σ2 H2=>tb { D with nx:=N,ct:=N,bk:=D.nx } σ2 H2)) \/
   ∃ o,H a'=some (.frz o (.dK kvs'))/\∃ W:Nat->Nat->St->Hp->Prop,(∃ m,W 0 m σ H)/\∀ i m σ H,W i m σ H ->
   ((Itd a' o kvs').stop i H/\D.nx σ H)\/((Itd a' o kvs').go i H/\∃ N:St->Hp->Prop,(∀ σ' H',N σ' H'->∃ m',m'<m/\W (i+1) m' σ' H')/\∀ x H',(Itd a' o kvs').yld i H x H'->g x σ H' fun σ2 H2=>tb { D with nx:=N,ct:=N,bk:=D.nx } σ2 H2)):=by
 rcases h with h | ⟨o,h⟩
 ·exact ⟨a,kvs,rfl,.inl ⟨h,fun o=>QC (a:=a) (o:=o) (kvs:=kvs) (Pv o) (h0 o _ ⟨j6,.inr ⟨h,rfl⟩⟩) (hl o) (hs o) (hd o)⟩⟩
 ·exact ⟨a,kvs,rfl,.inr ⟨o,h,QC (a:=a) (o:=o) (kvs:=kvs) (Pv o) (h0 o _ ⟨h,.inl rfl⟩) (hl o) (hs o) (hd o)⟩⟩
end L2
end
section
namespace L2
open PySem PySem.Spec PySem.W PyProof.Rows
section
variable {prog:Program}{w:World}{A:Around}{E:Value->Shared->Prop}{s:Shared}
theorem U5:typeLookup (.type "list") "keys" = pure none:=by rw [typeLookup_type,builtinLookup_eq_fast];kernel_rfl
theorem ZT {a:Addr}{o:Obj}{xs:Array Value}{k:Nat}{Q:Option Value->Shared->Prop}(hx:s.heap.get? a=some o) (hc:o.cls = .type "list") (hdat:o.data = .seq xs k) (hd:o.dict=none) (hA:A.handled=none)
  (h:∀ h' tk,(∀ b o,s.heap.get? b=some o->h'.get? b=some o)->Q none { s with heap:=h',toks:=tk }):wpAny (model prog w) A (getAttr? (.ref a) "keys") Q E s:=by
 obtain ⟨c,dct,dat,sl⟩:=o
 simp only at hc hdat hd
 subst hc hdat hd
 obtain ⟨hp,g,d,tk,os⟩:=s
 have hT:∀ tk',(⟨hp,g,d,tk',os⟩:Shared).TypeIs (.ref a) "list":=fun _=>⟨_,hx,rfl⟩
 have f1:=sub_AttributeError
 have f3:=F.slot_list_getattribute.lookup
 have f4:=F.slot_list_getattribute.bind (.ref a)
 have f5:=am_list_getattr_none
 unfold getAttr? getAttrBy? getAttrBy
 repeat (any_goals (first | assumption | exact hT _ | ((with_reducible show wpAny _ _ (call (Value.builtin "list.__getattribute__") _ _) _ _ _);refine call_meets F.slot_list_getattribute (hT _) am_entry_list_getattribute (F.args_list_getattribute_2 _ _) (meets_getattribute_miss_list a xs k sl "keys" _ U5 (by decide +kernel) (by decide)) ⟨hx,hA,fun h' tk' e hx'=>?_⟩) | wp_step))
 obtain ⟨t',u',he⟩:=hx'.there
 show wpAny _ _ (getattributeRaised _ _ _ _ _ _ _) _ _ _
 unfold getattributeRaised
 repeat (any_goals (first | assumption | wp_step))
 exact h h' tk' hx'.of.keeps
end
theorem uX:entryFor table "dict.update.loop" = some Builtin.«dict.update.loop»:=entryFor_of_tree (by kernel_rfl)
theorem zC:plainId "dict.update.loop" = true:=by decide +kernel
section
variable {prog:Program}{w:World}{A:Around}{R:Result->Shared->Prop}{d it l:Addr}{items:Array Value}{qs:List (Key×Value×Value)}
def JE (d it:Addr) (items:Array Value) (qs:List (Key×Value×Value)) (h:Heap):Prop:=∀ (i:Nat) (q:Key×Value×Value),qs[i]? = some q->∃ b:Addr,items[i]? = some (.ref b)/\b≠d/\b≠it/\h.IsTuple b #[q.2.1,q.2.2]
theorem JE.keep {h h':Heap}(x:JE d it items qs h) (k:∀ b o,b≠d->b≠it->h.get? b=some o->h'.get? b=some o):JE d it items qs h':=fun i q hq=>by
 obtain ⟨b,h1,h2,h3,o,ho,r⟩:=x i q hq
 exact ⟨b,h1,h2,h3,o,k b o h2 h3 ho,r⟩
theorem Y8 (hh:A.handled=none) (hld:l≠d) (hli:l≠it) (hdi:d≠it) (hsz:qs.length<=sizeLine) (hk:∀ q∈qs,(jC prog w).is q.1 q.2.1=true) (nd:(qs.map (·.1)).Nodup) (hn:items.size=qs.length) :
  ∀ (n i:Nat) (s:Shared),qs.length-i=n->i<=qs.length->s.heap.IsListIter it l i->s.heap.IsList l items->JE d it items qs s.heap->s.heap.DictOf (jC prog w) d ((qs.take i).map fun q=>(q.1,q.2.2)) ->
   (∀ h' tk,(∀ b o,b≠d->b≠it->s.heap.get? b=some o->h'.get? b=some o)->h'.DictOf (jC prog w) d (qs.map fun q=>(q.1,q.2.2))->R (.ok (.ret .none)) { s with heap:=h',toks:=tk }) ->
   codeAny (model prog w) A (.builtin "dict.update.loop" ⟨[.ref d,.ref it,rawInt i,.none],[]⟩) R s:=by
 have hh1:A.in1.handled=none:=by simp [hh]
 intro n
 induction n with
 | zero =>
  intro i s e hi st hl ht hd hR
  obtain rfl:i=qs.length:=by omega
  refine codeAny_builtin uX ?_
  rw [Around.under_plainId zC _]
  show wpAny _ A.in1 (pyNext (.ref it) >>= _) _ _ s
  refine wpAny_bind (wpAny_pyNext_list_end hh1 st hl (by simp;omega) fun h' eb=>?_)
  show wpAny _ A.in1 (Builtin.Dict.addKeywords d [] >>= _) _ _ _
  rw [List.take_length] at hd
  exact wpAny_bind (wpAny_pure (wpAny_pure (hR h' s.toks (fun b o _ h2 h=>eb b o h2 h) (hd.extBut eb hdi))))
 | succ n ih =>
  intro i s e hi st hl ht hd hR
  have hlt:i<qs.length:=by omega
  obtain ⟨⟨k,kv,v⟩,hq⟩:∃ q,qs[i]? = some q:=⟨_,List.getElem?_eq_getElem hlt⟩
  obtain ⟨b,hb,bd,bi,hbt⟩:=ht i _ hq
  refine codeAny_builtin uX ?_
  rw [Around.under_plainId zC _]
  show wpAny _ A.in1 (pyNext (.ref it) >>= _) _ _ s
  refine wpAny_bind (wpAny_pyNext_list_item st hl hb fun h1 st1 sb=>?_)
  have hbt1:h1.IsTuple b #[kv,v]:=by
   obtain ⟨o,ho,r⟩:=hbt
   exact ⟨o,(sb.2 b bi).trans ho,r⟩
  show wpAny _ A.in1 (holding [Value.ref b] _ >>= _) _ _ _
  obtain ⟨ob,hob,hcb,nb,hdb⟩:=hbt1
  refine wpAny_bind (wpAny_holding (wpAny_bind (wpAny_tryCatch ?_)))
  unfold Builtin.Dict.pairItems
  refine wpAny_bind (wpAny_typeOf (T:="tuple") ⟨ob,hob,hcb⟩ ?_)
  rw [if_pos (by decide)]
  refine wpAny_bind (wpAny_seqItems hob hdb (wpAny_pure ?_))
  show wpAny _ A.in1 (holding [kv,v] (dictSet d kv v)) _ _ _
  have hd1:h1.DictOf (jC prog w) d ((qs.take i).map fun q=>(q.1,q.2.2)):=hd.sameBut sb hdi
  refine wpAny_holding (wpAny_dictSet_pairs (s:={ s with heap:=h1 }) (hk _ (List.mem_of_getElem? hq)) hd1 (fun h2 hd2 sd=>?_) (by rw [List.length_map,List.length_take];omega))
  refine wpAny_pure ⟨plainId_quiet zC _,?_⟩
  have keep:∀ c o,c≠d->c≠it->s.heap.get? c=some o->h2.get? c=some o:=fun c o n1 n2 h=>(sd.2 c n1).trans ((sb.2 c n2).trans h)
  refine ih (i+1) { s with heap:=h2,toks:=s.toks+1 } (by omega) (by omega) ?_ ?_ (ht.keep keep) ?_ fun h3 tk k3 d3=>?_
  ·obtain ⟨o,ho,r⟩:=st1
   exact ⟨o,(sd.2 it hdi.symm).trans ho,r⟩
  ·obtain ⟨o,ho,r⟩:=hl
   exact ⟨o,keep l o hld hli ho,r⟩
  ·have e:stored ((qs.take i).map fun q=>(q.1,q.2.2)) k v=(qs.take (i+1)).map fun q=>(q.1,q.2.2):=by
    rw [stored,if_neg,List.take_add_one,hq]
    ·simp
    ·intro z
     obtain ⟨x,hx,ex⟩:=List.any_eq_true.mp z
     obtain ⟨u,hu,rfl⟩:=List.mem_map.mp hx
     have ex:u.1=k:=of_decide_eq_true ex
     obtain ⟨j,hj,ej⟩:=List.mem_iff_getElem.mp hu
     rw [List.length_take] at hj
     rw [List.getElem_take] at ej
     obtain ⟨_,eq⟩:=List.getElem?_eq_some_iff.mp hq
     have h1:(qs.map (·.1))[j]'(by rw [List.length_map];omega)=(qs.map (·.1))[i]'(by rw [List.length_map];exact hlt):=by rw [List.getElem_map,List.getElem_map,ej,eq,ex]
     exact absurd h1 (List.pairwise_iff_getElem.mp nd j i _ _ (by omega))
   rw [<- e]
   exact hd2
  ·exact hR h3 tk (fun c o n1 n2 h=>k3 c o n1 n2 (keep c o n1 n2 h)) d3
end
section
variable {prog:Program}{w:World}{A:Around}{E:Value->Shared->Prop}{s:Shared}{l:Addr}{ol:Obj}{nl:Nat}{items:Array Value}{qs:List (Key×Value×Value)}
theorem QW {Q:Value->Shared->Prop}(hh:A.handled=none) (ho:s.heap.get? l=some ol) (hc:ol.cls = .type "list") (hdt:ol.data = .seq items nl) (hdc:ol.dict=none) (hsz:qs.length<=sizeLine) (hk:∀ q∈qs,(jC prog w).is q.1 q.2.1=true) (nd:(qs.map (·.1)).Nodup) (hn:items.size=qs.length)
  (ht:∀ (i:Nat) (q:Key×Value×Value),qs[i]? = some q->∃ b:Addr,items[i]? = some (.ref b)/\s.heap.IsTuple b #[q.2.1,q.2.2])
  (h:∀ h' tk,(∀ b o,s.heap.get? b=some o->h'.get? b=some o)->h'.DictOf (jC prog w) s.heap.objs.size (qs.map fun q=>(q.1,q.2.2))->Q (.ref s.heap.objs.size) { s with heap:=h',toks:=tk }) :
  wpAny (model prog w) A (call (.type "dict") [.ref l]) Q E s:=by
 refine callType_codes (Q₁:=fun obj s₁=>obj = .ref s.heap.objs.size/\s₁={ s with heap:=s.heap.push { cls:=.type "dict",data:=.dict #[] } }) F.kt_called_dict (F.kt_typeCall_dict_1 _) F.entry_dict_init (kt_code_dict_new _ ⟨rfl,rfl⟩) ?_
 rintro obj s₁ ⟨rfl,rfl⟩
 have hnew:(s.heap.push { cls:=.type "dict",data:=.dict #[] }).DictOf (jC prog w) s.heap.objs.size []:=Heap.DictOf.new s.heap
 have kp:∀ b o,s.heap.get? b=some o->(s.heap.push { cls:=.type "dict",data:=.dict #[] }).get? b=some o:=fun b o q=>Heap.get?_push_of_some _ q
 refine ⟨hnew.typeIs,F.args_dict_init_2 _ _,?_⟩
 have lt:∀ b o,s.heap.get? b=some o->b≠s.heap.objs.size:=fun b o q=>Nat.ne_of_lt (Heap.lt_size q)
 unfold Builtin.«dict.__init__»
 refine wpAny_bind ?_
 unfold Builtin.Dict.selfAndRest
 refine wpAny_bind (wpAny_notOrdered_dict hnew.typeIs ?_)
 show wpAny _ _ (pure (s.heap.objs.size,[Value.ref l])) _ _ _
 refine wpAny_pure ?_
 show wpAny _ _ (Builtin.Dict.updateFrom "dict.__init__" s.heap.objs.size (.ref l) [] .none) _ _ _
 unfold Builtin.Dict.updateFrom
 refine wpAny_bind (wpAny_typeOf (T:="list") ⟨_,kp _ _ ho,hc⟩ ?_)
 rw [if_pos (by decide)]
 generalize hz:s.heap.push { cls:=.type "dict",data:=.dict #[] }=h0 at *
 refine wpAny_bind (ZT (s:={ s with heap:=h0 }) (kp _ _ ho) hc hdt hdc (by simp [hh]) fun h1 tk k1=>?_)
 rw [if_pos (show (none:Option Value).isNone=true from rfl)]
 have hl1:h1.IsList l items:=⟨ol,k1 _ _ (kp _ _ ho),hc,nl,hdt⟩
 refine wpAny_bind (wpAny_rule ?_)
 refine wpAny_bind (wpAny_pyIter_list (s:={ s with heap:=h1,toks:=tk }) hl1 (wpAny_pure ⟨plainId_quiet zC _,?_⟩))
 obtain ⟨od,_,_,hod,_⟩:=id hnew
 have hi1:∀ b o,h1.get? b=some o->b≠h1.objs.size:=fun b o q=>Nat.ne_of_lt (Heap.lt_size q)
 have kp2:∀ b o,s.heap.get? b=some o->(h1.push { cls:=.type "list_iterator",data:=.fields #[.ref l,.int 0 0] }).get? b=some o:=fun b o q=>Heap.get?_push_of_some _ (k1 _ _ (kp _ _ q))
 refine Y8 (d:=s.heap.objs.size) (it:=h1.objs.size) (l:=l) (items:=items) (qs:=qs) (by simp [hh]) (lt _ _ ho) (hi1 _ _ (k1 _ _ (kp _ _ ho))) (hi1 _ _ (k1 _ _ hod)) hsz hk nd hn qs.length 0 _ (by omega) (Nat.zero_le _) ⟨_,Heap.get?_push_size _ rfl,rfl,rfl⟩ (hl1.push _) (fun i q hq=>?_) ?_ fun h' tk' k' d'=>?_
 ·obtain ⟨b,hb,o,hbo,r⟩:=ht i q hq
  exact ⟨b,hb,lt _ _ hbo,hi1 _ _ (k1 _ _ (kp _ _ hbo)),o,kp2 _ _ hbo,r⟩
 ·obtain ⟨o,es,ep,ho',r⟩:=hnew
  exact ⟨o,es,ep,Heap.get?_push_of_some _ (k1 _ _ ho'),r⟩
 ·exact ⟨rfl,h h' tk' (fun b o q=>k' b o (lt _ _ q) (hi1 _ _ (k1 _ _ (kp _ _ q))) (kp2 _ _ q)) d'⟩
end
theorem uW {α β:Type}(P:Nat->α->β->Prop):∀ (l:List α) (n:Nat),(∀ (i:Nat) a,l[i]? = some a->∃ b,P (n+i) a b)->∃ bs:List β,bs.length=l.length/\∀ (i:Nat) a b,l[i]? = some a->bs[i]? = some b->P (n+i) a b
 | [],n,_=>⟨[],rfl,fun i a b h=>by simp at h⟩
 | x::r,n,h=>by
  obtain ⟨b,hb⟩:=h 0 x rfl
  obtain ⟨bs,hl,hbs⟩:=uW P r (n+1) fun i a hi=>by
   have:=h (i+1) a (by simpa using hi)
   rwa [show n+1+i=n+(i+1) by omega]
  refine ⟨b::bs,by simp [hl],fun i a b' h1 h2=>?_⟩
  cases i with
  | zero =>
   simp at h1 h2
   subst h1 h2
   exact hb
  | succ i =>
   have:=hbs i a b' (by simpa using h1) (by simpa using h2)
   rwa [show n+(i+1)=n+1+i by omega]
theorem gJ {α β:Type}{F:α->β->Prop}:∀ {l₁:List α}{l₂:List β},l₁.length=l₂.length->(∀ (i:Nat) a b,l₁[i]? = some a->l₂[i]? = some b->F a b)->Paired F l₁ l₂
 | [],[],_,_=>.nil
 | [],_::_,h,_=>by simp at h
 | _::_,[],h,_=>by simp at h
 | x::r,y::t,h,k=>.cons (k 0 x y rfl rfl) (gJ (by simpa using h) fun i a b h1 h2=>k (i+1) a b (by simpa using h1) (by simpa using h2))
theorem Xe {X:Cx}(K:PySem.W.Frag) (hca:X.calm=true) (hK:X.K=K:=by rfl):qJ X (.type "dict") (fun xs H Q=>∃ (p:Addr) (out:List V) (ms:List (Int×Int)),xs=[.ref p]/\SqL K H p out/\Paired (fun v (m:Int×Int)=>∃ b,v=V.ref b/\H b=some (.tup [.int m.1,.int m.2])) out ms/\(ms.map (·.1)).Nodup/\ms.length<=1000 /\
  ∀ (d:Addr) H',H d=none->H' d=some (.dK (ms.map fun m=>(.inl m.1,.int m.2)))->jj H H'->Q (.ref d) H'):=by
 subst hK
 intro pins s σ H xs us Q I r h
 obtain ⟨p,out,ms,rfl,hq,hm,nd,h1000,k⟩:=h
 obtain ⟨u,rfl,ru⟩:=yb r
 cases ru
 obtain ⟨its,rv,⟨ol,nl,ho,hc,hdc,hdt⟩,hz⟩:=I.list hq
 have hlen:out.length=ms.length:=Paired.length hm
 have hits:out.length=its.length:=rv.length
 obtain ⟨qs,hql,hqs⟩:=uW (fun i (m:Int×Int) (q:Key×Value×Value)=>∃ (b:Addr) (t1 t2:Tok),q=(.inl m.1,.int m.1 t1,.int m.2 t2)/\its[i]? = some (.ref b)/\s.heap.IsTuple b #[.int m.1 t1,.int m.2 t2]) ms 0 fun i m hi=>by
  rw [Nat.zero_add]
  have hio:i<out.length:=by rw [hlen];exact (List.getElem?_eq_some_iff.mp hi).1
  obtain ⟨m',hm',b,eb,hb⟩:=Paired.get hm (List.getElem?_eq_getElem hio)
  rw [hi] at hm'
  cases hm'
  obtain ⟨u,hu,ru⟩:=rv.get (List.getElem?_eq_getElem hio)
  rw [eb] at ru
  cases (show u=Value.ref b from ru)
  obtain ⟨_,its',r',o,h1,h2,n,h3⟩:=(show qe X.prog X.w H s.heap b (.tup [.int m.1,.int m.2]) from I.hok b _ hb)
  cases r' with
  | cons p1 q1 =>
   cases q1 with
   | cons p2 q2 =>
    cases q2
    obtain ⟨t1,rfl⟩:=p1
    obtain ⟨t2,rfl⟩:=p2
    exact ⟨_,b,t1,t2,rfl,hu,o,h1,h2,n,h3⟩
 have get:∀ (i:Nat) (q:Key×Value×Value),qs[i]? = some q->∃ (m:Int×Int) (b:Addr) (t1 t2:Tok),ms[i]? = some m/\q=(.inl m.1,.int m.1 t1,.int m.2 t2)/\its[i]? = some (.ref b)/\s.heap.IsTuple b #[.int m.1 t1,.int m.2 t2]:=fun i q hi=>by
  have him:i<ms.length:=by rw [<- hql];exact (List.getElem?_eq_some_iff.mp hi).1
  obtain ⟨b,t1,t2,e,h1,h2⟩:=hqs i _ q (List.getElem?_eq_getElem him) hi
  rw [Nat.zero_add] at h1
  exact ⟨_,b,t1,t2,List.getElem?_eq_getElem him,e,h1,h2⟩
 have keys:qs.map (·.1)=ms.map fun m=>(Sum.inl m.1:Key):=by
  refine List.ext_getElem? fun i=>?_
  rw [List.getElem?_map,List.getElem?_map]
  cases e:qs[i]? with
  | none =>
   rw [List.getElem?_eq_none_iff] at e
   rw [List.getElem?_eq_none_iff.mpr (by omega)]
   rfl
  | some q =>
   obtain ⟨m,b,t1,t2,h1,h2,_⟩:=get i q e
   rw [h1,h2]
   rfl
 have ndk:(qs.map (·.1)).Nodup:=by
  rw [keys,show (ms.map fun m=>(Sum.inl m.1:Key))=(ms.map (·.1)).map Sum.inl by rw [List.map_map];rfl]
  exact List.Pairwise.map _ (fun a b h e=>h (Sum.inl.inj e)) nd
 have KVr:KV (ms.map fun m=>((.inl m.1,.int m.2):Key×V)) (qs.map fun q=>(q.1,q.2.2)):=by
  refine gJ (by rw [List.length_map,List.length_map,hql]) fun i a b h1 h2=>?_
  rw [List.getElem?_map] at h1 h2
  obtain ⟨q,hq',rfl⟩:=Option.map_eq_some_iff.mp h2
  obtain ⟨m,_,t1,t2,hm',e,_⟩:=get i q hq'
  rw [hm'] at h1
  cases h1
  subst e
  exact ⟨rfl,t2,rfl⟩
 refine QW (qs:=qs) (I.ok.hd hca) ho hc hdt hdc (by rw [hql];exact Nat.le_trans h1000 (by decide)) (fun q hq'=>?_) ndk (by simp;omega) (fun i q hi=>?_) fun h' tk keep dd=>?_
 ·obtain ⟨i,hi,e⟩:=List.mem_iff_getElem.mp hq'
  obtain ⟨m,b,t1,t2,h1,h2,_⟩:=get i q (by rw [List.getElem?_eq_getElem hi,e])
  subst h2
  exact kT (k:=.inl m.1) ⟨t1,rfl⟩
 ·obtain ⟨m,b,t1,t2,h1,h2,h3,h4⟩:=get i q hi
  subst h2
  exact ⟨b,by simpa using h3,h4⟩
 ·have hf:=I.hok.fresh (Nat.le_refl s.heap.objs.size)
  exact ⟨.ref _,upd H s.heap.objs.size (.dK (ms.map fun m=>((.inl m.1,.int m.2):Key×V))),I.laid (t':=tk) keep (Nat.le_refl _) (Xf (by rw [List.length_map];exact Nat.le_trans h1000 (by decide)) (beq_eq_false_iff_ne.mpr (Ne.symm (Nat.ne_of_lt I.big))) KVr dd),rfl,k _ _ hf j6 (jj.new hf)⟩
end L2
end
section
namespace L2
open PySem PySem.Spec PySem.W PyProof.Rows
theorem wT:∀ (ns:List Int) (its:List Value),its.length=ns.length->(∀ i,i<its.length->∃ t,its[i]? = some (.int (ns.getD i 0) t))->jz (ns.map V.int) its
 | [],[],_,_=>.nil
 | n::ns,v::its,hl,h=>by
  obtain ⟨t,e⟩:=h 0 (by simp)
  have e:v = .int n t:=by simpa using e
  refine .cons ⟨t,e⟩ (wT ns its (by simpa using hl) fun i hi=>?_)
  obtain ⟨t,e⟩:=h (i+1) (by simpa using hi)
  exact ⟨t,by simpa using e⟩
section
variable {X:Cx}
theorem kN (K:PySem.W.Frag) (hca:X.calm=true) (hK:X.K=K:=by rfl):qJ X (.type "list") (fun xs H Q=>∃ (p:Addr) (kvs:List (Key×V)) (ns:List Int),xs=[.ref p]/\Rd H p (.dK kvs)/\kvs.map (·.1)=ns.map Sum.inl/\ns.length<=1000/\New H (.lst (ns.map V.int)) Q):=by
 subst hK
 intro pins s σ H xs us Q I r h
 obtain ⟨p,kvs,ns,rfl,hp0,hks,hl,k⟩:=h
 obtain ⟨u,rfl,ru⟩:=yb r
 cases ru
 obtain ⟨hz,lo,vs,kv,dd⟩:=vR I.hok hp0
 obtain ⟨ep,hat⟩:=dd.dictAt
 have hvl:vs.length=ns.length:=by
  have e1:kvs.length=vs.length:=Paired.length kv
  have e2:=congrArg List.length hks
  rw [List.length_map,List.length_map] at e2
  omega
 refine kdl_call (kdl_dict (knd:=jC X.prog X.w) (kvs:=vs) (ep:=ep) lo) (I.ok.hd hca) hat (Nat.le_of_lt (jd (by omega))) fun h' tk acc c' hk hD hacc=>?_
 have hal:acc.toList.length=ns.length:=by rw [Array.length_toList,hacc.1,hvl]
 have item:∀ i,i<acc.toList.length->∃ t,acc.toList[i]? = some (.int (ns.getD i 0) t):=fun i hi=>by
  have hi2:i<acc.size:=by rw [Array.length_toList] at hi;exact hi
  obtain ⟨key,x,hx,his⟩:=hacc.2 i acc[i] (Array.getElem?_eq_getElem hi2)
  have hi3:i<kvs.length:=by
   have e1:kvs.length=vs.length:=Paired.length kv
   omega
  obtain ⟨q,hq,e1,_⟩:=Paired.get kv (List.getElem?_eq_getElem hi3)
  rw [hx] at hq
  cases hq
  have e2:(kvs.map (·.1))[i]? = some key:=by rw [List.getElem?_map,List.getElem?_eq_getElem hi3];exact congrArg some e1
  have hin:i<ns.length:=by omega
  rw [hks,List.getElem?_map,List.getElem?_eq_getElem hin] at e2
  cases e2
  obtain ⟨t,et⟩:=Value.isInt_shape his
  refine ⟨t,?_⟩
  rw [Array.getElem?_toList,Array.getElem?_eq_getElem hi2,et,List.getD_eq_getElem?_getD,List.getElem?_eq_getElem hin]
  rfl
 have hn0:s.heap.get? s.heap.objs.size=none:=by
  cases q:s.heap.get? s.heap.objs.size with
  | none=>rfl
  | some u=>exact absurd (Heap.lt_size q) (Nat.lt_irrefl _)
 obtain ⟨hH,I'⟩:=I.laidN (o:=.lst (ns.map V.int)) (t':=tk) hk hn0 fun _=>⟨by rw [List.length_map];exact Nat.le_of_lt (jd hl),acc.toList,c',wT ns _ hal item,by simpa using hD⟩
 exact ⟨.ref s.heap.objs.size,_,I',rfl,k _ _ hH j6 (jj.new hH)⟩
theorem Y0 (K:PySem.W.Frag) (hc:X.calm=true) (hK:X.K=K:=by rfl):qJ X (.builtin "max") (fun xs H Q=>∃ (p:Addr) (ns:List Int),xs=[.ref p]/\SqL K H p (ns.map V.int)/\0<ns.length/\∀ M,M∈ns->(∀ a∈ns,a<=M)->Q (.int M) H):=by
 subst hK
 intro pins s σ H xs us Q I r h
 obtain ⟨p,ns,rfl,hq,hne,q⟩:=h
 obtain ⟨u,rfl,ru⟩:=yb r
 cases ru
 obtain ⟨its,rv,pl,hz⟩:=I.list hq
 have hi:=xr rv
 have hl:=pl.isList
 obtain ⟨xs,e⟩:=hi.allInts.items
 have hns:ns=xs.toList.map (·.1):=by
  rw [<- hi.numsOf,<- nums_intItems,<- e]
 have hsz:0<xs.size:=by
  have h3:=hne;rw [hns,List.length_map,Array.length_toList] at h3;exact h3
 rw [e] at hl
 refine max_intList (I.ok.hd hc) hl hsz fun v h' tk hv hk=>?_
 obtain ⟨t,rfl⟩:=intItems_at hv
 obtain ⟨h1,h2⟩:=argBest_gt (numAt xs) (xs.size-1)
 refine ⟨.int _,H,I.kept hk,⟨t,rfl⟩,q _ ?_ fun a ha=>?_⟩
 ·rw [hns,numAt_eq];exact getD_mem (by rw [List.length_map,Array.length_toList];omega)
 ·rw [hns] at ha
  obtain ⟨j,hj,rfl⟩:=mem_getD ha
  rw [List.length_map,Array.length_toList] at hj
  rw [<- numAt_eq];exact h2 j (by omega)
end
end L2
end
section
namespace K18
open PySem PySem.Spec PyProof.Rows L2
local macro_rules | `(tactic| walk_at "hp")=>`(tactic| first | assumption | exact j6 | (rw [j5 (by first | assumption | (apply Ne.symm;assumption))];first | assumption | exact j6))
local macro_rules | `(tactic| walk_at "num")=>`(tactic| first | decide | omega)
local macro_rules | `(tactic| walk_at "rd1")=>`(tactic| first | refine ⟨_,rfl,?_⟩ | refine ⟨_,_,rfl,rfl,?_⟩ | refine And.intro (show JA _ _ from Or.inr ⟨by walk_at "num",by walk_at "num"⟩) ?_ | refine And.intro (show JA _ _ from Or.inl ⟨by walk_at "num",by walk_at "num"⟩) ?_ | refine And.intro (show Zb _ _ from ⟨by walk_at "num",by walk_at "num"⟩) ?_ | refine And.intro (show VW _ _ from ⟨by walk_at "num",by walk_at "num",by walk_at "num"⟩) ?_ | refine And.intro (show (0:Int)<_ by walk_at "num") ?_ | refine ⟨_,_,_,_,rfl,rfl,SqL.of (by walk_at "hp"),(by rfl),?_⟩ | refine ⟨_,_,_,_,rfl,rfl,SqT.of (by walk_at "hp"),(by rfl),?_⟩ | refine ⟨_,_,_,_,rfl,rfl,(by assumption),(by rfl),?_⟩ | refine ⟨_,_,_,_,rfl,rfl,(by walk_at "hp"),(by rfl),?_⟩ | refine ⟨rfl,?_⟩)
local macro_rules | `(tactic| walk_at "r")=>`(tactic| repeat walk_at "rd1")
local macro_rules | `(tactic| walk_at "s")=>`(tactic| exact ⟨rfl,rfl,rfl,by decide +kernel,rfl,by decide +kernel,by decide +kernel⟩)
local macro_rules | `(tactic| walk_at "k")=>`(tactic| decide +kernel)
local macro_rules | `(tactic| walk_at "w")=>`(tactic| (intro _ z;cases z))
local macro_rules | `(tactic| walk_at "z")=>`(tactic| (intro z;cases z))
def top (i:Nat):Stmt:=PySem.Challenge.pw_firnfall_k18_whole_far_years_come_round.main.body.getD i (.Pass ⟨0,0,0,0⟩)
abbrev QX:Stmt:=top 2
abbrev Jt:Stmt:=top 3
abbrev zp:Stmt:=top 19
abbrev zV:Stmt:=top 20
abbrev vF:Stmt:=top 21
abbrev Jq:Stmt:=top 22
abbrev qS:Stmt:=top 23
abbrev vh:Stmt:=top 24
abbrev wN:Stmt:=top 25
abbrev xo:Stmt:=top 26
abbrev yJ:Stmt:=top 27
abbrev zX:Stmt:=top 32
abbrev zU:Stmt:=top 33
abbrev kB:Stmt:=top 34
abbrev y9:Stmt:=top 39
abbrev zI:Stmt:=top 40
abbrev zL:Stmt:=top 41
abbrev qC:Stmt:=(zc (top 42) 0)
abbrev xm:Stmt:=(zc (top 42) 4)
abbrev xa:Stmt:=(zc (top 42) 5)
abbrev zD:Stmt:=(zc (top 42) 6)
abbrev zH:Stmt:=(zc (top 42) 7)
abbrev yk:Stmt:=(zc (top 42) 8)
abbrev zZ:Stmt:=(zc (top 42) 10)
abbrev xF:Stmt:=(zc (top 42) 14)
abbrev vD:Stmt:=(zc (top 42) 16)
abbrev yH:Stmt:=top 44
abbrev vC:Stmt:=top 45
abbrev kI:Stmt:=top 46
abbrev Xy:Stmt:=top 47
abbrev XZ:Stmt:=top 48
abbrev XX:Stmt:=top 50
abbrev kK:Stmt:=top 51
abbrev XS:Stmt:=top 52
abbrev uJ:Stmt:=top 54
abbrev yx:Stmt:=top 55
abbrev vH:Stmt:=top 56
abbrev yq:Stmt:=top 57
abbrev xS:Stmt:=top 58
abbrev zN:Stmt:=top 59
abbrev zA:Stmt:=top 60
abbrev qh:Stmt:=top 61
abbrev qZ:Stmt:=top 62
abbrev xK:Stmt:=top 63
abbrev zW:Stmt:=top 64
abbrev vg:Stmt:=top 65
abbrev xL:Stmt:=top 66
abbrev vB:Stmt:=top 67
abbrev uB:Stmt:=top 68
abbrev vv:Stmt:=top 69
abbrev vq:Stmt:=top 70
abbrev vx:Stmt:=top 71
abbrev vn:Stmt:=top 72
abbrev yI:Stmt:=top 73
abbrev yF:Stmt:=top 74
section
variable {P:Program}{w:World}{K:PySem.W.Frag}{mg:Str->Option Value}{base:Heap}
abbrev Ww:Pos:=⟨61,28,61,49⟩
abbrev qy (H:Hp) (Pt:Addr):Prop:=Tab H Pt Ww (("lanes" : Str) ++ ".<locals>." ++ "<lambda>")
def Zf:Sp:=fun vs H Q _=>∃ (i:Nat) (t:Int),vs=[.int i,.int t]/\Q (.bl (xB i t)) H
theorem Qk:FnScope ["number","to"] ["number","to"] (j8 vF):=by walk_at "s"
theorem QO {f:Addr}{fd:FuncData}(F:Fun K "leads_on" "leads_on" vF f fd):FnOk P w K mg base CX0 1 f fd ["number","to"] Zf:=by
 refine F.ok Qk (fun vs H Q E h=>?_) (fun cdv A outer s H vs Q E hr h=>?_)
 ·obtain ⟨i,t,rfl,_⟩:=h
  rfl
 ·obtain ⟨i,t,rfl,k⟩:=h
  refine ⟨_,(j4 (jV (jD uT (pv 0) j7 (jI _)) (j9 (jk (zw uT (pv 1) (yZ zF j7) (jI _)))) jy)
   (j9 (jk (zP qu yV j7 (pv 1) (pv 0))))),?_⟩
  have fin:∀ b:Bool,b=xB i t->Q (.bl b) H:=fun b e=>by rw [e];exact k
  walk_at "r"
  refine qB (fun h1=>?_) (fun h1=>?_)
  ·walk_at "r"
   have h1':i=0:=by have:=V.int.inj h1;omega
   refine fin _ ?_
   unfold xB
   rw [if_pos h1']
   exact decide_eq_decide.mpr ⟨fun z=>V.int.inj z,fun z=>by rw [z]⟩
  ·have h1':i≠0:=fun z=>h1 (by rw [z];rfl)
   walk_at "r"
   refine qB (fun h2=>?_) (fun h2=>?_)
   ·walk_at "r"
    refine fin _ ?_
    unfold xB
    rw [if_neg h1']
    exact decide_eq_decide.mpr ⟨fun z=>⟨h2,z⟩,fun z=>z.2⟩
   ·refine fin _ ?_
    unfold xB
    rw [if_neg h1',decide_eq_false (fun z=>h2 z.1)]
def ZC:Sp:=fun vs H Q _=>∃ (i:Nat) (v:V) (r:Rch),vs=[.int i,v]/\Jz H v r/\r.2.length<=100/\∀ H',jj H H'->Q (.bl (okR i r)) H'
theorem yD:FnScope ["number","reach","to","slope"] ["number","reach"] (j8 zV):=by walk_at "s"
theorem JY {f:Addr}{fd:FuncData}{u0 u1:Tok}(nb:Nb2 mg) (g_MOST_HEIGHTS:mg "MOST_HEIGHTS" = some (.int 12 u0)) (g_GREATEST_HEIGHT:mg "GREATEST_HEIGHT" = some (.int 99 u1)) (c_leads_on:Cal P w K mg base 1 "leads_on" ["number","to"] Zf) (F:Fun K "is_reach" "is_reach" zV f fd):FnOk P w K mg base CX0 2 f fd ["number","reach"] ZC:=by
 refine F.ok yD (fun vs H Q E h=>?_) (fun cdv A outer s H vs Q E hr h=>?_)
 ·obtain ⟨i,v,r,rfl,_⟩:=h
  rfl
 ·obtain ⟨i,v,⟨t,hs⟩,rfl,⟨p,g,rfl,hp,hg⟩,h100,k⟩:=h
  have h100':hs.length<=100:=h100
  have fin:∀ (b:Bool) (H':Hp),jj H H'->b=okR i (t,hs)->Q (.bl b) H':=fun b H' sm e=>by rw [e];exact k H' sm
  refine ⟨_,(j4 (xY (pv 1) (qk (n:=2) K rfl (jh (ja (i:=2) yD.nd rfl (Or.inl rfl)) (jh (ja (i:=3) yD.nd rfl (Or.inl rfl)) qj))))
   (j4 (jV (PW.pt (UX (xf (zK (jc c_leads_on (hr.mono (by decide)) rfl (j0 (pv 0) (j0 (pv 2) j2))))) (VA (xf (xM qu qu j7 (jf (ji K) rfl nb.b_len PySem.boot_len (j0 (pv 3) j2)) (x6 (v:=V.int 12) rfl g_MOST_HEIGHTS ⟨_,rfl⟩)))))) (j9 (jk Jd)) jy)
   (j9 (jk (jf (zT K rfl) rfl nb.b_all boot_all (j0 (jY (osc:=(j8 zV)) (ON:=["number","reach","to","slope"]) (N:=["height"]) (own:=1) (caps:=[]) ⟨rfl,by walk_at "k",by walk_at "k",by walk_at "k",rfl,by walk_at "k"⟩ rfl rfl rfl (ui K (pv 3)) (fun _ _ _ _ _=>(ja (i:=0) (show List.Nodup (["height"]:List Str) by decide +kernel) rfl (Or.inl rfl))) (fun _ _ _ _ _=>jF) (fun _ _ _ _ _=>(zP qu qu j7 (pv 0) (x6 (v:=V.int 99) rfl g_GREATEST_HEIGHT ⟨_,rfl⟩)))) j2)))))),?_⟩
  walk_at "r"
  refine ⟨p,_,rfl,SqT.of hp,rfl,?_⟩
  refine ⟨_,_,rfl,_,_,rfl,rfl,?_⟩
  walk_at "r"
  refine ⟨i,t,rfl,?_⟩
  walk_at "r"
  cases hl:xB i t with
  | false =>
   refine yn ?_
   walk_at "r"
   exact fin _ H (jj.refl H) (by unfold okR;rw [hl];rfl)
  | true =>
   refine vM ?_
   walk_at "r"
   refine ⟨_,_,rfl,.inr (SqT.of hg),?_⟩
   walk_at "r"
   rw [List.length_map]
   refine qB (fun h1=>?_) (fun h1=>?_)
   ·walk_at "r"
    refine ya (fun h2=>?_) (fun h2=>?_)
    ·walk_at "r"
     exact fin _ H (jj.refl H) (by unfold okR;rw [hl,decide_eq_false (fun z=>h2 z.2)];rfl)
    ·walk_at "r"
     refine ⟨⟨_,SqT.of hg⟩,fun acc hacc=>?_⟩
     refine Qo (K:=K) (a:=g) (xs:=hs.map V.int) (acc:=acc) (fun j σ H2=>∃ x:Option V,σ=[x]/\H2 acc=some (.lst (((hs.take j).map fun x=>decide (0<=x/\x<=99)).map V.bl))/\Ext acc H H2) ?_ ?_ ?_ ?_
     ·exact ⟨none,rfl,j6,Ext.put⟩
     ·rintro j σ H2 hj ⟨x,rfl,h3,e3⟩
      exact SqT.of (e3 _ _ hg (j1 hg hacc))
     ·rintro j v σ H2 hv ⟨x,rfl,h3,e3⟩
      obtain ⟨z,rfl⟩:=yw hv
      have hz:hs[j]? = some z:=by
       rw [List.getElem?_map] at hv
       cases e:hs[j]? with
       | none=>rw [e] at hv;cases hv
       | some y=>rw [e] at hv;cases hv;rfl
      have hj:j<hs.length:=(List.getElem?_eq_some_iff.mp hz).1
      have done:∀ b:Bool,b=decide (0<=z/\z<=99)->∃ ys,H2 acc=some (.lst ys)/\ys.length<sizeLine/\∃ x:Option V,[some (V.int z)]=[x]/\upd H2 acc (.lst (ys++[V.bl b])) acc=some (.lst (((hs.take (j+1)).map fun x=>decide (0<=x/\x<=99)).map V.bl))/\Ext acc H (upd H2 acc (.lst (ys++[V.bl b]))):=fun b e=>by
       refine ⟨_,h3,by rw [List.length_map,List.length_map,List.length_take];exact jd (by omega),_,rfl,?_,e3.trans Ext.put⟩
       rw [j6,qv (fun x=>decide (0<=x/\x<=99)) hs j z hz,List.map_append,e]
       rfl
      walk_at "r"
      refine qB (fun h4=>?_) (fun h4=>?_)
      ·walk_at "r"
       exact done _ (decide_eq_decide.mpr ⟨fun y=>⟨h4,y⟩,fun y=>y.2⟩)
      ·exact done _ (decide_eq_false fun y=>h4 y.1).symm
     ·rintro σ H2 ⟨x,rfl,h3,e3⟩
      rw [List.length_map,List.take_length] at h3
      refine ⟨acc,_,rfl,SqL.of h3,?_⟩
      refine fin _ H2 (fun c o hc=>e3 c o hc (j1 hc hacc)) ?_
      unfold okR
      rw [hl,decide_eq_true (show (1<=(hs.length:Int)/\(hs.length:Int)<=12) from ⟨h1,h2⟩),List.all_map]
      rfl
   ·refine ⟨_,rfl,yn ?_⟩
    walk_at "r"
    exact fin _ H (jj.refl H) (by unfold okR;rw [hl,decide_eq_false (fun z=>h1 z.1)];rfl)
def Ja (K:PySem.W.Frag):Sp:=fun vs H Q _=>∃ (p:Addr) (xs:List V) (rs:List Rch) (h:Nat),vs=[.ref p,.int h]/\H p=some (.lst xs)/\jU H xs rs/\xh rs/\h<rs.length/\rs.length<=100/\∀ t H',H t=none->H' t=some (.tup ((qt rs h).map V.int))->jj H H'->Q (.ref t) H'
theorem zx:FnScope ["reaches","head","way","reach"] ["reaches","head"] (j8 vh):=by walk_at "s"
theorem Qi {f:Addr}{fd:FuncData}(nb:Nb2 mg) (F:Fun K "way_down" "way_down" vh f fd):FnOk P w K mg base CX0 1 f fd ["reaches","head"] (Ja K):=by
 refine F.ok zx (fun vs H Q E h=>?_) (fun cdv A outer s H vs Q E hr h=>?_)
 ·obtain ⟨p,xs,rs,h,rfl,_⟩:=h
  rfl
 ·obtain ⟨p,xs,rs,h,rfl,hp,hrw,L,hh,h100,k⟩:=h
  refine ⟨_,(j4 (jm (i:=2) zx.nd rfl (Or.inl rfl) (jL j2))
   (j4 (jm (i:=3) zx.nd rfl (Or.inl rfl) (pv 1))
   (j4 (wC PassesOwn.never (jD VL (pv 3) j7 (jI _)) (j4 (jO (zM K PySem.F.plainAttrs_list PySem.F.slot_list_append PySem.F.type_list_append qo (pv 2) (j0 (pv 3) j2)))
   (j9 (jm (i:=3) zx.nd rfl (Or.inl rfl) (jt (qL K) (jt (je K) (pv 0) (pv 3) (fun _ _=>rfl)) j7 (fun _ _=>rfl))))))
   (j9 (jk (qp (zk K) rfl nb.b_tuple PyProof.Rows.boot_tuple (j0 (pv 2) j2))))))),?_⟩
  walk_at "r"
  refine ⟨Nat.zero_le _,fun wy H1 hwy hwy1 s1=>?_⟩
  walk_at "r"
  have hlen:=hrw.length
  refine kj (fun σ H2=>∃ (pre:List Int) (r:Int),σ=[some (.ref p),some (.int h),some (.ref wy),some (.int r)]/\H2 wy=some (.lst (pre.map V.int))/\Ext wy H1 H2 /\ -1<=r/\r<rs.length/\pre.length+(r+1).toNat<=100/\pre++(if r<0 then [] else qt rs r.toNat)=qt rs h) (fun σ H2=>match σ with | [_,_,_,some (.int r)]=>(r+1).toNat | _=>0) ?_ ?_ ?_
  ·refine ⟨[],h,rfl,hwy1,Ext.refl,by omega,by omega,by simp;omega,?_⟩
   rw [if_neg (by omega)]
   rfl
  ·rintro σ H2 ⟨pre,r,rfl,hw2,e2,r0,r1,rl,heq⟩
   walk_at "r"
   refine qB (fun hr0=>?_) (fun hr0=>?_)
   ·have hp2:H2 p=some (.lst xs):=e2 _ _ (s1 _ _ hp) (j1 hp hwy)
    have hrw2:jU H2 xs rs:=hrw.keep ((jg.same s1).trans (jg.lst e2 hwy1))
    have hi:r.toNat<rs.length:=by omega
    obtain ⟨v,hv,q,g,rfl,hq,hg⟩:=hrw2.at (List.getElem?_eq_getElem hi)
    have ht:=L.lt hi
    have ht2:=(wP (L _ hi)).2.1
    have et:=JI (List.getElem?_eq_getElem hi)
    rw [et] at ht ht2
    generalize (rs[r.toNat]'hi).1=tt at ht ht2 et hq
    walk_at "r"
    refine ⟨.inl ⟨rfl,_,SqL.of hw2⟩,?_⟩
    walk_at "r"
    refine ⟨wy,_,_,rfl,rfl,hw2,by rw [List.length_map];exact jd (by omega),?_⟩
    have hne:q≠wy:=jp hq hw2 (by walk_at "z")
    have hp3:upd H2 wy (.lst (pre.map V.int++[.int r])) p=some (.lst xs):=by rw [j5 (j1 hp hwy)];exact hp2
    have hq3:upd H2 wy (.lst (pre.map V.int++[.int r])) q=some (.tup [.int tt,.ref g]):=by rw [j5 hne];exact hq
    walk_at "r"
    refine ⟨_,_,_,_,rfl,rfl,SqL.of hp3,qW hr0 hv,?_⟩
    refine ⟨_,_,_,_,rfl,rfl,SqT.of hq3,rfl,?_⟩
    refine ⟨⟨pre++[r],tt,rfl,?_,e2.trans Ext.put,by omega,by omega,?_,?_⟩,?_⟩
    ·rw [j6,List.map_append];rfl
    ·rw [List.length_append,List.length_singleton];omega
    ·rw [<- heq,if_neg (show ¬ r<0 by omega),zt L hi,et,List.append_assoc]
     congr 1
     show r::_=_
     congr 1
     omega
    ·show (tt+1).toNat<(r+1).toNat
     omega
   ·rw [if_pos (by omega),List.append_nil] at heq
    subst heq
    walk_at "r"
    refine ⟨wy,_,rfl,SqL.of hw2,fun t H3 ht ht3 s3=>?_⟩
    exact k t H3 (s1.free (e2.free ht (fun z=>by rw [z,hw2] at ht;cases ht))) ht3 (fun c o hc=>s3 _ _ (e2 _ _ (s1 _ _ hc) (j1 hc hwy)))
  ·intro σ H2 Q1 Q2 hQ h
   obtain ⟨v,e,r⟩:=h
   obtain ⟨i,j,e1,e2,kk,e3,r⟩:=r
   exact ⟨v,e,i,j,e1,e2,kk,e3,hQ _ _ r⟩
def Zm (K:PySem.W.Frag):Sp:=fun vs H Q _=>∃ (p a:Addr) (xs:List V) (rs:List Rch) (way:List Int),vs=[.ref p,.ref a]/\H p=some (.lst xs)/\jU H xs rs/\(∀ r∈rs,r.2.length<=100)/\H a=some (.tup (way.map V.int))/\(∀ r∈way,0<=r/\r<rs.length)/\way.length<=100/\∀ H',jj H H'->Q (.int (jA rs way)) H'
theorem wa:FnScope ["reaches","way"] ["reaches","way"] (j8 xo):=by walk_at "s"
theorem we {f:Addr}{fd:FuncData}(nb:Nb2 mg) (F:Fun K "count_places" "count_places" xo f fd):FnOk P w K mg base CX0 1 f fd ["reaches","way"] (Zm K):=by
 refine F.ok wa (fun vs H Q E h=>?_) (fun cdv A outer s H vs Q E hr h=>?_)
 ·obtain ⟨p,a,xs,rs,way,rfl,_⟩:=h
  rfl
 ·obtain ⟨p,a,xs,rs,way,rfl,hp,hrw,h100,ha,hin,hwl,k⟩:=h
  have hlen:=hrw.length
  refine ⟨_,(j9 (jk (jf (Qn K rfl) rfl nb.b_sum boot_sum (j0 (jY (osc:=(j8 xo)) (ON:=["reaches","way"]) (N:=["reach","reaches"]) (own:=1) (caps:=[0]) ⟨rfl,by walk_at "k",by walk_at "k",by walk_at "k",rfl,by walk_at "k"⟩ rfl rfl rfl (ui K (pv 1)) (fun _ _ _ _ _=>(ja (i:=0) (show List.Nodup (["reach","reaches"]:List Str) by decide +kernel) rfl (Or.inl rfl))) (fun _ _ _ _ _=>jF) (fun _ _ _ _ _=>(jf (ji K) rfl nb.b_len PySem.boot_len (j0 (jt (qL K) (jt (je K) (pv 1) (pv 0) (fun _ _=>rfl)) j7 (fun _ _=>rfl)) j2)))) j2)))),?_⟩
  walk_at "r"
  refine ⟨⟨_,SqT.of ha⟩,fun acc hacc=>?_⟩
  refine Qo (K:=K) (a:=a) (xs:=way.map V.int) (acc:=acc) (fun j σ H2=>∃ x:Option V,σ=[x,some (.ref p)]/\H2 acc=some (.lst (((way.take j).map fun r=>((zG rs r.toNat).length:Int)).map V.int))/\Ext acc H H2) ?_ ?_ ?_ ?_
  ·exact ⟨none,rfl,j6,Ext.put⟩
  ·rintro j σ H2 hj ⟨x,rfl,h3,e3⟩
   exact SqT.of (e3 _ _ ha (j1 ha hacc))
  ·rintro j v σ H2 hv ⟨x,rfl,h3,e3⟩
   obtain ⟨r,rfl⟩:=yw hv
   have hz:way[j]? = some r:=by
    rw [List.getElem?_map] at hv
    cases e:way[j]? with
    | none=>rw [e] at hv;cases hv
    | some y=>rw [e] at hv;cases hv;rfl
   have hj:j<way.length:=(List.getElem?_eq_some_iff.mp hz).1
   have hr:=hin r (List.mem_of_getElem? hz)
   have hi:r.toNat<rs.length:=by omega
   obtain ⟨v,hv',q,g,rfl,hq,hg⟩:=(hrw.keep (jg.new e3 hacc)).at (List.getElem?_eq_getElem hi)
   walk_at "r"
   refine ⟨_,_,_,_,rfl,rfl,SqL.of (e3 _ _ hp (j1 hp hacc)),qW hr.1 hv',?_⟩
   refine ⟨_,_,_,_,rfl,rfl,SqT.of hq,rfl,?_⟩
   refine ⟨_,_,rfl,.inr (SqT.of hg),?_⟩
   refine ⟨_,h3,by rw [List.length_map,List.length_map,List.length_take];exact jd (by omega),_,rfl,?_,e3.trans Ext.put⟩
   rw [j6,qv (fun r:Int=>((zG rs r.toNat).length:Int)) way j r hz,List.map_append,Jl (List.getElem?_eq_getElem hi),List.length_map]
   rfl
  ·rintro σ H2 ⟨x,rfl,h3,e3⟩
   rw [List.length_map,List.take_length] at h3
   refine ⟨acc,_,rfl,SqL.of h3,by rw [List.length_map];omega,fun n hn=>?_,?_⟩
   ·obtain ⟨r,hr,rfl⟩:=List.mem_map.mp hn
    have hb:=hin r hr
    have hi:r.toNat<rs.length:=by omega
    have:=h100 _ (List.getElem_mem hi)
    rw [Jl (List.getElem?_eq_getElem hi)]
    omega
   ·exact k H2 fun c o hc=>e3 c o hc (j1 hc hacc)
def vO (K:PySem.W.Frag) (Pt:Addr):Sp:=fun vs H Q _=>∃ (p:Addr) (xs:List V) (rs:List Rch),vs=[.ref p]/\H p=some (.lst xs)/\jU H xs rs/\xh rs/\rs.length<=60/\qy H Pt/\∀ l H' out ws,H l=none->H' l=some (.lst out)->zR H' out ws->jX rs ws->Ext Pt H H'->qy H' Pt->Q (.ref l) H'
theorem k8:FnScope ["reaches","entered","ways"] ["reaches"] (j8 qS):=by walk_at "s"
theorem JZ {α:Type}(l:List α) (d:α):((List.range l.length).map fun i=>l.getD i d)=l:=by
 apply List.ext_getElem
 ·simp
 ·intro i h1 h2
  simp [h2]
theorem Je {H:Hp}{vs:List V}{ws:List (List Int)}(h:zR H vs ws):∀ ix:List Nat,(∀ i∈ix,i<vs.length)->zR H (ix.map fun i=>vs.getD i V.non) (ix.map fun i=>ws.getD i [])
 | [],_=>.nil
 | i::ix,hb=>by
  refine .cons ?_ (Je h ix fun j hj=>hb j (List.mem_cons_of_mem _ hj))
  have hi:=hb i List.mem_cons_self
  obtain ⟨y,e2,a,e3,e4⟩:=Paired.get h (List.getElem?_eq_getElem hi)
  refine ⟨a,?_,?_⟩
  ·show vs.getD i V.non=V.ref a
   rw [List.getD_eq_getElem?_getD,List.getElem?_eq_getElem hi];exact e3
  ·show H a=some (.tup ((ws.getD i []).map V.int))
   rw [List.getD_eq_getElem?_getD,e2];exact e4
theorem JL {rs:List Rch}{roads:List (List Int)}{vs out:List V}{H H':Hp}(hr:roads=(js rs).map (qt rs)) (hv:zR H vs roads) (k:jg H H') (hs:uf wb (fun i=>(roads.getD i []).reverse) vs out):∃ ws,zR H' out ws/\jX rs ws:=by
 obtain ⟨ix,hp,e,hpw⟩:=hs
 have hb:∀ i∈ix,i<vs.length:=fun i hi=>by have:=hp.mem_iff.mp hi;simpa using this
 refine ⟨ix.map fun i=>roads.getD i [],by rw [e];exact (Je hv ix hb).keep k,?_,?_⟩
 ·have:=hp.map fun i=>roads.getD i []
  rw [hv.length,JZ] at this
  rw [<- hr]
  exact this
 ·rw [List.map_map]
  exact hpw
theorem Vm {f c Pt:Addr}{oc:Value}{od an:Option Addr}{osl:Array (Option Value)}{kV doc pm ct:Value}(nb:Nb2 mg) (c_way_down:Cal P w K mg base 1 "way_down" ["reaches","head"] (Ja K)) (CH:PySem.W.CodeHd base c Pt) (hBm:Bm mg base)
  (l:K.lookup f=some ⟨oc,od,.func (PySem.W.fnOf "lanes" "lanes" (jW qS) (jM qS) (j8 qS) .none kV doc pm an (.ref c) ct),osl⟩) (cd:PySem.W.codeIn K (.ref c) "lanes" = true) :
  FnOk P w K mg base CX0 5 f (PySem.W.fnOf "lanes" "lanes" (jW qS) (jM qS) (j8 qS) .none kV doc pm an (.ref c) ct) ["reaches"] (vO K Pt):=by
 refine Fun.okC l cd k8 (fun vs H Q E h=>?_) (fun A outer s H vs Q E hr h=>?_)
 ·obtain ⟨p,xs,rs,rfl,_⟩:=h
  rfl
 ·obtain ⟨p,xs,rs,rfl,hp,hrw,L,h60,hT,k⟩:=h
  have hlen:=hrw.length
  refine ⟨_,(j4 (jm (i:=1) k8.nd rfl (Or.inr rfl) (jY (osc:=(j8 qS)) (ON:=["reaches","entered","ways"]) (N:=["to","slope"]) (own:=2) (caps:=[]) ⟨rfl,by walk_at "k",by walk_at "k",by walk_at "k",rfl,by walk_at "k"⟩ rfl rfl rfl (jT K (pv 0)) (fun _ _ _ _ _=>(qk (n:=2) K rfl (jh (ja (i:=0) (show List.Nodup (["to","slope"]:List Str) by decide +kernel) rfl (Or.inl rfl)) (jh (ja (i:=1) (show List.Nodup (["to","slope"]:List Str) by decide +kernel) rfl (Or.inl rfl)) qj)))) (fun _ _ _ _ _=>jF) (fun _ _ _ _ _=>(pv 0))))
   (j4 (wj (j:=2) (osc:=(j8 qS)) (ON:=["reaches","entered","ways"]) (N:=["head","reaches","entered"]) (own:=1) (caps:=[0,1]) ⟨rfl,by walk_at "k",by walk_at "k",by walk_at "k",rfl,by walk_at "k"⟩ k8.nd rfl (Or.inl rfl) rfl rfl rfl (qx rfl nb.b_range (j0 (jf (ji K) rfl nb.b_len PySem.boot_len (j0 (pv 0) j2)) j2)) (fun _ _ _ _ _=>(ja (i:=0) (show List.Nodup (["head","reaches","entered"]:List Str) by decide +kernel) rfl (Or.inl rfl))) (fun _ _ _ _ _=>(kC (jD (zJ K) (pv 0) (pv 2) (by with_unfolding_all rfl)))) (fun _ _ _ _ _=>(jc c_way_down (hr.mono (by decide)) rfl (j0 (pv 1) (j0 (pv 0) j2)))))
   (j9 (jk (XN (N:=["way"]) (x:="way") (k:=0) rfl nb.b_sorted (j0 (pv 2) j2) rfl CH hBm (hr.mono (by decide)) (by walk_at "s") (fun _ _ _ _=>rfl) (fun _ _ _ _=>(U8 K (pv 0)))))))),?_⟩
  walk_at "r"
  refine ⟨⟨_,SqL.of hp⟩,fun en hen=>?_⟩
  refine qg (K:=K) (a:=p) (xs:=xs) (acc:=en) (fun j σ H2=>∃ x y:Option V,σ=[x,y]/\H2 en=some (.lst (((rs.take j).map (·.1)).map V.int))/\Ext en H H2) ?_ ?_ ?_ ?_
  ·exact ⟨none,none,rfl,j6,Ext.put⟩
  ·rintro j σ H2 hj ⟨x,y,rfl,h3,e3⟩
   exact SqL.of (e3 _ _ hp (j1 hp hen))
  ·rintro j v σ H2 hv ⟨x,y,rfl,h3,e3⟩
   obtain ⟨r,hr,q,g,rfl,hq,hg⟩:=(hrw.keep (jg.new e3 hen)).get hv
   have hj:j<rs.length:=(List.getElem?_eq_some_iff.mp hr).1
   walk_at "r"
   refine ⟨q,_,rfl,SqT.of hq,rfl,?_⟩
   refine ⟨_,_,rfl,_,_,rfl,rfl,?_⟩
   walk_at "r"
   refine ⟨_,h3,by rw [List.length_map,List.length_map,List.length_take];exact jd (by omega),_,_,rfl,?_,e3.trans Ext.put⟩
   rw [j6,qv (fun r:Rch=>r.1) rs j r hr,List.map_append]
   rfl
  ·rintro σ H2 ⟨x,y,rfl,h3,e3⟩
   rw [hlen,List.take_length] at h3
   have hp2:=e3 _ _ hp (j1 hp hen)
   have hrw2:jU H2 xs rs:=hrw.keep (jg.new e3 hen)
   have hT2:qy H2 Pt:=hT.extN hen e3
   walk_at "r"
   refine ⟨_,_,rfl,.inl (SqL.of hp2),?_⟩
   refine ⟨_,rfl,by omega,by omega,fun wy hwy=>?_⟩
   rw [hlen]
   refine xc (lo:=0) (n:=((rs.length:Nat):Int).toNat) (acc:=wy) (fun j σ H3=>∃ (x:Option V) (vs:List V),σ=[x,some (.ref p),some (.ref en)]/\H3 wy=some (.lst vs)/\zR H3 vs (((List.range j).filter (jK rs)).map (qt rs))/\Ext wy H2 H3/\vs.length<=j) ?_ ?_ ?_
   ·exact ⟨none,[],rfl,j6,.nil,Ext.put,Nat.le_refl _⟩
   ·rintro j σ H3 hj ⟨x,vs,rfl,h4,w4,e4,l4⟩
    have hj':j<rs.length:=by omega
    have hen4:=e4 _ _ h3 (j1 h3 hwy)
    have hp4:=e4 _ _ hp2 (j1 hp2 hwy)
    have hrw4:jU H3 xs rs:=hrw2.keep (jg.new e4 hwy)
    have er:(List.range (j+1)).filter (jK rs)=(List.range j).filter (jK rs)++(if jK rs j=true then [j] else []):=by
     rw [List.range_succ,List.filter_append]
     congr 1
     by_cases z:jK rs j=true
     ·rw [if_pos z];simp [z]
     ·rw [if_neg z];simp [z]
    walk_at "r"
    refine ⟨en,_,rfl,.inl (SqL.of hen4),rfl,yN _,?_⟩
    walk_at "r"
    rw [Int.zero_add,vU]
    refine ya (fun hin=>?_) (fun hin=>?_)
    ·have hb:jK rs j=true:=by unfold jK;rw [decide_eq_false (show ¬ (j:Int)∈tos rs from hin)];rfl
     walk_at "r"
     refine ⟨p,xs,rs,j,rfl,hp4,hrw4,L,hj',by omega,fun t H5 ht ht5 s5=>?_⟩
     have nt:t≠wy:=fun z=>by rw [z,h4] at ht;cases ht
     have h5:=s5 _ _ h4
     refine ⟨vs,h5,jd (by omega),_,vs++[.ref t],rfl,j6,?_,fun c o hc n=>by rw [j5 n];exact s5 _ _ (e4 c o hc n),by rw [List.length_append,List.length_singleton];omega⟩
     rw [er,if_pos hb,List.map_append]
     exact zR.keep (jg.lst Ext.put h5) (Paired.snoc (w4.keep (jg.same s5)) ⟨t,rfl,ht5⟩)
    ·have hb:¬ jK rs j=true:=by unfold jK;rw [decide_eq_true (show (j:Int)∈tos rs from hin)];exact Bool.false_ne_true
     refine ⟨_,vs,rfl,h4,?_,e4,by omega⟩
     rw [er,if_neg hb,List.append_nil]
     exact w4
   ·rintro σ H3 ⟨x,vs,rfl,h4,w4,e4,l4⟩
    have hT3:qy H3 Pt:=hT2.extN hwy e4
    obtain ⟨ps,hPt⟩:=hT3.ne
    rw [Int.toNat_natCast] at w4 l4
    have hvl:=w4.length
    walk_at "r"
    refine ⟨hT3,wy,vs,fun i=>((((js rs).map (qt rs)).getD i []).reverse),rfl,SqL.of h4,by omega,fun i hi z=>?_,fun H5 X5 i v hv=>?_,fun lo H5 out hlo hlo5 X5 T5 hs=>?_⟩
    ·have hi2:i<(js rs).length:=by
      rw [List.length_map] at hvl
      exact Nat.lt_of_lt_of_eq hi hvl
     have z2:((js rs).map (qt rs)).getD i []=[]:=List.reverse_eq_nil_iff.mp z
     rw [List.getD_eq_getElem?_getD,List.getElem?_map,List.getElem?_eq_getElem hi2] at z2
     exact U7 _ z2
    ·obtain ⟨y,e2,a,rfl,ha⟩:=Paired.get w4 hv
     have ha5:=jg.tbl X5 hPt _ _ ha
     walk_at "r"
     refine ⟨a,_,rfl,SqT.of ha5,fun q H6 hq hq6 s6=>⟨s6,q,rfl,?_⟩⟩
     show H6 q=some (.tup (((((js rs).map (qt rs)).getD i []).reverse).map V.int))
     rw [hq6,List.getD_eq_getElem?_getD,show ((js rs).map (qt rs))[i]? = some y from e2,<- List.map_reverse]
     rfl
    ·obtain ⟨ws,hw,hrd⟩:=JL (rs:=rs) rfl w4 (jg.tbl X5 hPt) hs
     have wyP:wy≠Pt:=jp h4 hPt (by walk_at "z")
     have enP:en≠Pt:=jp (e4 _ _ h3 (j1 h3 hwy)) hPt (by walk_at "z")
     have hlo3:H lo=none:=by
      have a1:H2 lo=none:=e4.free hlo (fun z=>by rw [z,h4] at hlo;cases hlo)
      exact e3.free a1 (fun z=>by rw [z,h3] at a1;cases a1)
     exact k lo H5 out ws hlo3 hlo5 hw hrd (fun c o hc n=>X5 _ _ (e4 _ _ (e3 _ _ hc (j1 hc hen)) (j1 (e3 _ _ hc (j1 hc hen)) hwy)) n) T5
def YX (K:PySem.W.Frag):Sp:=fun vs H Q _=>∃ (p wl:Addr) (xs out:List V) (rs:List Rch) (ws:List (List Int)),vs=[.ref p,.ref wl]/\H p=some (.lst xs)/\jU H xs rs/\(∀ r∈rs,r.2.length<=100)/\H wl=some (.lst out)/\zR H out ws/\jX rs ws/\xh rs/\rs.length<=60 /\
 ∀ H',jj H H'->Q (.bl (decide (((js rs).length:Int)<=6) && (js rs).all fun h=>decide (jA rs (qt rs h)<=30))) H'
theorem Uq:FnScope ["reaches","ways"] ["reaches","ways"] (j8 Jq):=by walk_at "s"
theorem Uw {f:Addr}{fd:FuncData}{u0 u1:Tok}(nb:Nb2 mg) (g_MOST_LANES:mg "MOST_LANES" = some (.int 6 u0)) (g_LONGEST_LANE:mg "LONGEST_LANE" = some (.int 30 u1)) (c_count_places:Cal P w K mg base 1 "count_places" ["reaches","way"] (Zm K)) (F:Fun K "fits" "fits" Jq f fd):FnOk P w K mg base CX0 2 f fd ["reaches","ways"] (YX K):=by
 refine F.ok Uq (fun vs H Q E h=>?_) (fun cdv A outer s H vs Q E hr h=>?_)
 ·obtain ⟨p,wl,xs,out,rs,ws,rfl,_⟩:=h
  rfl
 ·obtain ⟨p,wl,xs,out,rs,ws,rfl,hp,hrw,h100,hw,hws,hrd,L,h60,k⟩:=h
  have hwl:=hws.length
  have hrl:=hrd.length
  have hhl:(js rs).length<=60:=by
   unfold js
   exact Nat.le_trans (List.length_filter_le _ _) (by rw [List.length_range];exact h60)
  have fin:∀ (b:Bool) (H':Hp),jj H H'->b=(decide (((js rs).length:Int)<=6) && (js rs).all fun h=>decide (jA rs (qt rs h)<=30))->Q (.bl b) H':=fun b H' sm e=>by rw [e];exact k H' sm
  refine ⟨_,(j9 (jk (y7 (zw qu (jf (ji K) rfl nb.b_len PySem.boot_len (j0 (pv 1) j2)) (x6 (v:=V.int 6) rfl g_MOST_LANES ⟨_,rfl⟩) (jI _)) (yi (jf (zT K rfl) rfl nb.b_all boot_all (j0 (jY (osc:=(j8 Jq)) (ON:=["reaches","ways"]) (N:=["way","reaches"]) (own:=1) (caps:=[0]) ⟨rfl,by walk_at "k",by walk_at "k",by walk_at "k",rfl,by walk_at "k"⟩ rfl rfl rfl (jT K (pv 1)) (fun _ _ _ _ _=>(ja (i:=0) (show List.Nodup (["way","reaches"]:List Str) by decide +kernel) rfl (Or.inl rfl))) (fun _ _ _ _ _=>jF) (fun _ _ _ _ _=>(zw qu (jc c_count_places (hr.mono (by decide)) rfl (j0 (pv 1) (j0 (pv 0) j2))) (x6 (v:=V.int 30) rfl g_LONGEST_LANE ⟨_,rfl⟩) (jI _)))) j2)))))),?_⟩
  walk_at "r"
  refine ⟨_,_,rfl,.inl (SqL.of hw),?_⟩
  walk_at "r"
  refine qB (fun h1=>?_) (fun h1=>?_)
  ·walk_at "r"
   refine ⟨⟨_,SqL.of hw⟩,fun acc hacc=>?_⟩
   refine qg (K:=K) (a:=wl) (xs:=out) (acc:=acc) (fun j σ H2=>∃ x:Option V,σ=[x,some (.ref p)]/\H2 acc=some (.lst (((ws.take j).map fun w=>decide (jA rs w<=30)).map V.bl))/\Ext acc H H2) ?_ ?_ ?_ ?_
   ·exact ⟨none,rfl,j6,Ext.put⟩
   ·rintro j σ H2 hj ⟨x,rfl,h3,e3⟩
    exact SqL.of (e3 _ _ hw (j1 hw hacc))
   ·rintro j v σ H2 hv ⟨x,rfl,h3,e3⟩
    obtain ⟨wy,ew,a,rfl,ha⟩:=Paired.get (hws.keep (jg.new e3 hacc)) hv
    have hj:j<ws.length:=(List.getElem?_eq_some_iff.mp ew).1
    obtain ⟨hd,hhd,ewy⟩:=hrd.mem (List.mem_of_getElem? ew)
    have hdl:=xw hhd
    have hwlen:wy.length<=100:=by rw [ewy];have:=uj L hd hdl;omega
    walk_at "r"
    refine ⟨p,a,xs,rs,wy,rfl,e3 _ _ hp (j1 hp hacc),hrw.keep (jg.new e3 hacc),h100,ha,by rw [ewy];exact xJ L hd hdl,hwlen,fun H4 s4=>?_⟩
    walk_at "r"
    refine ⟨_,s4 _ _ h3,by rw [List.length_map,List.length_map,List.length_take];exact jd (by omega),_,rfl,?_,fun c o hc n=>by rw [j5 n];exact s4 _ _ (e3 c o hc n)⟩
    rw [j6,qv (fun w=>decide (jA rs w<=30)) ws j wy ew,List.map_append]
    rfl
   ·rintro σ H2 ⟨x,rfl,h3,e3⟩
    rw [hwl,List.take_length] at h3
    refine ⟨acc,_,rfl,SqL.of h3,?_⟩
    refine fin _ H2 (fun c o hc=>e3 c o hc (j1 hc hacc)) ?_
    rw [decide_eq_true (show ((js rs).length:Int)<=6 by rw [<- hrl,<- hwl];exact h1),Bool.true_and,hrd.all]
  ·refine fin _ H (jj.refl H) ?_
   rw [decide_eq_false (show ¬ ((js rs).length:Int)<=6 by rw [<- hrl,<- hwl];exact h1)]
   rfl
def Ql (K:PySem.W.Frag) (Pt:Addr):Sp:=fun vs H Q _=>∃ (p:Addr) (xs:List V) (rs:List Rch),vs=[.ref p]/\H p=some (.lst xs)/\jU H xs rs/\(∀ r∈rs,r.2.length<=100)/\rs.length<=60/\qy H Pt/\∀ H',Ext Pt H H'->qy H' Pt->Q (.bl (zu rs)) H'
theorem JK:FnScope ["reaches"] ["reaches"] (j8 zp):=by walk_at "s"
theorem Jk {f Pt:Addr}{fd:FuncData}{u0:Tok}(nb:Nb2 mg) (g_MOST_REACHES:mg "MOST_REACHES" = some (.int 8 u0)) (c_is_reach:Cal P w K mg base 2 "is_reach" ["number","reach"] ZC) (c_lanes:Cal P w K mg base 5 "lanes" ["reaches"] (vO K Pt)) (c_fits:Cal P w K mg base 2 "fits" ["reaches","ways"] (YX K)) (F:Fun K "is_valley" "is_valley" zp f fd):FnOk P w K mg base CX0 6 f fd ["reaches"] (Ql K Pt):=by
 refine F.ok JK (fun vs H Q E h=>?_) (fun cdv A outer s H vs Q E hr h=>?_)
 ·obtain ⟨p,xs,rs,rfl,_⟩:=h
  rfl
 ·obtain ⟨p,xs,rs,rfl,hp,hrw,h100,h60,hT,k⟩:=h
  have hlen:=hrw.length
  have fin:∀ (b:Bool) (H':Hp),Ext Pt H H'->qy H' Pt->b=zu rs->Q (.bl b) H':=fun b H' x t e=>by rw [e];exact k H' x t
  refine ⟨_,(j4 (jV (xf (xM qu qu j7 (jf (ji K) rfl nb.b_len PySem.boot_len (j0 (pv 0) j2)) (x6 (v:=V.int 8) rfl g_MOST_REACHES ⟨_,rfl⟩))) (j9 (jk Jd)) jy)
   (j4 (jV (xf (zK (jf (zT K rfl) rfl nb.b_all boot_all (j0 (jY (osc:=(j8 zp)) (ON:=["reaches"]) (N:=["number","reach"]) (own:=2) (caps:=[]) ⟨rfl,by walk_at "k",by walk_at "k",by walk_at "k",rfl,by walk_at "k"⟩ rfl rfl rfl (Zo K rfl nb.b_enumerate (j0 (pv 0) j2)) (fun _ _ _ _ _=>(qk (n:=2) K rfl (jh (ja (i:=0) (show List.Nodup (["number","reach"]:List Str) by decide +kernel) rfl (Or.inl rfl)) (jh (ja (i:=1) (show List.Nodup (["number","reach"]:List Str) by decide +kernel) rfl (Or.inl rfl)) qj)))) (fun _ _ _ _ _=>jF) (fun _ _ _ _ _=>(jc c_is_reach (hr.mono (by decide)) rfl (j0 (pv 0) (j0 (pv 1) j2))))) j2)))) (j9 (jk Jd)) jy)
   (j9 (jk (jc c_fits (hr.mono (by decide)) rfl (j0 (pv 0) (j0 (jc c_lanes (hr.mono (by decide)) rfl (j0 (pv 0) j2)) j2))))))),?_⟩
  walk_at "r"
  refine ⟨_,_,rfl,.inl (SqL.of hp),?_⟩
  walk_at "r"
  have no:¬ (1<=(xs.length:Int)/\(xs.length:Int)<=8)->Q (.bl false) H:=fun z=>fin _ H Ext.refl hT (by unfold zu;rw [decide_eq_false (by rw [<- hlen];exact z)];rfl)
  refine qB (fun h1=>?_) (fun h1=>?_)
  ·walk_at "r"
   refine ya (fun h2=>?_) (fun h2=>?_)
   ·walk_at "r"
    exact no fun z=>h2 z.2
   ·have h18:decide (1<=(rs.length:Int)/\(rs.length:Int)<=8)=true:=decide_eq_true (by rw [<- hlen];exact ⟨h1,h2⟩)
    walk_at "r"
    refine ⟨⟨_,SqL.of hp⟩,fun acc hacc=>?_⟩
    refine ZY (K:=K) (a:=p) (xs:=xs) (acc:=acc) (fun j σ H2=>∃ x y:Option V,σ=[x,y]/\H2 acc=some (.lst ((((List.range j)).map fun i=>okR i (rs.getD i (-1,[]))).map V.bl))/\Ext acc H H2) ?_ ?_ ?_ ?_
    ·exact ⟨none,none,rfl,j6,Ext.put⟩
    ·rintro j σ H2 hj ⟨x,y,rfl,h3,e3⟩
     exact SqL.of (e3 _ _ hp (j1 hp hacc))
    ·rintro j v σ H2 t hv ⟨x,y,rfl,h3,e3⟩ ht
     have hacct:acc≠t:=fun z=>by rw [z] at h3;rw [h3] at ht;cases ht
     obtain ⟨r,hr,hrow⟩:=(hrw.keep (jg.new e3 hacc)).get hv
     have hj:j<rs.length:=(List.getElem?_eq_some_iff.mp hr).1
     walk_at "r"
     refine ⟨t,_,rfl,SqT.of j6,rfl,?_⟩
     refine ⟨_,_,rfl,_,_,rfl,rfl,?_⟩
     walk_at "r"
     refine ⟨j,v,r,rfl,hrow.keep (jg.same (jj.new ht)),h100 r (List.mem_of_getElem? hr),fun H4 s4=>?_⟩
     refine ⟨_,s4 _ _ ((jj.new ht) _ _ h3),by rw [List.length_map,List.length_map,List.length_range];exact jd (by omega),_,_,rfl,?_,fun c o hc n=>by rw [j5 n];exact s4 _ _ ((jj.new ht) _ _ (e3 c o hc n))⟩
     rw [j6,List.range_succ,List.map_append,List.map_append]
     simp only [List.map_cons,List.map_nil]
     rw [List.getD_eq_getElem?_getD,hr]
     rfl
    ·rintro σ H2 ⟨x,y,rfl,h3,e3⟩
     rw [hlen] at h3
     have sm:jj H H2:=fun c o hc=>e3 c o hc (j1 hc hacc)
     refine ⟨acc,_,rfl,SqL.of h3,?_⟩
     walk_at "r"
     have eok:(((List.range rs.length).map fun i=>okR i (rs.getD i (-1,[]))).all fun b=>b)=uy rs:=by rw [List.all_map];rfl
     rw [eok]
     cases hok:uy rs with
     | false =>
      refine yn ?_
      walk_at "r"
      exact fin _ H2 (Ext.of_same sm) (hT.same sm) (by unfold zu;rw [hok,h18];rfl)
     | true =>
      refine vM ?_
      have L:=jZ hok
      walk_at "r"
      refine ⟨p,xs,rs,rfl,sm _ _ hp,hrw.keep (jg.same sm),L,h60,hT.same sm,fun l H3 out ws hl hl3 w3 r3 X3 T3=>?_⟩
      obtain ⟨ps,hPt⟩:=(hT.same sm).ne
      have hp3:=X3 _ _ (sm _ _ hp) (jp (sm _ _ hp) hPt (by walk_at "z"))
      refine ⟨p,l,xs,out,rs,ws,rfl,hp3,hrw.keep ((jg.same sm).trans (jg.tbl X3 hPt)),h100,hl3,w3,r3,L,h60,fun H4 s4=>?_⟩
      exact fin _ H4 (((Ext.of_same sm).trans X3).trans (Ext.of_same s4)) (T3.same s4) (by unfold zu;rw [hok,h18];rfl)
  ·refine ⟨_,rfl,yn ?_⟩
   walk_at "r"
   exact no fun z=>h1 z.1
end
section
variable {P:Program}{w:World}{K:PySem.W.Frag}{mg:Str->Option Value}{base:Heap}
theorem ue:FnScope ["_law_number","_law_turn","_law_one"] ["_law_number","_law_turn"] (j8 yx):=by walk_at "s"
theorem V1 {f:Addr}{fd:FuncData}(F:Fun K "_law_mixed" "_law_mixed" yx f fd):FnOk P w K mg base CX0 1 f fd ["_law_number","_law_turn"] Zd:=by
 refine F.ok ue (fun vs H Q E h=>?_) (fun cdv A outer s H vs Q E hr h=>?_)
 ·obtain ⟨a,b,rfl,_⟩:=h
  rfl
 ·obtain ⟨a,b,rfl,k⟩:=h
  refine ⟨_,(j4 (jm (i:=2) ue.nd rfl (Or.inl rfl) (jn xW (jn jH (jn jH (jn vE (pv 0) j7) (jn vE (pv 1) j7)) j7) j7))
   (j9 (jk (jn yy (jn xW (jn jH (jn jH (jn vE (pv 2) (jn jH (jn xW (pv 2) j7) j7)) (jn vE (pv 1) j7)) (jn xW (jn yy (pv 0) j7) j7)) j7) j7)))),?_⟩
  walk_at "r"
  exact k _
theorem ym:FnScope ["_law_box_here","_law_size","_law_left","_law_cell"] ["_law_box_here","_law_size"] (j8 vH):=by walk_at "s"
theorem UG {f:Addr}{fd:FuncData}(nb:Nb mg) (c_law_mixed:Cal P w K mg base 1 "_law_mixed" ["_law_number","_law_turn"] Zd) (F:Fun K "_law_take" "_law_take" vH f fd):FnOk P w K mg base CX0 2 f fd ["_law_box_here","_law_size"] zd:=by
 refine F.ok ym (fun vs H Q E h=>?_) (fun cdv A outer s H vs Q E hr h=>?_)
 ·obtain ⟨L,b,n,rfl,_⟩:=h
  rfl
 ·obtain ⟨L,b,n,rfl,B,⟨hn,hn2⟩,k⟩:=h
  obtain ⟨ns,a,r,c,d,hb,hL,hS,ha⟩:=B
  refine ⟨_,(j4 (xY (jn jH (jt (je K) (pv 0) j7 (fun _ _=>rfl)) j7) (wM (pv 0) j7 yl))
   (j4 (jV (jD Zp (jt (je K) (pv 0) j7 (fun _ _=>rfl)) j7 (jI _)) (j4 (jm (i:=2) ym.nd rfl (Or.inl rfl) (jt (je K) (pv 0) j7 (fun _ _=>rfl)))
   (j4 (xY (jn yy (pv 2) (pv 1)) (wM (pv 0) j7 yl))
   (j9 (jk (jn xW (pv 2) (pv 1)))))) jy)
   (j4 (jV (jD VL (jt (je K) (pv 0) j7 (fun _ _=>rfl)) (jf (ji K) rfl nb.b_len PySem.boot_len (j0 (jt (je K) (pv 0) j7 (fun _ _=>rfl)) j2)) (jI _)) (j9 (jk (jn xW (jc c_law_mixed (hr.mono (by decide)) rfl (j0 (jt (je K) (pv 0) j7 (fun _ _=>rfl)) (j0 (jt (je K) (pv 0) j7 (fun _ _=>rfl)) j2))) (pv 1)))) jy)
   (j4 (jm (i:=3) ym.nd rfl (Or.inl rfl) (jt (je K) (jt (je K) (pv 0) j7 (fun _ _=>rfl)) (jt (je K) (pv 0) j7 (fun _ _=>rfl)) (fun _ _=>rfl)))
   (j4 (xY (jn jH (jt (je K) (pv 0) j7 (fun _ _=>rfl)) j7) (wM (pv 0) j7 yl))
   (j4 (jV (jD yV (pv 3) (jn wV j7 j7) (jI _)) (j9 (jk (jn xW (jc c_law_mixed (hr.mono (by decide)) rfl (j0 (pv 3) (j0 (jt (je K) (pv 0) j7 (fun _ _=>rfl)) j2))) (pv 1)))) jy)
   (j4 (xY (jn yy (pv 3) (pv 1)) (wM (pv 0) j7 yl))
   (j9 (jk (jn xW (pv 3) (pv 1))))))))))),?_⟩
  walk_at "r"
  refine qB (fun h1=>?_) (fun h1=>?_)
  ·walk_at "r"
   exact k _ _ (Int.emod_nonneg _ (by omega)) (Int.emod_lt_of_pos _ hn) ⟨ns,_,_,_,_,j6,hL,(Ext.put.trans Ext.put) _ _ hS hL,ha⟩ (Ext.put.trans Ext.put)
  ·have hS1:∀ o,SqL K (upd H b o) L (ns.map V.int):=fun o=>SqL.of (Ext.put _ _ hS hL)
   walk_at "r"
   refine ⟨_,_,rfl,.inl (hS1 _),?_⟩
   walk_at "r"
   refine qB (fun h2=>?_) (fun h2=>?_)
   ·walk_at "r"
    refine ⟨_,_,rfl,fun z=>?_⟩
    walk_at "r"
    exact k _ _ (Int.emod_nonneg _ (by omega)) (Int.emod_lt_of_pos _ hn) ⟨ns,_,_,_,_,j6,hL,Ext.put _ _ hS hL,ha⟩ Ext.put
   ·have h3:a<ns.length:=by
     rw [List.length_map] at h2
     omega
    obtain ⟨z,hz⟩:=wK ha h3
    walk_at "r"
    refine ⟨_,_,_,_,rfl,rfl,hS1 _,hz,?_⟩
    walk_at "r"
    refine qB (fun h4=>?_) (fun h4=>?_)
    ·walk_at "r"
     refine ⟨_,_,rfl,fun z=>?_⟩
     walk_at "r"
     exact k _ _ (Int.emod_nonneg _ (by omega)) (Int.emod_lt_of_pos _ hn) ⟨ns,_,_,_,_,j6,hL,(Ext.put.trans Ext.put) _ _ hS hL,by omega⟩ (Ext.put.trans Ext.put)
    ·walk_at "r"
     exact k _ _ (Int.emod_nonneg _ (by omega)) (Int.emod_lt_of_pos _ hn) ⟨ns,_,_,_,_,j6,hL,((Ext.put.trans Ext.put).trans Ext.put) _ _ hS hL,by omega⟩ ((Ext.put.trans Ext.put).trans Ext.put)
theorem y4:FnScope ["_law_script","_law_seed","_law_cell"] ["_law_script"] (j8 uJ):=by walk_at "s"
theorem Wi {f:Addr}{fd:FuncData}(nb:Nb mg) (F:Fun K "_law_box" "_law_box" uJ f fd):FnOk P w K mg base CX0 1 f fd ["_law_script"] (Vp K):=by
 refine F.ok y4 (fun vs H Q E h=>?_) (fun cdv A outer s H vs Q E hr h=>?_)
 ·obtain ⟨a,ns,rfl,_⟩:=h
  rfl
 ·obtain ⟨a,ns,rfl,hS,k⟩:=h
  refine ⟨_,(j4 (jm (i:=1) y4.nd rfl (Or.inl rfl) j7)
   (j4 (xb PassesOwn.never rfl (jT K (pv 0)) (ja (i:=2) y4.nd rfl (Or.inl rfl)) (j9 (jm (i:=1) y4.nd rfl (Or.inl rfl) (jn xW (jn jH (jn jH (jn vE (pv 1) j7) (jn xW (pv 2) j7)) j7) j7))))
   (j9 (jk (jL (j0 (qp (qw K) rfl nb.b_list PyProof.Rows.boot_list (j0 (pv 0) j2)) (j0 j7 (j0 j7 (j0 j7 (j0 (pv 1) j2)))))))))),?_⟩
  walk_at "r"
  refine ⟨⟨_,hS⟩,yp (K:=K) (a:=a) (xs:=ns.map V.int) (fun i σ H2=>∃ (seed:Int) (v:Option V),σ=[some (.ref a),some (.int seed),v]/\H2=H) ⟨_,_,rfl,rfl⟩ (fun i σ H2 _ ⟨_,_,_,e⟩=>by rw [e];exact hS) ?_ ?_⟩
  ·rintro i y σ H2 hi ⟨seed,v,rfl,rfl⟩
   obtain ⟨z,rfl⟩:=yw hi
   walk_at "r"
   exact ⟨_,_,rfl,rfl⟩
  ·rintro σ H2 ⟨seed,v,rfl,rfl⟩
   walk_at "r"
   refine ⟨a,_,rfl,.inl hS,fun L H3 hL hL3 s3=>?_⟩
   walk_at "r"
   refine ⟨by show 5<=sizeLine;decide,fun b H4 hb hb4 s4=>?_⟩
   exact k L b _ (s3.free hb) ⟨ns,_,_,_,_,hb4,j1 hL3 hb,s4 _ _ hL3,Int.le_refl _⟩ (s3.trans s4)
def good (t:T3):Bool:=decide (0<=t.1/\t.1<=100/\0<=t.2.1/\t.2.1<=9/\0<=t.2.2/\t.2.2<=9)
def gr (ts:List T3):Bool:=decide (1<=(ts.length:Int)/\(ts.length:Int)<=12) && ts.all good
theorem UT {ts:List T3}(h:¬ (1<=(ts.length:Int)/\(ts.length:Int)<=12)):gr ts=false:=by unfold gr;rw [decide_eq_false h];rfl
theorem Wk {ts:List T3}(h:1<=(ts.length:Int)/\(ts.length:Int)<=12):gr ts=(ts.map good).all fun b=>b:=by
 unfold gr
 rw [decide_eq_true h,Bool.true_and,List.all_map]
 rfl
def XY:Sp:=fun vs H Q _=>∃ (p:Addr) (t:T3),vs=[.ref p]/\H p=some (y3 t)/\Q (.bl (good t)) H
local macro_rules | `(tactic| walk_at "forks")=>`(tactic| (walk_at "r";first | (refine qB (fun _=>?_) (fun _=>?_) <;> walk_at "forks") | skip))
theorem xH:FnScope ["row","line","snow","sun"] ["row"] (j8 zX):=by walk_at "s"
theorem gk {f:Addr}{fd:FuncData}{u0 u1:Tok}(g_HIGHEST_LINE:mg "HIGHEST_LINE" = some (.int 100 u0)) (g_MOST_HANDS:mg "MOST_HANDS" = some (.int 9 u1)) (F:Fun K "is_weather" "is_weather" zX f fd):FnOk P w K mg base CX0 1 f fd ["row"] XY:=by
 refine F.ok xH (fun vs H Q E h=>?_) (fun cdv A outer s H vs Q E hr h=>?_)
 ·obtain ⟨p,t,rfl,_⟩:=h
  rfl
 ·obtain ⟨p,⟨l,sn,u⟩,rfl,hp,k⟩:=h
  refine ⟨_,(j4 (xY (pv 0) (qk (n:=3) K rfl (jh (ja (i:=1) xH.nd rfl (Or.inl rfl)) (jh (ja (i:=2) xH.nd rfl (Or.inl rfl)) (jh (ja (i:=3) xH.nd rfl (Or.inl rfl)) qj)))))
   (j9 (jk (y7 (zP qu qu j7 (pv 1) (x6 (v:=V.int 100) rfl g_HIGHEST_LINE ⟨_,rfl⟩)) (y7 (zP qu qu j7 (pv 2) (x6 (v:=V.int 9) rfl g_MOST_HANDS ⟨_,rfl⟩)) (yi (zP qu qu j7 (pv 3) (x6 (v:=V.int 9) rfl g_MOST_HANDS ⟨_,rfl⟩)))))))),?_⟩
  walk_at "r"
  refine ⟨p,_,rfl,SqT.of hp,rfl,?_⟩
  refine ⟨_,_,rfl,_,_,rfl,_,_,rfl,rfl,?_⟩
  walk_at "forks"
  all_goals
   refine Eq.mp (congrArg (fun z=>Q (V.bl z) H) ?_) k
   unfold good
   dsimp only at *
   first | (apply decide_eq_false;omega) | (apply decide_eq_decide.mpr;omega)
theorem QD:FnScope ["rows"] ["rows"] (j8 zU):=by walk_at "s"
def Z6 (K:PySem.W.Frag):Sp:=fun vs H Q _=>∃ (p:Addr) (xs:List V) (ts:List T3),vs=[.ref p]/\H p=some (.lst xs)/\jo H xs ts/\ts.length<=1000/\∀ H',jj H H'->Q (.bl (gr ts)) H'
theorem QK {f:Addr}{fd:FuncData}{u0:Tok}(nb:Nb mg) (g_MOST_ROWS:mg "MOST_ROWS" = some (.int 12 u0)) (c_is_weather:Cal P w K mg base 1 "is_weather" ["row"] XY) (F:Fun K "is_round" "is_round" zU f fd):FnOk P w K mg base CX0 2 f fd ["rows"] (Z6 K):=by
 refine F.ok QD (fun vs H Q E h=>?_) (fun cdv A outer s H vs Q E hr h=>?_)
 ·obtain ⟨p,xs,ts,rfl,_⟩:=h
  rfl
 ·obtain ⟨p,xs,ts,rfl,hp,hr3,h1000,k⟩:=h
  have hlen:=hr3.length
  refine ⟨_,(j9 (jk (y7 (zP qu qu j7 (jf (ji K) rfl nb.b_len PySem.boot_len (j0 (pv 0) j2)) (x6 (v:=V.int 12) rfl g_MOST_ROWS ⟨_,rfl⟩)) (yi (jf (zT K rfl) rfl nb.b_all boot_all (j0 (jY (osc:=(j8 zU)) (ON:=["rows"]) (N:=["row"]) (own:=1) (caps:=[]) ⟨rfl,by walk_at "k",by walk_at "k",by walk_at "k",rfl,by walk_at "k"⟩ rfl rfl rfl (jT K (pv 0)) (fun _ _ _ _ _=>(ja (i:=0) (show List.Nodup (["row"]:List Str) by decide +kernel) rfl (Or.inl rfl))) (fun _ _ _ _ _=>jF) (fun _ _ _ _ _=>(jc c_is_weather (hr.mono (by decide)) rfl (j0 (pv 0) j2)))) j2)))))),?_⟩
  walk_at "r"
  refine ⟨_,_,rfl,.inl (SqL.of hp),?_⟩
  walk_at "r"
  refine qB (fun h1=>?_) (fun h1=>?_)
  ·walk_at "r"
   refine qB (fun h2=>?_) (fun h2=>?_)
   ·walk_at "r"
    refine ⟨⟨_,SqL.of hp⟩,fun acc hacc=>?_⟩
    refine qg (K:=K) (a:=p) (xs:=xs) (acc:=acc) (fun i σ H2=>∃ x:Option V,σ=[x]/\H2 acc=some (.lst (((ts.take i).map good).map V.bl))/\Ext acc H H2) ?_ ?_ ?_ ?_
    ·exact ⟨none,rfl,j6,Ext.put⟩
    ·rintro i σ H2 hi ⟨x,rfl,h3,e3⟩
     exact SqL.of (e3 _ _ hp (j1 hp hacc))
    ·rintro i v σ H2 hv ⟨x,rfl,h3,e3⟩
     obtain ⟨t,ht,q,rfl,hq⟩:=hr3.get hv
     have hi:i<ts.length:=(List.getElem?_eq_some_iff.mp ht).1
     walk_at "r"
     refine ⟨q,t,rfl,e3 _ _ hq (j1 hq hacc),?_⟩
     refine ⟨_,h3,by rw [List.length_map,List.length_map,List.length_take];exact jd (by omega),_,rfl,?_,e3.trans Ext.put⟩
     rw [j6,qv good ts i t ht,List.map_append]
     rfl
    ·rintro σ H2 ⟨x,rfl,h3,e3⟩
     rw [hlen,List.take_length] at h3
     refine ⟨acc,ts.map good,rfl,SqL.of h3,?_⟩
     have k2:=k H2 fun c o hc=>e3 c o hc (j1 hc hacc)
     rw [Wk (by rw [hlen] at h1 h2;exact ⟨h1,h2⟩)] at k2
     exact k2
   ·walk_at "r"
    have k2:=k H (jj.refl H)
    rw [UT (by rw [hlen] at h2;intro z;exact h2 z.2)] at k2
    exact k2
  ·walk_at "r"
   have k2:=k H (jj.refl H)
   rw [UT (by rw [hlen] at h1;intro z;exact h1 z.1)] at k2
   exact k2
def uF:Sp:=fun vs H Q _=>∃ (L b:Addr),vs=[.ref b]/\qd L H b/\∀ (p:Addr) (H':Hp) (t:T3),qd L H' b->Ext b H H'->H' p=some (y3 t)->good t=true->Q (.ref p) H'
theorem yB:FnScope ["_law_box_here","_law_line"] ["_law_box_here"] (j8 zN):=by walk_at "s"
theorem five {v3 v1 v2:Int}(a:0<=v3) (b:v3<5) (c:0<=v1) (d:v1<20) (e:0<=v2) (g:v2<101):∃ ln,atI [V.int (40+v1),V.int v2,V.int 0,V.int 100,V.int 50] v3=some (V.int ln)/\0<=ln/\ln<=100:=by
 have h:v3=0\/v3=1\/v3=2\/v3=3\/v3=4:=by omega
 rcases h with rfl | rfl | rfl | rfl | rfl
 ·exact ⟨40+v1,rfl,by omega,by omega⟩
 ·exact ⟨v2,rfl,by omega,by omega⟩
 ·exact ⟨0,rfl,by omega,by omega⟩
 ·exact ⟨100,rfl,by omega,by omega⟩
 ·exact ⟨50,rfl,by omega,by omega⟩
theorem Xz {f:Addr}{fd:FuncData}(c_law_take:Cal P w K mg base 2 "_law_take" ["_law_box_here","_law_size"] zd) (F:Fun K "_law_weather" "_law_weather" zN f fd):FnOk P w K mg base CX0 3 f fd ["_law_box_here"] uF:=by
 refine F.ok yB (fun vs H Q E h=>?_) (fun cdv A outer s H vs Q E hr h=>?_)
 ·obtain ⟨L,b,rfl,_⟩:=h
  rfl
 ·obtain ⟨L,b,rfl,B,k⟩:=h
  refine ⟨_,(j4 (jm (i:=1) yB.nd rfl (Or.inl rfl) (jt (je K) (jL (j0 (jn jH j7 (jc c_law_take (hr.mono (by decide)) rfl (j0 (pv 0) (j0 j7 j2)))) (j0 (jc c_law_take (hr.mono (by decide)) rfl (j0 (pv 0) (j0 j7 j2))) (j0 j7 (j0 j7 (j0 j7 j2)))))) (jc c_law_take (hr.mono (by decide)) rfl (j0 (pv 0) (j0 j7 j2))) (fun _ _=>rfl)))
   (j9 (jk (qm (j0 (pv 1) (j0 (jc c_law_take (hr.mono (by decide)) rfl (j0 (pv 0) (j0 j7 j2))) (j0 (jc c_law_take (hr.mono (by decide)) rfl (j0 (pv 0) (j0 j7 j2))) j2))))))),?_⟩
  walk_at "r"
  refine ⟨L,b,_,rfl,B,⟨by decide,by decide⟩,fun v1 H1 p1 q1 B1 X1=>?_⟩
  walk_at "r"
  refine ⟨L,b,_,rfl,B1,⟨by decide,by decide⟩,fun v2 H2 p2 q2 B2 X2=>?_⟩
  refine ⟨by show 5<=sizeLine;decide,fun q Hq hq hqq sq=>?_⟩
  walk_at "r"
  refine ⟨L,b,_,rfl,B2.same sq,⟨by decide,by decide⟩,fun v3 H3 p3 q3 B3 X3=>?_⟩
  have hq3:=X3 _ _ hqq (B2.ne hq)
  obtain ⟨ln,hln,l0,l1⟩:=five p3 q3 p1 q1 p2 q2
  refine ⟨_,_,_,_,rfl,rfl,SqL.of hq3,hln,?_⟩
  walk_at "r"
  refine ⟨L,b,_,rfl,B3,⟨by decide,by decide⟩,fun v4 H4 p4 q4 B4 X4=>?_⟩
  walk_at "r"
  refine ⟨L,b,_,rfl,B4,⟨by decide,by decide⟩,fun v5 H5 p5 q5 B5 X5=>?_⟩
  refine ⟨by show 3<=sizeLine;decide,fun p Hp hp hpp sp=>?_⟩
  exact k p _ (ln,v4,v5) (B5.same sp) ((((((X1.trans X2).trans (Ext.of_same sq)).trans X3).trans X4).trans X5).trans (Ext.of_same sp)) hpp (decide_eq_true ⟨l0,l1,p4,(show v4<=9 by omega),p5,(show v5<=9 by omega)⟩)
def uZ:Sp:=fun vs H Q _=>∃ (L b:Addr),vs=[.ref b]/\qd L H b/\∀ (p:Addr) (H':Hp) (xs:List V) (ts:List T3),qd L H' b->Ext b H H'->H p=none->H' p=some (.lst xs)->jo H' xs ts->(1<=ts.length/\ts.length<=12)->ts.all good=true->Q (.ref p) H'
theorem Jj:FnScope ["_law_box_here"] ["_law_box_here"] (j8 zA):=by walk_at "s"
theorem E4 {v:Int}(a:0<=v) (b:v<3):∃ n,atI [V.int 1,V.int 3,V.int 12] v=some (V.int n)/\0<n/\n<=12:=by
 have h:v=0\/v=1\/v=2:=by omega
 rcases h with rfl | rfl | rfl
 ·exact ⟨1,rfl,by omega,by omega⟩
 ·exact ⟨3,rfl,by omega,by omega⟩
 ·exact ⟨12,rfl,by omega,by omega⟩
theorem Vx {f:Addr}{fd:FuncData}(nb:Nb mg) (c_law_take:Cal P w K mg base 2 "_law_take" ["_law_box_here","_law_size"] zd) (c_law_weather:Cal P w K mg base 3 "_law_weather" ["_law_box_here"] uF) (F:Fun K "_law_round" "_law_round" zA f fd):FnOk P w K mg base CX0 4 f fd ["_law_box_here"] uZ:=by
 refine F.ok Jj (fun vs H Q E h=>?_) (fun cdv A outer s H vs Q E hr h=>?_)
 ·obtain ⟨L,b,rfl,_⟩:=h
  rfl
 ·obtain ⟨L,b,rfl,B,k⟩:=h
  refine ⟨_,(j9 (jk (jY (osc:=(j8 zA)) (ON:=["_law_box_here"]) (N:=["_law_turn","_law_box_here"]) (own:=1) (caps:=[0]) ⟨rfl,by walk_at "k",by walk_at "k",by walk_at "k",rfl,by walk_at "k"⟩ rfl rfl rfl (qx rfl nb.b_range (j0 (jn jH j7 (jc c_law_take (hr.mono (by decide)) rfl (j0 (pv 0) (j0 (jt (je K) (jL (j0 j7 (j0 j7 (j0 j7 j2)))) (jc c_law_take (hr.mono (by decide)) rfl (j0 (pv 0) (j0 j7 j2))) (fun _ _=>rfl)) j2)))) j2)) (fun _ _ _ _ _=>(ja (i:=0) (show List.Nodup (["_law_turn","_law_box_here"]:List Str) by decide +kernel) rfl (Or.inl rfl))) (fun _ _ _ _ _=>jF) (fun _ _ _ _ _=>(jc c_law_weather (hr.mono (by decide)) rfl (j0 (pv 1) j2)))))),?_⟩
  walk_at "r"
  refine ⟨by show 3<=sizeLine;decide,fun q Hq hq hqq sq=>?_⟩
  walk_at "r"
  refine ⟨L,b,_,rfl,B.same sq,⟨by decide,by decide⟩,fun v1 H1 p1 q1 B1 X1=>?_⟩
  obtain ⟨n,hn,n0,n1⟩:=E4 p1 q1
  refine ⟨_,_,_,_,rfl,rfl,SqL.of (X1 _ _ hqq (B.ne hq)),hn,?_⟩
  refine ⟨L,b,_,rfl,B1,⟨n0,by omega⟩,fun v2 H2 p2 q2 B2 X2=>?_⟩
  refine ⟨_,_,rfl,rfl,?_⟩
  refine ⟨1+v2,rfl,by omega,by omega,fun acc hacc=>?_⟩
  have nb1:=B2.ne hacc
  have nb2:=B2.neL hacc
  have hfree:∀ a,H2 a=none->a≠b->H a=none:=fun a n nb=>jj.free sq (X1.free (X2.free n nb) nb)
  refine xc (lo:=0) (n:=(1+v2).toNat) (acc:=acc) (fun i σ H3=>∃ (x:Option V) (xs:List V) (ts:List T3),σ=[x,some (.ref b)]/\qd L H3 b/\(∀ c o,H2 c=some o->c≠b->H3 c=some o)/\H3 acc=some (.lst xs)/\jo H3 xs ts/\ts.length=i/\ts.all good=true) ?_ ?_ ?_
  ·exact ⟨none,[],[],rfl,B2.put nb1 nb2,fun c o hc n=>Ext.put _ _ hc (j1 hc hacc),j6,.nil,rfl,rfl⟩
  ·rintro i σ H3 hi ⟨x,xs,ts,rfl,B3,ks,h3,r3,hl,hg⟩
   walk_at "r"
   refine ⟨L,b,rfl,B3,fun p H4 t B4 X4 hp ht=>?_⟩
   have h4:=X4 _ _ h3 nb1
   have r4:jo H4 xs ts:=r3.imp fun p t e=>X4 _ _ e (B3.ne_tup e)
   have hlen:=r4.length
   refine ⟨xs,h4,jd (by omega),_,xs++[.ref p],ts++[t],rfl,B4.put nb1 nb2,fun c o hc n=>Ext.put _ _ (X4 _ _ (ks c o hc n) n) (j1 hc hacc),j6,?_,by rw [List.length_append,hl];rfl,by rw [List.all_append,hg];simp [ht]⟩
   exact jo.imp (r4.snoc ⟨p,rfl,hp⟩) fun q t e=>Ext.put _ _ e (jp e h4 (by walk_at "z"))
  ·rintro σ H3 ⟨x,xs,ts,rfl,B3,ks,h3,r3,hl,hg⟩
   exact k acc H3 xs ts B3 (fun c o hc n=>ks c o (X2 _ _ (X1 _ _ (sq _ _ hc) n) n) n) (hfree acc hacc nb1) h3 r3 (by omega) hg
theorem JT:FnScope ["_law_found"] ["_law_found"] (j8 yq):=by walk_at "s"
theorem Vy {f:Addr}{fd:FuncData}(nb:Nb2 mg) (F:Fun K "_law_whole" "_law_whole" yq f fd):FnOk P w K mg base CX0 1 f fd ["_law_found"] Z9:=by
 refine F.ok JT (fun vs H Q E h=>?_) (fun cdv A outer s H vs Q E hr h=>?_)
 ·obtain ⟨i,rfl,_⟩:=h
  rfl
 ·obtain ⟨i,rfl,k⟩:=h
  refine ⟨_,(j9 (jk (y7 (jf (jQ K) rfl nb.b_isinstance boot_isinstance (j0 (pv 0) (j0 (xu (v:=V.ty "int") rfl nb.b_int PyProof.Rows.boot_int rfl) j2))) (yi (WC (jf (jQ K) rfl nb.b_isinstance boot_isinstance (j0 (pv 0) (j0 (xu (v:=V.ty "bool") rfl nb.b_bool PyProof.Rows.boot_bool rfl) j2)))))))),?_⟩
  walk_at "r"
  refine ⟨_,_,_,_,rfl,.int _,wY K,_,rfl,yn ?_⟩
  walk_at "r"
  refine ⟨_,_,_,_,rfl,.int _,uV K,_,rfl,?_⟩
  exact k
theorem vW:FnScope ["_law_found","_law_due"] ["_law_found","_law_due"] (j8 xS):=by walk_at "s"
theorem ZR {f:Addr}{fd:FuncData}(F:Fun K "_law_alike" "_law_alike" xS f fd):FnOk P w K mg base CX0 1 f fd ["_law_found","_law_due"] (VT 0):=by
 refine F.ok vW (fun vs H Q E h=>?_) (fun cdv A outer s H vs Q E hr h=>?_)
 ·obtain ⟨x,y,d,rfl,_⟩:=h
  rfl
 ·obtain ⟨x,y,d,rfl,_,_,z,_⟩:=h
  cases z
theorem uK (n:Nat) {f:Addr}{fd:FuncData}(nb:Nb2 mg) (c_law_whole:Cal P w K mg base 1 "_law_whole" ["_law_found"] Z9) (c_law_alike:Cal P w K mg base (n+1) "_law_alike" ["_law_found","_law_due"] (VT n)) (F:Fun K "_law_alike" "_law_alike" xS f fd):FnOk P w K mg base CX0 (n+2) f fd ["_law_found","_law_due"] (VT (n+1)):=by
 refine F.ok vW (fun vs H Q E h=>?_) (fun cdv A outer s H vs Q E hr h=>?_)
 ·obtain ⟨x,y,d,rfl,_⟩:=h
  rfl
 ·obtain ⟨x,y,d,rfl,hx,hy,hs,k⟩:=h
  refine ⟨_,(j4 (jV (jD XT (pv 1) Jo (jI _)) (j9 (jk (zw XT (pv 0) Jo (jI _)))) jy)
   (j4 (jV (zK (jf (jQ K) rfl nb.b_isinstance boot_isinstance (j0 (pv 1) (j0 (xu (v:=V.ty "bool") rfl nb.b_bool PyProof.Rows.boot_bool rfl) j2)))) (j9 (jk (y7 (jf (jQ K) rfl nb.b_isinstance boot_isinstance (j0 (pv 0) (j0 (xu (v:=V.ty "bool") rfl nb.b_bool PyProof.Rows.boot_bool rfl) j2))) (yi (zw uT (pv 0) (pv 1) (jI _)))))) jy)
   (j4 (jV (zK (jf (jQ K) rfl nb.b_isinstance boot_isinstance (j0 (pv 1) (j0 (xu (v:=V.ty "int") rfl nb.b_int PyProof.Rows.boot_int rfl) j2)))) (j9 (jk (y7 (jc c_law_whole (hr.mono (by omega)) rfl (j0 (pv 0) j2)) (yi (zw uT (pv 0) (pv 1) (jI _)))))) jy)
   (j4 (jV (zK (jf (jQ K) rfl nb.b_isinstance boot_isinstance (j0 (pv 1) (j0 (xu (v:=V.ty "str") rfl nb.b_str PyProof.Rows.boot_str rfl) j2)))) (j9 (jk (y7 (jf (jQ K) rfl nb.b_isinstance boot_isinstance (j0 (pv 0) (j0 (xu (v:=V.ty "str") rfl nb.b_str PyProof.Rows.boot_str rfl) j2))) (yi (zw uT (pv 0) (pv 1) (jI _)))))) jy)
   (j4 (jV (PW.pt (UX (jD V0 (jf (jQ K) rfl nb.b_isinstance boot_isinstance (j0 (pv 1) (j0 (xu (v:=V.ty "list") rfl nb.b_list PyProof.Rows.boot_list rfl) j2))) (jf (jQ K) rfl nb.b_isinstance boot_isinstance (j0 (pv 0) (j0 (xu (v:=V.ty "list") rfl nb.b_list PyProof.Rows.boot_list rfl) j2))) (jI _)) (VA (jD V0 (jf (jQ K) rfl nb.b_isinstance boot_isinstance (j0 (pv 1) (j0 (xu (v:=V.ty "tuple") rfl nb.b_tuple PyProof.Rows.boot_tuple rfl) j2))) (jf (jQ K) rfl nb.b_isinstance boot_isinstance (j0 (pv 0) (j0 (xu (v:=V.ty "tuple") rfl nb.b_tuple PyProof.Rows.boot_tuple rfl) j2))) (jI _))))) (j9 (jk Jd)) jy)
   (j9 (jk (y7 (zw uT (jf (ji K) rfl nb.b_len PySem.boot_len (j0 (pv 0) j2)) (jf (ji K) rfl nb.b_len PySem.boot_len (j0 (pv 1) j2)) (jI _)) (yi (jf (zT K rfl) rfl nb.b_all boot_all (j0 (jY (osc:=(j8 xS)) (ON:=["_law_found","_law_due"]) (N:=["_law_one","_law_other"]) (own:=2) (caps:=[]) ⟨rfl,by walk_at "k",by walk_at "k",by walk_at "k",rfl,by walk_at "k"⟩ rfl rfl rfl (UP K rfl nb.b_zip (j0 (pv 0) (j0 (pv 1) j2))) (fun _ _ _ _ _=>(qk (n:=2) K rfl (jh (ja (i:=0) (show List.Nodup (["_law_one","_law_other"]:List Str) by decide +kernel) rfl (Or.inl rfl)) (jh (ja (i:=1) (show List.Nodup (["_law_one","_law_other"]:List Str) by decide +kernel) rfl (Or.inl rfl)) qj)))) (fun _ _ _ _ _=>jF) (fun _ _ _ _ _=>(jc c_law_alike (hr.mono (by omega)) rfl (j0 (pv 0) (j0 (pv 1) j2))))) j2))))))))))),?_⟩
  cases d with
  | none =>
   cases hx;cases hy
   walk_at "r"
   exact k H (jj.refl _)
  | bool b =>
   cases hx;cases hy
   walk_at "r"
   refine ⟨_,_,_,_,rfl,.bl _,ub K,_,rfl,yn ?_⟩
   walk_at "r"
   refine ⟨_,_,_,_,rfl,.bl _,ub K,_,rfl,yn ?_⟩
   walk_at "r"
   have k':=k H (jj.refl _)
   rw [decide_eq_true rfl]
   exact k'
  | int i =>
   cases hx;cases hy
   walk_at "r"
   refine ⟨_,_,_,_,rfl,.int _,uV K,_,rfl,vM ?_⟩
   walk_at "r"
   refine ⟨_,_,_,_,rfl,.int _,wY K,_,rfl,yn ?_⟩
   walk_at "r"
   have k':=k H (jj.refl _)
   rw [decide_eq_true rfl]
   exact k'
  | str i =>
   cases hx;cases hy
   walk_at "r"
   refine ⟨_,_,_,_,rfl,.str _,Qg K,_,rfl,vM ?_⟩
   walk_at "r"
   refine ⟨_,_,_,_,rfl,.str _,Xs K,_,rfl,vM ?_⟩
   walk_at "r"
   refine ⟨_,_,_,_,rfl,.str _,wu K,_,rfl,yn ?_⟩
   walk_at "r"
   refine ⟨_,_,_,_,rfl,.str _,wu K,_,rfl,yn ?_⟩
   walk_at "r"
   have k':=k H (jj.refl _)
   rw [decide_eq_true rfl]
   exact k'
  | list ds =>
   cases hx with
   | @lst a va _ ha da =>
   cases hy with
   | @lst b vb _ hb db =>
   have el:=da.length
   have el2:=db.length
   have hsm:ds.length<=1000/\ds.all (xT n)=true:=by
    have z:(decide (ds.length<=1000) && ds.all (xT n))=true:=hs
    rw [Bool.and_eq_true] at z
    exact ⟨of_decide_eq_true z.1,z.2⟩
   walk_at "r"
   refine ⟨_,_,_,_,rfl,.lst hb,JN K,_,rfl,vM ?_⟩
   walk_at "r"
   refine ⟨_,_,_,_,rfl,.lst hb,Qt K,_,rfl,vM ?_⟩
   walk_at "r"
   refine ⟨_,_,_,_,rfl,.lst hb,Qv K,_,rfl,vM ?_⟩
   walk_at "r"
   refine ⟨_,_,_,_,rfl,.lst hb,ul K,?_⟩
   walk_at "r"
   refine ⟨_,_,_,_,rfl,.lst ha,ul K,?_⟩
   walk_at "r"
   refine ⟨_,_,_,_,rfl,.lst hb,yT K,?_⟩
   walk_at "r"
   refine ⟨_,_,_,_,rfl,.lst ha,yT K,?_⟩
   walk_at "r"
   refine ⟨_,_,rfl,.inl (SqL.of ha),?_⟩
   walk_at "r"
   refine ⟨_,_,rfl,.inl (SqL.of hb),?_⟩
   walk_at "r"
   rw [el,el2]
   refine qB (fun _=>?_) (fun z=>absurd rfl z)
   walk_at "r"
   refine ⟨false,false,_,_,rfl,⟨_,SqL.of ha⟩,⟨_,SqL.of hb⟩,fun acc hacc=>?_⟩
   refine Jf (K:=K) (t0:=false) (u0:=false) (a:=a) (b:=b) (xs:=va) (ys:=vb) (acc:=acc) (el.trans el2.symm) (fun j σ H2=>∃ x y:Option V,σ=[x,y]/\H2 acc=some (.lst ((List.replicate j true).map V.bl))/\Ext acc H H2) ?_ ?_ ?_ ?_
   ·exact ⟨none,none,rfl,j6,Ext.put⟩
   ·rintro j σ H2 hj ⟨x,y,rfl,h3,e3⟩
    exact ⟨SqL.of (e3 _ _ ha (j1 ha hacc)),SqL.of (e3 _ _ hb (j1 hb hacc))⟩
   ·rintro j x y σ H2 p hx hy ⟨v1,v2,rfl,h3,e3⟩ hp
    obtain ⟨d1,hd1,q1⟩:=da.get hx
    obtain ⟨d2,hd2,q2⟩:=db.get hy
    rw [hd1] at hd2
    cases hd2
    have hj:j<ds.length:=(List.getElem?_eq_some_iff.mp hd1).1
    have s2:jj H (upd H2 p (.tup [x,y])):=fun c o hc=>(jj.new hp) _ _ (e3 _ _ hc (j1 hc hacc))
    have q1':=q1.same s2
    have q2':=q2.same s2
    have h3':upd H2 p (.tup [x,y]) acc=_:=(jj.new hp) _ _ h3
    have e3':Ext acc H (upd H2 p (.tup [x,y])):=fun c o hc n=>(jj.new hp) _ _ (e3 _ _ hc n)
    have hp':upd H2 p (.tup [x,y]) p=some (.tup [x,y]):=j6
    generalize upd H2 p (.tup [x,y])=H4 at s2 q1' q2' h3' e3' hp'
    walk_at "r"
    refine ⟨p,_,rfl,SqT.of hp',rfl,?_⟩
    refine ⟨_,_,rfl,_,_,rfl,rfl,?_⟩
    walk_at "r"
    refine ⟨x,y,d1,rfl,q1',q2',List.all_eq_true.mp hsm.2 _ (List.mem_of_getElem? hd1),fun H5 s5=>?_⟩
    refine ⟨_,s5 _ _ h3',by rw [List.length_map,List.length_replicate];exact jd (by omega),_,_,rfl,?_,fun c o hc n=>by rw [j5 n];exact s5 _ _ (e3' c o hc n)⟩
    rw [j6,List.replicate_succ',List.map_append]
    rfl
   ·rintro σ H2 ⟨v1,v2,rfl,h3,e3⟩
    refine ⟨acc,_,rfl,SqL.of h3,?_⟩
    have e:((List.replicate va.length true).all fun b=>b)=true:=by
     rw [List.all_eq_true]
     intro x hx
     exact (List.mem_replicate.mp hx).2
    rw [e]
    exact k H2 fun c o hc=>e3 c o hc (j1 hc hacc)
  | tuple ds =>
   cases hx with
   | @tup a va _ ha da =>
   cases hy with
   | @tup b vb _ hb db =>
   have el:=da.length
   have el2:=db.length
   have hsm:ds.length<=1000/\ds.all (xT n)=true:=by
    have z:(decide (ds.length<=1000) && ds.all (xT n))=true:=hs
    rw [Bool.and_eq_true] at z
    exact ⟨of_decide_eq_true z.1,z.2⟩
   walk_at "r"
   refine ⟨_,_,_,_,rfl,.tup hb,hE K,_,rfl,vM ?_⟩
   walk_at "r"
   refine ⟨_,_,_,_,rfl,.tup hb,Jn K,_,rfl,vM ?_⟩
   walk_at "r"
   refine ⟨_,_,_,_,rfl,.tup hb,Ji K,_,rfl,vM ?_⟩
   walk_at "r"
   refine ⟨_,_,_,_,rfl,.tup hb,yX K,?_⟩
   walk_at "r"
   refine ⟨_,_,_,_,rfl,.tup ha,yX K,?_⟩
   walk_at "r"
   refine ⟨_,_,_,_,rfl,.tup hb,yA K,?_⟩
   walk_at "r"
   refine ⟨_,_,_,_,rfl,.tup ha,yA K,?_⟩
   walk_at "r"
   refine ⟨_,_,rfl,.inr (SqT.of ha),?_⟩
   walk_at "r"
   refine ⟨_,_,rfl,.inr (SqT.of hb),?_⟩
   walk_at "r"
   rw [el,el2]
   refine qB (fun _=>?_) (fun z=>absurd rfl z)
   walk_at "r"
   refine ⟨true,true,_,_,rfl,⟨_,SqT.of ha⟩,⟨_,SqT.of hb⟩,fun acc hacc=>?_⟩
   refine Jf (K:=K) (t0:=true) (u0:=true) (a:=a) (b:=b) (xs:=va) (ys:=vb) (acc:=acc) (el.trans el2.symm) (fun j σ H2=>∃ x y:Option V,σ=[x,y]/\H2 acc=some (.lst ((List.replicate j true).map V.bl))/\Ext acc H H2) ?_ ?_ ?_ ?_
   ·exact ⟨none,none,rfl,j6,Ext.put⟩
   ·rintro j σ H2 hj ⟨x,y,rfl,h3,e3⟩
    exact ⟨SqT.of (e3 _ _ ha (j1 ha hacc)),SqT.of (e3 _ _ hb (j1 hb hacc))⟩
   ·rintro j x y σ H2 p hx hy ⟨v1,v2,rfl,h3,e3⟩ hp
    obtain ⟨d1,hd1,q1⟩:=da.get hx
    obtain ⟨d2,hd2,q2⟩:=db.get hy
    rw [hd1] at hd2
    cases hd2
    have hj:j<ds.length:=(List.getElem?_eq_some_iff.mp hd1).1
    have s2:jj H (upd H2 p (.tup [x,y])):=fun c o hc=>(jj.new hp) _ _ (e3 _ _ hc (j1 hc hacc))
    have q1':=q1.same s2
    have q2':=q2.same s2
    have h3':upd H2 p (.tup [x,y]) acc=_:=(jj.new hp) _ _ h3
    have e3':Ext acc H (upd H2 p (.tup [x,y])):=fun c o hc n=>(jj.new hp) _ _ (e3 _ _ hc n)
    have hp':upd H2 p (.tup [x,y]) p=some (.tup [x,y]):=j6
    generalize upd H2 p (.tup [x,y])=H4 at s2 q1' q2' h3' e3' hp'
    walk_at "r"
    refine ⟨p,_,rfl,SqT.of hp',rfl,?_⟩
    refine ⟨_,_,rfl,_,_,rfl,rfl,?_⟩
    walk_at "r"
    refine ⟨x,y,d1,rfl,q1',q2',List.all_eq_true.mp hsm.2 _ (List.mem_of_getElem? hd1),fun H5 s5=>?_⟩
    refine ⟨_,s5 _ _ h3',by rw [List.length_map,List.length_replicate];exact jd (by omega),_,_,rfl,?_,fun c o hc n=>by rw [j5 n];exact s5 _ _ (e3' c o hc n)⟩
    rw [j6,List.replicate_succ',List.map_append]
    rfl
   ·rintro σ H2 ⟨v1,v2,rfl,h3,e3⟩
    refine ⟨acc,_,rfl,SqL.of h3,?_⟩
    have e:((List.replicate va.length true).all fun b=>b)=true:=by
     rw [List.all_eq_true]
     intro x hx
     exact (List.mem_replicate.mp hx).2
    rw [e]
    exact k H2 fun c o hc=>e3 c o hc (j1 hc hacc)
  | _=>cases hx
end
section
variable {P:Program}{w:World}{K:PySem.W.Frag}{mg:Str->Option Value}{base:Heap}
def yW:Sp:=fun vs H Q _=>∃ (L b:Addr) (tp sz:Int),vs=[.ref b,.int tp,.int sz]/\qd L H b/\tp<=99/\0<=sz/\sz<=100/\∀ p H' (hs:List Int),qd L H' b->Ext b H H'->H p=none->H' p=some (.lst (hs.map V.int))->(hs.length:Int)=sz->(∀ x∈hs,0<=x/\x<=99)->Q (.ref p) H'
theorem qU:FnScope ["_law_box_here","_law_top_here","_law_size","_law_pick","_law_step"] ["_law_box_here","_law_top_here","_law_size"] (j8 qh):=by walk_at "s"
theorem wd {f:Addr}{fd:FuncData}(nb:Nb2 mg) (c_law_take:Cal P w K mg base 2 "_law_take" ["_law_box_here","_law_size"] zd) (F:Fun K "_law_ground_drawn" "_law_ground_drawn" qh f fd):FnOk P w K mg base CX0 3 f fd ["_law_box_here","_law_top_here","_law_size"] yW:=by
 refine F.ok qU (fun vs H Q E h=>?_) (fun cdv A outer s H vs Q E hr h=>?_)
 ·obtain ⟨L,b,tp,sz,rfl,_⟩:=h
  rfl
 ·obtain ⟨L,b,tp,sz,rfl,B,htp,h0,h1,k⟩:=h
  refine ⟨_,(j4 (jm (i:=3) qU.nd rfl (Or.inl rfl) (jc c_law_take (hr.mono (by decide)) rfl (j0 (pv 0) (j0 j7 j2))))
   (j4 (jV (jD uT (pv 3) j7 (jI _)) (j9 (jk (jY (osc:=(j8 qh)) (ON:=["_law_box_here","_law_top_here","_law_size","_law_pick","_law_step"]) (N:=["_law_turn","_law_box_here"]) (own:=1) (caps:=[0]) ⟨rfl,by walk_at "k",by walk_at "k",by walk_at "k",rfl,by walk_at "k"⟩ rfl rfl rfl (qx rfl nb.b_range (j0 (pv 2) j2)) (fun _ _ _ _ _=>(ja (i:=0) (show List.Nodup (["_law_turn","_law_box_here"]:List Str) by decide +kernel) rfl (Or.inl rfl))) (fun _ _ _ _ _=>jF) (fun _ _ _ _ _=>(jc c_law_take (hr.mono (by decide)) rfl (j0 (pv 1) (j0 j7 j2))))))) jy)
   (j4 (jm (i:=4) qU.nd rfl (Or.inr rfl) (jn jH j7 (jc c_law_take (hr.mono (by decide)) rfl (j0 (pv 0) (j0 j7 j2)))))
   (j9 (jk (jY (osc:=(j8 qh)) (ON:=["_law_box_here","_law_top_here","_law_size","_law_pick","_law_step"]) (N:=["_law_place","_law_top_here","_law_step"]) (own:=1) (caps:=[1,4]) ⟨rfl,by walk_at "k",by walk_at "k",by walk_at "k",rfl,by walk_at "k"⟩ rfl rfl rfl (qx rfl nb.b_range (j0 (pv 2) j2)) (fun _ _ _ _ _=>(ja (i:=0) (show List.Nodup (["_law_place","_law_top_here","_law_step"]:List Str) by decide +kernel) rfl (Or.inl rfl))) (fun _ _ _ _ _=>jF) (fun _ _ _ _ _=>(jf (yK rfl) rfl nb.b_max boot_max (j0 j7 (j0 (jn qT (pv 1) (jn vE (pv 2) (pv 0))) j2)))))))))),?_⟩
  walk_at "r"
  refine ⟨L,b,_,rfl,B,⟨by decide,by decide⟩,fun v1 H1 p1 q1 B1 X1=>?_⟩
  walk_at "r"
  refine qB (fun _=>?_) (fun _=>?_)
  ·walk_at "r"
   refine ⟨by omega,by omega,fun acc hacc=>?_⟩
   have na1:=B1.ne hacc
   have na2:=B1.neL hacc
   refine xc (lo:=0) (n:=sz.toNat) (acc:=acc) (fun i σ H2=>∃ (x:Option V) (hs:List Int),σ=[x,some (.ref b)]/\qd L H2 b/\H2 acc=some (.lst (hs.map V.int))/\hs.length=i/\(∀ x∈hs,0<=x/\x<=99)/\Ext b H1 H2) ?_ ?_ ?_
   ·exact ⟨none,[],rfl,B1.put na1 na2,j6,rfl,(by intro x hx;cases hx),Ext.new hacc⟩
   ·rintro i σ H2 hi ⟨x,hs,rfl,B2,h2,hl,hb,e2⟩
    walk_at "r"
    refine ⟨L,b,_,rfl,B2,⟨by decide,by decide⟩,fun v H3 p3 q3 B3 X3=>?_⟩
    have h3:=X3 _ _ h2 na1
    refine ⟨_,h3,by rw [List.length_map];exact jd (by omega),_,hs++[v],rfl,B3.put na1 na2,by rw [j6,List.map_append];rfl,by rw [List.length_append,hl];rfl,fun x hx=>?_,fun c o hc n=>?_⟩
    ·rcases List.mem_append.mp hx with hx | hx
     ·exact hb x hx
     ·have:x=v:=by simpa using hx
      omega
    ·rw [j5 (j1 hc hacc)]
     exact X3 _ _ (e2 c o hc n) n
   ·rintro σ H2 ⟨x,hs,rfl,B2,h2,hl,hb,e2⟩
    exact k acc H2 hs B2 (X1.trans e2) (X1.free hacc na1) h2 (by omega) hb
  ·walk_at "r"
   refine ⟨L,b,_,rfl,B1,⟨by decide,by decide⟩,fun v2 H2 p2 q2 B2 X2=>?_⟩
   walk_at "r"
   refine ⟨by omega,by omega,fun acc hacc=>?_⟩
   have na1:=B2.ne hacc
   have na2:=B2.neL hacc
   refine xc (lo:=0) (n:=sz.toNat) (acc:=acc) (fun i σ H3=>∃ (x:Option V) (hs:List Int),σ=[x,some (.int tp),some (.int (1+v2))]/\qd L H3 b/\H3 acc=some (.lst (hs.map V.int))/\hs.length=i/\(∀ x∈hs,0<=x/\x<=99)/\Ext b H2 H3) ?_ ?_ ?_
   ·exact ⟨none,[],rfl,B2.put na1 na2,j6,rfl,(by intro x hx;cases hx),Ext.new hacc⟩
   ·rintro i σ H3 hi ⟨x,hs,rfl,B3,h3,hl,hb,e3⟩
    walk_at "r"
    have hm:(0:Int)<=(1+v2)*(0+(i:Int)):=Int.mul_nonneg (by omega) (by omega)
    refine ⟨_,_,rfl,?_⟩
    refine ⟨_,h3,by rw [List.length_map];exact jd (by omega),_,hs++[if tp-(1+v2)*(0+(i:Int)) > 0 then tp-(1+v2)*(0+(i:Int)) else 0],rfl,B3.put na1 na2,by rw [j6,List.map_append];rfl,by rw [List.length_append,hl];rfl,fun x hx=>?_,fun c o hc n=>?_⟩
    ·rcases List.mem_append.mp hx with hx | hx
     ·exact hb x hx
     ·have:x=if tp-(1+v2)*(0+(i:Int)) > 0 then tp-(1+v2)*(0+(i:Int)) else 0:=by simpa using hx
      rw [this]
      split <;> omega
    ·rw [j5 (j1 hc hacc)]
     exact e3 c o hc n
   ·rintro σ H3 ⟨x,hs,rfl,B3,h3,hl,hb,e3⟩
    have hacc1:=X2.free hacc na1
    exact k acc H3 hs B3 ((X1.trans X2).trans e3) (X1.free hacc1 na1) h3 (by omega) hb
structure RD (L b tp rw dp:Addr) (H0:Hp):Prop where
 tb:tp≠b
 rb:rw≠b
 db:dp≠b
 tL:tp≠L
 rL:rw≠L
 dL:dp≠L
 tr:tp≠rw
 td:tp≠dp
 rd:rw≠dp
 nt:H0 tp=none
 nr:H0 rw=none
 nd:H0 dp=none
structure RG (L b tp rw dp:Addr) (H0 H:Hp) (ts:List Int) (xs:List V) (rs:List Rch) (ds:List Int):Prop where
 box:qd L H b
 htp:H tp=some (.lst (ts.map V.int))
 hrw:H rw=some (.lst xs)
 hdp:H dp=some (.lst (ds.map V.int))
 rows:jU H xs rs
 ext:Ext b H0 H
section
variable {L b tp rw dp:Addr}{H0 H H':Hp}{ts ds:List Int}{xs:List V}{rs:List Rch}
theorem RG.take (D:RD L b tp rw dp H0) (G:RG L b tp rw dp H0 H ts xs rs ds) (B:qd L H' b) (X:Ext b H H'):RG L b tp rw dp H0 H' ts xs rs ds :=
 ⟨B,X _ _ G.htp D.tb,X _ _ G.hrw D.rb,X _ _ G.hdp D.db,G.rows.keep (by obtain ⟨ns,a,r,c,d,h1,_⟩:=G.box;exact jg.lst X h1),G.ext.trans X⟩
theorem RG.same (G:RG L b tp rw dp H0 H ts xs rs ds) (s:jj H H'):RG L b tp rw dp H0 H' ts xs rs ds :=
 ⟨G.box.same s,s _ _ G.htp,s _ _ G.hrw,s _ _ G.hdp,G.rows.keep (jg.same s),G.ext.trans (Ext.of_same s)⟩
theorem RG.extN {a:Addr}(G:RG L b tp rw dp H0 H ts xs rs ds) (hn:H a=none) (e:Ext a H H'):RG L b tp rw dp H0 H' ts xs rs ds:=G.same fun c o h=>e c o h (j1 h hn)
theorem RG.putT (D:RD L b tp rw dp H0) (G:RG L b tp rw dp H0 H ts xs rs ds) (ts':List Int):RG L b tp rw dp H0 (upd H tp (.lst (ts'.map V.int))) ts' xs rs ds :=
 ⟨G.box.put D.tb D.tL,j6,by rw [j5 D.tr.symm];exact G.hrw,by rw [j5 D.td.symm];exact G.hdp,G.rows.keep (jg.lst Ext.put G.htp),fun c o h n=>by rw [j5 (j1 h D.nt)];exact G.ext c o h n⟩
theorem RG.putR (D:RD L b tp rw dp H0) (G:RG L b tp rw dp H0 H ts xs rs ds) {v:V}{r:Rch}(q:Jz H v r):RG L b tp rw dp H0 (upd H rw (.lst (xs++[v]))) ts (xs++[v]) (rs++[r]) ds :=
 ⟨G.box.put D.rb D.rL,by rw [j5 D.tr];exact G.htp,j6,by rw [j5 D.rd.symm];exact G.hdp,(G.rows.snoc q).keep (jg.lst Ext.put G.hrw),fun c o h n=>by rw [j5 (j1 h D.nr)];exact G.ext c o h n⟩
theorem RG.putD (D:RD L b tp rw dp H0) (G:RG L b tp rw dp H0 H ts xs rs ds) (ds':List Int):RG L b tp rw dp H0 (upd H dp (.lst (ds'.map V.int))) ts xs rs ds' :=
 ⟨G.box.put D.db D.dL,by rw [j5 D.td];exact G.htp,by rw [j5 D.rd];exact G.hrw,j6,G.rows.keep (jg.lst Ext.put G.hdp),fun c o h n=>by rw [j5 (j1 h D.nd)];exact G.ext c o h n⟩
end
def xA (rs:List Rch):List Int:=(List.range rs.length).map fun i=>jA rs (qt rs i)
theorem Qc {rs:List Rch}{t:Int}{hs:List Int}(G:Grown rs) (h0:0<=t) (h1:t<rs.length) (hx:okR rs.length (t,hs)=true):xA (rs++[(t,hs)])=xA rs++[jA rs (qt rs t.toNat)+hs.length]:=by
 have Ld:=jZ G.ok
 unfold xA
 rw [List.length_append,List.length_singleton,List.range_succ,List.map_append]
 congr 1
 ·apply List.map_congr_left
  intro i hi
  have hi':=List.mem_range.mp hi
  rw [yM Ld hi',xP _ (xJ Ld i hi')]
 ·show [jA (rs++[(t,hs)]) (qt (rs++[(t,hs)]) rs.length)]=[_]
  rw [G.deep_snoc h0 h1 hx]
theorem Yb {rs:List Rch}{t:Int}(h0:0<=t) (h1:t<rs.length):atI ((xA rs).map V.int) t=some (.int (jA rs (qt rs t.toNat))):=by
 refine qW h0 ?_
 unfold xA
 rw [List.getElem?_map,List.getElem?_map,List.getElem?_range (by omega)]
 rfl
theorem Us {i:Nat}{t sz:Int}{hs:List Int}(hi:0<i) (h0:0<=t) (h1:t<i) (hl:(hs.length:Int)=sz) (hz0:1<=sz) (hz1:sz<=12) (hb:∀ x∈hs,0<=x/\x<=99):okR i (t,hs)=true:=by
 unfold okR xB
 rw [if_neg (by omega),decide_eq_true (show 0<=t/\t<(i:Int) from ⟨h0,h1⟩),decide_eq_true (show 1<=(hs.length:Int)/\(hs.length:Int)<=12 by omega),Bool.true_and,Bool.true_and,List.all_eq_true]
 intro x hx
 exact decide_eq_true (hb x hx)
def kA:Sp:=fun vs H Q _=>∃ (L b:Addr),vs=[.ref b]/\qd L H b/\∀ p H' xs rs,qd L H' b->Ext b H H'->H p=none->H' p=some (.lst xs)->jU H' xs rs->Grown rs->1<=rs.length->rs.length<=8->Q (.ref p) H'
theorem jE:FnScope ["_law_box_here","_law_tops","_law_sizes","_law_rows","_law_deep","_law_number","_law_to","_law_led","_law_heads","_law_size"] ["_law_box_here"] (j8 qZ):=by walk_at "s"
theorem WE {v:Int}(a:0<=v) (b:v<3):∃ n,atI [V.int 1,V.int 3,V.int 8] v=some (V.int n)/\0<n/\n<=8:=by
 have h:v=0\/v=1\/v=2:=by omega
 rcases h with rfl | rfl | rfl
 ·exact ⟨1,rfl,by omega,by omega⟩
 ·exact ⟨3,rfl,by omega,by omega⟩
 ·exact ⟨8,rfl,by omega,by omega⟩
theorem XW {f:Addr}{fd:FuncData}(nb:Nb2 mg) (c_law_take:Cal P w K mg base 2 "_law_take" ["_law_box_here","_law_size"] zd) (c_law_ground_drawn:Cal P w K mg base 3 "_law_ground_drawn" ["_law_box_here","_law_top_here","_law_size"] yW) (F:Fun K "_law_reaches" "_law_reaches" qZ f fd):FnOk P w K mg base CX0 4 f fd ["_law_box_here"] kA:=by
 refine F.ok jE (fun vs H Q E h=>?_) (fun cdv A outer s H vs Q E hr h=>?_)
 ·obtain ⟨L,b,rfl,_⟩:=h
  rfl
 ·obtain ⟨L,b,rfl,B,k⟩:=h
  refine ⟨_,(j4 (jm (i:=1) jE.nd rfl (Or.inl rfl) (jL (j0 (jn jH j7 (jc c_law_take (hr.mono (by decide)) rfl (j0 (pv 0) (j0 j7 j2)))) j2)))
   (j4 (jm (i:=2) jE.nd rfl (Or.inl rfl) (jL (j0 (jn jH j7 (jc c_law_take (hr.mono (by decide)) rfl (j0 (pv 0) (j0 j7 j2)))) j2)))
   (j4 (jm (i:=3) jE.nd rfl (Or.inl rfl) (jL (j0 (qm (j0 (jn qT j7 j7) (j0 (qp (zk K) rfl nb.b_tuple PyProof.Rows.boot_tuple (j0 (jc c_law_ground_drawn (hr.mono (by decide)) rfl (j0 (pv 0) (j0 (jt (je K) (pv 1) j7 (fun _ _=>rfl)) (j0 (jt (je K) (pv 2) j7 (fun _ _=>rfl)) j2)))) j2)) j2))) j2)))
   (j4 (jm (i:=4) jE.nd rfl (Or.inl rfl) (jL (j0 (jt (je K) (pv 2) j7 (fun _ _=>rfl)) j2)))
   (j4 (xb PassesOwn.never rfl (Yj rfl nb.b_range (j0 j7 (j0 (jn jH j7 (jc c_law_take (hr.mono (by decide)) rfl (j0 (pv 0) (j0 (jt (je K) (jL (j0 j7 (j0 j7 (j0 j7 j2)))) (jc c_law_take (hr.mono (by decide)) rfl (j0 (pv 0) (j0 j7 j2))) (fun _ _=>rfl)) j2)))) j2))) (ja (i:=5) jE.nd rfl (Or.inl rfl)) (j4 (jm (i:=6) jE.nd rfl (Or.inl rfl) (jc c_law_take (hr.mono (by decide)) rfl (j0 (pv 0) (j0 (pv 5) j2))))
   (j4 (jm (i:=7) jE.nd rfl (Or.inr rfl) (jY (osc:=(j8 qZ)) (ON:=["_law_box_here","_law_tops","_law_sizes","_law_rows","_law_deep","_law_number","_law_to","_law_led","_law_heads","_law_size"]) (N:=["_law_row_here"]) (own:=1) (caps:=[]) ⟨rfl,by walk_at "k",by walk_at "k",by walk_at "k",rfl,by walk_at "k"⟩ rfl rfl rfl (jT K (pv 3)) (fun _ _ _ _ _=>(ja (i:=0) (show List.Nodup (["_law_row_here"]:List Str) by decide +kernel) rfl (Or.inl rfl))) (fun _ _ _ _ _=>jF) (fun _ _ _ _ _=>(jt (qL K) (pv 0) j7 (fun _ _=>rfl)))))
   (j4 (jm (i:=8) jE.nd rfl (Or.inl rfl) (jf (ji K) rfl nb.b_len PySem.boot_len (j0 (jY (osc:=(j8 qZ)) (ON:=["_law_box_here","_law_tops","_law_sizes","_law_rows","_law_deep","_law_number","_law_to","_law_led","_law_heads","_law_size"]) (N:=["_law_one","_law_led"]) (own:=1) (caps:=[7]) ⟨rfl,by walk_at "k",by walk_at "k",by walk_at "k",rfl,by walk_at "k"⟩ rfl rfl rfl (qx rfl nb.b_range (j0 (pv 5) j2)) (fun _ _ _ _ _=>(ja (i:=0) (show List.Nodup (["_law_one","_law_led"]:List Str) by decide +kernel) rfl (Or.inl rfl))) (fun _ _ _ _ _=>(kC (jD (zJ K) (pv 0) (pv 1) (by with_unfolding_all rfl)))) (fun _ _ _ _ _=>(pv 0))) j2)))
   (vQ (jV (PW.pt (Xg (jD uT (pv 8) j7 (jI _)) (Jy (jD (XA K) (pv 6) (pv 7) (by with_unfolding_all rfl))))) (j9 (jm (i:=6) jE.nd rfl (Or.inl rfl) (jn qT (pv 5) j7))) jy)
   (j9 (jV (jD yV (jt (je K) (pv 4) (pv 6) (fun _ _=>rfl)) j7 (jI _)) (j4 (jm (i:=9) jE.nd rfl (Or.inl rfl) (jn jH j7 (jc c_law_take (hr.mono (by decide)) rfl (j0 (pv 0) (j0 (jf (uA rfl) rfl nb.b_min boot_min (j0 j7 (j0 (jn qT j7 (jt (je K) (pv 4) (pv 6) (fun _ _=>rfl))) j2))) j2)))))
   (j4 (jO (zM K PySem.F.plainAttrs_list PySem.F.slot_list_append PySem.F.type_list_append qo (pv 1) (j0 (jf (uA rfl) rfl nb.b_min boot_min (j0 j7 (j0 (jn jH (jt (je K) (pv 1) (pv 6) (fun _ _=>rfl)) (jc c_law_take (hr.mono (by decide)) rfl (j0 (pv 0) (j0 j7 j2)))) j2))) j2)))
   (j4 (jO (zM K PySem.F.plainAttrs_list PySem.F.slot_list_append PySem.F.type_list_append qo (pv 3) (j0 (qm (j0 (pv 6) (j0 (qp (zk K) rfl nb.b_tuple PyProof.Rows.boot_tuple (j0 (jc c_law_ground_drawn (hr.mono (by decide)) rfl (j0 (pv 0) (j0 (jt (je K) (pv 1) (yZ zF j7) (fun _ _=>rfl)) (j0 (pv 9) j2)))) j2)) j2))) j2)))
   (j9 (jO (zM K PySem.F.plainAttrs_list PySem.F.slot_list_append PySem.F.type_list_append qo (pv 4) (j0 (jn jH (jt (je K) (pv 4) (pv 6) (fun _ _=>rfl)) (pv 9)) j2))))))) (j9 (jk (pv 3))))))))))
   (j9 (jk (pv 3)))))))),?_⟩
  walk_at "r"
  refine ⟨L,b,_,rfl,B,⟨by decide,by decide⟩,fun v1 H1 p1 q1 B1 X1=>?_⟩
  walk_at "r"
  refine ⟨by show 1<=sizeLine;decide,fun tp H2 htp htp2 s2=>?_⟩
  have B2:=B1.same s2
  walk_at "r"
  refine ⟨L,b,_,rfl,B2,⟨by decide,by decide⟩,fun v2 H3 p3 q3 B3 X3=>?_⟩
  have tb:=B1.ne htp
  have tL:=B1.neL htp
  walk_at "r"
  refine ⟨by show 1<=sizeLine;decide,fun sz H4 hsz hsz4 s4=>?_⟩
  have B4:=B3.same s4
  have htp4:=s4 _ _ (X3 _ _ htp2 tb)
  walk_at "r"
  refine ⟨L,b,20+v1,1+v2,rfl,B4,by omega,by omega,by omega,fun gl H5 hs B5 X5 hgl hgl5 hl hb=>?_⟩
  have szb:=B3.ne hsz
  have htp5:=X5 _ _ htp4 tb
  have hsz5:=X5 _ _ hsz4 szb
  refine ⟨gl,_,rfl,SqL.of hgl5,fun gt H6 hgt hgt6 s6=>?_⟩
  refine ⟨by show 2<=sizeLine;decide,fun rt H7 hrt hrt7 s7=>?_⟩
  refine ⟨by show 1<=sizeLine;decide,fun rw H8 hrw hrw8 s8=>?_⟩
  have B8:=((B5.same s6).same s7).same s8
  have sm58:jj H5 H8:=(s6.trans s7).trans s8
  have hsz8:=sm58 _ _ hsz5
  have htp8:=sm58 _ _ htp5
  have hrw5:H5 rw=none:=(s6.trans s7).free hrw
  have B7:=(B5.same s6).same s7
  have rb:=B7.ne hrw
  have rL:=B7.neL hrw
  have tr:tp≠rw:=j1 ((s6.trans s7) _ _ htp5) hrw
  walk_at "r"
  refine ⟨by show 1<=sizeLine;decide,fun dp H9 hdp hdp9 s9=>?_⟩
  have db:=B8.ne hdp
  have dL:=B8.neL hdp
  have td:tp≠dp:=j1 htp8 hdp
  have rd:rw≠dp:=j1 hrw8 hdp
  have nz:∀ a,H8 a=none->a≠b->a≠L->H a=none:=fun a ha ab aL=>by
   have a5:=sm58.free ha
   have a4:=X5.free a5 ab
   exact X1.free (s2.free (X3.free (s4.free a4) ab)) ab
  have nt:H tp=none:=X1.free htp tb
  have nr:H rw=none:=X1.free (s2.free (X3.free (s4.free (X5.free hrw5 rb)) rb)) rb
  have nd:H dp=none:=nz dp hdp db dL
  have D:RD L b tp rw dp H:=⟨tb,rb,db,tL,rL,dL,tr,td,rd,nt,nr,nd⟩
  have ok0:uy [((0-1:Int),hs)]=true:=by
   unfold uy okR xB
   simp only [List.length_singleton,List.range_one,List.all_cons,List.all_nil,Bool.and_true]
   show (decide ((0-1:Int) = -1) && decide (1<=(hs.length:Int)/\(hs.length:Int)<=12) && hs.all fun x=>decide (0<=x/\x<=99))=true
   rw [decide_eq_true (show 1<=(hs.length:Int)/\(hs.length:Int)<=12 by omega),Bool.and_eq_true,List.all_eq_true]
   exact ⟨rfl,fun x hx=>decide_eq_true (hb x hx)⟩
  have rd0:qt [((0-1:Int),hs)] 0=[0]:=rfl
  have pl0:jA [((0-1:Int),hs)] [0]=hs.length:=by unfold jA;simp [zG]
  have G0:Grown [((0-1:Int),hs)]:=by
   refine ⟨ok0,Nat.le_trans (List.length_filter_le _ _) (by simp),fun i hi=>?_⟩
   have:i=0:=by simp at hi;exact hi
   subst this
   rw [rd0,pl0]
   omega
  have ext8:Ext b H H8:=((((X1.trans (Ext.of_same s2)).trans X3).trans (Ext.of_same s4)).trans X5).trans (Ext.of_same sm58)
  have RG0:RG L b tp rw dp H H9 [20+v1] [.ref rt] [((0-1:Int),hs)] (xA [((0-1:Int),hs)]):=by
   refine ⟨B8.same s9,s9 _ _ htp8,s9 _ _ hrw8,?_,.cons ⟨rt,gt,rfl,s9 _ _ (s8 _ _ hrt7),s9 _ _ (s8 _ _ (s7 _ _ hgt6))⟩ .nil,ext8.trans (Ext.of_same s9)⟩
   rw [hdp9]
   show some (HO.lst [V.int (1+v2)])=some (.lst [V.int (jA [((0-1:Int),hs)] (qt [((0-1:Int),hs)] 0))])
   rw [rd0,pl0,hl]
  walk_at "r"
  refine ⟨by show 3<=sizeLine;decide,fun q3' H10 hq hq10 s10=>?_⟩
  have RG1:=RG0.same s10
  walk_at "r"
  refine ⟨L,b,_,rfl,RG1.box,⟨by decide,by decide⟩,fun v3 H11 p11 q11 B11 X11=>?_⟩
  have RG2:=RG1.take D B11 X11
  have hq11:=X11 _ _ hq10 (RG0.box.ne hq)
  obtain ⟨n,hn,n0,n8⟩:=WE p11 q11
  refine ⟨_,_,_,_,rfl,rfl,SqL.of hq11,hn,?_⟩
  refine ⟨L,b,_,rfl,B11,⟨n0,by omega⟩,fun v4 H12 p12 q12 B12 X12=>?_⟩
  have RG3:=RG2.take D B12 X12
  walk_at "r"
  refine ⟨1,1+v4,rfl,⟨by omega,by omega,by omega,by omega⟩,?_⟩
  have ht99:∀ t∈[20+v1],t<=99:=fun t ht=>by
   have:t=20+v1:=by simpa using ht
   omega
  have done:∀ (H':Hp) ts xs rs ds,RG L b tp rw dp H H' ts xs rs ds->Grown rs->1<=rs.length->rs.length<=8->Q (.ref rw) H':=fun H' ts xs rs ds G gr h1 h8=>k rw H' xs rs G.box G.ext nr G.hrw G.rows gr h1 h8
  refine zg (lo:=1) (n:=(1+v4-1).toNat) (fun i σ H'=>∃ (v5 v6 v7 v8 v9:Option V) (ts:List Int) (xs:List V) (rs:List Rch),σ=[some (.ref b),some (.ref tp),some (.ref sz),some (.ref rw),some (.ref dp),v5,v6,v7,v8,v9]/\RG L b tp rw dp H H' ts xs rs (xA rs)/\Grown rs/\rs.length=i+1/\ts.length=i+1/\∀ t∈ts,t<=99) ⟨_,_,_,_,_,_,_,_,rfl,RG3,G0,rfl,rfl,ht99⟩ ?_ ?_
  ·rintro i σ H' hi ⟨v5,v6,v7,v8,v9,ts,xs,rs,rfl,G,gr,hrl,htl,htb⟩
   have Ld:=jZ gr.ok
   have hxl:=G.rows.length
   walk_at "r"
   refine ⟨L,b,_,rfl,G.box,⟨by omega,by omega⟩,fun t Ha ha0 ha1 Ba Xa=>?_⟩
   have Ga:=G.take D Ba Xa
   walk_at "r"
   refine ⟨⟨_,SqL.of Ga.hrw⟩,fun ld hld=>?_⟩
   refine qg (K:=K) (a:=rw) (xs:=xs) (acc:=ld) (fun j σ H2=>∃ x:Option V,σ=[x]/\H2 ld=some (.lst (((rs.take j).map (·.1)).map V.int))/\Ext ld Ha H2) ?_ ?_ ?_ ?_
   ·exact ⟨none,rfl,j6,Ext.put⟩
   ·rintro j σ H2 hj ⟨x,rfl,h3,e3⟩
    exact SqL.of (e3 _ _ Ga.hrw (j1 Ga.hrw hld))
   ·rintro j v σ H2 hv ⟨x,rfl,h3,e3⟩
    obtain ⟨r,hr,q,g,rfl,hq,hg⟩:=(Ga.rows.keep (jg.new e3 hld)).get hv
    have hj:j<rs.length:=(List.getElem?_eq_some_iff.mp hr).1
    walk_at "r"
    refine ⟨_,h3,by rw [List.length_map,List.length_map,List.length_take];exact jd (by omega),_,rfl,?_,e3.trans Ext.put⟩
    rw [j6,qv (fun r:Rch=>r.1) rs j r hr,List.map_append]
    rfl
   ·rintro σ H2 ⟨x,rfl,h3,e3⟩
    rw [hxl,List.take_length] at h3
    have Gb:=Ga.extN hld e3
    walk_at "r"
    refine ⟨by omega,by omega,fun hd hhd=>?_⟩
    have en:(1+(i:Int)).toNat=rs.length:=by omega
    refine xc (lo:=0) (n:=(1+(i:Int)).toNat) (acc:=hd) (fun j σ H3=>∃ (x:Option V) (vs:List V),σ=[x,some (.ref ld)]/\H3 hd=some (.lst vs)/\vs.length=((List.range j).filter (jK rs)).length/\Ext hd H2 H3) ?_ ?_ ?_
    ·exact ⟨none,[],rfl,j6,rfl,Ext.put⟩
    ·rintro j σ H3 hj ⟨x,vs,rfl,h4,l4,e4⟩
     have er:((List.range (j+1)).filter (jK rs)).length=((List.range j).filter (jK rs)).length+(if jK rs j=true then 1 else 0):=by
      rw [List.range_succ,List.filter_append,List.length_append]
      congr 1
      by_cases z:jK rs j=true
      ·rw [if_pos z];simp [z]
      ·rw [if_neg z];simp [z]
     have hfl:((List.range j).filter (jK rs)).length<=j:=Nat.le_trans (List.length_filter_le _ _) (by rw [List.length_range];exact Nat.le_refl _)
     walk_at "r"
     refine ⟨ld,_,rfl,.inl (SqL.of (e4 _ _ h3 (j1 h3 hhd))),rfl,yN _,?_⟩
     walk_at "r"
     rw [Int.zero_add,vU]
     refine ya (fun hin=>?_) (fun hin=>?_)
     ·have hb:jK rs j=true:=by unfold jK;rw [decide_eq_false (show ¬ (j:Int)∈tos rs from hin)];rfl
      walk_at "r"
      refine ⟨vs,h4,jd (by omega),_,_,rfl,j6,?_,e4.trans Ext.put⟩
      rw [List.length_append,List.length_singleton,er,if_pos hb,l4]
     ·have hb:¬ jK rs j=true:=by unfold jK;rw [decide_eq_true (show (j:Int)∈tos rs from hin)];exact Bool.false_ne_true
      exact ⟨_,vs,rfl,h4,by rw [er,if_neg hb,l4,Nat.add_zero],e4⟩
    ·rintro σ H3 ⟨x,vs,rfl,h4,l4,e4⟩
     have Gc:=Gb.extN hhd e4
     have hld4:=e4 _ _ h3 (j1 h3 hhd)
     rw [en] at l4
     have l4':vs.length=(js rs).length:=l4
     refine ⟨_,_,rfl,.inl (SqL.of h4),?_⟩
     refine ⟨fun σ H5=>∃ t':Int,σ=[some (.ref b),some (.ref tp),some (.ref sz),some (.ref rw),some (.ref dp),some (.int (1+(i:Int))),some (.int t'),some (.ref ld),some (.int vs.length),v9]/\H5=H3/\0<=t'/\t'<rs.length/\(t'∈tos rs->(js rs).length<6),?_,?_⟩
     ·have hh:=gr.heads
      walk_at "r"
      refine qB (fun h6=>?_) (fun h6=>?_)
      ·walk_at "r"
       refine ⟨ld,_,rfl,.inl (SqL.of hld4),rfl,yN _,?_⟩
       walk_at "r"
       rw [vU]
       refine qB (fun hin=>?_) (fun hin=>?_)
       ·walk_at "r"
        refine ⟨by omega,by omega,fun z=>?_⟩
        have:=Xr Ld z
        omega
       ·exact ⟨t,rfl,rfl,ha0,by omega,fun z=>absurd z hin⟩
      ·have:(js rs).length<6:=by
        have:(vs.length:Int)≠6:=fun z=>h6 (by rw [z])
        omega
       exact ⟨t,rfl,rfl,ha0,by omega,fun _=>this⟩
     ·rintro σ H5 ⟨t',rfl,rfl,t0,t1,th⟩
      have hde:=Yb t0 t1
      walk_at "r"
      refine ⟨_,_,_,_,rfl,rfl,SqL.of Gc.hdp,hde,?_⟩
      walk_at "r"
      refine qB (fun h30=>?_) (fun h30=>?_)
      ·have hdp0:=gr.deep t'.toNat (by omega)
       generalize hdt:jA rs (qt rs t'.toNat)=dt at hde h30 hdp0
       walk_at "r"
       refine ⟨_,_,_,_,rfl,rfl,SqL.of Gc.hdp,hde,?_⟩
       walk_at "r"
       refine ⟨_,_,rfl,?_⟩
       refine ⟨L,b,_,rfl,Gc.box,⟨by split <;> omega,by split <;> omega⟩,fun v5' H6 p6 q6 B6 X6=>?_⟩
       have Gd:=Gc.take D B6 X6
       have hz12:1+v5'<=12/\dt+(1+v5')<=30:=by
        have q6':=q6
        split at q6' <;> omega
       walk_at "r"
       refine ⟨.inl ⟨rfl,_,SqL.of Gd.htp⟩,?_⟩
       walk_at "r"
       have hti:t'.toNat<ts.length:=by omega
       refine ⟨_,_,_,_,rfl,rfl,SqL.of Gd.htp,qW t0 (by rw [List.getElem?_map,List.getElem?_eq_getElem hti];rfl),?_⟩
       walk_at "r"
       refine ⟨L,b,_,rfl,Gd.box,⟨by decide,by decide⟩,fun v6' H7 p7 q7 B7 X7=>?_⟩
       have Ge:=Gd.take D B7 X7
       walk_at "r"
       refine ⟨_,_,rfl,?_⟩
       generalize hnew:(if ts[t'.toNat]'hti+v6'<99 then ts[t'.toNat]'hti+v6' else 99)=new
       have hnew99:new<=99:=by rw [<- hnew];split <;> omega
       walk_at "r"
       refine ⟨tp,_,_,rfl,rfl,Ge.htp,by rw [List.length_map];exact jd (by omega),?_⟩
       have Gf:RG L b tp rw dp H (upd H7 tp (.lst (ts.map V.int++[V.int new]))) (ts++[new]) xs rs (xA rs):=by
        have:=Ge.putT D (ts++[new])
        rw [List.map_append] at this
        exact this
       walk_at "r"
       refine ⟨.inl ⟨rfl,_,SqL.of Gf.hrw⟩,?_⟩
       walk_at "r"
       refine ⟨_,_,_,_,rfl,rfl,SqL.of j6,vS _ _,?_⟩
       walk_at "r"
       refine ⟨L,b,new,1+v5',rfl,Gf.box,hnew99,by omega,by omega,fun gl' H8 hs' B8' X8 hgl' hgl8 hl' hb'=>?_⟩
       have Gg:=Gf.take D B8' X8
       refine ⟨gl',_,rfl,SqL.of hgl8,fun gt' H9' hgt' hgt9 s9'=>?_⟩
       refine ⟨by show 2<=sizeLine;decide,fun rt' H10' hrt' hrt10 s10'=>?_⟩
       have Gh:=(Gg.same s9').same s10'
       walk_at "r"
       refine ⟨rw,_,_,rfl,rfl,Gh.hrw,jd (by omega),?_⟩
       have okn:okR rs.length (t',hs')=true:=Us (by omega) t0 t1 hl' (by omega) (by omega) hb'
       have Gi:=Gh.putR D (v:=.ref rt') (r:=(t',hs')) ⟨rt',gt',rfl,hrt10,s10' _ _ hgt9⟩
       walk_at "r"
       refine ⟨.inl ⟨rfl,_,SqL.of Gi.hdp⟩,?_⟩
       walk_at "r"
       refine ⟨_,_,_,_,rfl,rfl,SqL.of Gi.hdp,hde,?_⟩
       walk_at "r"
       have hdl:(xA rs).length=rs.length:=by unfold xA;simp
       refine ⟨dp,_,_,rfl,rfl,Gi.hdp,by rw [List.length_map];exact jd (by omega),?_⟩
       have Gj:RG L b tp rw dp H (upd (upd H10' rw (.lst (xs++[.ref rt']))) dp (.lst ((xA rs).map V.int++[V.int (dt+(1+v5'))]))) (ts++[new]) (xs++[.ref rt']) (rs++[(t',hs')]) (xA (rs++[(t',hs')])):=by
        have:=Gi.putD D (xA rs++[dt+(1+v5')])
        rw [List.map_append] at this
        rw [Qc gr t0 t1 okn,hdt,hl']
        exact this
       refine ⟨_,_,_,_,_,_,_,_,rfl,Gj,gr.snoc t0 t1 okn th (by rw [hdt];omega),by rw [List.length_append,hrl];rfl,by rw [List.length_append,htl];rfl,fun t ht=>?_⟩
       rcases List.mem_append.mp ht with ht | ht
       ·exact htb t ht
       ·have:t=new:=by simpa using ht
        omega
      ·walk_at "r"
       exact done _ _ _ _ _ Gc gr (by omega) (by omega)
  ·rintro σ H' ⟨v5,v6,v7,v8,v9,ts,xs,rs,rfl,G,gr,hrl,htl,htb⟩
   walk_at "r"
   exact done _ _ _ _ _ G gr (by omega) (by omega)
def Y5 (t:TE):Prop:=∀ σ H Q Q',(∀ v H,Q v H->Q' v H)->t σ H Q->t σ H Q'
def V8 (r:R2):Prop:=∀ x y H Q Q',(∀ v H,Q v H->Q' v H)->r x y H Q->r x y H Q'
theorem Zz (i:Nat):Y5 (Wr i):=fun _ _ _ _ h ⟨v,e,q⟩=>⟨v,e,h _ _ q⟩
theorem Z4 (v:V):Y5 (tC v):=fun _ _ _ _ h q=>h _ _ q
theorem ki {r:R2}{ta tb:TE}(hr:V8 r) (ha:Y5 ta) (hb:Y5 tb):Y5 (tOp r ta tb):=fun σ H Q Q' h q=>ha σ H _ _ (fun x H1 q1=>hb σ H1 _ _ (fun y H2 q2=>hr x y H2 _ _ h q2) q1) q
theorem Zi (K:PySem.W.Frag):V8 (Gn K):=fun _ _ _ _ _ h ⟨a,xs,i,v,e1,e2,e3,e4,q⟩=>⟨a,xs,i,v,e1,e2,e3,e4,h _ _ q⟩
theorem UJ (K:PySem.W.Frag):V8 (G5 K):=fun _ _ _ _ _ h ⟨a,xs,i,v,e1,e2,e3,e4,q⟩=>⟨a,xs,i,v,e1,e2,e3,e4,h _ _ q⟩
theorem Gk (g:Int->Int->V):V8 (rI0 g):=fun _ _ _ _ _ h ⟨i,j,e1,e2,q⟩=>⟨i,j,e1,e2,h _ _ q⟩
theorem Wu:V8 rNe:=fun _ _ _ _ _ h ⟨e,q⟩=>⟨e,h _ _ q⟩
theorem Vb {t:TE}(ht:Y5 t):∀ σ H Q Q',(∀ b H1,Q b H1->Q' b H1)->Zc t σ H Q->Zc t σ H Q':=fun σ H Q Q' h q=>ht σ H _ _ (fun _ _ ⟨k,e,q⟩=>⟨k,e,h _ _ q⟩) q
theorem JV {α:Type}{x:α}{l:List α}:atI (x::l) 0=some x:=zB (j:=0) rfl
def vP (fd:Addr) (H:Hp) (vs:List V) (rows:List (List Int)):Prop:=Paired (fun v (r:List Int)=>∃ a,v=V.ref a/\a≠fd/\H a=some (.lst (r.map V.int))) vs rows
theorem vP.ext {fd:Addr}{H H':Hp}{vs:List V}{rows:List (List Int)}(h:vP fd H vs rows) (e:Ext fd H H'):vP fd H' vs rows:=Paired.mapP h fun _ _ ⟨a,e1,n,q⟩=>⟨a,e1,n,e _ _ q n⟩
theorem vP.rowsI {fd:Addr}{H:Hp}{vs:List V}{rows:List (List Int)}(h:vP fd H vs rows):yd H vs rows:=Paired.mapP h fun _ _ ⟨a,e1,n,q⟩=>⟨a,e1,q⟩
theorem wz {H:Hp}{vs:List V}{ws:List (List Int)}(h:yd H vs ws):∀ ix:List Nat,(∀ i∈ix,i<vs.length)->yd H (ix.map fun i=>vs.getD i V.non) (ix.map fun i=>ws.getD i [])
 | [],_=>.nil
 | i::ix,hb=>by
  refine .cons ?_ (wz h ix fun j hj=>hb j (List.mem_cons_of_mem _ hj))
  have hi:=hb i List.mem_cons_self
  obtain ⟨y,e2,a,e3,e4⟩:=Paired.get h (List.getElem?_eq_getElem hi)
  refine ⟨a,?_,?_⟩
  ·show vs.getD i V.non=V.ref a
   rw [List.getD_eq_getElem?_getD,List.getElem?_eq_getElem hi];exact e3
  ·show H a=some (.lst ((ws.getD i []).map V.int))
   rw [List.getD_eq_getElem?_getD,e2];exact e4
def Qx (K:PySem.W.Frag):Sp:=fun vs H Q _=>∃ (p:Addr) (xs:List V) (rs:List Rch),vs=[.ref p]/\H p=some (.lst xs)/\jU H xs rs/\xh rs/\rs.length<=60/\∀ l H' out ws,H l=none->H' l=some (.lst out)->yd H' out ws->jX rs ws->jj H H'->Q (.ref l) H'
theorem qM:FnScope ["_law_reaches_here","_law_led","_law_found","_law_head","_law_road"] ["_law_reaches_here"] (j8 xK):=by walk_at "s"
theorem Vn {f:Addr}{fd:FuncData}(nb:Nb2 mg) (F:Fun K "_law_roads" "_law_roads" xK f fd):FnOk P w K mg base CX0 1 f fd ["_law_reaches_here"] (Qx K):=by
 refine F.ok qM (fun vs H Q E h=>?_) (fun cdv A outer s H vs Q E hr h=>?_)
 ·obtain ⟨p,xs,rs,rfl,_⟩:=h
  rfl
 ·obtain ⟨p,xs,rs,rfl,hp,hrw,L,h60,k⟩:=h
  have hlen:=hrw.length
  refine ⟨_,(j4 (wj (j:=1) (osc:=(j8 xK)) (ON:=["_law_reaches_here","_law_led","_law_found","_law_head","_law_road"]) (N:=["_law_to","_law_ground_here"]) (own:=2) (caps:=[]) ⟨rfl,by walk_at "k",by walk_at "k",by walk_at "k",rfl,by walk_at "k"⟩ qM.nd rfl (Or.inl rfl) rfl rfl rfl (jT K (pv 0)) (fun _ _ _ _ _=>(qk (n:=2) K rfl (jh (ja (i:=0) (show List.Nodup (["_law_to","_law_ground_here"]:List Str) by decide +kernel) rfl (Or.inl rfl)) (jh (ja (i:=1) (show List.Nodup (["_law_to","_law_ground_here"]:List Str) by decide +kernel) rfl (Or.inl rfl)) qj)))) (fun _ _ _ _ _=>jF) (fun _ _ _ _ _=>(pv 0)))
   (j4 (jm (i:=2) qM.nd rfl (Or.inl rfl) (jL j2))
   (j4 (xb PassesOwn.never rfl (qx rfl nb.b_range (j0 (jf (ji K) rfl nb.b_len PySem.boot_len (j0 (pv 0) j2)) j2)) (ja (i:=3) qM.nd rfl (Or.inl rfl)) (j9 (jV (jD (zJ K) (pv 3) (pv 1) (by with_unfolding_all rfl)) (j4 (jm (i:=4) qM.nd rfl (Or.inl rfl) (jL (j0 (pv 3) j2)))
   (j4 (wC PassesOwn.never (jD V0 (jt (qL K) (jt (je K) (pv 0) (jt (je K) (pv 4) j7 (fun _ _=>rfl)) (fun _ _=>rfl)) j7 (fun _ _=>rfl)) (jn qT j7 j7) (jI _)) (j9 (jm (i:=4) qM.nd rfl (Or.inl rfl) (jn vJ (jL (j0 (jt (qL K) (jt (je K) (pv 0) (jt (je K) (pv 4) j7 (fun _ _=>rfl)) (fun _ _=>rfl)) j7 (fun _ _=>rfl)) j2)) (pv 4)))))
   (j9 (jO (zM K PySem.F.plainAttrs_list PySem.F.slot_list_append PySem.F.type_list_append qo (pv 2) (j0 (pv 4) j2)))))) jy)))
   (j9 (jk (jY (osc:=(j8 xK)) (ON:=["_law_reaches_here","_law_led","_law_found","_law_head","_law_road"]) (N:=["_law_road"]) (own:=1) (caps:=[]) ⟨rfl,by walk_at "k",by walk_at "k",by walk_at "k",rfl,by walk_at "k"⟩ rfl rfl rfl (jT K (jf (gj K hr.units) rfl nb.b_sorted boot_sorted (j0 (pv 2) j2))) (fun _ _ _ _ _=>(ja (i:=0) (show List.Nodup (["_law_road"]:List Str) by decide +kernel) rfl (Or.inl rfl))) (fun _ _ _ _ _=>jF) (fun _ _ _ _ _=>(Uy K (pv 0))))))))),?_⟩
  walk_at "r"
  refine ⟨⟨_,SqL.of hp⟩,fun en hen=>?_⟩
  refine qg (K:=K) (a:=p) (xs:=xs) (acc:=en) (fun j σ H2=>∃ x y:Option V,σ=[x,y]/\H2 en=some (.lst (((rs.take j).map (·.1)).map V.int))/\Ext en H H2) ?_ ?_ ?_ ?_
  ·exact ⟨none,none,rfl,j6,Ext.put⟩
  ·rintro j σ H2 hj ⟨x,y,rfl,h3,e3⟩
   exact SqL.of (e3 _ _ hp (j1 hp hen))
  ·rintro j v σ H2 hv ⟨x,y,rfl,h3,e3⟩
   obtain ⟨r,hr,q,g,rfl,hq,hg⟩:=(hrw.keep (jg.new e3 hen)).get hv
   have hj:j<rs.length:=(List.getElem?_eq_some_iff.mp hr).1
   walk_at "r"
   refine ⟨q,_,rfl,SqT.of hq,rfl,?_⟩
   refine ⟨_,_,rfl,_,_,rfl,rfl,?_⟩
   walk_at "r"
   refine ⟨_,h3,by rw [List.length_map,List.length_map,List.length_take];exact jd (by omega),_,_,rfl,?_,e3.trans Ext.put⟩
   rw [j6,qv (fun r:Rch=>r.1) rs j r hr,List.map_append]
   rfl
  ·rintro σ H2 ⟨x,y,rfl,h3,e3⟩
   rw [hlen,List.take_length] at h3
   have sm2:jj H H2:=fun c o hc=>e3 c o hc (j1 hc hen)
   walk_at "r"
   refine ⟨Nat.zero_le _,fun fo H3 hfo hfo3 s3=>?_⟩
   have hp3:=s3 _ _ (sm2 _ _ hp)
   have hrw3:jU H3 xs rs:=hrw.keep (jg.same (sm2.trans s3))
   have hen3:=s3 _ _ h3
   have hfoH:H fo=none:=sm2.free hfo
   walk_at "r"
   refine ⟨_,_,rfl,.inl (SqL.of hp3),?_⟩
   refine ⟨_,rfl,by omega,by omega,?_⟩
   rw [hlen]
   refine zg (lo:=0) (n:=((rs.length:Nat):Int).toNat) (fun j σ H4=>∃ (v3 v4:Option V) (vs:List V),σ=[some (.ref p),some (.ref en),some (.ref fo),v3,v4]/\H4 fo=some (.lst vs)/\vP fo H4 vs (((List.range j).filter (jK rs)).map fun h=>(qt rs h).reverse)/\Ext fo H3 H4/\vs.length<=j) ?_ ?_ ?_
   ·exact ⟨_,_,[],rfl,hfo3,.nil,Ext.refl,Nat.le_refl _⟩
   ·rintro j σ H4 hj ⟨v3,v4,vs,rfl,h4,w4,e4,l4⟩
    have hj':j<rs.length:=by omega
    have kt4:jg H3 H4:=jg.lst e4 hfo3
    have hen4:=e4 _ _ hen3 (j1 h3 hfo)
    have hp4:=e4 _ _ hp3 (j1 (sm2 _ _ hp) hfo)
    have hrw4:jU H4 xs rs:=hrw3.keep kt4
    have er:(List.range (j+1)).filter (jK rs)=(List.range j).filter (jK rs)++(if jK rs j=true then [j] else []):=by
     rw [List.range_succ,List.filter_append]
     congr 1
     by_cases z:jK rs j=true
     ·rw [if_pos z];simp [z]
     ·rw [if_neg z];simp [z]
    walk_at "r"
    refine ⟨en,_,rfl,.inl (SqL.of hen4),rfl,yN _,?_⟩
    walk_at "r"
    rw [Int.zero_add,vU]
    refine ya (fun hin=>?_) (fun hin=>?_)
    ·have hb:jK rs j=true:=by unfold jK;rw [decide_eq_false (show ¬ (j:Int)∈tos rs from hin)];rfl
     walk_at "r"
     refine ⟨by show 1<=sizeLine;decide,fun r0 H5 hr0 hr05 s5=>?_⟩
     walk_at "r"
     refine kj (fun σ H6=>∃ (a:Addr) (r:Nat) (l:List Int),σ=[some (.ref p),some (.ref en),some (.ref fo),some (.int (j:Int)),some (.ref a)]/\jj H4 H6/\H4 a=none/\H6 a=some (.lst (((r:Int)::l).map V.int))/\r<rs.length/\l.length+r<=100/\l.reverse++qt rs r=qt rs j) (fun σ H6=>match σ with | [_,_,_,_,some (.ref a)]=>(match H6 a with | some (.lst (.int r::_))=>r.toNat | _=>0) | _=>0) ?_ ?_ ?_
     ·exact ⟨r0,j,[],rfl,s5,hr0,hr05,hj',by simp;omega,rfl⟩
     ·rintro σ H6 ⟨a,r,l,rfl,s6,ha4,ha6,hrl,hll,heq⟩
      have hp6:=s6 _ _ hp4
      obtain ⟨v,hv,q,g,rfl,hq,hg⟩:=(hrw4.keep (jg.same s6)).at (List.getElem?_eq_getElem hrl)
      have ht:=L.lt hrl
      have hl3:=wP (L _ hrl)
      have et:=JI (List.getElem?_eq_getElem hrl)
      rw [et] at ht hl3
      generalize (rs[r]'hrl).1=tt at ht hl3 et hq
      walk_at "r"
      refine ⟨_,_,_,_,rfl,rfl,SqL.of ha6,JV,?_⟩
      refine ⟨_,_,_,_,rfl,rfl,SqL.of hp6,zB hv,?_⟩
      refine ⟨_,_,_,_,rfl,rfl,SqT.of hq,rfl,?_⟩
      walk_at "r"
      refine ya (fun hne=>?_) (fun hne=>?_)
      ·have htt:0<=tt:=by
        have:tt ≠ -1:=fun z=>hne (by rw [z];rfl)
        omega
       walk_at "r"
       refine ⟨_,_,_,_,rfl,rfl,SqL.of ha6,JV,?_⟩
       refine ⟨_,_,_,_,rfl,rfl,SqL.of hp6,zB hv,?_⟩
       refine ⟨_,_,_,_,rfl,rfl,SqT.of hq,rfl,?_⟩
       refine ⟨by show 1<=sizeLine;decide,fun c1 H7 hc1 hc17 s7=>?_⟩
       walk_at "r"
       refine ⟨c1,a,_,_,rfl,rfl,hc17,s7 _ _ ha6,?_,fun c2 H8 hc2 hc28 s8=>?_⟩
       ·show 1+(((r:Int)::l).map V.int).length<=sizeLine
        rw [List.length_map,List.length_cons]
        exact Nat.le_of_lt (jd (by omega))
       ·have ett:tt=((tt.toNat:Nat):Int):=by omega
        refine ⟨⟨c2,tt.toNat,(r:Int)::l,rfl,(s6.trans s7).trans s8,(s6.trans s7).free hc2,?_,by omega,?_,?_⟩,?_⟩
        ·rw [hc28,ett]
         simp only [Int.toNat_natCast]
         rfl
        ·rw [List.length_cons];omega
        ·rw [List.reverse_cons,List.append_assoc,<- heq,zt L hrl,et,if_neg (by omega)]
         rfl
        ·show (match H8 c2 with | some (.lst (.int r::_))=>r.toNat | _=>0)<(match H6 a with | some (.lst (.int r::_))=>r.toNat | _=>0)
         rw [hc28,ha6]
         show tt.toNat<((r:Int)).toNat
         omega
      ·have htm:tt = -1:=V.int.inj hne
       have hfo6:=s6 _ _ h4
       walk_at "r"
       refine ⟨.inl ⟨rfl,_,SqL.of hfo6⟩,?_⟩
       walk_at "r"
       refine ⟨fo,_,_,rfl,rfl,hfo6,jd (by omega),?_⟩
       have naf:a≠fo:=fun z=>by rw [z,h4] at ha4;cases ha4
       refine ⟨_,_,vs++[.ref a],rfl,j6,?_,fun c o hc n=>by rw [j5 n];exact s6 _ _ (e4 c o hc n),by rw [List.length_append,List.length_singleton];omega⟩
       rw [er,if_pos hb,List.map_append]
       refine vP.ext (Paired.snoc (w4.ext (Ext.of_same s6)) ⟨a,rfl,naf,?_⟩) Ext.put
       show H6 a=some (.lst (((qt rs j).reverse).map V.int))
       rw [ha6,<- heq,zt L hrl,et,if_pos (by omega),List.reverse_append,List.reverse_reverse]
       rfl
     ·exact Vb (ki Wu (ki (UJ K) (ki (Zi K) (Zz 0) (ki (Zi K) (Zz 4) (Z4 _))) (Z4 _)) (ki (Gk _) (Z4 _) (Z4 _)))
    ·have hb:¬ jK rs j=true:=by unfold jK;rw [decide_eq_true (show (j:Int)∈tos rs from hin)];exact Bool.false_ne_true
     refine ⟨_,_,vs,rfl,h4,?_,e4,by omega⟩
     rw [er,if_neg hb,List.append_nil]
     exact w4
   ·rintro σ H4 ⟨v3,v4,vs,rfl,h4,w4,e4,l4⟩
    rw [Int.toNat_natCast] at w4 l4
    have sm4:jj H H4:=fun c o hc=>e4 _ _ (s3 _ _ (sm2 _ _ hc)) (j1 hc hfoH)
    walk_at "r"
    refine ⟨fo,vs,_,rfl,SqL.of h4,by omega,w4.rowsI,fun so H5 out hso hso5 s5 hs=>?_⟩
    obtain ⟨ix,hpx,eo,hpw⟩:=hs
    have hvl:vs.length=(js rs).length:=by rw [Paired.length w4,List.length_map];rfl
    have hb:∀ i∈ix,i<vs.length:=fun i hi=>by have:=hpx.mem_iff.mp hi;simpa using this
    have hri:=wz (w4.rowsI) ix hb
    have hw5:yd H5 out (ix.map fun i=>(((js rs).map fun h=>(qt rs h).reverse).getD i [])):=by
     rw [eo]
     exact Paired.mapP hri fun _ _ ⟨a,e1,q⟩=>⟨a,e1,s5 _ _ q⟩
    have hol:out.length<=60:=by rw [eo,List.length_map,hpx.length_eq,List.length_range];omega
    generalize hrv:(ix.map fun i=>(((js rs).map fun h=>(qt rs h).reverse).getD i []))=rv at hw5
    have hrvl:=Paired.length hw5
    have isr:jX rs (rv.map List.reverse):=by
     refine ⟨?_,?_⟩
     ·have h1:=hpx.map fun i=>(((js rs).map fun h=>(qt rs h).reverse).getD i [])
      rw [hvl,show (js rs).length=((js rs).map fun h=>(qt rs h).reverse).length by rw [List.length_map],JZ,hrv] at h1
      have h2:=h1.map List.reverse
      rw [List.map_map] at h2
      refine h2.trans (List.Perm.of_eq (List.map_congr_left fun x _=>?_))
      exact List.reverse_reverse _
     ·rw [List.map_map,show (List.reverse ∘ List.reverse:List Int->List Int)=id from funext fun x=>List.reverse_reverse x,List.map_id,<- hrv]
      exact hpw
    refine ⟨so,rfl,⟨_,SqL.of hso5⟩,fun acc hacc=>?_⟩
    refine qg (K:=K) (a:=so) (xs:=out) (acc:=acc) (fun j σ H6=>∃ (x:Option V) (us:List V),σ=[x]/\H6 acc=some (.lst us)/\vP acc H6 us ((rv.take j).map List.reverse)/\Ext acc H5 H6/\us.length=j) ?_ ?_ ?_ ?_
    ·exact ⟨none,[],rfl,j6,.nil,Ext.put,rfl⟩
    ·rintro j σ H6 hj ⟨x,us,rfl,h6,w6,e6,l6⟩
     exact SqL.of (e6 _ _ hso5 (j1 hso5 hacc))
    ·rintro j v σ H6 hv ⟨x,us,rfl,h6,w6,e6,l6⟩
     obtain ⟨y,e2,a,rfl,ha⟩:=Paired.get hw5 hv
     have hj:j<rv.length:=(List.getElem?_eq_some_iff.mp e2).1
     walk_at "r"
     refine ⟨a,_,rfl,SqL.of (e6 _ _ ha (j1 ha hacc)),fun q H7 hq hq7 s7=>?_⟩
     have h7:=s7 _ _ h6
     have nq:q≠acc:=fun z=>by rw [z,h6] at hq;cases hq
     refine ⟨us,h7,jd (by omega),_,us++[.ref q],rfl,j6,?_,fun c o hc n=>by rw [j5 n];exact s7 _ _ (e6 c o hc n),by rw [List.length_append,l6];rfl⟩
     rw [qv List.reverse rv j y e2]
     refine vP.ext (Paired.snoc (w6.ext (Ext.of_same s7)) ⟨q,rfl,nq,?_⟩) Ext.put
     rw [hq7,List.map_reverse]
    ·rintro σ H6 ⟨x,us,rfl,h6,w6,e6,l6⟩
     rw [hrvl,List.take_length] at w6
     exact k acc H6 us _ (sm4.free (s5.free hacc)) h6 w6.rowsI isr fun c o hc=>e6 _ _ (s5 _ _ (sm4 _ _ hc)) (j1 (s5 _ _ (sm4 _ _ hc)) hacc)
def jb (rs:List Rch) (way:List Int):List Int:=(way.map fun r=>zG rs r.toNat).flatten
theorem wR (rs:List Rch):∀ way:List Int,((jb rs way).length:Int)=jA rs way
 | []=>rfl
 | r::way=>by
  rw [qX,<- wR rs way]
  unfold jb
  rw [List.map_cons,List.flatten_cons,List.length_append]
  push_cast
  rfl
theorem G3 {n:Nat}(h:n<=100000):n<sizeLine:=Nat.lt_of_le_of_lt h (by decide)
theorem w5 (rs:List Rch) (way:List Int) (j:Nat) (r:Int) (h:way[j]? = some r):jb rs (way.take (j+1))=jb rs (way.take j)++zG rs r.toNat:=by
 unfold jb
 rw [List.take_add_one,h,List.map_append,List.flatten_append]
 congr 1
 show [zG rs r.toNat].flatten=_
 simp
theorem uw {rs:List Rch}(h100:∀ r∈rs,r.2.length<=100):∀ way:List Int,(jb rs way).length<=100*way.length
 | []=>by unfold jb;simp
 | r::way=>by
  have ih:=uw h100 way
  have h1:(zG rs r.toNat).length<=100:=by
   unfold zG
   rw [List.getD_eq_getElem?_getD]
   cases e:rs[r.toNat]? with
   | none=>simp
   | some q=>exact h100 q (List.mem_of_getElem? e)
  unfold jb at ih ⊢
  rw [List.map_cons,List.flatten_cons,List.length_append,List.length_cons]
  omega
def Q3 (K:PySem.W.Frag):Sp:=fun vs H Q _=>∃ (p a:Addr) (xs:List V) (rs:List Rch) (way:List Int),vs=[.ref p,.ref a]/\H p=some (.lst xs)/\jU H xs rs/\(∀ r∈rs,r.2.length<=100)/\H a=some (.lst (way.map V.int))/\(∀ r∈way,0<=r/\r<rs.length)/\way.length<=100/\∀ l H',H l=none->H' l=some (.lst ((jb rs way).map V.int))->jj H H'->Q (.ref l) H'
theorem xI:FnScope ["_law_reaches_here","_law_road","_law_found","_law_reach","_law_height"] ["_law_reaches_here","_law_road"] (j8 zW):=by walk_at "s"
theorem Y9 {f:Addr}{fd:FuncData}(F:Fun K "_law_ground" "_law_ground" zW f fd):FnOk P w K mg base CX0 1 f fd ["_law_reaches_here","_law_road"] (Q3 K):=by
 refine F.ok xI (fun vs H Q E h=>?_) (fun cdv A outer s H vs Q E hr h=>?_)
 ·obtain ⟨p,a,xs,rs,way,rfl,_⟩:=h
  rfl
 ·obtain ⟨p,a,xs,rs,way,rfl,hp,hrw,h100,ha,hin,hwl,k⟩:=h
  have hlen:=hrw.length
  refine ⟨_,(j4 (jm (i:=2) xI.nd rfl (Or.inl rfl) (jL j2))
   (j4 (xb PassesOwn.never rfl (jT K (pv 1)) (ja (i:=3) xI.nd rfl (Or.inl rfl)) (j9 (xb PassesOwn.never rfl (ui K (jt (qL K) (jt (je K) (pv 0) (pv 3) (fun _ _=>rfl)) j7 (fun _ _=>rfl))) (ja (i:=4) xI.nd rfl (Or.inl rfl)) (j9 (jO (zM K PySem.F.plainAttrs_list PySem.F.slot_list_append PySem.F.type_list_append qo (pv 2) (j0 (pv 4) j2)))))))
   (j9 (jk (pv 2))))),?_⟩
  walk_at "r"
  refine ⟨Nat.zero_le _,fun fo H1 hfo hfo1 s1=>?_⟩
  have ha1:=s1 _ _ ha
  walk_at "r"
  refine ⟨⟨_,SqL.of ha1⟩,yp (K:=K) (a:=a) (xs:=way.map V.int) (fun j σ H2=>∃ x y:Option V,σ=[some (.ref p),some (.ref a),some (.ref fo),x,y]/\H2 fo=some (.lst ((jb rs (way.take j)).map V.int))/\Ext fo H1 H2) ⟨_,_,rfl,hfo1,Ext.refl⟩ ?_ ?_ ?_⟩
  ·rintro j σ H2 hj ⟨x,y,rfl,h2,e2⟩
   exact SqL.of (e2 _ _ ha1 (j1 ha hfo))
  ·rintro j v σ H2 hv ⟨x,y,rfl,h2,e2⟩
   obtain ⟨r,rfl⟩:=yw hv
   have hz:way[j]? = some r:=by
    rw [List.getElem?_map] at hv
    cases e:way[j]? with
    | none=>rw [e] at hv;cases hv
    | some y=>rw [e] at hv;cases hv;rfl
   have hj:j<way.length:=(List.getElem?_eq_some_iff.mp hz).1
   have hr:=hin r (List.mem_of_getElem? hz)
   have hi:r.toNat<rs.length:=by omega
   obtain ⟨v,hv',q,g,rfl,hq,hg⟩:=(hrw.keep ((jg.same s1).trans (jg.lst e2 hfo1))).at (List.getElem?_eq_getElem hi)
   have hsl:=h100 _ (List.getElem_mem hi)
   have hgl:=uw h100 (way.take j)
   have htl:(way.take j).length<=100:=by rw [List.length_take];omega
   walk_at "r"
   refine ⟨_,_,_,_,rfl,rfl,SqL.of (e2 _ _ (s1 _ _ hp) (j1 hp hfo)),qW hr.1 hv',?_⟩
   refine ⟨_,_,_,_,rfl,rfl,SqT.of hq,rfl,?_⟩
   refine ⟨g,rfl,⟨_,SqT.of hg⟩,Uz (K:=K) (a:=g) (xs:=(rs[r.toNat]'hi).2.map V.int) (fun i σ H3=>∃ y:Option V,σ=[some (.ref p),some (.ref a),some (.ref fo),some (.int r),y]/\H3 fo=some (.lst ((jb rs (way.take j)++(rs[r.toNat]'hi).2.take i).map V.int))/\Ext fo H2 H3) ⟨_,rfl,?_,Ext.refl⟩ ?_ ?_ ?_⟩
   ·rw [List.take_zero,List.append_nil];exact h2
   ·rintro i σ H3 hi3 ⟨y,rfl,h3,e3⟩
    exact SqT.of (jg.lst e3 h2 _ _ hg)
   ·rintro i v σ H3 hv3 ⟨y,rfl,h3,e3⟩
    obtain ⟨z,rfl⟩:=yw hv3
    have hz3:(rs[r.toNat]'hi).2[i]? = some z:=by
     rw [List.getElem?_map] at hv3
     cases e:(rs[r.toNat]'hi).2[i]? with
     | none=>rw [e] at hv3;cases hv3
     | some y=>rw [e] at hv3;cases hv3;rfl
    walk_at "r"
    refine ⟨.inl ⟨rfl,_,SqL.of h3⟩,?_⟩
    walk_at "r"
    refine ⟨fo,_,_,rfl,rfl,h3,?_,?_⟩
    ·rw [List.length_map,List.length_append,List.length_take]
     exact G3 (by omega)
    ·refine ⟨_,rfl,?_,e3.trans Ext.put⟩
     rw [j6,List.take_add_one,hz3,<- List.append_assoc,List.map_append,List.map_append,List.map_append]
     rfl
   ·rintro σ H3 ⟨y,rfl,h3,e3⟩
    refine ⟨_,_,rfl,?_,e2.trans e3⟩
    rw [h3,List.length_map,List.take_length,w5 rs way j r hz,Jl (List.getElem?_eq_getElem hi)]
  ·rintro σ H2 ⟨x,y,rfl,h2,e2⟩
   rw [List.length_map,List.take_length] at h2
   walk_at "r"
   exact k fo H2 hfo h2 fun c o hc=>e2 _ _ (s1 _ _ hc) (j1 hc hfo)
end
section
variable {P:Program}{w:World}{K:PySem.W.Frag}{mg:Str->Option Value}{base:Heap}
def Z3 (Pt C:Addr):Sp:=fun vs H Q E=>∃ (p:Addr) (xs:List V) (rs:List Rch) (l:Int),vs=[.ref p,.int l]/\H p=some (.lst xs)/\jU H xs rs/\xh rs/\rs.length<=60/\qy H Pt /\
 (∀ t H' ws (i:Nat),l=i->i<ws.length->jX rs ws->H' t=some (.tup ((ws.getD i []).map V.int))->Ext Pt H H'->qy H' Pt->Q (.ref t) H')/\∀ H',(l<0\/((js rs).length:Int)<=l)->Ext Pt H H'->qy H' Pt->E (.ref C) none H'
theorem gR:FnScope ["reaches","lane","ways"] ["reaches","lane"] (j8 wN):=by walk_at "s"
theorem Y3 {f Pt C:Addr}{fd:FuncData}(nb:Nb2 mg) (e_NoLane:mg "NoLane" = some (.ref C)) (x_NoLane:PySem.W.excIn K C [.type "ValueError",.type "Exception",.type "BaseException",.type "object"] "ValueError.__new__" = true) (c_lanes:Cal P w K mg base 5 "lanes" ["reaches"] (vO K Pt)) (F:Fun K "way_of" "way_of" wN f fd):FnOk P w K mg base (CX1 P w) 6 f fd ["reaches","lane"] (Z3 Pt C):=by
 refine Fun.okX F gR (fun vs H Q E h=>?_) (fun cdv A outer s H vs Q E hr h=>?_)
 ·obtain ⟨p,xs,rs,l,rfl,_⟩:=h
  rfl
 ·obtain ⟨p,xs,rs,l,rfl,hp,hrw,L,h60,hT,k,kx⟩:=h
  refine ⟨_,(j4 (jm (i:=2) gR.nd rfl (Or.inl rfl) (jc c_lanes (hr.mono (by decide)) rfl (j0 (pv 0) j2)))
   (j4 (jV (xf (xM qu yV j7 (pv 1) (jf (ji K) rfl nb.b_len PySem.boot_len (j0 (pv 2) j2)))) (j9 (xq PySem.F.excBase_ValueError x_NoLane e_NoLane rfl ze rfl (j0 jG j2))) jy)
   (j9 (jk (jt (je K) (pv 2) (pv 1) (fun _ _=>rfl)))))),?_⟩
  walk_at "r"
  refine ⟨p,xs,rs,rfl,hp,hrw,L,h60,hT,fun o H1 out ws ho ho1 hw hR X1 T1=>?_⟩
  have hlen:out.length=ws.length:=hw.length
  have hws:(ws.length:Int)=((js rs).length:Int):=by rw [hR.length]
  walk_at "r"
  refine qB (fun h0=>?_) (fun h0=>?_)
  ·walk_at "r"
   refine ⟨_,_,rfl,.inl (SqL.of ho1),?_⟩
   walk_at "r"
   refine ya (fun h1=>?_) (fun h1=>?_)
   ·walk_at "r"
    exact ⟨by show 1<=sizeLine;decide,kx H1 (.inr (by omega)) X1 T1⟩
   ·have hi:l.toNat<out.length:=by omega
    obtain ⟨wy,hwy,a,hov,ha⟩:=Paired.get hw (List.getElem?_eq_getElem hi)
    have el:l=(l.toNat:Int):=by omega
    walk_at "r"
    refine ⟨_,_,_,_,rfl,rfl,SqL.of ho1,(by rw [el];exact zB (List.getElem?_eq_getElem hi)),?_⟩
    rw [hov]
    refine k a H1 ws l.toNat el (by omega) hR ?_ X1 T1
    rw [ha,List.getD_eq_getElem?_getD,hwy]
    rfl
  ·walk_at "r"
   refine yn ?_
   walk_at "r"
   exact ⟨by show 1<=sizeLine;decide,kx H1 (.inl (by omega)) X1 T1⟩
def Jc (Pt C:Addr):Sp:=fun vs H Q E=>∃ (p:Addr) (xs:List V) (rs:List Rch) (l:Int),vs=[.ref p,.int l]/\H p=some (.lst xs)/\jU H xs rs/\xh rs/\rs.length<=60/\(∀ r∈rs,r.2.length<=100)/\qy H Pt /\
 (∀ t H' ws (i:Nat),l=i->i<ws.length->jX rs ws->H t=none->H' t=some (.lst ((jb rs (ws.getD i [])).map V.int))->Ext Pt H H'->qy H' Pt->Q (.ref t) H')/\∀ H',(l<0\/((js rs).length:Int)<=l)->Ext Pt H H'->qy H' Pt->E (.ref C) none H'
theorem Z0:FnScope ["reaches","lane"] ["reaches","lane"] (j8 yJ):=by walk_at "s"
theorem Wo {rs:List Rch}{ws:List (List Int)}(L:xh rs) (h:jX rs ws) {a:Nat}(ha:a<ws.length):(∀ r∈ws.getD a [],0<=r/\r<rs.length)/\(ws.getD a []).length<=rs.length:=by
 rw [List.getD_eq_getElem?_getD,List.getElem?_eq_getElem ha]
 obtain ⟨x,hx,e⟩:=h.mem (List.getElem_mem ha)
 show (∀ r∈ws[a],_)/\ws[a].length<=_
 rw [e]
 exact ⟨xJ L x (xw hx),by have:=uj L x (xw hx);have:=xw hx;omega⟩
theorem wK {l:List Int}{j:Nat}{v:V}(h:(l.map V.int)[j]? = some v):∃ x,v = .int x/\l[j]? = some x:=by
 rw [List.getElem?_map] at h
 cases e:l[j]? with
 | none=>rw [e] at h;cases h
 | some y=>rw [e] at h;cases h;exact ⟨y,rfl,rfl⟩
theorem JX {H H':Hp}{Pt a:Addr}(T:qy H Pt) (e:Ext Pt H H') (T':qy H' Pt) (n:H' a=none):H a=none:=by
 cases q:H a with
 | none=>rfl
 | some o =>
  by_cases z:a=Pt
  ·obtain ⟨ps,h⟩:=T'.ne
   rw [z,h] at n
   cases n
  ·have:=e _ _ q z
   rw [n] at this
   cases this
theorem QY {f Pt C:Addr}{fd:FuncData}(nb:Nb2 mg) (c_way_of:CalX P w K mg base 6 "way_of" ["reaches","lane"] (Z3 Pt C)) (F:Fun K "heights" "heights" yJ f fd):FnOk P w K mg base (CX1 P w) 7 f fd ["reaches","lane"] (Jc Pt C):=by
 refine Fun.okX F Z0 (fun vs H Q E h=>?_) (fun cdv A outer s H vs Q E hr h=>?_)
 ·obtain ⟨p,xs,rs,l,rfl,_⟩:=h
  rfl
 ·obtain ⟨p,xs,rs,l,rfl,hp,hrw,L,h60,h100,hT,k,kx⟩:=h
  refine ⟨_,(j9 (jk (YK (osc:=(j8 yJ)) (ON:=["reaches","lane"]) (N:=["reach","height","reaches"]) (own:=2) (caps:=[0]) ⟨rfl,by walk_at "k",by walk_at "k",by walk_at "k",rfl,by walk_at "k"⟩ rfl rfl rfl (ui K (xG c_way_of (hr.mono (by decide)) qr rfl (j0 (pv 0) (j0 (pv 1) j2)))) (fun _ _ _ _ _=>(ja (i:=0) (show List.Nodup (["reach","height","reaches"]:List Str) by decide +kernel) rfl (Or.inl rfl))) (fun _ _ _ _ _=>jF) (fun _ _ _ _ _=>(ui K (jt (qL K) (jt (je K) (pv 2) (pv 0) (fun _ _=>rfl)) j7 (fun _ _=>rfl)))) (fun _ _ _ _ _=>(ja (i:=1) (show List.Nodup (["reach","height","reaches"]:List Str) by decide +kernel) rfl (Or.inl rfl))) (fun _ _ _ _ _=>jF) (fun _ _ _ _ _=>(pv 1))))),?_⟩
  obtain ⟨ps,hPt⟩:=hT.ne
  walk_at "r"
  refine ⟨p,xs,rs,l,rfl,hp,hrw,L,h60,hT,fun t H1 ws i ei hi hR ht1 X1 T1=>?_,fun H1 hbad X1 T1=>kx H1 hbad X1 T1⟩
  have hp1:=X1 _ _ hp (jp hp hPt (by walk_at "z"))
  have hrw1:jU H1 xs rs:=hrw.keep (jg.tbl X1 hPt)
  obtain ⟨inw,lenw⟩:=Wo L hR hi
  have kk:=fun t H'=>k t H' ws i ei hi hR
  generalize ws.getD i []=way at *
  walk_at "r"
  refine ⟨⟨_,SqT.of ht1⟩,fun acc hacc=>?_⟩
  refine Yl (K:=K) (a:=t) (xs:=way.map V.int) (acc:=acc) (fun j σ H2=>∃ x y:Option V,σ=[x,y,some (.ref p)]/\H2 acc=some (.lst ((jb rs (way.take j)).map V.int))/\Ext acc H1 H2) ?_ ?_ ?_ ?_
  ·exact ⟨none,none,rfl,j6,Ext.put⟩
  ·rintro j σ H2 hj ⟨x,y,rfl,h3,e3⟩
   exact SqT.of (e3 _ _ ht1 (j1 ht1 hacc))
  ·rintro j v σ H2 hv ⟨x,y,rfl,h3,e3⟩
   obtain ⟨r,rfl,hr'⟩:=wK hv
   have hin:=inw r (List.mem_of_getElem? hr')
   have hri:r.toNat<rs.length:=by omega
   obtain ⟨v,hv2,q,g,rfl,hq1,hg1⟩:=hrw1.at (List.getElem?_eq_getElem hri)
   have hp2:=e3 _ _ hp1 (j1 hp1 hacc)
   have hq:=e3 _ _ hq1 (j1 hq1 hacc)
   have gl:=uw h100 (way.take j)
   have jl:(way.take j).length<=60:=by rw [List.length_take];omega
   have hsn:=w5 rs way j r hr'
   have ehs:zG rs r.toNat=(rs[r.toNat]'hri).2:=by
    unfold zG
    rw [List.getD_eq_getElem?_getD,List.getElem?_eq_getElem hri]
    rfl
   have hl100:=h100 _ (List.getElem_mem hri)
   rw [ehs] at hsn
   generalize (rs[r.toNat]'hri).2=hs at hg1 hsn hl100
   walk_at "r"
   refine ⟨_,_,_,_,rfl,rfl,SqL.of hp2,(by rw [show r=((r.toNat:Nat):Int) by omega];exact zB hv2),?_⟩
   refine ⟨_,_,_,_,rfl,rfl,SqT.of hq,rfl,?_⟩
   refine ⟨g,rfl,⟨_,SqT.of (e3 _ _ hg1 (j1 hg1 hacc))⟩,?_⟩
   refine Wx (K:=K) (a:=g) (acc:=acc) (xs:=hs.map V.int) (fun n σ H4=>∃ y:Option V,σ=[some (.int r),y,some (.ref p)]/\H4 acc=some (.lst ((jb rs (way.take j)++hs.take n).map V.int))/\Ext acc H1 H4) ?_ ?_ ?_ ?_
   ·exact ⟨y,rfl,by rw [List.take_zero,List.append_nil];exact h3,e3⟩
   ·rintro n σ H4 hn ⟨y,rfl,h4,e4⟩
    exact SqT.of (e4 _ _ hg1 (j1 hg1 hacc))
   ·rintro n v σ H4 hv4 ⟨y,rfl,h4,e4⟩
    obtain ⟨h,rfl,hh⟩:=wK hv4
    have hnl:=(List.getElem?_eq_some_iff.mp hh).1
    walk_at "r"
    refine ⟨_,h4,by rw [List.length_map,List.length_append,List.length_take];exact Nat.lt_of_lt_of_le (show _<10000 by omega) (by decide),some (.int h),rfl,?_,e4.trans Ext.put⟩
    rw [j6,List.take_add_one,hh,Option.toList_some,<- List.append_assoc,List.map_append (l₁:=jb rs (way.take j)++hs.take n)]
    rfl
   ·rintro σ H4 ⟨y,rfl,h4,e4⟩
    rw [List.length_map,List.take_length,<- hsn] at h4
    exact ⟨_,_,rfl,h4,e4⟩
  ·rintro σ H2 ⟨x,y,rfl,h3,e3⟩
   rw [List.length_map,List.take_length] at h3
   exact kk acc H2 (JX hT X1 T1 hacc) h3 (fun c o hc n=>e3 _ _ (X1 _ _ hc n) (fun z=>by rw [z,JX hT X1 T1 hacc] at hc;cases hc)) (T1.extN hacc e3)
def uh (va cy sl ye le:Addr):List (Str×V):=jq "leaps" (.ref le) (jq "years" (.ref ye) (jq "slopes" (.ref sl) (jq "cycle" (.ref cy) (jq "valley" (.ref va) []))))
theorem wv (va cy sl ye le:Addr):(uh va cy sl ye le).lookup ("cycle" : Str)=some (.ref cy):=by
 unfold uh
 rw [jw,if_neg (by walk_at "k"),jw,if_neg (by walk_at "k"),jw,if_neg (by walk_at "k"),jw,if_pos rfl]
theorem zq (va cy sl ye le:Addr):(uh va cy sl ye le).lookup ("slopes" : Str)=some (.ref sl):=by
 unfold uh
 rw [jw,if_neg (by walk_at "k"),jw,if_neg (by walk_at "k"),jw,if_pos rfl]
theorem kh (va cy sl ye le:Addr):(uh va cy sl ye le).lookup ("years" : Str)=some (.ref ye):=by
 unfold uh
 rw [jw,if_neg (by walk_at "k"),jw,if_pos rfl]
theorem vG (va cy sl ye le:Addr):(uh va cy sl ye le).lookup ("leaps" : Str)=some (.ref le):=by
 unfold uh
 rw [jw,if_pos rfl]
theorem xj (va cy sl ye le:Addr) {m:Str}(h1:¬ m = "leaps") (h2:¬ m = "years") (h3:¬ m = "slopes") (h4:¬ m = "cycle") (h5:¬ m = "valley"):(uh va cy sl ye le).lookup m=none:=by
 unfold uh
 rw [jw,if_neg h1,jw,if_neg h2,jw,if_neg h3,jw,if_neg h4,jw,if_neg h5]
 rfl
structure IceC (K:PySem.W.Frag) (C:Addr):Prop where
 cl:Cls K C
 nV:zm K C "valley"
 nC:zm K C "cycle"
 nS:zm K C "slopes"
 nY:zm K C "years"
 nL:zm K C "leaps"
structure IceG where
 dx:Addr
 va:Addr
 cy:Addr
 sl:Addr
 ye:Addr
 le:Addr
 xs:List V
 ys:List V
 zs:List V
 lds:List (Addr×List (Key×V))
 kvs:List (Key×V)
 rs:List Rch
 rows:List T3
 slopes:List (List Int)
structure IceAt (C:Addr) (H:Hp) (p:Addr) (g:IceG):Prop where
 ob:H p=some (.ins C g.dx (uh g.va g.cy g.sl g.ye g.le))
 va:H g.va=some (.lst g.xs)
 rs:jU H g.xs g.rs
 cy:H g.cy=some (.lst g.ys)
 rows:jo H g.ys g.rows
 sl:H g.sl=some (.lst g.zs)
 slopes:yd H g.zs g.slopes
 ye:H g.ye=some (.dK g.kvs)
 le:H g.le=some (.lst (g.lds.map fun x=>V.ref x.1))
 lds:∀ x∈g.lds,H x.1=some (.dK x.2)
theorem IceAt.same {C:Addr}{H H':Hp}{p:Addr}{g:IceG}(I:IceAt C H p g) (s:jj H H'):IceAt C H' p g :=
 ⟨s _ _ I.ob,s _ _ I.va,I.rs.keep (jg.same s),s _ _ I.cy,I.rows.imp fun _ _ q=>s _ _ q,s _ _ I.sl,Paired.mapP I.slopes fun _ _ ⟨a,e,q⟩=>⟨a,e,s _ _ q⟩,s _ _ I.ye,s _ _ I.le,fun x hx=>s _ _ (I.lds x hx)⟩
theorem JH {C:Addr}{H:Hp}{p:Addr}{g:IceG}(I:IceAt C H p g) {l:Int}(h0:0<=l) (h1:l<(g.slopes.length:Int)):∃ a,atI g.zs l=some (.ref a)/\H a=some (.lst ((g.slopes.getD l.toNat []).map V.int)):=by
 have hz:g.zs.length=g.slopes.length:=Paired.length I.slopes
 have hi:l.toNat<g.zs.length:=by omega
 obtain ⟨w,hw,a,e,ha⟩:=Paired.get I.slopes (List.getElem?_eq_getElem hi)
 refine ⟨a,?_,?_⟩
 ·rw [show l=((l.toNat:Nat):Int) by omega]
  refine zB ?_
  rw [List.getElem?_eq_getElem hi,e]
 ·rw [ha,List.getD_eq_getElem?_getD,hw]
  rfl
theorem Wg {l:List Int}{n:Nat}(h:n<l.length):(l.map V.int)[n]? = some (V.int (l.getD n 0)):=by
 rw [List.getElem?_map,List.getD_eq_getElem?_getD,List.getElem?_eq_getElem h]
 rfl
def xQ (C CN:Addr):Sp:=fun vs H Q E=>∃ (p:Addr) (g:IceG) (l:Int),vs=[.ref p,.int l]/\IceAt C H p g/\(0<=l->l<(g.slopes.length:Int)->Q .non H)/\(l<0\/(g.slopes.length:Int)<=l->E (.ref CN) none H)
theorem ve:FnScope ["self","lane"] ["self","lane"] (j8 xm):=by walk_at "s"
theorem vy {f C CN:Addr}{fd:FuncData}(nb:Nb2 mg) (T:IceC K C) (e_NoLane:mg "NoLane" = some (.ref CN)) (x_NoLane:PySem.W.excIn K CN [.type "ValueError",.type "Exception",.type "BaseException",.type "object"] "ValueError.__new__" = true) (F:Fun K "check_lane" "Ice.check_lane" xm f fd):FnOk P w K mg base (CX1 P w) 1 f fd ["self","lane"] (xQ C CN):=by
 refine Fun.okX F ve (fun vs H Q E h=>?_) (fun cdv A outer s H vs Q E hr h=>?_)
 ·obtain ⟨p,g,l,rfl,_⟩:=h
  rfl
 ·obtain ⟨p,g,l,rfl,I,k,kx⟩:=h
  have hz:g.zs.length=g.slopes.length:=Paired.length I.slopes
  refine ⟨_,(j9 (jV (xf (xM qu yV j7 (pv 1) (jf (ji K) rfl nb.b_len PySem.boot_len (j0 (x5 K (pv 0)) j2)))) (j9 (xq PySem.F.excBase_ValueError x_NoLane e_NoLane rfl ze rfl (j0 jG j2))) jy)),?_⟩
  walk_at "r"
  refine qB (fun h0=>?_) (fun h0=>?_)
  ·walk_at "r"
   refine ⟨p,C,g.dx,_,_,rfl,I.ob,T.cl,T.nS,zq _ _ _ _ _,?_⟩
   walk_at "r"
   refine ⟨_,_,rfl,.inl (SqL.of I.sl),?_⟩
   rw [hz]
   walk_at "r"
   refine ya (fun h1=>?_) (fun h1=>?_)
   ·walk_at "r"
    exact ⟨by show 1<=sizeLine;decide,kx (.inr (by omega))⟩
   ·walk_at "r"
    exact k h0 h1
  ·walk_at "r"
   refine yn ?_
   walk_at "r"
   exact ⟨by show 1<=sizeLine;decide,kx (.inl (by omega))⟩
def xZ (C CN CP:Addr):Sp:=fun vs H Q E=>∃ (p:Addr) (g:IceG) (l n:Int),vs=[.ref p,.int l,.int n]/\IceAt C H p g/\(0<=l->l<(g.slopes.length:Int)->0<=n->n<((g.slopes.getD l.toNat []).length:Int)->Q .non H) /\
 (l<0\/(g.slopes.length:Int)<=l->E (.ref CN) none H)/\(0<=l->l<(g.slopes.length:Int)->(n<0\/((g.slopes.getD l.toNat []).length:Int)<=n)->E (.ref CP) none H)
theorem yQ:FnScope ["self","lane","place"] ["self","lane","place"] (j8 xa):=by walk_at "s"
theorem yR {f C CN CP:Addr}{fd:FuncData}(nb:Nb2 mg) (T:IceC K C) (e_NoPlace:mg "NoPlace" = some (.ref CP)) (x_NoPlace:PySem.W.excIn K CP [.type "ValueError",.type "Exception",.type "BaseException",.type "object"] "ValueError.__new__" = true) (cl_Ice:Cls K C) (c_Ice__check_lane:CalMX P w K mg base 1 C "check_lane" ["self","lane"] (xQ C CN)) (F:Fun K "check_place" "Ice.check_place" xa f fd):FnOk P w K mg base (CX1 P w) 2 f fd ["self","lane","place"] (xZ C CN CP):=by
 refine Fun.okX F yQ (fun vs H Q E h=>?_) (fun cdv A outer s H vs Q E hr h=>?_)
 ·obtain ⟨p,g,l,n,rfl,_⟩:=h
  rfl
 ·obtain ⟨p,g,l,n,rfl,I,k,kx,ky⟩:=h
  refine ⟨_,(j4 (jO (zy (pv 0) cl_Ice c_Ice__check_lane (hr.mono (by decide)) qr (j0 (pv 1) j2)))
   (j9 (jV (xf (xM qu yV j7 (pv 2) (jf (ji K) rfl nb.b_len PySem.boot_len (j0 (jt (je K) (x5 K (pv 0)) (pv 1) (fun _ _=>rfl)) j2)))) (j9 (xq PySem.F.excBase_ValueError x_NoPlace e_NoPlace rfl ze rfl (j0 jG j2))) jy))),?_⟩
  walk_at "r"
  refine ⟨p,g.dx,_,rfl,I.ob,xj _ _ _ _ _ (by walk_at "k") (by walk_at "k") (by walk_at "k") (by walk_at "k") (by walk_at "k"),?_⟩
  walk_at "r"
  refine ⟨p,g,l,rfl,I,fun l0 l1=>?_,fun hb=>kx hb⟩
  obtain ⟨a,ha,hla⟩:=JH I l0 l1
  walk_at "r"
  refine qB (fun h0=>?_) (fun h0=>?_)
  ·walk_at "r"
   refine ⟨p,C,g.dx,_,_,rfl,I.ob,T.cl,T.nS,zq _ _ _ _ _,?_⟩
   walk_at "r"
   refine ⟨_,_,_,_,rfl,rfl,SqL.of I.sl,ha,?_⟩
   walk_at "r"
   refine ⟨_,_,rfl,.inl (SqL.of hla),?_⟩
   rw [List.length_map]
   walk_at "r"
   refine ya (fun h1=>?_) (fun h1=>?_)
   ·walk_at "r"
    exact ⟨by show 1<=sizeLine;decide,ky l0 l1 (.inr (by omega))⟩
   ·walk_at "r"
    exact k l0 l1 h0 h1
  ·walk_at "r"
   refine yn ?_
   walk_at "r"
   exact ⟨by show 1<=sizeLine;decide,ky l0 l1 (.inl (by omega))⟩
def J4 (C CN:Addr):Sp:=fun vs H Q E=>∃ (p:Addr) (g:IceG) (l:Int),vs=[.ref p,.int l]/\IceAt C H p g/\(0<=l->l<(g.slopes.length:Int)->Q (.int ((g.slopes.getD l.toNat []).length:Int)) H)/\(l<0\/(g.slopes.length:Int)<=l->E (.ref CN) none H)
theorem wG:FnScope ["self","lane"] ["self","lane"] (j8 zD):=by walk_at "s"
theorem wW {f C CN:Addr}{fd:FuncData}(nb:Nb2 mg) (T:IceC K C) (cl_Ice:Cls K C) (c_Ice__check_lane:CalMX P w K mg base 1 C "check_lane" ["self","lane"] (xQ C CN)) (F:Fun K "length" "Ice.length" zD f fd):FnOk P w K mg base (CX1 P w) 2 f fd ["self","lane"] (J4 C CN):=by
 refine Fun.okX F wG (fun vs H Q E h=>?_) (fun cdv A outer s H vs Q E hr h=>?_)
 ·obtain ⟨p,g,l,rfl,_⟩:=h
  rfl
 ·obtain ⟨p,g,l,rfl,I,k,kx⟩:=h
  refine ⟨_,(j4 (jO (zy (pv 0) cl_Ice c_Ice__check_lane (hr.mono (by decide)) qr (j0 (pv 1) j2)))
   (j9 (jk (jf (ji K) rfl nb.b_len PySem.boot_len (j0 (jt (je K) (x5 K (pv 0)) (pv 1) (fun _ _=>rfl)) j2))))),?_⟩
  walk_at "r"
  refine ⟨p,g.dx,_,rfl,I.ob,xj _ _ _ _ _ (by walk_at "k") (by walk_at "k") (by walk_at "k") (by walk_at "k") (by walk_at "k"),?_⟩
  walk_at "r"
  refine ⟨p,g,l,rfl,I,fun l0 l1=>?_,fun hb=>kx hb⟩
  obtain ⟨a,ha,hla⟩:=JH I l0 l1
  walk_at "r"
  refine ⟨p,C,g.dx,_,_,rfl,I.ob,T.cl,T.nS,zq _ _ _ _ _,?_⟩
  walk_at "r"
  refine ⟨_,_,_,_,rfl,rfl,SqL.of I.sl,ha,?_⟩
  walk_at "r"
  refine ⟨_,_,rfl,.inl (SqL.of hla),?_⟩
  rw [List.length_map]
  exact k l0 l1
def gH (C CN CP:Addr):Sp:=fun vs H Q E=>∃ (p:Addr) (g:IceG) (l n:Int),vs=[.ref p,.int l,.int n]/\IceAt C H p g/\(0<=l->l<(g.slopes.length:Int)->0<=n->n<((g.slopes.getD l.toNat []).length:Int)->Q (.int ((g.slopes.getD l.toNat []).getD n.toNat 0)) H) /\
 (l<0\/(g.slopes.length:Int)<=l->E (.ref CN) none H)/\(0<=l->l<(g.slopes.length:Int)->(n<0\/((g.slopes.getD l.toNat []).length:Int)<=n)->E (.ref CP) none H)
theorem wE:FnScope ["self","lane","place"] ["self","lane","place"] (j8 zH):=by walk_at "s"
theorem kD {f C CN CP:Addr}{fd:FuncData}(nb:Nb2 mg) (T:IceC K C) (cl_Ice:Cls K C) (c_Ice__check_place:CalMX P w K mg base 2 C "check_place" ["self","lane","place"] (xZ C CN CP)) (F:Fun K "height" "Ice.height" zH f fd):FnOk P w K mg base (CX1 P w) 3 f fd ["self","lane","place"] (gH C CN CP):=by
 refine Fun.okX F wE (fun vs H Q E h=>?_) (fun cdv A outer s H vs Q E hr h=>?_)
 ·obtain ⟨p,g,l,n,rfl,_⟩:=h
  rfl
 ·obtain ⟨p,g,l,n,rfl,I,k,kx,ky⟩:=h
  refine ⟨_,(j4 (jO (zy (pv 0) cl_Ice c_Ice__check_place (hr.mono (by decide)) qr (j0 (pv 1) (j0 (pv 2) j2))))
   (j9 (jk (jt (je K) (jt (je K) (x5 K (pv 0)) (pv 1) (fun _ _=>rfl)) (pv 2) (fun _ _=>rfl))))),?_⟩
  walk_at "r"
  refine ⟨p,g.dx,_,rfl,I.ob,xj _ _ _ _ _ (by walk_at "k") (by walk_at "k") (by walk_at "k") (by walk_at "k") (by walk_at "k"),?_⟩
  walk_at "r"
  refine ⟨p,g,l,n,rfl,I,fun l0 l1 n0 n1=>?_,fun hb=>kx hb,fun l0 l1 hb=>ky l0 l1 hb⟩
  obtain ⟨a,ha,hla⟩:=JH I l0 l1
  walk_at "r"
  refine ⟨p,C,g.dx,_,_,rfl,I.ob,T.cl,T.nS,zq _ _ _ _ _,?_⟩
  walk_at "r"
  refine ⟨_,_,_,_,rfl,rfl,SqL.of I.sl,ha,?_⟩
  walk_at "r"
  refine ⟨_,_,_,_,rfl,rfl,SqL.of hla,(by rw [show n=((n.toNat:Nat):Int) by omega];exact zB (Wg (by omega))),?_⟩
  exact k l0 l1 n0 n1
end
section
variable {P:Program}{w:World}{K:PySem.W.Frag}{mg:Str->Option Value}{base:Heap}
def vY (CR:Addr):Sp:=fun vs H Q E=>∃ (p:Addr) (xs:List V) (ts:List T3),vs=[.ref p]/\H p=some (.lst xs)/\jo H xs ts/\ts.length<=1000/\(∀ H',gr ts=true->jj H H'->Q .non H')/\∀ H',gr ts=false->jj H H'->E (.ref CR) none H'
theorem kG:FnScope ["rows"] ["rows"] (j8 zL):=by walk_at "s"
theorem wU {f CR:Addr}{fd:FuncData}(nb:Nb2 mg) (e_BadRound:mg "BadRound" = some (.ref CR)) (x_BadRound:PySem.W.excIn K CR [.type "ValueError",.type "Exception",.type "BaseException",.type "object"] "ValueError.__new__" = true) (c_is_round:Cal P w K mg base 2 "is_round" ["rows"] (Z6 K)) (F:Fun K "check_round" "check_round" zL f fd):FnOk P w K mg base (CX1 P w) 3 f fd ["rows"] (vY CR):=by
 refine Fun.okX F kG (fun vs H Q E h=>?_) (fun cdv A outer s H vs Q E hr h=>?_)
 ·obtain ⟨p,xs,ts,rfl,_⟩:=h
  rfl
 ·obtain ⟨p,xs,ts,rfl,hp,hr3,h1000,k,kx⟩:=h
  refine ⟨_,(j9 (jV (xf (zK (jc c_is_round (hr.mono (by decide)) rfl (j0 (pv 0) j2)))) (j9 (xq PySem.F.excBase_ValueError x_BadRound e_BadRound rfl ze rfl (j0 jG j2))) jy)),?_⟩
  walk_at "r"
  refine ⟨p,xs,ts,rfl,hp,hr3,h1000,fun H1 s1=>?_⟩
  cases e:gr ts with
  | true =>
   walk_at "r"
   exact k H1 e s1
  | false =>
   walk_at "r"
   exact ⟨by show 1<=sizeLine;decide,kx H1 e s1⟩
def Kp (p Pt:Addr) (H H':Hp):Prop:=∀ c o,H c=some o->c≠p->c≠Pt->H' c=some o
theorem Kp.trans {p Pt:Addr}{H H1 H2:Hp}(a:Kp p Pt H H1) (b:Kp p Pt H1 H2):Kp p Pt H H2:=fun c o h n m=>b c o (a c o h n m) n m
theorem Kp.of_same {p Pt:Addr}{H H':Hp}(s:jj H H'):Kp p Pt H H':=fun c o h _ _=>s c o h
theorem Kp.of_ext {p Pt:Addr}{H H':Hp}(s:Ext Pt H H'):Kp p Pt H H':=fun c o h _ m=>s c o h m
theorem Kp.put {p Pt:Addr}{H:Hp}{o:HO}:Kp p Pt H (upd H p o):=fun c _ h n _=>by rw [j5 n];exact h
theorem Kp.at {p Pt a:Addr}{H H':Hp}{o u:HO}{ps:Array Value}(k:Kp p Pt H H') (h:H a=some o) (hp:H p=some u) (hPt:H Pt=some (.tbl ps)) (n:o≠u) (m:o≠.tbl ps):H' a=some o:=k _ _ h (jp h hp n) (jp h hPt m)
theorem Kp.free {p Pt a:Addr}{H H':Hp}{u u':HO}(k:Kp p Pt H H') (h:H' a=none) (hp:H' p=some u) (hPt:H' Pt=some u'):H a=none:=by
 cases e:H a with
 | none=>rfl
 | some o =>
  have:=k a o e (fun z=>by rw [z,hp] at h;cases h) (fun z=>by rw [z,hPt] at h;cases h)
  rw [h] at this
  cases this
theorem uc {H:Hp}{Pt p C dx:Addr}{fs:List (Str×V)}{o:HO}(T:qy H Pt) (hp:H p=some (.ins C dx fs)):qy (upd H p o) Pt:=by
 rcases T with h | ⟨c,h,h'⟩
 ·exact .inl (by rw [j5 (jp h hp (by walk_at "z"))];exact h)
 ·exact .inr ⟨c,by rw [j5 (jp h hp (by walk_at "z"))];exact h,by rw [j5 (jp h' hp (by walk_at "z"))];exact h'⟩
theorem jg.kp {p Pt C dx:Addr}{H H':Hp}{fs:List (Str×V)}{ps:Array Value}(k:Kp p Pt H H') (hp:H p=some (.ins C dx fs)) (hPt:H Pt=some (.tbl ps)):jg H H':=fun _ _ h=>k.at h hp hPt (by walk_at "z") (by walk_at "z")
theorem pm {α β:Type}{F:α->β->Prop}:∀ {l₁:List α}{l₂:List β},Paired F l₁ l₂->∀ v∈l₁,∃ w,F v w
 | _,_,.nil,v,h=>by cases h
 | _,_,.cons q r,v,h=>by
  rcases List.mem_cons.mp h with rfl | z
  ·exact ⟨_,q⟩
  ·exact pm r v z
theorem pmE {H H0:Hp}{a0:Addr}{zs:List V}{rows:List (List Int)}(r:Paired (fun v (w:List Int)=>∃ a,v=V.ref a/\H a=some (.lst (w.map V.int))/\H0 a=none/\a≠a0) zs rows):∀ a,V.ref a∈zs->H0 a=none/\a≠a0:=fun a h=>by
 obtain ⟨w,b,e,_,z⟩:=pm r _ h
 cases e
 exact z
structure IceNew (C Pt:Addr) (H H':Hp) (p:Addr) (g:IceG):Prop where
 at_:IceAt C H' p g
 keep:∀ c o,H c=some o->c≠p->c≠Pt->H' c=some o
 va:H g.va=none
 cy:H g.cy=none
 sl:H g.sl=none
 ye:H g.ye=none
 le:H g.le=none
 zs:∀ a,V.ref a∈g.zs->H a=none
 kvs:g.kvs=[]
 lds:∀ x∈g.lds,H x.1=none/\x.2=[]
 ll:g.lds.length=g.slopes.length
 nd:(g.lds.map (·.1)).Nodup
 ny:∀ x∈g.lds,x.1≠g.ye
 sl2:∃ ws,jX g.rs ws/\g.slopes=ws.map (jb g.rs)
def YC (C CV CR Pt:Addr):Sp:=fun vs H Q E=>∃ (p dx r q:Addr) (xs ys:List V) (rs:List Rch) (ts:List T3),vs=[.ref p,.ref r,.ref q]/\H p=some (.ins C dx [])/\H r=some (.lst xs)/\jU H xs rs/\H q=some (.lst ys)/\jo H ys ts/\(∀ r∈rs,r.2.length<=100)/\rs.length<=60/\ts.length<=1000/\qy H Pt /\
 (∀ H' g,zu rs=true->gr ts=true->IceNew C Pt H H' p g->g.rs=rs->g.rows=ts->g.xs=xs->g.ys=ys->qy H' Pt->Q .non H') /\
 (∀ H',zu rs=false->Ext Pt H H'->qy H' Pt->E (.ref CV) none H')/\(∀ H',zu rs=true->gr ts=false->Ext Pt H H'->qy H' Pt->E (.ref CR) none H')
theorem uE:FnScope ["self","reaches","rows"] ["self","reaches","rows"] (j8 qC):=by walk_at "s"
theorem uC {f C CV CR CN Pt:Addr}{fd:FuncData}(nb:Nb2 mg) (T:IceC K C) (e_BadValley:mg "BadValley" = some (.ref CV)) (x_BadValley:PySem.W.excIn K CV [.type "ValueError",.type "Exception",.type "BaseException",.type "object"] "ValueError.__new__" = true)
  (c_is_valley:Cal P w K mg base 6 "is_valley" ["reaches"] (Ql K Pt)) (c_check_round:CalX P w K mg base 3 "check_round" ["rows"] (vY CR)) (c_lanes:Cal P w K mg base 5 "lanes" ["reaches"] (vO K Pt)) (c_heights:Cal P w K mg base 7 "heights" ["reaches","lane"] (fun vs H Q _=>Jc Pt CN vs H Q E0))
  (F:Fun K "__init__" "Ice.__init__" qC f fd):FnOk P w K mg base (CX1 P w) 8 f fd ["self","reaches","rows"] (YC C CV CR Pt):=by
 refine Fun.okX F uE (fun vs H Q E h=>?_) (fun cdv A outer s H vs Q E hr h=>?_)
 ·obtain ⟨p,dx,r,q,xs,ys,rs,ts,rfl,_⟩:=h
  rfl
 ·obtain ⟨p,dx,r,q,xs,ys,rs,ts,rfl,hp,hr',hrw,hq,hr3,h100,h60,h1000,hT,k,kv,kr⟩:=h
  obtain ⟨ps,hPt⟩:=hT.ne
  refine ⟨_,(j4 (jV (xf (zK (jc c_is_valley (hr.mono (by decide)) rfl (j0 (pv 1) j2)))) (j9 (xq PySem.F.excBase_ValueError x_BadValley e_BadValley rfl ze rfl (j0 jG j2))) jy)
   (j4 (jO (xG c_check_round (hr.mono (by decide)) qr rfl (j0 (pv 2) j2)))
   (j4 (vT K (pv 0) (qp (qw K) rfl nb.b_list PyProof.Rows.boot_list (j0 (pv 1) j2)))
   (j4 (vT K (pv 0) (qp (qw K) rfl nb.b_list PyProof.Rows.boot_list (j0 (pv 2) j2)))
   (j4 (vT K (pv 0) (jY (osc:=(j8 qC)) (ON:=["self","reaches","rows"]) (N:=["lane","reaches"]) (own:=1) (caps:=[1]) ⟨rfl,by walk_at "k",by walk_at "k",by walk_at "k",rfl,by walk_at "k"⟩ rfl rfl rfl (qx rfl nb.b_range (j0 (jf (ji K) rfl nb.b_len PySem.boot_len (j0 (jc c_lanes (hr.mono (by decide)) rfl (j0 (pv 1) j2)) j2)) j2)) (fun _ _ _ _ _=>(ja (i:=0) (show List.Nodup (["lane","reaches"]:List Str) by decide +kernel) rfl (Or.inl rfl))) (fun _ _ _ _ _=>jF) (fun _ _ _ _ _=>(jc c_heights (hr.mono (by decide)) rfl (j0 (pv 1) (j0 (pv 0) j2))))))
   (j4 (vT K (pv 0) vZ)
   (j9 (vT K (pv 0) (jY (osc:=(j8 qC)) (ON:=["self","reaches","rows"]) (N:=["slope"]) (own:=1) (caps:=[]) ⟨rfl,by walk_at "k",by walk_at "k",by walk_at "k",rfl,by walk_at "k"⟩ rfl rfl rfl (jT K (x5 K (pv 0))) (fun _ _ _ _ _=>(ja (i:=0) (show List.Nodup (["slope"]:List Str) by decide +kernel) rfl (Or.inl rfl))) (fun _ _ _ _ _=>jF) (fun _ _ _ _ _=>vZ)))))))))),?_⟩
  walk_at "r"
  refine ⟨r,xs,rs,rfl,hr',hrw,h100,h60,hT,fun H1 X1 T1=>?_⟩
  cases eg:zu rs with
  | false =>
   walk_at "r"
   exact ⟨by show 1<=sizeLine;decide,kv H1 eg X1 T1⟩
  | true =>
   have X1':∀ {a:Addr} {o:HO},H a=some o->(∀ ps,o≠.tbl ps)->H1 a=some o:=fun {a o} h n=>X1 _ _ h (jp h hPt (n _))
   have hp1:=X1' hp (by walk_at "w")
   have hr1:=X1' hr' (by walk_at "w")
   have hq1:=X1' hq (by walk_at "w")
   have hrw1:jU H1 xs rs:=hrw.keep (jg.tbl X1 hPt)
   have hr31:jo H1 ys ts:=hr3.imp fun a t e=>X1' e (by walk_at "w")
   walk_at "r"
   refine ⟨q,ys,ts,rfl,hq1,hr31,h1000,fun H2 egr s2=>?_,fun H2 egr s2=>kr H2 eg egr (X1.trans (Ext.of_same s2)) (T1.same s2)⟩
   have L:xh rs:=jZ (by unfold zu at eg;rw [Bool.and_eq_true,Bool.and_eq_true] at eg;exact eg.2.1)
   have k2:Kp p Pt H H2:=(Kp.of_ext X1).trans (Kp.of_same s2)
   have hp2:=s2 _ _ hp1
   have T2:=T1.same s2
   walk_at "r"
   refine ⟨_,_,rfl,.inl (SqL.of (s2 _ _ hr1)),fun va H3 va2 va3 s3=>?_⟩
   have hp3:=s3 _ _ hp2
   have T3':=T2.same s3
   have k3:=k2.trans (Kp.of_same s3)
   obtain ⟨_,hPt2⟩:=T2.ne
   have va0:=k2.free va2 hp2 hPt2
   walk_at "r"
   refine ⟨p,C,dx,_,rfl,hp3,T.cl,T.nV,by decide,?_⟩
   have Ta:qy (upd H3 p (HO.ins C dx (jq "valley" (V.ref va) []))) Pt:=uc T3' hp3
   have ka:=k3.trans (Kp.put (p:=p) (Pt:=Pt) (o:=HO.ins C dx (jq "valley" (V.ref va) [])))
   have pa:upd H3 p (HO.ins C dx (jq "valley" (V.ref va) [])) p=some (HO.ins C dx (jq "valley" (V.ref va) [])):=j6
   have vaa:upd H3 p (HO.ins C dx (jq "valley" (V.ref va) [])) va=some (HO.lst xs):=by rw [j5 (j1 hp2 va2).symm];exact va3
   clear k2 k3 hp1 hr1 hq1 hrw1 hr31 X1' X1 T1 s2 hp2 T2 s3 hp3 T3' va3 va2 hPt2
   generalize upd H3 p (HO.ins C dx (jq "valley" (V.ref va) []))=Ha at *
   obtain ⟨_,hPta⟩:=Ta.ne
   have vaP:va≠Pt:=jp vaa hPta (by walk_at "z")
   have vap:va≠p:=jp vaa pa (by walk_at "z")
   walk_at "r"
   refine ⟨_,_,rfl,.inl (SqL.of (ka.at hq hp hPt (by walk_at "z") (by walk_at "z"))),fun cy H4 cya cy4 s4=>?_⟩
   have hp4:=s4 _ _ pa
   have T4:=Ta.same s4
   have cy0:=ka.free cya pa hPta
   walk_at "r"
   refine ⟨p,C,dx,_,rfl,hp4,T.cl,T.nC,Nat.lt_of_le_of_lt (jS _ _ _) (by decide),?_⟩
   have kb:=(ka.trans (Kp.of_same s4)).trans (Kp.put (p:=p) (Pt:=Pt) (o:=HO.ins C dx (jq "cycle" (V.ref cy) (jq "valley" (V.ref va) []))))
   have Tb:qy (upd H4 p (HO.ins C dx (jq "cycle" (V.ref cy) (jq "valley" (V.ref va) [])))) Pt:=uc T4 hp4
   have pb:upd H4 p (HO.ins C dx (jq "cycle" (V.ref cy) (jq "valley" (V.ref va) []))) p=some (HO.ins C dx (jq "cycle" (V.ref cy) (jq "valley" (V.ref va) []))):=j6
   have vab:upd H4 p (HO.ins C dx (jq "cycle" (V.ref cy) (jq "valley" (V.ref va) []))) va=some (HO.lst xs):=by rw [j5 vap];exact s4 _ _ vaa
   have cyb:upd H4 p (HO.ins C dx (jq "cycle" (V.ref cy) (jq "valley" (V.ref va) []))) cy=some (HO.lst ys):=by rw [j5 (j1 pa cya).symm];exact cy4
   clear ka Ta pa vaa s4 hp4 T4 cya cy4 hPta
   generalize upd H4 p (HO.ins C dx (jq "cycle" (V.ref cy) (jq "valley" (V.ref va) [])))=Hb at *
   obtain ⟨_,hPtb⟩:=Tb.ne
   have cyP:cy≠Pt:=jp cyb hPtb (by walk_at "z")
   have cyp:cy≠p:=jp cyb pb (by walk_at "z")
   have pP:p≠Pt:=jp pb hPtb (by walk_at "z")
   walk_at "r"
   refine ⟨r,xs,rs,rfl,kb.at hr' hp hPt (by walk_at "z") (by walk_at "z"),hrw.keep (jg.kp kb hp hPt),L,h60,Tb,fun o H5 out ws ho ho5 hw hR X5 T5=>?_⟩
   walk_at "r"
   refine ⟨_,_,rfl,.inl (SqL.of ho5),?_⟩
   have hlen:out.length=ws.length:=hw.length
   have hws:ws.length<=60:=by
    rw [hR.length]
    unfold js
    exact Nat.le_trans (List.length_filter_le _ _) (by rw [List.length_range];exact h60)
   refine ⟨(out.length:Int),rfl,by omega,by omega,fun acc hacc=>?_⟩
   obtain ⟨_,hPt5⟩:=T5.ne
   have kb5:Kp p Pt H H5:=kb.trans (Kp.of_ext X5)
   have hp5:=X5 _ _ pb pP
   have va5:=X5 _ _ vab vaP
   have cy5:=X5 _ _ cyb cyP
   have hr5:H5 r=some (.lst xs):=kb5.at hr' hp hPt (by walk_at "z") (by walk_at "z")
   have hrw5:jU H5 xs rs:=hrw.keep (jg.kp kb5 hp hPt)
   have accP:Pt≠acc:=j1 hPt5 hacc
   refine xc (lo:=0) (n:=((out.length:Int)).toNat) (acc:=acc) (fun i σ H6=>∃ (x:Option V) (zs:List V),σ=[x,some (.ref r)]/\H6 acc=some (.lst zs)/\zs.length=i/\Paired (fun v (w:List Int)=>∃ a,v=V.ref a/\H6 a=some (.lst (w.map V.int))/\H5 a=none/\a≠acc) zs ((ws.take i).map (jb rs))/\Kp acc Pt H5 H6/\qy H6 Pt) ?_ ?_ ?_
   ·exact ⟨none,[],rfl,j6,rfl,.nil,Kp.put,T5.extN hacc Ext.put⟩
   ·rintro i σ H6 hi ⟨x,zs,rfl,h6,hz,r6,k6,T6⟩
    obtain ⟨_,hPt6⟩:=T6.ne
    have iw:i<ws.length:=by omega
    walk_at "r"
    refine ⟨r,xs,rs,_,rfl,k6 _ _ hr5 (j1 hr5 hacc) (jp hr5 hPt5 (by walk_at "z")),hrw5.keep (fun a o h=>k6 _ _ h (j1 h hacc) (jp h hPt5 (by walk_at "z"))),L,h60,h100,T6,fun t H7 ws' i' ei hi' hR' ht ht7 X7 T7=>?_,fun H' hb _ _=>?_⟩
    ·obtain rfl:=hR.unique hR'
     obtain rfl:i'=i:=by omega
     have h7:=X7 _ _ h6 accP.symm
     have ta:t≠acc:=(j1 h6 ht).symm
     have tP:t≠Pt:=(j1 hPt6 ht).symm
     refine ⟨zs,h7,jd (by omega),some (.int (0+(i':Int))),zs++[.ref t],rfl,j6,by rw [List.length_append,hz];rfl,?_,?_,?_⟩
     ·rw [qv (jb rs) ws i' (ws.getD i' []) (by rw [List.getD_eq_getElem?_getD,List.getElem?_eq_getElem iw];rfl)]
      refine Paired.snoc (Paired.mapP r6 fun v wy ⟨a,e,ha,h0,na⟩=>⟨a,e,?_,h0,na⟩) ⟨t,rfl,by rw [j5 ta];exact ht7,k6.free ht h6 hPt6,ta⟩
      rw [j5 na]
      exact X7 _ _ ha (jp ha hPt6 (by walk_at "z"))
     ·exact (k6.trans (Kp.of_ext X7)).trans Kp.put
     ·exact T7.ext h7 Ext.put
    ·have:=hR.length
     exact absurd hb (by omega)
   ·rintro σ H6 ⟨x,zs,rfl,h6,hz,r6,k6,T6⟩
    rw [Int.toNat_natCast,hlen,List.take_length] at r6
    have f6:=pmE r6
    have hp6:=k6 _ _ hp5 (j1 hp5 hacc) pP
    have kc:Kp p Pt H (upd H6 p (HO.ins C dx (jq "slopes" (V.ref acc) (jq "cycle" (V.ref cy) (jq "valley" (V.ref va) []))))):=fun c o h n m=>by
     rw [j5 n]
     have:=kb5 c o h n m
     exact k6 _ _ this (j1 this hacc) m
    have acp:acc≠p:=(j1 hp5 hacc).symm
    have acc0:=kb5.free hacc hp5 hPt5
    have zs0:∀ a,V.ref a∈zs->H a=none:=fun a z=>kb5.free (f6 a z).1 hp5 hPt5
    walk_at "r"
    refine ⟨p,C,dx,_,rfl,hp6,T.cl,T.nS,Nat.lt_of_le_of_lt (Nat.le_trans (jS _ _ _) (Nat.succ_le_succ (jS _ _ _))) (by decide),?_⟩
    have Tc:qy (upd H6 p (HO.ins C dx (jq "slopes" (V.ref acc) (jq "cycle" (V.ref cy) (jq "valley" (V.ref va) []))))) Pt:=uc T6 hp6
    have pc:upd H6 p (HO.ins C dx (jq "slopes" (V.ref acc) (jq "cycle" (V.ref cy) (jq "valley" (V.ref va) [])))) p=some (HO.ins C dx (jq "slopes" (V.ref acc) (jq "cycle" (V.ref cy) (jq "valley" (V.ref va) [])))):=j6
    have vac:upd H6 p (HO.ins C dx (jq "slopes" (V.ref acc) (jq "cycle" (V.ref cy) (jq "valley" (V.ref va) [])))) va=some (HO.lst xs):=by rw [j5 vap];exact k6 _ _ va5 (j1 va5 hacc) vaP
    have cyc:upd H6 p (HO.ins C dx (jq "slopes" (V.ref acc) (jq "cycle" (V.ref cy) (jq "valley" (V.ref va) [])))) cy=some (HO.lst ys):=by rw [j5 cyp];exact k6 _ _ cy5 (j1 cy5 hacc) cyP
    have slc:upd H6 p (HO.ins C dx (jq "slopes" (V.ref acc) (jq "cycle" (V.ref cy) (jq "valley" (V.ref va) [])))) acc=some (HO.lst zs):=by rw [j5 acp];exact h6
    have slsc:yd (upd H6 p (HO.ins C dx (jq "slopes" (V.ref acc) (jq "cycle" (V.ref cy) (jq "valley" (V.ref va) []))))) zs (ws.map (jb rs)):=Paired.mapP r6 fun v wy ⟨a,e,ha,h0,na⟩=>⟨a,e,by rw [j5 (j1 hp5 h0).symm];exact ha⟩
    clear r6 f6 k6 T6 h6 hp6 kb5 hp5 va5 cy5 hr5 hrw5 X5 T5 kb Tb pb vab cyb hPtb accP hacc ho ho5 hw hPt5
    generalize upd H6 p (HO.ins C dx (jq "slopes" (V.ref acc) (jq "cycle" (V.ref cy) (jq "valley" (V.ref va) []))))=Hc at *
    walk_at "r"
    intro ye hye
    obtain ⟨_,hPtc⟩:=Tc.ne
    have ye0:=kc.free hye pc hPtc
    have yep:ye≠p:=(j1 pc hye).symm
    have s9:jj Hc (upd Hc ye (.dK [])):=jj.new hye
    walk_at "r"
    refine ⟨p,C,dx,_,rfl,s9 _ _ pc,T.cl,T.nY,Nat.lt_of_le_of_lt (Nat.le_trans (jS _ _ _) (Nat.succ_le_succ (Nat.le_trans (jS _ _ _) (Nat.succ_le_succ (jS _ _ _))))) (by decide),?_⟩
    have d_of:∀ c o,Hc c=some o->c≠p->(upd (upd Hc ye (HO.dK [])) p (HO.ins C dx (jq "years" (V.ref ye) (jq "slopes" (V.ref acc) (jq "cycle" (V.ref cy) (jq "valley" (V.ref va) [])))))) c=some o:=fun c o h n=>by rw [j5 n];exact s9 _ _ h
    have kd:Kp p Pt H (upd (upd Hc ye (HO.dK [])) p (HO.ins C dx (jq "years" (V.ref ye) (jq "slopes" (V.ref acc) (jq "cycle" (V.ref cy) (jq "valley" (V.ref va) [])))))):=(kc.trans (Kp.of_same s9)).trans Kp.put
    have Td:qy (upd (upd Hc ye (HO.dK [])) p (HO.ins C dx (jq "years" (V.ref ye) (jq "slopes" (V.ref acc) (jq "cycle" (V.ref cy) (jq "valley" (V.ref va) [])))))) Pt:=uc (Tc.same s9) (s9 _ _ pc)
    have pd:(upd (upd Hc ye (HO.dK [])) p (HO.ins C dx (jq "years" (V.ref ye) (jq "slopes" (V.ref acc) (jq "cycle" (V.ref cy) (jq "valley" (V.ref va) [])))))) p=some (HO.ins C dx (jq "years" (V.ref ye) (jq "slopes" (V.ref acc) (jq "cycle" (V.ref cy) (jq "valley" (V.ref va) []))))):=j6
    have vad:=d_of _ _ vac vap
    have cyd:=d_of _ _ cyc cyp
    have sld:=d_of _ _ slc acp
    have yed:(upd (upd Hc ye (HO.dK [])) p (HO.ins C dx (jq "years" (V.ref ye) (jq "slopes" (V.ref acc) (jq "cycle" (V.ref cy) (jq "valley" (V.ref va) [])))))) ye=some (.dK []):=by rw [j5 yep];exact j6
    have slsd:yd (upd (upd Hc ye (HO.dK [])) p (HO.ins C dx (jq "years" (V.ref ye) (jq "slopes" (V.ref acc) (jq "cycle" (V.ref cy) (jq "valley" (V.ref va) [])))))) zs (ws.map (jb rs)):=Paired.mapP slsc fun v wy ⟨a,e,ha⟩=>⟨a,e,d_of _ _ ha (jp ha pc (by walk_at "z"))⟩
    clear d_of kc Tc pc vac cyc slc slsc hye hPtc s9
    generalize (upd (upd Hc ye (HO.dK [])) p (HO.ins C dx (jq "years" (V.ref ye) (jq "slopes" (V.ref acc) (jq "cycle" (V.ref cy) (jq "valley" (V.ref va) []))))))=Hd at *
    obtain ⟨_,hPtd⟩:=Td.ne
    walk_at "r"
    refine ⟨p,C,dx,_,_,rfl,pd,T.cl,T.nS,(by rw [jw,if_neg (by walk_at "k"),jw,if_pos rfl]),?_⟩
    walk_at "r"
    refine ⟨⟨_,SqL.of sld⟩,fun le hle=>?_⟩
    have lep:le≠p:=(j1 pd hle).symm
    have le0:=kd.free hle pd hPtd
    have zl:zs.length<=60:=by omega
    refine qg (K:=K) (a:=acc) (xs:=zs) (acc:=le) (fun i σ He=>∃ (x:Option V) (lds:List (Addr×List (Key×V))),σ=[x]/\He le=some (.lst (lds.map fun x=>V.ref x.1))/\lds.length=i/\(∀ x∈lds,He x.1=some (.dK x.2)/\x.2=[]/\Hd x.1=none/\x.1≠le)/\(lds.map (·.1)).Nodup/\Ext le Hd He) ?_ ?_ ?_ ?_
    ·exact ⟨none,[],rfl,j6,rfl,(fun x z=>by cases z),List.nodup_nil,Ext.put⟩
    ·rintro i σ He hi ⟨x,lds,rfl,he,hl,hd,nn,e⟩
     exact SqL.of (e _ _ sld (j1 sld hle))
    ·rintro i v σ He hv ⟨x,lds,rfl,he,hl,hd,nn,e⟩
     have hi:=(List.getElem?_eq_some_iff.mp hv).1
     walk_at "r"
     intro d hd0
     have dl:d≠le:=(j1 he hd0).symm
     refine ⟨_,(by rw [j5 (Ne.symm dl)];exact he),by rw [List.length_map];exact jd (by omega),some v,lds++[(d,[])],rfl,(by rw [j6,List.map_append];rfl),(by rw [List.length_append,hl];rfl),fun y hy=>?_,?_,fun c o hc n=>?_⟩
     ·rcases List.mem_append.mp hy with z | z
      ·obtain ⟨h1,h2,h3,h4⟩:=hd y z
       exact ⟨by rw [j5 h4,j5 (j1 h1 hd0)];exact h1,h2,h3,h4⟩
      ·obtain rfl:y=(d,[]):=by simpa using z
       exact ⟨by rw [j5 dl];exact j6,rfl,e.free hd0 dl,dl⟩
     ·rw [List.map_append]
      refine wq nn fun z=>?_
      obtain ⟨y,hy,ey⟩:=List.mem_map.mp z
      have:=(hd y hy).1
      rw [ey,hd0] at this
      cases this
     ·rw [j5 n,j5 (j1 (e c o hc n) hd0)]
      exact e c o hc n
    ·rintro σ He ⟨x,lds,rfl,he,hl,hd,nn,e⟩
     have hpe:=e _ _ pd (j1 pd hle)
     walk_at "r"
     refine ⟨p,C,dx,_,rfl,hpe,T.cl,T.nL,Nat.lt_of_le_of_lt (Nat.le_trans (jS _ _ _) (Nat.succ_le_succ (Nat.le_trans (jS _ _ _) (Nat.succ_le_succ (Nat.le_trans (jS _ _ _) (Nat.succ_le_succ (jS _ _ _))))))) (by decide),?_⟩
     have f_of:∀ c o,Hd c=some o->c≠p->upd He p (HO.ins C dx (jq "leaps" (V.ref le) (jq "years" (V.ref ye) (jq "slopes" (V.ref acc) (jq "cycle" (V.ref cy) (jq "valley" (V.ref va) [])))))) c=some o:=fun c o h n=>by rw [j5 n];exact e _ _ h (j1 h hle)
     have kf:Kp p Pt H (upd He p (HO.ins C dx (jq "leaps" (V.ref le) (jq "years" (V.ref ye) (jq "slopes" (V.ref acc) (jq "cycle" (V.ref cy) (jq "valley" (V.ref va) []))))))):=fun c o h n m=>f_of c o (kd c o h n m) n
     have hnp:∀ x∈lds,x.1≠p:=fun x hx=>(j1 pd (hd x hx).2.2.1).symm
     refine k _ { dx:=dx,va:=va,cy:=cy,sl:=acc,ye:=ye,le:=le,xs:=xs,ys:=ys,zs:=zs,lds:=lds,kvs:=[],rs:=rs,rows:=ts,slopes:=ws.map (jb rs) } eg egr ⟨⟨j6,f_of _ _ vad vap,hrw.keep (jg.kp kf hp hPt),f_of _ _ cyd cyp,hr3.imp fun a t e=>kf.at e hp hPt (by walk_at "z") (by walk_at "z"),f_of _ _ sld acp,Paired.mapP slsd fun v wy ⟨a,e,ha⟩=>⟨a,e,f_of _ _ ha (jp ha pd (by walk_at "z"))⟩,f_of _ _ yed yep,(by rw [j5 lep];exact he),fun x hx=>by rw [j5 (hnp x hx)];exact (hd x hx).1⟩,kf,va0,cy0,acc0,ye0,le0,zs0,rfl,fun x hx=>⟨kd.free (hd x hx).2.2.1 pd hPtd,(hd x hx).2.1⟩,hl.trans (Paired.length slsd),nn,fun x hx=>(j1 yed (hd x hx).2.2.1).symm,ws,hR,rfl⟩ rfl rfl rfl rfl (uc (Td.extN hle e) hpe)
def yE (CY:Addr):Sp:=fun vs H Q E=>∃ y:Int,vs=[.int y]/\(0<=y->y<=99->Q .non H)/\(y<0\/99<y->E (.ref CY) none H)
theorem hU:FnScope ["year"] ["year"] (j8 y9):=by walk_at "s"
theorem gf {f CY:Addr}{fd:FuncData}{u0:Tok}(g_LAST_TOLD:mg "LAST_TOLD" = some (.int 99 u0)) (e_BadYear:mg "BadYear" = some (.ref CY)) (x_BadYear:PySem.W.excIn K CY [.type "ValueError",.type "Exception",.type "BaseException",.type "object"] "ValueError.__new__" = true) (F:Fun K "check_told" "check_told" y9 f fd):FnOk P w K mg base (CX1 P w) 1 f fd ["year"] (yE CY):=by
 refine Fun.okX F hU (fun vs H Q E h=>?_) (fun cdv A outer s H vs Q E hr h=>?_)
 ·obtain ⟨y,rfl,_⟩:=h
  rfl
 ·obtain ⟨y,rfl,k,kx⟩:=h
  refine ⟨_,(j9 (jV (xf (xM qu qu j7 (pv 0) (x6 (v:=V.int 99) rfl g_LAST_TOLD ⟨_,rfl⟩))) (j9 (xq PySem.F.excBase_ValueError x_BadYear e_BadYear rfl ze rfl (j0 jG j2))) jy)),?_⟩
  walk_at "r"
  refine qB (fun h0=>?_) (fun h0=>?_)
  ·walk_at "r"
   refine ya (fun h1=>?_) (fun h1=>?_)
   ·walk_at "r"
    exact ⟨by show 1<=sizeLine;decide,kx (.inr (by omega))⟩
   ·walk_at "r"
    exact k h0 h1
  ·walk_at "r"
   refine yn ?_
   walk_at "r"
   exact ⟨by show 1<=sizeLine;decide,kx (.inl (by omega))⟩
theorem IceAt.years {C p:Addr}{H H':Hp}{g:IceG}{kvs:List (Key×V)}(I:IceAt C H p g) (hn:∀ x∈g.lds,x.1≠g.ye) (e:Ext g.ye H H') (h:H' g.ye=some (.dK kvs)):IceAt C H' p { g with kvs:=kvs }:=by
 have f:∀ {c:Addr} {o:HO},H c=some o->o≠.dK g.kvs->H' c=some o:=fun h n=>e _ _ h (jp h I.ye n)
 exact ⟨f I.ob (by walk_at "z"),f I.va (by walk_at "z"),I.rs.keep fun _ _ q=>f q (by walk_at "z"),f I.cy (by walk_at "z"),I.rows.imp fun _ _ q=>f q (by walk_at "z"),f I.sl (by walk_at "z"),Paired.mapP I.slopes fun v w ⟨a,ea,q⟩=>⟨a,ea,f q (by walk_at "z")⟩,h,f I.le (by walk_at "z"),fun x hx=>e _ _ (I.lds x hx) (hn x hx)⟩
def Vl (C CY CW:Addr):Sp:=fun vs H Q E=>∃ (p t:Addr) (g:IceG) (y:Int) (r:T3),vs=[.ref p,.int y,.ref t]/\IceAt C H p g/\(∀ x∈g.lds,x.1≠g.ye)/\H t=some (y3 r)/\g.kvs.length<=1000 /\
 (∀ H',0<=y->y<=99->good r=true->Ext g.ye H H'->IceAt C H' p { g with kvs:=qA g.kvs (.inl y) (.ref t) }->Q .non H')/\(y<0\/99<y->E (.ref CY) none H)/\(0<=y->y<=99->good r=false->E (.ref CW) none H)
theorem Jr:FnScope ["self","year","row"] ["self","year","row"] (j8 yk):=by walk_at "s"
theorem Jp {f C CY CW:Addr}{fd:FuncData}(nb:Nb2 mg) (T:IceC K C) (e_BadWeather:mg "BadWeather" = some (.ref CW)) (x_BadWeather:PySem.W.excIn K CW [.type "ValueError",.type "Exception",.type "BaseException",.type "object"] "ValueError.__new__" = true) (c_check_told:CalX P w K mg base 1 "check_told" ["year"] (yE CY)) (c_is_weather:Cal P w K mg base 1 "is_weather" ["row"] XY) (F:Fun K "tell" "Ice.tell" yk f fd):FnOk P w K mg base (CX1 P w) 2 f fd ["self","year","row"] (Vl C CY CW):=by
 refine Fun.okX F Jr (fun vs H Q E h=>?_) (fun cdv A outer s H vs Q E hr h=>?_)
 ·obtain ⟨p,t,g,y,r,rfl,_⟩:=h
  rfl
 ·obtain ⟨p,t,g,y,r,rfl,I,hn,ht,hk,k,ky,kw⟩:=h
  refine ⟨_,(j4 (jO (xG c_check_told (hr.mono (by decide)) qr rfl (j0 (pv 1) j2)))
   (j4 (jV (xf (zK (jc c_is_weather (hr.mono (by decide)) rfl (j0 (pv 2) j2)))) (j9 (xq PySem.F.excBase_ValueError x_BadWeather e_BadWeather rfl ze rfl (j0 jG j2))) jy)
   (j9 (yP (qc hr) (x5 K (pv 0)) (pv 1) (pv 2) rfl)))),?_⟩
  walk_at "r"
  refine ⟨fun h0 h1=>?_,fun hb=>ky hb⟩
  walk_at "r"
  refine ⟨t,r,rfl,ht,?_⟩
  cases eg:good r with
  | false =>
   walk_at "r"
   exact ⟨by show 1<=sizeLine;decide,kw h0 h1 eg⟩
  | true =>
   walk_at "r"
   refine ⟨p,C,g.dx,_,_,rfl,I.ob,T.cl,T.nY,kh _ _ _ _ _,?_⟩
   walk_at "r"
   refine ⟨g.ye,_,rfl,gm.k (k:=.inl y) I.ye (jd hk),?_⟩
   exact k _ h0 h1 eg Ext.put (I.years hn Ext.put j6)
def yr (l:List (Addr×List (Key×V))) (n:Nat) (kvs:List (Key×V)):List (Addr×List (Key×V)):=l.set n ((l.getD n (0,[])).1,kvs)
theorem ZK (l:List (Addr×List (Key×V))) (n:Nat) (kvs:List (Key×V)):(yr l n kvs).map (fun x=>V.ref x.1)=l.map fun x=>V.ref x.1:=by
 unfold yr
 rw [List.map_set]
 by_cases h:n<l.length
 ·rw [List.getD_eq_getElem?_getD,List.getElem?_eq_getElem h]
  refine List.ext_getElem? fun i=>?_
  rw [List.getElem?_set]
  by_cases e:n=i
  ·subst e
   rw [if_pos rfl,List.length_map,if_pos h,List.getElem?_map,List.getElem?_eq_getElem h]
   rfl
  ·rw [if_neg e]
 ·rw [List.set_eq_of_length_le (by rw [List.length_map];omega)]
theorem IceAt.leap {C p:Addr}{H H':Hp}{g:IceG}{n:Nat}{a:Addr}{kvs kvs':List (Key×V)}(I:IceAt C H p g) (ha:g.lds[n]? = some (a,kvs)) (hn:∀ x∈g.lds,x.1≠g.ye) (nd:(g.lds.map (·.1)).Nodup) (e:Ext a H H') (h:H' a=some (.dK kvs')):IceAt C H' p { g with lds:=yr g.lds n kvs' }:=by
 have hm:=List.mem_of_getElem? ha
 have h0:=I.lds _ hm
 have f:∀ {c:Addr} {o:HO},H c=some o->(∀ z,o≠.dK z)->H' c=some o:=fun h n=>e _ _ h (jp h h0 (n _))
 have hl:n<g.lds.length:=(List.getElem?_eq_some_iff.mp ha).1
 refine ⟨f I.ob (by walk_at "w"),f I.va (by walk_at "w"),I.rs.keep fun _ _ q=>f q (by walk_at "w"),f I.cy (by walk_at "w"),I.rows.imp fun _ _ q=>f q (by walk_at "w"),f I.sl (by walk_at "w"),Paired.mapP I.slopes fun v w ⟨a,ea,q⟩=>⟨a,ea,f q (by walk_at "w")⟩,e _ _ I.ye (fun z=>hn _ hm z.symm),(by show H' g.le=_;rw [ZK];exact f I.le (by walk_at "w")),fun x hx=>?_⟩
 have hx':x∈yr g.lds n kvs':=hx
 obtain ⟨i,hi,ex⟩:=List.mem_iff_getElem.mp hx'
 have hi2:i<g.lds.length:=by unfold yr at hi;rw [List.length_set] at hi;exact hi
 have ex2:(yr g.lds n kvs')[i]? = some x:=by rw [List.getElem?_eq_getElem hi,ex]
 unfold yr at ex2
 rw [List.getElem?_set] at ex2
 by_cases en:n=i
 ·rw [if_pos en,if_pos (by omega)] at ex2
  rw [<- Option.some.inj ex2,List.getD_eq_getElem?_getD,ha]
  exact h
 ·rw [if_neg en] at ex2
  refine e _ _ (I.lds x (List.mem_of_getElem? ex2)) fun z=>en ?_
  have h1:(g.lds.map (·.1))[n]? = some a:=by rw [List.getElem?_map,ha];rfl
  have h2:(g.lds.map (·.1))[i]? = some a:=by rw [List.getElem?_map,ex2,<- z];rfl
  have l1:=(List.getElem?_eq_some_iff.mp h1).1
  have l2:=(List.getElem?_eq_some_iff.mp h2).1
  exact (List.getElem?_inj l1 nd).mp (h1.trans h2.symm)
def Zr (C CN CY CS:Addr):Sp:=fun vs H Q E=>∃ (p:Addr) (g:IceG) (l y m:Int),vs=[.ref p,.int l,.int y,.int m]/\IceAt C H p g/\g.lds.length=g.slopes.length/\(∀ x∈g.lds,x.1≠g.ye)/\(g.lds.map (·.1)).Nodup/\(∀ x∈g.lds,x.2.length<=1000) /\
 (∀ H' a kvs,0<=l->l<(g.slopes.length:Int)->0<=y->y<=99->1<=m->m<=9->g.lds[l.toNat]? = some (a,kvs)->Ext a H H'->IceAt C H' p { g with lds:=yr g.lds l.toNat (qA kvs (.inl y) (.int m)) }->Q .non H') /\
 (l<0\/(g.slopes.length:Int)<=l->E (.ref CN) none H)/\(0<=l->l<(g.slopes.length:Int)->y<0\/99<y->E (.ref CY) none H)/\(0<=l->l<(g.slopes.length:Int)->0<=y->y<=99->m<1\/9<m->E (.ref CS) none H)
theorem gg:FnScope ["self","lane","year","many"] ["self","lane","year","many"] (j8 zZ):=by walk_at "s"
theorem hV {f C CN CY CS:Addr}{fd:FuncData}{u0:Tok}(nb:Nb2 mg) (T:IceC K C) (cl_Ice:Cls K C) (g_GREATEST_SURGE:mg "GREATEST_SURGE" = some (.int 9 u0)) (e_BadSurge:mg "BadSurge" = some (.ref CS)) (x_BadSurge:PySem.W.excIn K CS [.type "ValueError",.type "Exception",.type "BaseException",.type "object"] "ValueError.__new__" = true) (c_Ice__check_lane:CalMX P w K mg base 1 C "check_lane" ["self","lane"] (xQ C CN)) (c_check_told:CalX P w K mg base 1 "check_told" ["year"] (yE CY)) (F:Fun K "surge" "Ice.surge" zZ f fd):FnOk P w K mg base (CX1 P w) 2 f fd ["self","lane","year","many"] (Zr C CN CY CS):=by
 refine Fun.okX F gg (fun vs H Q E h=>?_) (fun cdv A outer s H vs Q E hr h=>?_)
 ·obtain ⟨p,g,l,y,m,rfl,_⟩:=h
  rfl
 ·obtain ⟨p,g,l,y,m,rfl,I,hll,hn,nd,hk,k,kn,ky,ks⟩:=h
  refine ⟨_,(j4 (jO (zy (pv 0) cl_Ice c_Ice__check_lane (hr.mono (by decide)) qr (j0 (pv 1) j2)))
   (j4 (jO (xG c_check_told (hr.mono (by decide)) qr rfl (j0 (pv 2) j2)))
   (j4 (jV (xf (xM qu qu j7 (pv 3) (x6 (v:=V.int 9) rfl g_GREATEST_SURGE ⟨_,rfl⟩))) (j9 (xq PySem.F.excBase_ValueError x_BadSurge e_BadSurge rfl ze rfl (j0 jG j2))) jy)
   (j9 (yP (qc hr) (jt (je K) (x5 K (pv 0)) (pv 1) (fun _ _=>rfl)) (pv 2) (pv 3) rfl))))),?_⟩
  walk_at "r"
  refine ⟨p,g.dx,_,rfl,I.ob,xj _ _ _ _ _ (by walk_at "k") (by walk_at "k") (by walk_at "k") (by walk_at "k") (by walk_at "k"),?_⟩
  walk_at "r"
  refine ⟨p,g,l,rfl,I,fun l0 l1=>?_,fun hb=>kn hb⟩
  walk_at "r"
  refine ⟨fun h0 h1=>?_,fun hb=>ky l0 l1 hb⟩
  have hi:l.toNat<g.lds.length:=by omega
  walk_at "r"
  refine qB (fun m0=>?_) (fun m0=>?_)
  ·walk_at "r"
   refine ya (fun m1=>?_) (fun m1=>?_)
   ·walk_at "r"
    exact ⟨by show 1<=sizeLine;decide,ks l0 l1 h0 h1 (.inr (by omega))⟩
   ·walk_at "r"
    refine ⟨p,C,g.dx,_,_,rfl,I.ob,T.cl,T.nL,vG _ _ _ _ _,?_⟩
    walk_at "r"
    refine ⟨_,_,_,_,rfl,rfl,SqL.of I.le,qW l0 (v:=V.ref (g.lds[l.toNat]'hi).1) (by rw [List.getElem?_map,List.getElem?_eq_getElem hi];rfl),?_⟩
    walk_at "r"
    have h0':=I.lds _ (List.getElem_mem hi)
    refine ⟨_,_,rfl,gm.k (k:=.inl y) h0' (jd (hk _ (List.getElem_mem hi))),?_⟩
    exact k _ _ _ l0 l1 h0 h1 m0 m1 (List.getElem?_eq_getElem hi) Ext.put (I.leap (List.getElem?_eq_getElem hi) hn nd Ext.put j6)
  ·walk_at "r"
   refine yn ?_
   walk_at "r"
   exact ⟨by show 1<=sizeLine;decide,ks l0 l1 h0 h1 (.inl (by omega))⟩
def kvI (q:Int×Int):Key×V:=(.inl q.1,.int q.2)
def qG:List (Int×Int)->Int->Int
 | [],_=>0
 | q::r,y=>if q.1=y then q.2 else qG r y
theorem uH:∀ (ns:List (Int×Int)) (y:Int),y∈ns.map (·.1)->qE (ns.map kvI) (.inl y)=some (.int (qG ns y))
 | [],y,h=>by cases h
 | q::r,y,h=>by
  rw [List.map_cons]
  unfold qE qG
  by_cases e:q.1=y
  ·subst e
   simp [kvI,List.find?]
  ·have h':y∈r.map (·.1):=by
    rcases List.mem_cons.mp h with z | z
    ·exact absurd z.symm e
    ·exact z
   have ih:=uH r y h'
   unfold qE at ih
   simp [kvI,List.find?,e] at ih ⊢
   exact ih
theorem QH:∀ (ns:List (Int×Int)),(ns.map (·.1)).Nodup->(ns.map (·.1)).map (fun y=>(y,qG ns y))=ns
 | [],_=>rfl
 | q::r,nd=>by
  rw [List.map_cons] at nd ⊢
  obtain ⟨h1,h2⟩:=List.nodup_cons.mp nd
  rw [List.map_cons]
  have e:qG (q::r) q.1=q.2:=by unfold qG;rw [if_pos rfl]
  rw [e]
  refine congrArg (q :: ·) ?_
  conv=>rhs;rw [<- QH r h2]
  refine List.map_congr_left fun y hy=>?_
  have hne:¬ q.1=y:=fun z=>h1 (z ▸ hy)
  show (y,qG (q::r) y)=_
  conv=>lhs;unfold qG
  rw [if_neg hne]
def yO (C CN:Addr):Sp:=fun vs H Q E=>∃ (p:Addr) (g:IceG) (l:Int),vs=[.ref p,.int l]/\IceAt C H p g/\g.lds.length=g.slopes.length/\(l<0\/(g.slopes.length:Int)<=l->E (.ref CN) none H) /\
 (0<=l->l<(g.slopes.length:Int)->∃ (a:Addr) (ns:List (Int×Int)),g.lds[l.toNat]? = some (a,ns.map kvI)/\(ns.map (·.1)).Nodup/\ns.length<64 /\
  ∀ o H' out (ms:List (Int×Int)),H o=none->H' o=some (.lst out)->Paired (fun v (m:Int×Int)=>∃ b,v=V.ref b/\H' b=some (.tup [.int m.1,.int m.2])) out ms->jj H H'->ms.Perm ns->(ms.map (·.1)).Pairwise (· <= ·)->Q (.ref o) H')
theorem wI:FnScope ["self","lane"] ["self","lane"] (j8 xF):=by walk_at "s"
theorem k7 {f C CN:Addr}{fd:FuncData}(nb:Nb2 mg) (T:IceC K C) (cl_Ice:Cls K C) (c_Ice__check_lane:CalMX P w K mg base 1 C "check_lane" ["self","lane"] (xQ C CN)) (F:Fun K "surges" "Ice.surges" xF f fd):FnOk P w K mg base (CX1 P w) 2 f fd ["self","lane"] (yO C CN):=by
 refine Fun.okX F wI (fun vs H Q E h=>?_) (fun cdv A outer s H vs Q E hr h=>?_)
 ·obtain ⟨p,g,l,rfl,_⟩:=h
  rfl
 ·obtain ⟨p,g,l,rfl,I,hll,kx,k⟩:=h
  refine ⟨_,(j4 (jO (zy (pv 0) cl_Ice c_Ice__check_lane (hr.mono (by decide)) qr (j0 (pv 1) j2)))
   (j9 (jk (jY (osc:=(j8 xF)) (ON:=["self","lane"]) (N:=["year","lane","self"]) (own:=1) (caps:=[1,0]) ⟨rfl,by walk_at "k",by walk_at "k",by walk_at "k",rfl,by walk_at "k"⟩ rfl rfl rfl (jT K (jf (Jm K rfl) rfl nb.b_sorted boot_sorted (j0 (jt (je K) (x5 K (pv 0)) (pv 1) (fun _ _=>rfl)) j2))) (fun _ _ _ _ _=>(ja (i:=0) (show List.Nodup (["year","lane","self"]:List Str) by decide +kernel) rfl (Or.inl rfl))) (fun _ _ _ _ _=>jF) (fun _ _ _ _ _=>(qm (j0 (pv 0) (j0 (jN (qc hr) (jt (je K) (x5 K (pv 2)) (pv 1) (fun _ _=>rfl)) (pv 0) (fun _ _=>rfl)) j2)))))))),?_⟩
  walk_at "r"
  refine ⟨p,g.dx,_,rfl,I.ob,xj _ _ _ _ _ (by walk_at "k") (by walk_at "k") (by walk_at "k") (by walk_at "k") (by walk_at "k"),?_⟩
  walk_at "r"
  refine ⟨p,g,l,rfl,I,fun l0 l1=>?_,fun hb=>kx hb⟩
  obtain ⟨a,ns,ha,nd,h64,k⟩:=k l0 l1
  have hi:=(List.getElem?_eq_some_iff.mp ha).1
  have hm:=I.lds _ (List.mem_of_getElem? ha)
  have hat:atI (g.lds.map fun x=>V.ref x.1) l=some (.ref a):=qW l0 (by rw [List.getElem?_map,ha];rfl)
  walk_at "r"
  refine ⟨p,C,g.dx,_,_,rfl,I.ob,T.cl,T.nL,vG _ _ _ _ _,?_⟩
  walk_at "r"
  refine ⟨_,_,_,_,rfl,rfl,SqL.of I.le,hat,?_⟩
  refine ⟨a,ns.map kvI,ns.map (·.1),rfl,hm,by rw [List.map_map,List.map_map];rfl,by rw [List.length_map];exact h64,fun o H1 ks ho ho1 s1 hp hs=>?_⟩
  have hkl:ks.length<64:=by rw [hp.length_eq,List.length_map];exact h64
  refine ⟨o,rfl,⟨_,SqL.of ho1⟩,fun acc hacc=>?_⟩
  refine qg (K:=K) (a:=o) (xs:=ks.map V.int) (acc:=acc) (fun i σ H2=>∃ (x:Option V) (out:List V),σ=[x,some (.int l),some (.ref p)]/\H2 acc=some (.lst out)/\out.length=i/\Paired (fun v (m:Int×Int)=>∃ b,v=V.ref b/\H2 b=some (.tup [.int m.1,.int m.2])) out ((ks.take i).map fun y=>(y,qG ns y))/\Ext acc H1 H2) ?_ ?_ ?_ ?_
  ·exact ⟨none,[],rfl,j6,rfl,.nil,Ext.put⟩
  ·rintro i σ H2 hi ⟨x,out,rfl,h2,hz,r2,e2⟩
   exact SqL.of (e2 _ _ ho1 (j1 ho1 hacc))
  ·rintro i v σ H2 hv ⟨x,out,rfl,h2,hz,r2,e2⟩
   obtain ⟨y,rfl,hy⟩:=wK hv
   have hiy:=(List.getElem?_eq_some_iff.mp hy).1
   have hyn:y∈ns.map (·.1):=hp.mem_iff.mp (List.mem_of_getElem? hy)
   have t2:jj H H2:=fun c o hc=>e2 _ _ (s1 _ _ hc) (j1 (s1 _ _ hc) hacc)
   have I2:=I.same t2
   walk_at "r"
   refine ⟨p,C,g.dx,_,_,rfl,I2.ob,T.cl,T.nL,vG _ _ _ _ _,?_⟩
   walk_at "r"
   refine ⟨_,_,_,_,rfl,rfl,SqL.of I2.le,hat,?_⟩
   walk_at "r"
   refine ⟨a,.int (qG ns y),rfl,by rw [<- uH ns y hyn];exact qN.k (k:=.inl y) (t2 _ _ hm),?_⟩
   walk_at "r"
   refine ⟨by show 2<=sizeLine;decide,fun b H3 hb hb3 s3=>?_⟩
   have h3:=s3 _ _ h2
   have bacc:b≠acc:=(j1 h2 hb).symm
   refine ⟨out,h3,jd (by omega),some (.int y),out++[.ref b],rfl,j6,by rw [List.length_append,hz];rfl,?_,fun c o hc n=>by rw [j5 n];exact s3 _ _ (e2 c o hc n)⟩
   rw [qv (fun y=>(y,qG ns y)) ks i y hy]
   exact Paired.snoc (Paired.mapP r2 fun v m ⟨c,e,q⟩=>⟨c,e,by rw [j5 (jp (s3 _ _ q) h3 (by walk_at "z"))];exact s3 _ _ q⟩) ⟨b,rfl,by rw [j5 bacc];exact hb3⟩
  ·rintro σ H2 ⟨x,out,rfl,h2,hz,r2,e2⟩
   rw [List.length_map,List.take_length] at r2
   have t2:jj H H2:=fun c o hc=>e2 _ _ (s1 _ _ hc) (j1 (s1 _ _ hc) hacc)
   refine k acc H2 out _ (s1.free hacc) h2 r2 t2 ?_ ?_
   ·have:=hp.map fun y=>(y,qG ns y)
    rw [QH ns nd] at this
    exact this
   ·rw [List.map_map]
    have:((fun x:Int×Int=>x.1) ∘ fun y=>(y,qG ns y))=id:=rfl
    rw [this,List.map_id]
    exact hs
def jv (st ad:Int):List (Int×Int)->Int->Int
 | [],goal=>if goal-ad > st then goal-ad else st
 | q::r,goal=>if goal-ad<q.1 then (if goal-ad > st then goal-ad else st) else jv q.1 (ad+q.2) r goal
def wB (H:Hp) (out:List V) (ms:List (Int×Int)):Prop:=Paired (fun v (m:Int×Int)=>∃ b,v=V.ref b/\H b=some (.tup [.int m.1,.int m.2])) out ms
theorem wB.same {H H':Hp}{out:List V}{ms:List (Int×Int)}(h:wB H out ms) (s:jj H H'):wB H' out ms:=Paired.mapP h fun _ _ ⟨b,e,q⟩=>⟨b,e,s _ _ q⟩
def kJ:Sp:=fun vs H Q _=>∃ (p:Addr) (out:List V) (ms:List (Int×Int)) (goal:Int),vs=[.ref p,.int goal]/\H p=some (.lst out)/\wB H out ms/\∀ H',jj H H'->Q (.int (jv 0 0 ms goal)) H'
theorem qH:FnScope ["surges","goal","start","added","year","many"] ["surges","goal"] (j8 vC):=by walk_at "s"
theorem Q7 {f:Addr}{fd:FuncData}(nb:Nb2 mg) (F:Fun K "earliest" "earliest" vC f fd):FnOk P w K mg base CX0 1 f fd ["surges","goal"] kJ:=by
 refine F.ok qH (fun vs H Q E h=>?_) (fun cdv A outer s H vs Q E hr h=>?_)
 ·obtain ⟨p,out,ms,goal,rfl,_⟩:=h
  rfl
 ·obtain ⟨p,out,ms,goal,rfl,hp,hr2,k⟩:=h
  have hlen:out.length=ms.length:=Paired.length hr2
  refine ⟨_,(j4 (jm (i:=2) qH.nd rfl (Or.inl rfl) j7)
   (j4 (jm (i:=3) qH.nd rfl (Or.inl rfl) j7)
   (j4 (xb PassesOwn.never rfl (jT K (pv 0)) (qk (n:=2) K rfl (jh (ja (i:=4) qH.nd rfl (Or.inl rfl)) (jh (ja (i:=5) qH.nd rfl (Or.inl rfl)) qj))) (j4 (jV (jD yV (jn qT (pv 1) (pv 3)) (pv 4) (jI _)) (j9 Vt) jy)
   (j4 (jm (i:=2) qH.nd rfl (Or.inl rfl) (pv 4))
   (j9 (JM (i:=3) qH.nd rfl (Or.inl rfl) (pv 5) XH)))))
   (j9 (jk (jf (yK rfl) rfl nb.b_max boot_max (j0 (pv 2) (j0 (jn qT (pv 1) (pv 3)) j2)))))))),?_⟩
  walk_at "r"
  refine ⟨⟨_,SqL.of hp⟩,?_⟩
  refine yp (K:=K) (a:=p) (xs:=out) (fun i σ H2=>∃ (st ad:Int) (v4 v5:Option V),σ=[some (.ref p),some (.int goal),some (.int st),some (.int ad),v4,v5]/\jj H H2/\jv st ad (ms.drop i) goal=jv 0 0 ms goal) ?_ ?_ ?_ ?_
  ·exact ⟨0,0,_,_,rfl,jj.refl _,by rw [List.drop_zero]⟩
  ·rintro i σ H2 hi ⟨st,ad,v4,v5,rfl,s2,e2⟩
   exact SqL.of (s2 _ _ hp)
  ·rintro i v σ H2 hv ⟨st,ad,v4,v5,rfl,s2,e2⟩
   obtain ⟨m,hm,b,rfl,hb⟩:=Paired.get hr2 hv
   have hi:=(List.getElem?_eq_some_iff.mp hm).1
   have ed:ms.drop i=m::ms.drop (i+1):=by
    rw [List.drop_eq_getElem_cons hi]
    have:=(List.getElem?_eq_some_iff.mp hm).2
    rw [this]
   rw [ed] at e2
   walk_at "r"
   refine ⟨b,_,rfl,SqT.of (s2 _ _ hb),rfl,?_⟩
   refine ⟨_,_,rfl,_,_,rfl,rfl,?_⟩
   walk_at "r"
   refine qB (fun h1=>?_) (fun h1=>?_)
   ·walk_at "r"
    refine ⟨_,_,rfl,?_⟩
    rw [show jv st ad (m::ms.drop (i+1)) goal=if goal-ad > st then goal-ad else st from by conv=>lhs;unfold jv;rw [if_pos h1]] at e2
    have k2:=k H2 s2
    rw [<- e2] at k2
    exact k2
   ·walk_at "r"
    refine ⟨_,_,_,_,rfl,s2,?_⟩
    rw [<- e2]
    conv=>rhs;unfold jv;rw [if_neg h1]
  ·rintro σ H2 ⟨st,ad,v4,v5,rfl,s2,e2⟩
   rw [hlen,List.drop_length] at e2
   walk_at "r"
   refine ⟨_,_,rfl,?_⟩
   have k2:=k H2 s2
   rw [<- e2] at k2
   exact k2
def Vf (C CN:Addr):Sp:=fun vs H Q E=>∃ (p:Addr) (g:IceG) (l mark:Int),vs=[.ref p,.int l,.int mark]/\IceAt C H p g/\g.lds.length=g.slopes.length/\(∀ H',jj H H'->l<0\/(g.slopes.length:Int)<=l->E (.ref CN) none H') /\
 (0<=l->l<(g.slopes.length:Int)->∃ (a:Addr) (ns:List (Int×Int)),g.lds[l.toNat]? = some (a,ns.map kvI)/\(ns.map (·.1)).Nodup/\ns.length<64 /\
  ∀ ms:List (Int×Int),ms.Perm ns->(ms.map (·.1)).Pairwise (· <= ·)->∀ fst gon:Int,fst=jv 0 0 ms mark->gon=jv 0 0 ms (mark+((g.slopes.getD l.toNat []).length:Int)) ->
   (fst<gon->∀ t H',jj H H'->H' t=some (.tup [.int fst,.int (gon-1)])->Q (.ref t) H')/\(¬ fst<gon->∀ H',jj H H'->Q .non H'))
theorem wt:FnScope ["ice","lane","mark","surges","first","gone"] ["ice","lane","mark"] (j8 XZ):=by walk_at "s"
theorem VS {f C CN:Addr}{fd:FuncData}(cl_Ice:Cls K C) (c_Ice__surges:CalMX P w K mg base 2 C "surges" ["self","lane"] (yO C CN)) (c_Ice__length:CalMX P w K mg base 2 C "length" ["self","lane"] (J4 C CN)) (c_earliest:Cal P w K mg base 1 "earliest" ["surges","goal"] kJ) (F:Fun K "span" "span" XZ f fd):FnOk P w K mg base (CX1 P w) 3 f fd ["ice","lane","mark"] (Vf C CN):=by
 refine Fun.okX F wt (fun vs H Q E h=>?_) (fun cdv A outer s H vs Q E hr h=>?_)
 ·obtain ⟨p,g,l,mark,rfl,_⟩:=h
  rfl
 ·obtain ⟨p,g,l,mark,rfl,I,hll,kx,k⟩:=h
  have nof:∀ {m:Str},¬ m = "leaps" -> ¬ m = "years" -> ¬ m = "slopes" -> ¬ m = "cycle" -> ¬ m = "valley" -> (uh g.va g.cy g.sl g.ye g.le).lookup m=none:=fun a b c d e=>xj _ _ _ _ _ a b c d e
  refine ⟨_,(j4 (jm (i:=3) wt.nd rfl (Or.inl rfl) (zy (pv 0) cl_Ice c_Ice__surges (hr.mono (by decide)) qr (j0 (pv 1) j2)))
   (j4 (jm (i:=4) wt.nd rfl (Or.inl rfl) (jc c_earliest (hr.mono (by decide)) rfl (j0 (pv 3) (j0 (pv 2) j2))))
   (j4 (jm (i:=5) wt.nd rfl (Or.inl rfl) (jc c_earliest (hr.mono (by decide)) rfl (j0 (pv 3) (j0 (jn jH (pv 2) (zy (pv 0) cl_Ice c_Ice__length (hr.mono (by decide)) qr (j0 (pv 1) j2))) j2))))
   (j9 (jk (Vu (jD yV (pv 4) (pv 5) (jI _)) (qm (j0 (pv 4) (j0 (jn qT (pv 5) j7) j2))) Jo)))))),?_⟩
  walk_at "r"
  refine ⟨p,g.dx,_,rfl,I.ob,nof (by walk_at "k") (by walk_at "k") (by walk_at "k") (by walk_at "k") (by walk_at "k"),?_⟩
  walk_at "r"
  refine ⟨p,g,l,rfl,I,hll,fun hb=>kx H (jj.refl H) hb,fun l0 l1=>?_⟩
  obtain ⟨a,ns,ha,nd,h64,k⟩:=k l0 l1
  refine ⟨a,ns,ha,nd,h64,fun o H1 out ms ho ho1 hq s1 hp hs=>?_⟩
  have k:=k ms hp hs _ _ rfl rfl
  walk_at "r"
  refine ⟨o,out,ms,mark,rfl,ho1,hq,fun H2 s2=>?_⟩
  walk_at "r"
  have t2:=s1.trans s2
  refine ⟨p,g.dx,_,rfl,t2 _ _ I.ob,nof (by walk_at "k") (by walk_at "k") (by walk_at "k") (by walk_at "k") (by walk_at "k"),?_⟩
  walk_at "r"
  refine ⟨p,g,l,rfl,I.same t2,fun _ _=>?_,fun hb=>absurd hb (by omega)⟩
  walk_at "r"
  refine ⟨o,out,ms,_,rfl,s2 _ _ ho1,wB.same hq s2,fun H3 s3=>?_⟩
  have t3:=t2.trans s3
  walk_at "r"
  refine qB (fun h1=>?_) (fun h1=>?_)
  ·walk_at "r"
   refine ⟨by show 2<=sizeLine;decide,fun t H4 ht ht4 s4=>?_⟩
   exact k.1 h1 t H4 (t3.trans s4) ht4
  ·walk_at "r"
   exact k.2 h1 H3 t3
end
section
variable {P:Program}{w:World}{K:PySem.W.Frag}{mg:Str->Option Value}{base:Heap}
def VD:Sp:=fun vs H Q _=>∃ (L b:Addr),vs=[.ref b]/\qd L H b/\∀ (y:Int) (H':Hp),0<=y->y<=99->qd L H' b->Ext b H H'->Q (.int y) H'
theorem Q9:FnScope ["_law_box_here"] ["_law_box_here"] (j8 vg):=by walk_at "s"
theorem Um {v a b c:Int}(h0:0<=v) (h1:v<5) (ha:0<=a/\a<=99) (hb:0<=b/\b<=99) (hc:0<=c/\c<=99):∃ n,atI [V.int a,V.int b,V.int c,V.int 99,V.int 0] v=some (V.int n)/\0<=n/\n<=99:=by
 have h:v=0\/v=1\/v=2\/v=3\/v=4:=by omega
 rcases h with rfl | rfl | rfl | rfl | rfl
 ·exact ⟨a,rfl,ha.1,ha.2⟩
 ·exact ⟨b,rfl,hb.1,hb.2⟩
 ·exact ⟨c,rfl,hc.1,hc.2⟩
 ·exact ⟨99,rfl,by decide,by decide⟩
 ·exact ⟨0,rfl,by decide,by decide⟩
theorem Uj {f:Addr}{fd:FuncData}(c_law_take:Cal P w K mg base 2 "_law_take" ["_law_box_here","_law_size"] zd) (F:Fun K "_law_year" "_law_year" vg f fd):FnOk P w K mg base CX0 3 f fd ["_law_box_here"] VD:=by
 refine F.ok Q9 (fun vs H Q E h=>?_) (fun cdv A outer s H vs Q E hr h=>?_)
 ·obtain ⟨L,b,rfl,_⟩:=h
  rfl
 ·obtain ⟨L,b,rfl,B,k⟩:=h
  refine ⟨_,(j9 (jk (jt (je K) (jL (j0 (jc c_law_take (hr.mono (by decide)) rfl (j0 (pv 0) (j0 j7 j2))) (j0 (jc c_law_take (hr.mono (by decide)) rfl (j0 (pv 0) (j0 j7 j2))) (j0 (jc c_law_take (hr.mono (by decide)) rfl (j0 (pv 0) (j0 j7 j2))) (j0 j7 (j0 j7 j2)))))) (jc c_law_take (hr.mono (by decide)) rfl (j0 (pv 0) (j0 j7 j2))) (fun _ _=>rfl)))),?_⟩
  walk_at "r"
  refine ⟨L,b,_,rfl,B,⟨by decide,by decide⟩,fun v1 H1 p1 q1 B1 X1=>?_⟩
  walk_at "r"
  refine ⟨L,b,_,rfl,B1,⟨by decide,by decide⟩,fun v2 H2 p2 q2 B2 X2=>?_⟩
  walk_at "r"
  refine ⟨L,b,_,rfl,B2,⟨by decide,by decide⟩,fun v3 H3 p3 q3 B3 X3=>?_⟩
  walk_at "r"
  refine ⟨by show 5<=sizeLine;decide,fun l H4 hl hl4 s4=>?_⟩
  walk_at "r"
  refine ⟨L,b,_,rfl,B3.same s4,⟨by decide,by decide⟩,fun v5 H5 p5 q5 B5 X5=>?_⟩
  obtain ⟨n,en,n0,n1⟩:=Um p5 q5 (a:=v1) (b:=v2) (c:=v3) ⟨p1,by omega⟩ ⟨p2,by omega⟩ ⟨p3,by omega⟩
  refine ⟨_,_,_,_,rfl,rfl,SqL.of (X5 _ _ hl4 (B3.ne hl)),en,?_⟩
  exact k n H5 n0 n1 B5 ((((X1.trans X2).trans X3).trans (Ext.of_same s4)).trans X5)
def scK (p q sg gl ll:Addr):List (Key×V):=[(.inr "reaches",.ref p),(.inr "rows",.ref q),(.inr "single",.ref sg),(.inr "grounds",.ref gl),(.inr "leaps",.ref ll)]
theorem xk {k:Key}{v:V}{r:List (Key×V)}:qE ((k,v)::r) k=some v:=by
 unfold qE
 rw [List.find?_cons_of_pos (p:=fun kv:Key×V=>decide (kv.1=k)) (a:=(k,v)) (decide_eq_true rfl)]
 rfl
theorem ju {k k':Key}{v:V}{r:List (Key×V)}(h:k'≠k):qE ((k',v)::r) k=qE r k:=by
 unfold qE
 rw [List.find?_cons_of_neg (p:=fun kv:Key×V=>decide (kv.1=k)) (a:=(k',v)) (fun z=>h (of_decide_eq_true z))]
theorem Xl (p q sg gl ll:Addr):qE (scK p q sg gl ll) (.inr "reaches")=some (.ref p):=xk
theorem wn (p q sg gl ll:Addr):qE (scK p q sg gl ll) (.inr "rows")=some (.ref q):=(ju (show (Sum.inr (Str.ofString "reaches"):Key)≠Sum.inr (Str.ofString "rows") by decide +kernel)).trans (xk)
theorem zf (p q sg gl ll:Addr):qE (scK p q sg gl ll) (.inr "single")=some (.ref sg):=(ju (show (Sum.inr (Str.ofString "reaches"):Key)≠Sum.inr (Str.ofString "single") by decide +kernel)).trans ((ju (show (Sum.inr (Str.ofString "rows"):Key)≠Sum.inr (Str.ofString "single") by decide +kernel)).trans (xk))
theorem zn (p q sg gl ll:Addr):qE (scK p q sg gl ll) (.inr "grounds")=some (.ref gl):=(ju (show (Sum.inr (Str.ofString "reaches"):Key)≠Sum.inr (Str.ofString "grounds") by decide +kernel)).trans ((ju (show (Sum.inr (Str.ofString "rows"):Key)≠Sum.inr (Str.ofString "grounds") by decide +kernel)).trans ((ju (show (Sum.inr (Str.ofString "single"):Key)≠Sum.inr (Str.ofString "grounds") by decide +kernel)).trans (xk)))
theorem kZ (p q sg gl ll:Addr):qE (scK p q sg gl ll) (.inr "leaps")=some (.ref ll):=(ju (show (Sum.inr (Str.ofString "reaches"):Key)≠Sum.inr (Str.ofString "leaps") by decide +kernel)).trans ((ju (show (Sum.inr (Str.ofString "rows"):Key)≠Sum.inr (Str.ofString "leaps") by decide +kernel)).trans ((ju (show (Sum.inr (Str.ofString "single"):Key)≠Sum.inr (Str.ofString "leaps") by decide +kernel)).trans ((ju (show (Sum.inr (Str.ofString "grounds"):Key)≠Sum.inr (Str.ofString "leaps") by decide +kernel)).trans (xk))))
def jx (ns:List (Int×Int)) (y:Int):Int:=((ns.filter fun q=>decide (q.1<=y)).map (·.2)).sum
theorem J7:∀ {ns:List (Int×Int)},(ns.map (·.1)).Nodup->∀ {z:Int×Int},z∈ns->qG ns z.1=z.2
 | [],_,z,h=>by cases h
 | q::r,nd,z,h=>by
  rw [List.map_cons] at nd
  obtain ⟨h1,h2⟩:=List.nodup_cons.mp nd
  unfold qG
  rcases List.mem_cons.mp h with e | e
  ·rw [e,if_pos rfl]
  ·have ne:¬ q.1=z.1:=fun w=>h1 (by rw [w];exact List.mem_map_of_mem e)
   rw [if_neg ne]
   exact J7 h2 e
theorem WT {ns:List (Int×Int)}{i:Nat}{q:Key×V}(h:(ns.map kvI)[i]? = some q):∃ z,ns[i]? = some z/\q=kvI z:=by
 rw [List.getElem?_map] at h
 cases e:ns[i]? with
 | none=>rw [e] at h;cases h
 | some z=>rw [e] at h;cases h;exact ⟨z,rfl,rfl⟩
theorem ZL (y:Int):jx [] y=0:=rfl
theorem jR (q:Int×Int) (r:List (Int×Int)) (y:Int):jx (q::r) y=(if q.1<=y then q.2 else 0)+jx r y:=by
 unfold jx
 rw [List.filter_cons]
 by_cases h:q.1<=y
 ·rw [decide_eq_true h,if_pos rfl,if_pos h,List.map_cons,List.sum_cons]
 ·rw [decide_eq_false h,if_neg Bool.false_ne_true,if_neg h,Int.zero_add]
theorem xg {ms ns:List (Int×Int)}(p:ms.Perm ns) (y:Int):jx ms y=jx ns y:=by
 induction p with
 | nil=>rfl
 | cons q _ ih=>rw [jR,jR,ih]
 | swap a b r=>rw [jR,jR,jR,jR];omega
 | trans _ _ a b=>rw [a,b]
theorem JC {ns:List (Int×Int)}(h:∀ q∈ns,0<=q.2) (y:Int):0<=jx ns y:=by
 induction ns with
 | nil=>exact Int.le_refl _
 | cons q r ih =>
  rw [jR]
  have:=h q (List.mem_cons_self ..)
  have:=ih fun z hz=>h z (List.mem_cons_of_mem _ hz)
  by_cases e:q.1<=y
  ·rw [if_pos e];omega
  ·rw [if_neg e];omega
def jP (ns:List (Int×Int)):Int:=(ns.map (·.2)).sum
theorem YV {ns:List (Int×Int)}(h:∀ q∈ns,0<=q.2) (y:Int):jx ns y<=jP ns:=by
 induction ns with
 | nil=>exact Int.le_refl _
 | cons q r ih =>
  rw [jR]
  have a:=h q (List.mem_cons_self ..)
  have b:=ih fun z hz=>h z (List.mem_cons_of_mem _ hz)
  have e:jP (q::r)=q.2+jP r:=by unfold jP;rw [List.map_cons,List.sum_cons]
  by_cases z:q.1<=y
  ·rw [if_pos z];omega
  ·rw [if_neg z];omega
theorem Xm {ns:List (Int×Int)}{y:Int}(h:∀ q∈ns,y<q.1):jx ns y=0:=by
 induction ns with
 | nil=>rfl
 | cons q r ih =>
  have a:=h q (List.mem_cons_self ..)
  rw [jR,if_neg (by omega),ih fun z hz=>h z (List.mem_cons_of_mem _ hz)]
  rfl
theorem kQ:∀ (ms:List (Int×Int)) (st ad goal:Int),(∀ q∈ms,st<=q.1)->(ms.map (·.1)).Pairwise (· <= ·)->st<=jv st ad ms goal
 | [],st,ad,goal,_,_=>by unfold jv;split <;> omega
 | q::r,st,ad,goal,h,p=>by
  unfold jv
  have a:=h q (List.mem_cons_self ..)
  rw [List.map_cons,List.pairwise_cons] at p
  by_cases e:goal-ad<q.1
  ·rw [if_pos e];split <;> omega
  ·rw [if_neg e]
   have:=kQ r q.1 (ad+q.2) goal (fun z hz=>p.1 _ (List.mem_map_of_mem hz)) p.2
   omega
theorem uD:∀ (ms:List (Int×Int)) (st ad goal y:Int),(∀ q∈ms,st<=q.1/\0<=q.2)->(ms.map (·.1)).Pairwise (· < ·)->st<=y->(goal<=y+ad+jx ms y↔jv st ad ms goal<=y)
 | [],st,ad,goal,y,_,_,hy=>by rw [ZL];unfold jv;split <;> omega
 | q::r,st,ad,goal,y,h,p,hy=>by
  have a:=h q (List.mem_cons_self ..)
  have hr:∀ z∈r,0<=z.2:=fun z hz=>(h z (List.mem_cons_of_mem _ hz)).2
  rw [List.map_cons,List.pairwise_cons] at p
  have gt:∀ z∈r,q.1<z.1:=fun z hz=>p.1 _ (List.mem_map_of_mem hz)
  have sn:=JC hr y
  rw [jR]
  unfold jv
  by_cases hq:q.1<=y
  ·rw [if_pos hq]
   by_cases e:goal-ad<q.1
   ·rw [if_pos e];split <;> omega
   ·rw [if_neg e]
    have ih:=uD r q.1 (ad+q.2) goal y (fun z hz=>⟨Int.le_of_lt (gt z hz),hr z hz⟩) p.2 hq
    constructor
    ·intro z;exact ih.mp (by omega)
    ·intro z;have:=ih.mpr z;omega
  ·rw [if_neg hq,Xm fun z hz=>by have:=gt z hz;omega]
   by_cases e:goal-ad<q.1
   ·rw [if_pos e];split <;> omega
   ·rw [if_neg e]
    have g:=kQ r q.1 (ad+q.2) goal (fun z hz=>Int.le_of_lt (gt z hz)) (p.2.imp fun h=>Int.le_of_lt h)
    omega
theorem qK:∀ {l:List Int},l.Pairwise (· <= ·)->l.Nodup->l.Pairwise (· < ·)
 | [],_,_=>.nil
 | x::r,p,n=>by
  rw [List.pairwise_cons] at p ⊢
  obtain ⟨n1,n2⟩:=List.nodup_cons.mp n
  refine ⟨fun y hy=>?_,qK p.2 n2⟩
  have:=p.1 y hy
  have:x≠y:=fun e=>n1 (e ▸ hy)
  omega
end
section
variable {P:Program}{w:World}{K:PySem.W.Frag}{mg:Str->Option Value}{base:Heap}
def ud (CY:Addr):Sp:=fun vs H Q E=>∃ y:Int,vs=[.int y]/\(0<=y->y<=10 ^ 40->Q .non H)/\(y<0\/10 ^ 40<y->E (.ref CY) none H)
theorem kO:FnScope ["year"] ["year"] (j8 zI):=by walk_at "s"
theorem kH {f CY:Addr}{fd:FuncData}{u0:Tok}(g_LAST_ASKED:mg "LAST_ASKED" = some (.int 10000000000000000000000000000000000000000 u0)) (e_BadYear:mg "BadYear" = some (.ref CY)) (x_BadYear:PySem.W.excIn K CY [.type "ValueError",.type "Exception",.type "BaseException",.type "object"] "ValueError.__new__" = true) (F:Fun K "check_asked" "check_asked" zI f fd):FnOk P w K mg base (CX1 P w) 1 f fd ["year"] (ud CY):=by
 refine Fun.okX F kO (fun vs H Q E h=>?_) (fun cdv A outer s H vs Q E hr h=>?_)
 ·obtain ⟨y,rfl,_⟩:=h
  rfl
 ·obtain ⟨y,rfl,k,kx⟩:=h
  refine ⟨_,(j9 (jV (xf (xM qu qu j7 (pv 0) (x6 (v:=V.int 10000000000000000000000000000000000000000) rfl g_LAST_ASKED ⟨_,rfl⟩))) (j9 (xq PySem.F.excBase_ValueError x_BadYear e_BadYear rfl ze rfl (j0 jG j2))) jy)),?_⟩
  walk_at "r"
  refine qB (fun h0=>?_) (fun h0=>?_)
  ·walk_at "r"
   refine ya (fun h1=>?_) (fun h1=>?_)
   ·walk_at "r"
    exact ⟨by show 1<=sizeLine;decide,kx (.inr (by omega))⟩
   ·walk_at "r"
    exact k h0 h1
  ·walk_at "r"
   refine yn ?_
   walk_at "r"
   exact ⟨by show 1<=sizeLine;decide,kx (.inl (by omega))⟩
def kL:Sp:=fun vs H Q _=>∃ (p:Addr) (out:List V) (ms:List (Int×Int)) (y:Int),vs=[.ref p,.int y]/\H p=some (.lst out)/\wB H out ms/\ms.length<=100/\(∀ q∈ms,0<=q.2/\q.2<=9)/\∀ H',jj H H'->Q (.int (y+jx ms y)) H'
theorem Xd:FnScope ["surges","year"] ["surges","year"] (j8 yH):=by walk_at "s"
theorem XR {f:Addr}{fd:FuncData}(nb:Nb2 mg) (F:Fun K "ride_by" "ride_by" yH f fd):FnOk P w K mg base CX0 1 f fd ["surges","year"] kL:=by
 refine F.ok Xd (fun vs H Q E h=>?_) (fun cdv A outer s H vs Q E hr h=>?_)
 ·obtain ⟨p,out,ms,y,rfl,_⟩:=h
  rfl
 ·obtain ⟨p,out,ms,y,rfl,hp,hq,h100,h9,k⟩:=h
  have hlen:out.length=ms.length:=Paired.length hq
  refine ⟨_,(j9 (jk (jn jH (pv 1) (jf (Qn K rfl) rfl nb.b_sum boot_sum (j0 (jY (osc:=(j8 yH)) (ON:=["surges","year"]) (N:=["when","many","year"]) (own:=2) (caps:=[1]) ⟨rfl,by walk_at "k",by walk_at "k",by walk_at "k",rfl,by walk_at "k"⟩ rfl rfl rfl (jT K (pv 0)) (fun _ _ _ _ _=>(qk (n:=2) K rfl (jh (ja (i:=0) (show List.Nodup (["when","many","year"]:List Str) by decide +kernel) rfl (Or.inl rfl)) (jh (ja (i:=1) (show List.Nodup (["when","many","year"]:List Str) by decide +kernel) rfl (Or.inl rfl)) qj)))) (fun _ _ _ _ _=>(kC (jD qu (pv 0) (pv 2) (jI _)))) (fun _ _ _ _ _=>(pv 1))) j2))))),?_⟩
  walk_at "r"
  refine ⟨⟨_,SqL.of hp⟩,fun acc hacc=>?_⟩
  refine qg (K:=K) (a:=p) (xs:=out) (acc:=acc) (fun i σ H2=>∃ x x2:Option V,σ=[x,x2,some (.int y)]/\H2 acc=some (.lst ((((ms.take i).filter fun q=>decide (q.1<=y)).map (·.2)).map V.int))/\Ext acc H H2) ?_ ?_ ?_ ?_
  ·exact ⟨none,none,rfl,j6,Ext.put⟩
  ·rintro i σ H2 hi ⟨x,x2,rfl,h2,e2⟩
   exact SqL.of (e2 _ _ hp (j1 hp hacc))
  ·rintro i v σ H2 hv ⟨x,x2,rfl,h2,e2⟩
   obtain ⟨m,hm,b,rfl,hb⟩:=Paired.get hq hv
   have hi:=(List.getElem?_eq_some_iff.mp hm).1
   have hl2:((((ms.take i).filter fun q=>decide (q.1<=y)).map (·.2)).map V.int).length<=100:=by
    rw [List.length_map,List.length_map]
    exact Nat.le_trans (List.length_filter_le _ _) (by rw [List.length_take];omega)
   walk_at "r"
   refine ⟨b,_,rfl,SqT.of (e2 _ _ hb (j1 hb hacc)),rfl,?_⟩
   refine ⟨_,_,rfl,_,_,rfl,rfl,?_⟩
   walk_at "r"
   refine qB (fun le=>?_) (fun le=>?_)
   ·walk_at "r"
    refine ⟨_,h2,Nat.lt_of_le_of_lt hl2 (by decide),_,_,rfl,?_,e2.trans Ext.put⟩
    rw [j6,List.take_add_one,hm,Option.toList_some,List.filter_append,List.filter_cons_of_pos (by rw [decide_eq_true le]),List.map_append,List.map_append]
    rfl
   ·refine ⟨_,_,rfl,?_,e2⟩
    rw [List.take_add_one,hm,Option.toList_some,List.filter_append,List.filter_cons_of_neg (by rw [decide_eq_false le];exact Bool.false_ne_true),List.filter_nil,List.append_nil]
    exact h2
  ·rintro σ H2 ⟨x,x2,rfl,h2,e2⟩
   rw [hlen,List.take_length] at h2
   walk_at "r"
   refine ⟨acc,_,rfl,SqL.of h2,?_,fun n hn=>?_,?_⟩
   ·rw [List.length_map]
    exact Nat.le_trans (List.length_filter_le _ _) (by omega)
   ·obtain ⟨z,hz,rfl⟩:=List.mem_map.mp hn
    have:=h9 z (List.mem_filter.mp hz).1
    exact ⟨this.1,Int.le_trans this.2 (by decide)⟩
   ·exact ⟨_,_,rfl,rfl,k H2 fun c o hc=>e2 c o hc (j1 hc hacc)⟩
def ZP (g:IceG) (l:Int) (ns:List (Int×Int)):Prop:=0<=l/\l<(g.slopes.length:Int)/\(∃ a,g.lds[l.toNat]? = some (a,ns.map kvI))/\(ns.map (·.1)).Nodup/\ns.length<64/\∀ q∈ns,0<=q.2/\q.2<=9
def kU (C CN CY:Addr):Sp:=fun vs H Q E=>∃ (p:Addr) (g:IceG) (l y:Int),vs=[.ref p,.int l,.int y]/\IceAt C H p g/\g.lds.length=g.slopes.length/\(l<0\/(g.slopes.length:Int)<=l->E (.ref CN) none H) /\
 (0<=l->l<(g.slopes.length:Int)->∃ ns,ZP g l ns/\(∀ H',jj H H'->y<0\/10 ^ 40<y->E (.ref CY) none H')/\∀ H',jj H H'->0<=y->y<=10 ^ 40->Q (.int (y+jx ns y)) H')
theorem gC:FnScope ["ice","lane","year","surges"] ["ice","lane","year"] (j8 kI):=by walk_at "s"
theorem Yx {f C CN CY:Addr}{fd:FuncData}(cl_Ice:Cls K C) (c_Ice__surges:CalMX P w K mg base 2 C "surges" ["self","lane"] (yO C CN)) (c_check_asked:CalX P w K mg base 1 "check_asked" ["year"] (ud CY)) (c_ride_by:Cal P w K mg base 1 "ride_by" ["surges","year"] kL) (F:Fun K "ridden" "ridden" kI f fd):FnOk P w K mg base (CX1 P w) 3 f fd ["ice","lane","year"] (kU C CN CY):=by
 refine Fun.okX F gC (fun vs H Q E h=>?_) (fun cdv A outer s H vs Q E hr h=>?_)
 ·obtain ⟨p,g,l,y,rfl,_⟩:=h
  rfl
 ·obtain ⟨p,g,l,y,rfl,I,hll,kx,k⟩:=h
  refine ⟨_,(j4 (jm (i:=3) gC.nd rfl (Or.inl rfl) (zy (pv 0) cl_Ice c_Ice__surges (hr.mono (by decide)) qr (j0 (pv 1) j2)))
   (j4 (jO (xG c_check_asked (hr.mono (by decide)) qr rfl (j0 (pv 2) j2)))
   (j9 (jk (jc c_ride_by (hr.mono (by decide)) rfl (j0 (pv 3) (j0 (pv 2) j2))))))),?_⟩
  walk_at "r"
  refine ⟨p,g.dx,_,rfl,I.ob,xj _ _ _ _ _ (by walk_at "k") (by walk_at "k") (by walk_at "k") (by walk_at "k") (by walk_at "k"),?_⟩
  walk_at "r"
  refine ⟨p,g,l,rfl,I,hll,fun hb=>kx hb,fun l0 l1=>?_⟩
  obtain ⟨ns,⟨_,_,⟨a,ha⟩,nd,h64,h9⟩,ky,k⟩:=k l0 l1
  refine ⟨a,ns,ha,nd,h64,fun o H1 out ms ho ho1 hq s1 hp hs=>?_⟩
  walk_at "r"
  refine ⟨fun y0 y1=>?_,fun hb=>ky H1 s1 hb⟩
  walk_at "r"
  refine ⟨o,out,ms,y,rfl,ho1,hq,(by rw [hp.length_eq];omega),fun q hq'=>h9 q (hp.mem_iff.mp hq'),fun H2 s2=>?_⟩
  rw [xg hp]
  exact k H2 (s1.trans s2) y0 y1
def Vs (C CN CP CY:Addr):Sp:=fun vs H Q E=>∃ (p:Addr) (g:IceG) (l n y:Int),vs=[.ref p,.int l,.int n,.int y]/\IceAt C H p g/\g.lds.length=g.slopes.length/\(l<0\/(g.slopes.length:Int)<=l->E (.ref CN) none H)/\(0<=l->l<(g.slopes.length:Int)->n<0\/((g.slopes.getD l.toNat []).length:Int)<=n->E (.ref CP) none H) /\
 (0<=l->l<(g.slopes.length:Int)->0<=n->n<((g.slopes.getD l.toNat []).length:Int)->∃ ns,ZP g l ns/\(∀ H',jj H H'->y<0\/10 ^ 40<y->E (.ref CY) none H')/\∀ H',jj H H'->0<=y->y<=10 ^ 40->Q (.int (y+jx ns y-n)) H')
theorem Ue:FnScope ["ice","lane","place","year"] ["ice","lane","place","year"] (j8 Xy):=by walk_at "s"
theorem UL {f C CN CP CY:Addr}{fd:FuncData}(cl_Ice:Cls K C) (c_Ice__check_place:CalMX P w K mg base 2 C "check_place" ["self","lane","place"] (xZ C CN CP)) (c_ridden:CalX P w K mg base 3 "ridden" ["ice","lane","year"] (kU C CN CY)) (F:Fun K "mark" "mark" Xy f fd):FnOk P w K mg base (CX1 P w) 4 f fd ["ice","lane","place","year"] (Vs C CN CP CY):=by
 refine Fun.okX F Ue (fun vs H Q E h=>?_) (fun cdv A outer s H vs Q E hr h=>?_)
 ·obtain ⟨p,g,l,n,y,rfl,_⟩:=h
  rfl
 ·obtain ⟨p,g,l,n,y,rfl,I,hll,kl,kp,k⟩:=h
  refine ⟨_,(j4 (jO (zy (pv 0) cl_Ice c_Ice__check_place (hr.mono (by decide)) qr (j0 (pv 1) (j0 (pv 2) j2))))
   (j9 (jk (jn qT (xG c_ridden (hr.mono (by decide)) qr rfl (j0 (pv 0) (j0 (pv 1) (j0 (pv 3) j2)))) (pv 2))))),?_⟩
  walk_at "r"
  refine ⟨p,g.dx,_,rfl,I.ob,xj _ _ _ _ _ (by walk_at "k") (by walk_at "k") (by walk_at "k") (by walk_at "k") (by walk_at "k"),?_⟩
  walk_at "r"
  refine ⟨p,g,l,n,rfl,I,fun l0 l1 n0 n1=>?_,fun hb=>kl hb,fun l0 l1 hb=>kp l0 l1 hb⟩
  walk_at "r"
  refine ⟨p,g,l,y,rfl,I,hll,fun hb=>absurd hb (by omega),fun _ _=>?_⟩
  obtain ⟨ns,hL,ky,k⟩:=k l0 l1 n0 n1
  refine ⟨ns,hL,ky,fun H1 s1 y0 y1=>?_⟩
  walk_at "r"
  exact k H1 s1 y0 y1
end
section
variable {P:Program}{w:World}{K:PySem.W.Frag}{mg:Str->Option Value}{base:Heap}
def kvA (z:Int×Addr):Key×V:=(.inl z.1,.ref z.2)
def xD {α:Type}(l:List (Int×α)) (y:Int) (a:α):List (Int×α):=if (l.any fun z=>decide (z.1=y))=true then l.map (fun z=>if z.1=y then (z.1,a) else z) else l++[(y,a)]
theorem wF {α:Type}(f:α->V) (l:List (Int×α)) (y:Int) (a:α):qA (l.map fun z=>((.inl z.1,f z.2):Key×V)) (.inl y) (f a)=(xD l y a).map fun z=>((.inl z.1,f z.2):Key×V):=by
 have e:∀ z:Int,decide ((Sum.inl z:Key)=Sum.inl y)=decide (z=y):=fun z=>decide_eq_decide.mpr ⟨fun h=>Sum.inl.inj h,fun h=>by rw [h]⟩
 have e1:((l.map fun z=>((.inl z.1,f z.2):Key×V)).any fun kv=>decide (kv.1=(Sum.inl y:Key)))=l.any fun z=>decide (z.1=y):=by
  rw [List.any_map]
  congr 1
  funext z
  exact e z.1
 unfold qA xD
 rw [e1]
 by_cases h:(l.any fun z=>decide (z.1=y))=true
 ·rw [if_pos h,if_pos h,List.map_map,List.map_map]
  refine List.map_congr_left fun z _=>?_
  show (if (Sum.inl z.1:Key)=Sum.inl y then _ else _)=_
  by_cases hz:z.1=y
  ·rw [if_pos (by rw [hz])]
   show _=(fun z:Int×α=>((.inl z.1,f z.2):Key×V)) (if z.1=y then (z.1,a) else z)
   rw [if_pos hz]
  ·rw [if_neg (fun w=>hz (Sum.inl.inj w))]
   show _=(fun z:Int×α=>((.inl z.1,f z.2):Key×V)) (if z.1=y then (z.1,a) else z)
   rw [if_neg hz]
 ·rw [if_neg h,if_neg h,List.map_append]
  rfl
theorem kX {α:Type}{l:List (Int×α)}{y:Int}{a:α}{z:Int×α}(h:z∈xD l y a):z∈l\/z=(y,a):=by
 unfold xD at h
 by_cases c:(l.any fun z=>decide (z.1=y))=true
 ·rw [if_pos c] at h
  obtain ⟨u,hu,e⟩:=List.mem_map.mp h
  by_cases q:u.1=y
  ·rw [if_pos q,q] at e
   exact .inr e.symm
  ·rw [if_neg q] at e
   exact .inl (e ▸ hu)
 ·rw [if_neg c] at h
  rcases List.mem_append.mp h with q | q
  ·exact .inl q
  ·exact .inr (by simpa using q)
theorem ur {α:Type}(l:List (Int×α)) (y:Int) (a:α):(xD l y a).length<=l.length+1:=by
 unfold xD
 split
 ·rw [List.length_map];omega
 ·rw [List.length_append];exact Nat.le_refl _
theorem wS {α:Type}{l:List (Int×α)}{y:Int}{a:α}(h:(l.map (·.1)).Nodup):((xD l y a).map (·.1)).Nodup:=by
 unfold xD
 by_cases c:(l.any fun z=>decide (z.1=y))=true
 ·rw [if_pos c,List.map_map]
  have:(l.map ((fun x=>x.1) ∘ fun z=>if z.1=y then (z.1,a) else z))=l.map (·.1):=List.map_congr_left fun z _=>by
   show (if z.1=y then (z.1,a) else z).1=z.1
   split <;> rfl
  rw [this]
  exact h
 ·rw [if_neg c,List.map_append]
  refine wq h fun z=>c ?_
  obtain ⟨u,hu,e⟩:=List.mem_map.mp z
  exact List.any_eq_true.mpr ⟨u,hu,decide_eq_true e⟩
structure ScN where
 p:Addr
 q:Addr
 sg:Addr
 gl:Addr
 ll:Addr
 xs:List V
 ys:List V
 zs:List V
 rs:List Rch
 ts:List T3
 ws:List (List Int)
 sk:List (Int×Addr)
 lds:List (Addr×List (Int×Int))
structure ScAt (H:Hp) (sd:Addr) (c:ScN):Prop where
 sd:H sd=some (.dK (scK c.p c.q c.sg c.gl c.ll))
 p:H c.p=some (.lst c.xs)
 rv:jU H c.xs c.rs
 q:H c.q=some (.lst c.ys)
 r3:jo H c.ys c.ts
 gl:H c.gl=some (.lst c.zs)
 gi:yd H c.zs (c.ws.map (jb c.rs))
 ll:H c.ll=some (.lst (c.lds.map fun x=>V.ref x.1))
 sg:Rd H c.sg (.dK (c.sk.map kvA))
 sk:∀ z∈c.sk,∃ t,H z.2=some (y3 t)/\good t=true
 ld:∀ x∈c.lds,Rd H x.1 (.dK (x.2.map kvI))
structure ScOk (b:Addr) (c:ScN):Prop where
 gr:Grown c.rs
 l1:1<=c.rs.length
 l8:c.rs.length<=8
 t1:1<=c.ts.length
 t2:c.ts.length<=12
 tg:c.ts.all good=true
 ro:jX c.rs c.ws
 ldl:c.lds.length=c.ws.length
 nd:(c.lds.map (·.1)).Nodup
 ns:∀ x∈c.lds,x.1≠c.sg
 pb:c.p≠b
 qb:c.q≠b
 gb:c.gl≠b
 lb:c.ll≠b
 zb:V.ref b∉c.zs
 k1:(c.sk.map (·.1)).Nodup
 k2:∀ z∈c.sk,0<=z.1/\z.1<=99
 k3:c.sk.length<=10
 m1:∀ x∈c.lds,(x.2.map (·.1)).Nodup
 m2:∀ x∈c.lds,∀ z∈x.2,0<=z.1/\z.1<=99/\1<=z.2/\z.2<=9
 m3:∀ x∈c.lds,x.2.length<=10
def Fr3 (N M:Addr->Prop) (H H':Hp):Prop:=∀ c o,H c=some o->¬ N c->H' c=some o\/(M c/\∃ ob kvs,o = .dK kvs/\H' c=some (.frz ob (.dK kvs)))
theorem Fr3.at {N M:Addr->Prop}{H H':Hp}(f:Fr3 N M H H') {c:Addr}{o:HO}(h:H c=some o) (n:¬ N c) (d:∀ kvs,o≠.dK kvs):H' c=some o:=by
 rcases f c o h n with h1 | ⟨_,ob,kvs,e,_⟩
 ·exact h1
 ·exact absurd e (d kvs)
theorem Fr3.rd {N M:Addr->Prop}{H H':Hp}(f:Fr3 N M H H') {c:Addr}{kvs:List (Key×V)}(n:¬ N c) (h:Rd H c (.dK kvs)):Rd H' c (.dK kvs):=by
 rcases h with h | ⟨o,h⟩
 ·rcases f c _ h n with h1 | ⟨_,ob,kvs',e,h1⟩
  ·exact .inl h1
  ·cases e
   exact .inr ⟨ob,h1⟩
 ·exact .inr ⟨o,f.at h n (by walk_at "w")⟩
theorem pmM {α β:Type}{F G:α->β->Prop}:∀ {l₁:List α}{l₂:List β},Paired F l₁ l₂->(∀ v∈l₁,∀ w,F v w->G v w)->Paired G l₁ l₂
 | _,_,.nil,_=>.nil
 | _,_,.cons q r,h=>.cons (h _ (List.mem_cons_self ..) _ q) (pmM r fun v hv=>h v (List.mem_cons_of_mem _ hv))
theorem ScAt.keep {N M:Addr->Prop}{H H':Hp}{sd:Addr}{c:ScN}(S:ScAt H sd c) (f:Fr3 N M H H') (nT:∀ a xs,H a=some (.tup xs)->¬ N a) (nsd:¬ N sd) (msd:¬ M sd) (np:¬ N c.p) (nq:¬ N c.q) (ng:¬ N c.gl) (nl:¬ N c.ll) (nz:∀ a,V.ref a∈c.zs->¬ N a) (ns:¬ N c.sg) (nd:∀ x∈c.lds,¬ N x.1):ScAt H' sd c:=by
 have t:∀ a xs,H a=some (.tup xs)->H' a=some (.tup xs):=fun a xs h=>f.at h (nT a xs h) (by walk_at "w")
 refine ⟨?_,f.at S.p np (by walk_at "w"),S.rv.keep t,f.at S.q nq (by walk_at "w"),S.r3.imp fun _ _ h=>t _ _ h,f.at S.gl ng (by walk_at "w"),pmM S.gi fun v hv w ⟨a,ea,q⟩=>⟨a,ea,f.at q (nz a (ea ▸ hv)) (by walk_at "w")⟩,f.at S.ll nl (by walk_at "w"),f.rd ns S.sg,fun z hz=>?_,fun x hx=>f.rd (nd x hx) (S.ld x hx)⟩
 ·rcases f _ _ S.sd nsd with z | ⟨z,_⟩
  ·exact z
  ·exact absurd z msd
 ·obtain ⟨u,hu,g⟩:=S.sk z hz
  exact ⟨u,t _ _ hu,g⟩
theorem ScAt.same {H H':Hp}{sd:Addr}{c:ScN}(S:ScAt H sd c) (s:jj H H'):ScAt H' sd c :=
 S.keep (N:=fun _=>False) (M:=fun _=>False) (fun c o h _=>.inl (s c o h)) (fun _ _ _ z=>z) id id id id id id (fun _ _=>id) id (fun _ _=>id)
theorem ScAt.ext {L b:Addr}{H H':Hp}{sd:Addr}{c:ScN}(S:ScAt H sd c) (O:ScOk b c) (B:qd L H b) (e:Ext b H H'):ScAt H' sd c:=by
 obtain ⟨_,_,_,_,_,hb,_⟩:=B
 have nr:∀ {a:Addr} {kvs:List (Key×V)},Rd H a (.dK kvs)->¬ a=b:=fun h z=>by
  rcases h with h | ⟨o,h⟩
  ·exact absurd z (jp h hb (by walk_at "z"))
  ·exact absurd z (jp h hb (by walk_at "z"))
 exact S.keep (N:=fun a=>a=b) (M:=fun _=>False) (fun c o h n=>.inl (e c o h n)) (fun a xs h z=>absurd z (jp h hb (by walk_at "z"))) (jp S.sd hb (by walk_at "z")) id O.pb O.qb O.gb O.lb (fun a h z=>O.zb (z ▸ h)) (nr S.sg) fun x hx=>nr (S.ld x hx)
def ScN.D (c:ScN) (a:Addr):Prop:=a=c.sg\/∃ x∈c.lds,x.1=a
theorem Wz {p q sg gl ll:Addr}{α:Type}{f:α->V}{l:List (Int×α)}:scK p q sg gl ll≠l.map fun z=>((.inl z.1,f z.2):Key×V):=fun z=>by
 cases l with
 | nil=>cases z
 | cons u r =>
  have:=congrArg (fun l=>l.head?.map (·.1)) z
  cases this
theorem Zs {H:Hp}{sd a p q sg gl ll:Addr}{α:Type}{f:α->V}{l:List (Int×α)}(h:H sd=some (.dK (scK p q sg gl ll))) (r:Rd H a (.dK (l.map fun z=>((.inl z.1,f z.2):Key×V)))):a≠sd:=fun z=>by
 subst z
 rcases r with r | ⟨o,r⟩
 ·rw [r] at h
  have e:l.map (fun z=>((.inl z.1,f z.2):Key×V))=scK p q sg gl ll:=by injection h with h;injection h
  exact Wz e.symm
 ·rw [r] at h
  cases h
theorem ScAt.nD {H:Hp}{sd:Addr}{c:ScN}(S:ScAt H sd c):¬ c.D sd:=fun z=>by
 rcases z with z | ⟨x,hx,e⟩
 ·exact Zs (f:=V.ref) S.sd S.sg z.symm
 ·exact Zs (f:=V.int) S.sd (S.ld x hx) e
structure ScB (L b:Addr) (H H2:Hp) (sd:Addr) (c:ScN):Prop where
 S:ScAt H2 sd c
 O:ScOk b c
 r1:H2 c.sg=some (.dK (c.sk.map kvA))
 r2:∀ x∈c.lds,H2 x.1=some (.dK (x.2.map kvI))
 B:qd L H2 b
 X:Ext b H H2
 f1:H c.sg=none
 f2:∀ x∈c.lds,H x.1=none
theorem ScB.take {L b:Addr}{H H2 H3:Hp}{sd:Addr}{c:ScN}(S:ScB L b H H2 sd c) (B:qd L H3 b) (X:Ext b H2 H3):ScB L b H H3 sd c:=by
 have hb:∃ xs,H2 b=some (.lst xs):=by
  obtain ⟨_,_,_,_,_,hb,_⟩:=S.B
  exact ⟨_,hb⟩
 obtain ⟨_,hb⟩:=hb
 exact ⟨S.S.ext S.O S.B X,S.O,X _ _ S.r1 (jp S.r1 hb (by walk_at "z")),fun x hx=>X _ _ (S.r2 x hx) (jp (S.r2 x hx) hb (by walk_at "z")),B,S.X.trans X,S.f1,S.f2⟩
theorem ScB.same {L b:Addr}{H H2 H3:Hp}{sd:Addr}{c:ScN}(S:ScB L b H H2 sd c) (s:jj H2 H3):ScB L b H H3 sd c:=S.take (S.B.same s) (Ext.of_same s)
theorem zQ {L b:Addr}{Ha Hb:Hp}(B:qd L Ha b) (e:Ext b Ha Hb):jg Ha Hb:=by
 obtain ⟨ns,a,r,c,d,h1,_⟩:=B
 exact jg.lst e h1
theorem ScB.single {L b:Addr}{H H2:Hp}{sd t:Addr}{c:ScN}{y:Int}{r:T3}(S:ScB L b H H2 sd c) (y0:0<=y) (y1:y<=99) (ht:H2 t=some (y3 r)) (hg:good r=true) (hl:c.sk.length+1<=10) :
  ScB L b H (upd H2 c.sg (.dK (qA (c.sk.map kvA) (.inl y) (.ref t)))) sd { c with sk:=xD c.sk y t }:=by
 have e:qA (c.sk.map kvA) (.inl y) (.ref t)=(xD c.sk y t).map kvA:=wF V.ref c.sk y t
 rw [e]
 have nT:∀ {a:Addr} {o:HO},H2 a=some o->(∀ kvs,o≠.dK kvs)->(upd H2 c.sg (.dK ((xD c.sk y t).map kvA))) a=some o:=fun h n=>by rw [j5 (jp h S.r1 (n _))];exact h
 have sdn:sd≠c.sg:=(Zs (f:=V.ref) S.S.sd S.S.sg).symm
 have hb:∃ xs,H2 b=some (.lst xs):=by
  obtain ⟨_,_,_,_,_,hb,_⟩:=S.B
  exact ⟨_,hb⟩
 obtain ⟨_,hb⟩:=hb
 have hL:∃ xs,H2 L=some (.lst xs):=by
  obtain ⟨_,_,_,_,_,_,_,hL,_⟩:=S.B
  exact ⟨_,hL⟩
 obtain ⟨_,hL⟩:=hL
 refine ⟨⟨by rw [j5 sdn];exact S.S.sd,nT S.S.p (by walk_at "w"),S.S.rv.keep fun _ _ h=>nT h (by walk_at "w"),nT S.S.q (by walk_at "w"),S.S.r3.imp fun _ _ h=>nT h (by walk_at "w"),nT S.S.gl (by walk_at "w"),pmM S.S.gi fun v hv w ⟨a,ea,q⟩=>⟨a,ea,nT q (by walk_at "w")⟩,nT S.S.ll (by walk_at "w"),.inl j6,fun z hz=>?_,fun x hx=>.inl (by rw [j5 (S.O.ns x hx)];exact S.r2 x hx)⟩,?_,j6,fun x hx=>by rw [j5 (S.O.ns x hx)];exact S.r2 x hx,S.B.put (jp S.r1 hb (by walk_at "z")) (jp S.r1 hL (by walk_at "z")),fun d o hd n=>?_,S.f1,S.f2⟩
 ·rcases kX hz with z | z
  ·obtain ⟨u,hu,g⟩:=S.S.sk _ z
   exact ⟨u,nT hu (by walk_at "w"),g⟩
  ·subst z
   exact ⟨r,nT ht (by walk_at "w"),hg⟩
 ·have O:=S.O
  exact ⟨O.gr,O.l1,O.l8,O.t1,O.t2,O.tg,O.ro,O.ldl,O.nd,O.ns,O.pb,O.qb,O.gb,O.lb,O.zb,wS O.k1,fun z hz=>by
   rcases kX hz with q | q
   ·exact O.k2 z q
   ·subst q;exact ⟨y0,y1⟩,Nat.le_trans (ur _ _ _) hl,O.m1,O.m2,O.m3⟩
 ·rw [j5 (j1 hd S.f1)]
  exact S.X d o hd n
theorem ug {α β:Type}{l:List (α×β)}{n:Nat}{a:α}{u v:β}(nd:(l.map (·.1)).Nodup) (hn:l[n]? = some (a,u)) {x:α×β}(hx:x∈l.set n (a,v)):x=(a,v)\/(x∈l/\x.1≠a):=by
 obtain ⟨i,hi,e⟩:=List.mem_iff_getElem.mp hx
 have hi':i<l.length:=by rw [List.length_set] at hi;exact hi
 obtain ⟨hn1,hn2⟩:=List.getElem?_eq_some_iff.mp hn
 by_cases q:n=i
 ·subst q
  rw [List.getElem_set_self] at e
  exact .inl e.symm
 ·rw [List.getElem_set_ne q] at e
  refine .inr ⟨e ▸ List.getElem_mem hi',fun z=>q ?_⟩
  have h1:(l.map (·.1))[n]'(by rw [List.length_map];exact hn1)=(l.map (·.1))[i]'(by rw [List.length_map];exact hi'):=by
   rw [List.getElem_map,List.getElem_map,hn2,e,z]
  rcases Nat.lt_trichotomy n i with g | g | g
  ·exact absurd h1 (List.pairwise_iff_getElem.mp nd n i _ _ g)
  ·exact g
  ·exact absurd h1.symm (List.pairwise_iff_getElem.mp nd i n _ _ g)
theorem Zx {α β:Type}{l:List (α×β)}{n:Nat}{a:α}{u v:β}(hn:l[n]? = some (a,u)):(l.set n (a,v)).map (·.1)=l.map (·.1):=by
 obtain ⟨hn1,hn2⟩:=List.getElem?_eq_some_iff.mp hn
 rw [List.map_set]
 refine List.ext_getElem? fun i=>?_
 rw [List.getElem?_set]
 by_cases q:n=i
 ·subst q
  rw [if_pos rfl,if_pos (by rw [List.length_map];exact hn1),List.getElem?_map,hn]
  rfl
 ·rw [if_neg q]
theorem ScB.leap {L b:Addr}{H H2:Hp}{sd a:Addr}{c:ScN}{n:Nat}{y m:Int}{ns:List (Int×Int)}(S:ScB L b H H2 sd c) (hn:c.lds[n]? = some (a,ns)) (y0:0<=y) (y1:y<=99) (m0:1<=m) (m1:m<=9) (hl:ns.length+1<=10) :
  ScB L b H (upd H2 a (.dK (qA (ns.map kvI) (.inl y) (.int m)))) sd { c with lds:=c.lds.set n (a,xD ns y m) }:=by
 have e:qA (ns.map kvI) (.inl y) (.int m)=(xD ns y m).map kvI:=wF V.int ns y m
 rw [e]
 have hm:=List.mem_of_getElem? hn
 have ra:=S.r2 _ hm
 have nT:∀ {d:Addr} {o:HO},H2 d=some o->(∀ kvs,o≠.dK kvs)->(upd H2 a (.dK ((xD ns y m).map kvI))) d=some o:=fun h n=>by rw [j5 (jp h ra (n _))];exact h
 have sdn:sd≠a:=(Zs (f:=V.int) S.S.sd (S.S.ld _ hm)).symm
 have hb:∃ xs,H2 b=some (.lst xs):=by
  obtain ⟨_,_,_,_,_,hb,_⟩:=S.B
  exact ⟨_,hb⟩
 obtain ⟨_,hb⟩:=hb
 have hL:∃ xs,H2 L=some (.lst xs):=by
  obtain ⟨_,_,_,_,_,_,_,hL,_⟩:=S.B
  exact ⟨_,hL⟩
 obtain ⟨_,hL⟩:=hL
 have fs:=Zx (v:=xD ns y m) hn
 have fs2:(c.lds.set n (a,xD ns y m)).map (fun x=>V.ref x.1)=c.lds.map fun x=>V.ref x.1:=by
  have:=congrArg (List.map V.ref) fs
  rw [List.map_map,List.map_map] at this
  exact this
 have sg:c.sg≠a:=(S.O.ns _ hm).symm
 have r2:∀ x∈c.lds.set n (a,xD ns y m),(upd H2 a (.dK ((xD ns y m).map kvI))) x.1=some (.dK (x.2.map kvI)):=fun x hx=>by
  rcases ug S.O.nd hn hx with z | ⟨z,w⟩
  ·subst z
   exact j6
  ·rw [j5 w]
   exact S.r2 x z
 have mem:∀ x∈c.lds.set n (a,xD ns y m),∃ x'∈c.lds,x'.1=x.1:=fun x hx=>by
  have:x.1∈(c.lds.set n (a,xD ns y m)).map (·.1):=List.mem_map_of_mem hx
  rw [fs] at this
  exact List.mem_map.mp this
 have O:=S.O
 refine ⟨⟨by rw [j5 sdn];exact S.S.sd,nT S.S.p (by walk_at "w"),S.S.rv.keep fun _ _ h=>nT h (by walk_at "w"),nT S.S.q (by walk_at "w"),S.S.r3.imp fun _ _ h=>nT h (by walk_at "w"),nT S.S.gl (by walk_at "w"),pmM S.S.gi fun v hv w ⟨a,ea,q⟩=>⟨a,ea,nT q (by walk_at "w")⟩,?_,.inl (by show upd _ _ _ c.sg=_;rw [j5 sg];exact S.r1),fun z hz=>?_,fun x hx=>.inl (r2 x hx)⟩,⟨O.gr,O.l1,O.l8,O.t1,O.t2,O.tg,O.ro,?_,?_,?_,O.pb,O.qb,O.gb,O.lb,O.zb,O.k1,O.k2,O.k3,?_,?_,?_⟩,(by show upd _ _ _ c.sg=_;rw [j5 sg];exact S.r1),r2,S.B.put (jp ra hb (by walk_at "z")) (jp ra hL (by walk_at "z")),fun d o hd n=>?_,S.f1,?_⟩
 ·show _=some (HO.lst ((c.lds.set n (a,xD ns y m)).map fun x=>V.ref x.1))
  rw [fs2]
  exact nT S.S.ll (by walk_at "w")
 ·obtain ⟨u,hu,g⟩:=S.S.sk _ hz
  exact ⟨u,nT hu (by walk_at "w"),g⟩
 ·show (c.lds.set n (a,xD ns y m)).length=_
  rw [List.length_set]
  exact O.ldl
 ·show ((c.lds.set n (a,xD ns y m)).map (·.1)).Nodup
  rw [fs]
  exact O.nd
 ·intro x hx
  obtain ⟨x',h1,h2⟩:=mem x hx
  rw [<- h2]
  exact O.ns x' h1
 ·intro x hx
  rcases ug S.O.nd hn hx with z | ⟨z,w⟩
  ·subst z;exact wS (O.m1 _ hm)
  ·exact O.m1 x z
 ·intro x hx
  rcases ug S.O.nd hn hx with z | ⟨z,w⟩
  ·subst z
   intro u hu
   rcases kX hu with q | q
   ·exact O.m2 _ hm u q
   ·subst q;exact ⟨y0,y1,m0,m1⟩
  ·exact O.m2 x z
 ·intro x hx
  rcases ug S.O.nd hn hx with z | ⟨z,w⟩
  ·subst z;exact Nat.le_trans (ur _ _ _) hl
  ·exact O.m3 x z
 ·rw [j5 (j1 hd (S.f2 _ hm))]
  exact S.X d o hd n
 ·intro x hx
  obtain ⟨x',h1,h2⟩:=mem x hx
  rw [<- h2]
  exact S.f2 x' h1
theorem put4 {p q sg gl:Addr}:qA (qV [] [(.inr "reaches",.ref p),(.inr "rows",.ref q),(.inr "single",.ref sg)]) (.inr "grounds") (.ref gl)=[((.inr "reaches",.ref p):Key×V),(.inr "rows",.ref q),(.inr "single",.ref sg),(.inr "grounds",.ref gl)]:=by
 have e1:(qA [] (.inr "reaches") (.ref p):List (Key×V))=[(.inr "reaches",.ref p)]:=yu _ yt
 have e2:qA [((.inr "reaches",.ref p):Key×V)] (.inr "rows") (.ref q)=[(.inr "reaches",.ref p),(.inr "rows",.ref q)]:=yu _ ((ju (show (Sum.inr (Str.ofString "reaches"):Key)≠Sum.inr (Str.ofString "rows") by decide +kernel)).trans yt)
 have e3:qA [((.inr "reaches",.ref p):Key×V),(.inr "rows",.ref q)] (.inr "single") (.ref sg)=[(.inr "reaches",.ref p),(.inr "rows",.ref q),(.inr "single",.ref sg)]:=yu _ ((ju (show (Sum.inr (Str.ofString "reaches"):Key)≠Sum.inr (Str.ofString "single") by decide +kernel)).trans ((ju (show (Sum.inr (Str.ofString "rows"):Key)≠Sum.inr (Str.ofString "single") by decide +kernel)).trans yt))
 have e4:qA [((.inr "reaches",.ref p):Key×V),(.inr "rows",.ref q),(.inr "single",.ref sg)] (.inr "grounds") (.ref gl)=[((.inr "reaches",.ref p):Key×V),(.inr "rows",.ref q),(.inr "single",.ref sg),(.inr "grounds",.ref gl)]:=yu _ ((ju (show (Sum.inr (Str.ofString "reaches"):Key)≠Sum.inr (Str.ofString "grounds") by decide +kernel)).trans ((ju (show (Sum.inr (Str.ofString "rows"):Key)≠Sum.inr (Str.ofString "grounds") by decide +kernel)).trans ((ju (show (Sum.inr (Str.ofString "single"):Key)≠Sum.inr (Str.ofString "grounds") by decide +kernel)).trans yt)))
 have e:qV [] [((.inr "reaches",.ref p):Key×V),(.inr "rows",.ref q),(.inr "single",.ref sg)]=[(.inr "reaches",.ref p),(.inr "rows",.ref q),(.inr "single",.ref sg)]:=by
  show qA (qA (qA ([]:List (Key×V)) (.inr "reaches") (.ref p)) (.inr "rows") (.ref q)) (.inr "single") (.ref sg)=_
  rw [e1,e2,e3]
 rw [e,e4]
theorem put5 {p q sg gl ll:Addr}:qA [((.inr "reaches",.ref p):Key×V),(.inr "rows",.ref q),(.inr "single",.ref sg),(.inr "grounds",.ref gl)] (.inr "leaps") (.ref ll)=scK p q sg gl ll :=
 yu _ ((ju (show (Sum.inr (Str.ofString "reaches"):Key)≠Sum.inr (Str.ofString "leaps") by decide +kernel)).trans ((ju (show (Sum.inr (Str.ofString "rows"):Key)≠Sum.inr (Str.ofString "leaps") by decide +kernel)).trans ((ju (show (Sum.inr (Str.ofString "single"):Key)≠Sum.inr (Str.ofString "leaps") by decide +kernel)).trans ((ju (show (Sum.inr (Str.ofString "grounds"):Key)≠Sum.inr (Str.ofString "leaps") by decide +kernel)).trans yt))))
theorem QN (p q sg gl:Addr):qE [((.inr "reaches",.ref p):Key×V),(.inr "rows",.ref q),(.inr "single",.ref sg),(.inr "grounds",.ref gl)] (.inr "grounds")=some (.ref gl):=(ju (show (Sum.inr (Str.ofString "reaches"):Key)≠Sum.inr (Str.ofString "grounds") by decide +kernel)).trans ((ju (show (Sum.inr (Str.ofString "rows"):Key)≠Sum.inr (Str.ofString "grounds") by decide +kernel)).trans ((ju (show (Sum.inr (Str.ofString "single"):Key)≠Sum.inr (Str.ofString "grounds") by decide +kernel)).trans xk))
theorem ZA {rs:List Rch}(G:Grown rs):∀ r∈rs,r.2.length<=12:=fun r hr=>by
 obtain ⟨i,hi,e⟩:=List.mem_iff_getElem.mp hr
 have:=JP G.ok (List.getElem?_eq_getElem hi)
 rw [e] at this
 unfold okR at this
 rw [Bool.and_eq_true,Bool.and_eq_true] at this
 have:=of_decide_eq_true this.1.2
 omega
theorem Uf {v:Int}(a:0<=v) (b:v<3):∃ n,atI [V.int 1,V.int 4,V.int 9] v=some (V.int n)/\0<n/\n<=9:=by
 have h:v=0\/v=1\/v=2:=by omega
 rcases h with rfl | rfl | rfl
 ·exact ⟨1,rfl,by omega,by omega⟩
 ·exact ⟨4,rfl,by omega,by omega⟩
 ·exact ⟨9,rfl,by omega,by omega⟩
theorem Ux {v:Int}(a:0<=v) (b:v<3):∃ n,atI [V.int 1,V.int 3,V.int 7] v=some (V.int n)/\0<n/\n<=7:=by
 have h:v=0\/v=1\/v=2:=by omega
 rcases h with rfl | rfl | rfl
 ·exact ⟨1,rfl,by omega,by omega⟩
 ·exact ⟨3,rfl,by omega,by omega⟩
 ·exact ⟨7,rfl,by omega,by omega⟩
theorem GH {v:Int}(a:0<=v) (b:v<2):∃ n,atI [V.int 2,V.int 9] v=some (V.int n)/\0<n/\n<=9:=by
 have h:v=0\/v=1:=by omega
 rcases h with rfl | rfl
 ·exact ⟨2,rfl,by omega,by omega⟩
 ·exact ⟨9,rfl,by omega,by omega⟩
theorem gK {rs:List Rch}(L:xh rs) (h:1<=rs.length):1<=(js rs).length:=by
 have:(rs.length-1)∈js rs:=by
  refine List.mem_filter.mpr ⟨List.mem_range.mpr (by omega),?_⟩
  unfold jK
  rw [decide_eq_false]
  ·rfl
  ·intro z
   have:=Xr L z
   omega
 exact List.length_pos_of_mem this
def Zy:Sp:=fun vs H Q _=>∃ (L b:Addr),vs=[.ref b]/\qd L H b/\∀ sd H' c,qd L H' b->Ext b H H'->ScAt H' sd c->ScOk b c->Q (.ref sd) H'
theorem qR:FnScope ["_law_box_here","_law_reaches_here","_law_scene_here","_law_turn","_law_lane"] ["_law_box_here"] (j8 xL):=by walk_at "s"
theorem VF {f:Addr}{fd:FuncData}(nb:Nb2 mg) (c_law_take:Cal P w K mg base 2 "_law_take" ["_law_box_here","_law_size"] zd) (c_law_reaches:Cal P w K mg base 4 "_law_reaches" ["_law_box_here"] kA) (c_law_round:Cal P w K mg base 4 "_law_round" ["_law_box_here"] uZ) (c_law_ground:Cal P w K mg base 1 "_law_ground" ["_law_reaches_here","_law_road"] (Q3 K)) (c_law_roads:Cal P w K mg base 1 "_law_roads" ["_law_reaches_here"] (Qx K)) (c_law_year:Cal P w K mg base 3 "_law_year" ["_law_box_here"] VD) (c_law_weather:Cal P w K mg base 3 "_law_weather" ["_law_box_here"] uF)
  (F:Fun K "_law_scene" "_law_scene" xL f fd):FnOk P w K mg base CX0 5 f fd ["_law_box_here"] Zy:=by
 refine F.ok qR (fun vs H Q E h=>?_) (fun cdv A outer s H vs Q E hr h=>?_)
 ·obtain ⟨L,b,rfl,_⟩:=h
  rfl
 ·obtain ⟨L,b,rfl,B,k⟩:=h
  refine ⟨_,(j4 (jm (i:=1) qR.nd rfl (Or.inr rfl) (jc c_law_reaches (hr.mono (by decide)) rfl (j0 (pv 0) j2)))
   (j4 (jm (i:=2) qR.nd rfl (Or.inl rfl) (U6 (kg jG (pv 1) (kg jG (jc c_law_round (hr.mono (by decide)) rfl (j0 (pv 0) j2)) (kg jG vZ UF))) rfl rfl (fun z=>by cases z) (by decide)))
   (j4 (yP (qc hr) (pv 2) jG (jY (osc:=(j8 xL)) (ON:=["_law_box_here","_law_reaches_here","_law_scene_here","_law_turn","_law_lane"]) (N:=["_law_road","_law_reaches_here"]) (own:=1) (caps:=[1]) ⟨rfl,by walk_at "k",by walk_at "k",by walk_at "k",rfl,by walk_at "k"⟩ rfl rfl rfl (jT K (jc c_law_roads (hr.mono (by decide)) rfl (j0 (pv 1) j2))) (fun _ _ _ _ _=>(ja (i:=0) (show List.Nodup (["_law_road","_law_reaches_here"]:List Str) by decide +kernel) rfl (Or.inl rfl))) (fun _ _ _ _ _=>jF) (fun _ _ _ _ _=>(jc c_law_ground (hr.mono (by decide)) rfl (j0 (pv 1) (j0 (pv 0) j2))))) rfl)
   (vQ (yP (qc hr) (pv 2) jG (jY (osc:=(j8 xL)) (ON:=["_law_box_here","_law_reaches_here","_law_scene_here","_law_turn","_law_lane"]) (N:=["_law_ground_here"]) (own:=1) (caps:=[]) ⟨rfl,by walk_at "k",by walk_at "k",by walk_at "k",rfl,by walk_at "k"⟩ rfl rfl rfl (jT K (jN (qc hr) (pv 2) jG (fun _ _=>rfl))) (fun _ _ _ _ _=>(ja (i:=0) (show List.Nodup (["_law_ground_here"]:List Str) by decide +kernel) rfl (Or.inl rfl))) (fun _ _ _ _ _=>jF) (fun _ _ _ _ _=>vZ)) rfl)
   (vQ (xb PassesOwn.never rfl (qx rfl nb.b_range (j0 (jc c_law_take (hr.mono (by decide)) rfl (j0 (pv 0) (j0 (jt (je K) (jL (j0 j7 (j0 j7 (j0 j7 j2)))) (jc c_law_take (hr.mono (by decide)) rfl (j0 (pv 0) (j0 j7 j2))) (fun _ _=>rfl)) j2))) j2)) (ja (i:=3) qR.nd rfl (Or.inl rfl)) (j9 (yP (qc hr) (jN (qc hr) (pv 2) jG (fun _ _=>rfl)) (jc c_law_year (hr.mono (by decide)) rfl (j0 (pv 0) j2)) (jc c_law_weather (hr.mono (by decide)) rfl (j0 (pv 0) j2)) rfl)))
   (j4 (xb PassesOwn.never rfl (qx rfl nb.b_range (j0 (jc c_law_take (hr.mono (by decide)) rfl (j0 (pv 0) (j0 (jt (je K) (jL (j0 j7 (j0 j7 (j0 j7 j2)))) (jc c_law_take (hr.mono (by decide)) rfl (j0 (pv 0) (j0 j7 j2))) (fun _ _=>rfl)) j2))) j2)) (ja (i:=3) qR.nd rfl (Or.inl rfl)) (j4 (jm (i:=4) qR.nd rfl (Or.inl rfl) (jc c_law_take (hr.mono (by decide)) rfl (j0 (pv 0) (j0 (jf (ji K) rfl nb.b_len PySem.boot_len (j0 (jN (qc hr) (pv 2) jG (fun _ _=>rfl)) j2)) j2))))
   (j9 (yP (qc hr) (jt (je K) (jN (qc hr) (pv 2) jG (fun _ _=>rfl)) (pv 4) (fun _ _=>rfl)) (jc c_law_year (hr.mono (by decide)) rfl (j0 (pv 0) j2)) (jn jH j7 (jc c_law_take (hr.mono (by decide)) rfl (j0 (pv 0) (j0 (jt (je K) (jL (j0 j7 (j0 j7 j2))) (jc c_law_take (hr.mono (by decide)) rfl (j0 (pv 0) (j0 j7 j2))) (fun _ _=>rfl)) j2)))) rfl))))
   (j9 (jk (pv 2))))))))),?_⟩
  walk_at "r"
  refine ⟨L,b,rfl,B,fun p H1 xs rs B1 X1 hp hp1 r1 g1 l1 l8=>?_⟩
  have pb:p≠b:=B.ne hp
  walk_at "r"
  intro sd hsd
  have sdb:sd≠b:=B1.ne hsd
  have sd0:H sd=none:=X1.free hsd sdb
  walk_at "r"
  have Ba:qd L (upd H1 sd (.dK [])) b:=B1.put sdb (B1.neL hsd)
  refine ⟨L,b,rfl,Ba,fun q Hb ys ts Bb Xb hq hqb r3b ht12 htg=>?_⟩
  have qb:q≠b:=Ba.ne hq
  have qsd:q≠sd:=fun z=>by rw [z,j6] at hq;cases hq
  have sdB:Hb sd=some (.dK []):=Xb _ _ j6 sdb
  have pB:Hb p=some (.lst xs):=Xb _ _ (by rw [j5 (j1 hp1 hsd)];exact hp1) pb
  have rB:jU Hb xs rs:=(r1.keep (jg.same (jj.new hsd))).keep (zQ Ba Xb)
  have XB:Ext b H Hb:=(X1.trans (Ext.new hsd)).trans Xb
  walk_at "r"
  intro sg hsg
  have sgb:sg≠b:=Bb.ne hsg
  have sg0:H sg=none:=XB.free hsg sgb
  have sgsd:sg≠sd:=(j1 sdB hsg).symm
  walk_at "r"
  refine ⟨by rw [j5 sgsd.symm];exact sdB,[(.inr "reaches",.ref p),(.inr "rows",.ref q),(.inr "single",.ref sg)],rfl,by show 3<=15;decide,?_⟩
  have sC:jj Hb (upd Hb sg (.dK [])):=jj.new hsg
  have nD:∀ {a:Addr} {o:HO},Hb a=some o->a≠sd->(upd (upd Hb sg (.dK [])) sd (.dK (qV [] [(.inr "reaches",.ref p),(.inr "rows",.ref q),(.inr "single",.ref sg)]))) a=some o:=fun h n=>by rw [j5 n];exact sC _ _ h
  have dD:(upd (upd Hb sg (.dK [])) sd (.dK (qV [] [(.inr "reaches",.ref p),(.inr "rows",.ref q),(.inr "single",.ref sg)]))) sd=some (.dK (qV [] [(.inr "reaches",.ref p),(.inr "rows",.ref q),(.inr "single",.ref sg)])):=j6
  have pD:=nD pB (jp pB sdB (by walk_at "z"))
  have rD:jU (upd (upd Hb sg (.dK [])) sd (.dK (qV [] [(.inr "reaches",.ref p),(.inr "rows",.ref q),(.inr "single",.ref sg)]))) xs rs:=rB.keep fun _ _ h=>nD h (jp h sdB (by walk_at "z"))
  have qD:=nD hqb qsd
  have r3D:jo (upd (upd Hb sg (.dK [])) sd (.dK (qV [] [(.inr "reaches",.ref p),(.inr "rows",.ref q),(.inr "single",.ref sg)]))) ys ts:=r3b.imp fun _ _ h=>nD h (jp h sdB (by walk_at "z"))
  have sgD:(upd (upd Hb sg (.dK [])) sd (.dK (qV [] [(.inr "reaches",.ref p),(.inr "rows",.ref q),(.inr "single",.ref sg)]))) sg=some (.dK []):=by rw [j5 sgsd];exact j6
  have BD:qd L (upd (upd Hb sg (.dK [])) sd (.dK (qV [] [(.inr "reaches",.ref p),(.inr "rows",.ref q),(.inr "single",.ref sg)]))) b:=(Bb.same sC).put sdb (B1.neL hsd)
  have XD:Ext b H (upd (upd Hb sg (.dK [])) sd (.dK (qV [] [(.inr "reaches",.ref p),(.inr "rows",.ref q),(.inr "single",.ref sg)]))):=fun c o h n=>nD (XB c o h n) (j1 h sd0)
  clear nD sC hsg sdB pB rB XB hqb r3b Bb Xb hq Ba
  generalize (upd (upd Hb sg (.dK [])) sd (.dK (qV [] [(.inr "reaches",.ref p),(.inr "rows",.ref q),(.inr "single",.ref sg)])))=Hd at *
  have Ld:=jZ g1.ok
  walk_at "r"
  refine ⟨p,xs,rs,rfl,pD,rD,Ld,by omega,fun l He out ws hl hle w1 hR s1=>?_⟩
  walk_at "r"
  refine ⟨⟨_,SqL.of hle⟩,fun gl hgl=>?_⟩
  have hlw:out.length=ws.length:=Paired.length w1
  have hws:ws.length<=6:=by rw [hR.length];exact g1.heads
  have h100:∀ r∈rs,r.2.length<=100:=fun r hr=>Nat.le_trans (ZA g1 r hr) (by decide)
  have BE:=BD.same s1
  have glb:gl≠b:=BE.ne hgl
  refine qg (K:=K) (a:=l) (xs:=out) (acc:=gl) (fun i σ H2=>∃ (x:Option V) (zs:List V),σ=[x,some (.ref p)]/\H2 gl=some (.lst zs)/\zs.length=i/\Paired (fun v (w:List Int)=>∃ a,v=V.ref a/\H2 a=some (.lst (w.map V.int))/\He a=none/\a≠gl) zs ((ws.take i).map (jb rs))/\Ext gl He H2) ?_ ?_ ?_ ?_
  ·exact ⟨none,[],rfl,j6,rfl,.nil,Ext.put⟩
  ·rintro i σ H2 hi ⟨x,zs,rfl,h2,hz,r2,e2⟩
   exact SqL.of (e2 _ _ hle (j1 hle hgl))
  ·rintro i v σ H2 hv ⟨x,zs,rfl,h2,hz,r2,e2⟩
   obtain ⟨wy,hwy,a,rfl,ha1⟩:=Paired.get w1 hv
   have hi:=(List.getElem?_eq_some_iff.mp hwy).1
   obtain ⟨x',hx',ewy⟩:=hR.mem (List.mem_of_getElem? hwy)
   have ha2:=e2 _ _ ha1 (j1 ha1 hgl)
   have hr1:=s1 _ _ pD
   have hl':=uj Ld x' (xw hx')
   have:=xw hx'
   walk_at "r"
   refine ⟨p,a,xs,rs,wy,rfl,e2 _ _ hr1 (j1 hr1 hgl),(rD.keep (jg.same s1)).keep (jg.new e2 hgl),h100,ha2,by rw [ewy];exact xJ Ld x' (xw hx'),by rw [ewy];omega,fun t H3 ht ht3 s3=>?_⟩
   have ta:t≠gl:=(j1 h2 ht).symm
   refine ⟨zs,s3 _ _ h2,jd (by omega),some (.ref a),zs++[.ref t],rfl,j6,by rw [List.length_append,hz];rfl,?_,fun c o hc n=>by rw [j5 n];exact s3 _ _ (e2 c o hc n)⟩
   rw [qv (jb rs) ws i wy hwy]
   exact Paired.snoc (Paired.mapP r2 fun v wy ⟨a,e,ha,h0,na⟩=>⟨a,e,by rw [j5 na];exact s3 _ _ ha,h0,na⟩) ⟨t,rfl,by rw [j5 ta];exact ht3,e2.free ht ta,ta⟩
  rintro σ H2 ⟨x,zs,rfl,h2,hz,r2,e2⟩
  rw [hlw,List.take_length] at r2
  have gi2:yd H2 zs (ws.map (jb rs)):=Paired.mapP r2 fun v wy ⟨a,e,ha,h0,na⟩=>⟨a,e,ha⟩
  have zb:V.ref b∉zs:=fun z=>by
   obtain ⟨_,a,e,_,h0,_⟩:=pm r2 _ z
   cases e
   exact absurd rfl (BE.ne h0)
  have s2:jj Hd H2:=fun c o hc=>e2 _ _ (s1 _ _ hc) (j1 (s1 _ _ hc) hgl)
  have gl0:Hd gl=none:=s1.free hgl
  walk_at "r"
  refine ⟨sd,_,rfl,gm.k (k:=.inr "grounds") (s2 _ _ dD) (jd (Nat.le_trans (zE _ _) (by show 0+3<=1000;decide))),?_⟩
  rw [put4]
  have nF:∀ {a:Addr} {o:HO},H2 a=some o->(∀ kvs,o≠.dK kvs)->(upd H2 sd (.dK [((.inr "reaches",.ref p):Key×V),(.inr "rows",.ref q),(.inr "single",.ref sg),(.inr "grounds",.ref gl)])) a=some o:=fun h n=>by rw [j5 (jp h (s2 _ _ dD) (n _))];exact h
  have dF:(upd H2 sd (.dK [((.inr "reaches",.ref p):Key×V),(.inr "rows",.ref q),(.inr "single",.ref sg),(.inr "grounds",.ref gl)])) sd=some (.dK [((.inr "reaches",.ref p):Key×V),(.inr "rows",.ref q),(.inr "single",.ref sg),(.inr "grounds",.ref gl)]):=j6
  have pF:=nF (s2 _ _ pD) (by walk_at "w")
  have qF:=nF (s2 _ _ qD) (by walk_at "w")
  have rF:jU (upd H2 sd (.dK [((.inr "reaches",.ref p):Key×V),(.inr "rows",.ref q),(.inr "single",.ref sg),(.inr "grounds",.ref gl)])) xs rs:=rD.keep fun _ _ h=>nF (s2 _ _ h) (by walk_at "w")
  have r3F:jo (upd H2 sd (.dK [((.inr "reaches",.ref p):Key×V),(.inr "rows",.ref q),(.inr "single",.ref sg),(.inr "grounds",.ref gl)])) ys ts:=r3D.imp fun _ _ h=>nF (s2 _ _ h) (by walk_at "w")
  have gF:=nF h2 (by walk_at "w")
  have giF:yd (upd H2 sd (.dK [((.inr "reaches",.ref p):Key×V),(.inr "rows",.ref q),(.inr "single",.ref sg),(.inr "grounds",.ref gl)])) zs (ws.map (jb rs)):=Paired.mapP gi2 fun v wy ⟨a,e,ha⟩=>⟨a,e,nF ha (by walk_at "w")⟩
  have sgF:(upd H2 sd (.dK [((.inr "reaches",.ref p):Key×V),(.inr "rows",.ref q),(.inr "single",.ref sg),(.inr "grounds",.ref gl)])) sg=some (.dK []):=by rw [j5 sgsd];exact s2 _ _ sgD
  have BF:qd L (upd H2 sd (.dK [((.inr "reaches",.ref p):Key×V),(.inr "rows",.ref q),(.inr "single",.ref sg),(.inr "grounds",.ref gl)])) b:=(BD.same s2).put sdb (B1.neL hsd)
  have XF:Ext b H (upd H2 sd (.dK [((.inr "reaches",.ref p):Key×V),(.inr "rows",.ref q),(.inr "single",.ref sg),(.inr "grounds",.ref gl)])):=fun c o h n=>by rw [j5 (j1 h sd0)];exact s2 _ _ (XD c o h n)
  clear nF gi2 s2 h2 r2 e2 BE hgl s1 w1 hle hl pD rD qD r3D sgD BD XD dD h100
  generalize (upd H2 sd (.dK [((.inr "reaches",.ref p):Key×V),(.inr "rows",.ref q),(.inr "single",.ref sg),(.inr "grounds",.ref gl)]))=Hf at *
  have hzw:zs.length<=6:=by omega
  refine ⟨fun σ H5=>∃ c,σ=[some (.ref b),some (.ref p),some (.ref sd),none,none]/\ScB L b H H5 sd c/\c.sk=[]/\∀ x∈c.lds,x.2=[],?_,?_⟩
  ·walk_at "r"
   refine ⟨sd,.ref gl,rfl,by rw [<- QN p q sg gl];exact qN.k (k:=.inr "grounds") dF,?_⟩
   walk_at "r"
   refine ⟨⟨_,SqL.of gF⟩,fun le hle=>?_⟩
   have leb:le≠b:=BF.ne hle
   refine qg (K:=K) (a:=gl) (xs:=zs) (acc:=le) (fun i σ He=>∃ (x:Option V) (lds:List (Addr×List (Int×Int))),σ=[x]/\He le=some (.lst (lds.map fun x=>V.ref x.1))/\lds.length=i/\(∀ x∈lds,He x.1=some (.dK [])/\x.2=[]/\Hf x.1=none/\x.1≠le)/\(lds.map (·.1)).Nodup/\Ext le Hf He) ?_ ?_ ?_ ?_
   ·exact ⟨none,[],rfl,j6,rfl,(fun x z=>by cases z),List.nodup_nil,Ext.put⟩
   ·rintro i σ He hi ⟨x,lds,rfl,he,hl,hd,nn,e⟩
    exact SqL.of (e _ _ gF (j1 gF hle))
   ·rintro i v σ He hv ⟨x,lds,rfl,he,hl,hd,nn,e⟩
    have hi:=(List.getElem?_eq_some_iff.mp hv).1
    walk_at "r"
    intro d hd0
    have dl:d≠le:=(j1 he hd0).symm
    refine ⟨_,(by rw [j5 (Ne.symm dl)];exact he),by rw [List.length_map];exact jd (by omega),some v,lds++[(d,[])],rfl,(by rw [j6,List.map_append];rfl),(by rw [List.length_append,hl];rfl),fun y hy=>?_,?_,fun c o hc n=>?_⟩
    ·rcases List.mem_append.mp hy with z | z
     ·obtain ⟨h1,h2,h3,h4⟩:=hd y z
      exact ⟨by rw [j5 h4,j5 (j1 h1 hd0)];exact h1,h2,h3,h4⟩
     ·obtain rfl:y=(d,[]):=by simpa using z
      exact ⟨by rw [j5 dl];exact j6,rfl,e.free hd0 dl,dl⟩
    ·rw [List.map_append]
     refine wq nn fun z=>?_
     obtain ⟨y,hy,ey⟩:=List.mem_map.mp z
     have:=(hd y hy).1
     rw [ey,hd0] at this
     cases this
    ·rw [j5 n,j5 (j1 (e c o hc n) hd0)]
     exact e c o hc n
   ·rintro σ He ⟨x,lds,rfl,he,hl,hd,nn,e⟩
    have sE:jj Hf He:=fun c o h=>e c o h (j1 h hle)
    walk_at "r"
    refine ⟨sd,_,rfl,gm.k (k:=.inr "leaps") (sE _ _ dF) (by show 4<sizeLine;decide),?_⟩
    rw [put5]
    have nG:∀ {a:Addr} {o:HO},He a=some o->(∀ kvs,o≠.dK kvs)->(upd He sd (.dK (scK p q sg gl le))) a=some o:=fun h n=>by rw [j5 (jp h (sE _ _ dF) (n _))];exact h
    have lG:∀ x∈lds,(upd He sd (.dK (scK p q sg gl le))) x.1=some (.dK (x.2.map kvI)):=fun x hx=>by
     obtain ⟨h1,h2,h3,h4⟩:=hd x hx
     rw [j5 (j1 dF h3).symm,h2]
     exact h1
    have sgG:(upd He sd (.dK (scK p q sg gl le))) sg=some (.dK []):=by rw [j5 sgsd];exact sE _ _ sgF
    refine ⟨⟨p,q,sg,gl,le,xs,ys,zs,rs,ts,ws,[],lds⟩,rfl,⟨⟨j6,nG (sE _ _ pF) (by walk_at "w"),rF.keep fun _ _ h=>nG (sE _ _ h) (by walk_at "w"),nG (sE _ _ qF) (by walk_at "w"),r3F.imp fun _ _ h=>nG (sE _ _ h) (by walk_at "w"),nG (sE _ _ gF) (by walk_at "w"),Paired.mapP giF fun v wy ⟨a,e,ha⟩=>⟨a,e,nG (sE _ _ ha) (by walk_at "w")⟩,nG he (by walk_at "w"),.inl sgG,(fun z hz=>by cases hz),fun x hx=>.inl (lG x hx)⟩,
     ⟨g1,l1,l8,ht12.1,ht12.2,htg,hR,hl.trans (hz.trans hlw),nn,fun x hx=>(j1 sgF (hd x hx).2.2.1).symm,pb,qb,glb,leb,zb,List.nodup_nil,(fun z hz=>by cases hz),Nat.zero_le _,(fun x hx=>by rw [(hd x hx).2.1];exact List.nodup_nil),(fun x hx=>by rw [(hd x hx).2.1];intro z hz;cases hz),(fun x hx=>by rw [(hd x hx).2.1];exact Nat.zero_le _)⟩,sgG,lG,(BF.same sE).put sdb (B1.neL hsd),fun c o h n=>?_,sg0,fun x hx=>?_⟩,rfl,fun x hx=>(hd x hx).2.1⟩
    ·rw [j5 (j1 h sd0)]
     exact sE _ _ (XF c o h n)
    ·exact XF.free (hd x hx).2.2.1 (BF.ne (hd x hx).2.2.1)
  rintro σ H5 ⟨c,rfl,S5,k5,l5⟩
  clear dF pF qF rF r3F gF giF sgF BF XF zb hlw hws hz hzw
  refine ⟨fun σ H6=>∃ (x:Option V) (c:ScN),σ=[some (.ref b),some (.ref p),some (.ref sd),x,none]/\ScB L b H H6 sd c/\∀ x∈c.lds,x.2=[],?_,?_⟩
  ·walk_at "r"
   refine ⟨by show 3<=sizeLine;decide,fun l6 H6 hl6 hl66 s6=>?_⟩
   have S6:=S5.same s6
   have l6b:l6≠b:=S5.B.ne hl6
   walk_at "r"
   refine ⟨L,b,_,rfl,S6.B,⟨by decide,by decide⟩,fun v7 H7 p7 q7 B7 X7=>?_⟩
   have S7:=S6.take B7 X7
   obtain ⟨n,hn,n0,n1⟩:=Uf p7 q7
   refine ⟨_,_,_,_,rfl,rfl,SqL.of (X7 _ _ hl66 l6b),hn,?_⟩
   walk_at "r"
   refine ⟨L,b,_,rfl,S7.B,⟨n0,by omega⟩,fun v8 H8 p8 q8 B8 X8=>?_⟩
   have S8:=S7.take B8 X8
   walk_at "r"
   refine ⟨by omega,by omega,?_⟩
   refine zg (fun i σ H2=>∃ (x:Option V) (c:ScN),σ=[some (.ref b),some (.ref p),some (.ref sd),x,none]/\ScB L b H H2 sd c/\c.sk.length<=i/\∀ x∈c.lds,x.2=[]) ?_ ?_ ?_
   ·exact ⟨none,c,rfl,S8,by rw [k5];exact Nat.le_refl _,l5⟩
   ·rintro i σ H2 hi ⟨x,c,rfl,S,hk,hl⟩
    walk_at "r"
    refine ⟨L,b,rfl,S.B,fun t H9 r B9 X9 ht hg=>?_⟩
    have S9:=S.take B9 X9
    walk_at "r"
    refine ⟨sd,.ref c.sg,rfl,by rw [<- zf c.p c.q c.sg c.gl c.ll];exact qN.k (k:=.inr "single") S9.S.sd,?_⟩
    walk_at "r"
    refine ⟨L,b,rfl,S9.B,fun y H10 y0 y1 B10 X10=>?_⟩
    have S10:=S9.take B10 X10
    refine ⟨c.sg,_,rfl,gm.k (k:=.inl y) S10.r1 (by rw [List.length_map];exact jd (by have:=S10.O.k3;omega)),?_⟩
    exact ⟨_,{ c with sk:=xD c.sk y t },rfl,S10.single y0 y1 (X10 _ _ ht (S9.B.ne_tup ht)) hg (by omega),Nat.le_trans (ur _ _ _) (by omega),hl⟩
   ·rintro σ H2 ⟨x,c,rfl,S,hk,hl⟩
    exact ⟨x,c,rfl,S,hl⟩
  clear S5 k5 l5
  rintro σ H6 ⟨x,c,rfl,S6,l6⟩
  walk_at "r"
  refine ⟨by show 3<=sizeLine;decide,fun l7 H7 hl7 hl77 s7=>?_⟩
  have S7:=S6.same s7
  have l7b:l7≠b:=S6.B.ne hl7
  walk_at "r"
  refine ⟨L,b,_,rfl,S7.B,⟨by decide,by decide⟩,fun v8 H8 p8 q8 B8 X8=>?_⟩
  have S8:=S7.take B8 X8
  obtain ⟨n,hn,n0,n1⟩:=Ux p8 q8
  refine ⟨_,_,_,_,rfl,rfl,SqL.of (X8 _ _ hl77 l7b),hn,?_⟩
  walk_at "r"
  refine ⟨L,b,_,rfl,S8.B,⟨n0,by omega⟩,fun v9 H9 p9 q9 B9 X9=>?_⟩
  have S9:=S8.take B9 X9
  walk_at "r"
  refine ⟨by omega,by omega,?_⟩
  refine zg (fun i σ H2=>∃ (x y:Option V) (c:ScN),σ=[some (.ref b),some (.ref p),some (.ref sd),x,y]/\ScB L b H H2 sd c/\∀ x∈c.lds,x.2.length<=i) ?_ ?_ ?_
  ·exact ⟨x,none,c,rfl,S9,fun x hx=>by rw [l6 x hx];exact Nat.le_refl _⟩
  ·rintro i σ H2 hi ⟨x,y',c,rfl,S,hl⟩
   have hw1:1<=c.ws.length:=by
    rw [S.O.ro.length]
    exact gK (jZ S.O.gr.ok) S.O.l1
   have hzl:c.zs.length=c.ws.length:=(Paired.length S.S.gi).trans (List.length_map _)
   have hw6:c.ws.length<=6:=by rw [S.O.ro.length];exact S.O.gr.heads
   walk_at "r"
   refine ⟨sd,.ref c.gl,rfl,by rw [<- zn c.p c.q c.sg c.gl c.ll];exact qN.k (k:=.inr "grounds") S.S.sd,?_⟩
   walk_at "r"
   refine ⟨c.gl,_,rfl,.inl (SqL.of S.S.gl),?_⟩
   walk_at "r"
   refine ⟨L,b,_,rfl,S.B,⟨by omega,by omega⟩,fun ln H10 ln0 ln1 B10 X10=>?_⟩
   have S10:=S.take B10 X10
   walk_at "r"
   refine ⟨by show 2<=sizeLine;decide,fun l11 H11 hl11 hl11' s11=>?_⟩
   have S11:=S10.same s11
   have l11b:l11≠b:=S10.B.ne hl11
   walk_at "r"
   refine ⟨L,b,_,rfl,S11.B,⟨by decide,by decide⟩,fun v12 H12 p12 q12 B12 X12=>?_⟩
   have S12:=S11.take B12 X12
   obtain ⟨n,hn,n0,n1⟩:=GH p12 q12
   refine ⟨_,_,_,_,rfl,rfl,SqL.of (X12 _ _ hl11' l11b),hn,?_⟩
   walk_at "r"
   refine ⟨L,b,_,rfl,S12.B,⟨n0,by omega⟩,fun v13 H13 p13 q13 B13 X13=>?_⟩
   have S13:=S12.take B13 X13
   walk_at "r"
   have hll:ln.toNat<c.lds.length:=by rw [S.O.ldl];omega
   obtain ⟨⟨a,ns⟩,ha⟩:∃ z,c.lds[ln.toNat]? = some z:=⟨_,List.getElem?_eq_getElem hll⟩
   refine ⟨sd,.ref c.ll,rfl,by rw [<- kZ c.p c.q c.sg c.gl c.ll];exact qN.k (k:=.inr "leaps") S13.S.sd,?_⟩
   walk_at "r"
   refine ⟨_,_,_,_,rfl,rfl,SqL.of S13.S.ll,qW ln0 (v:=V.ref a) (by rw [List.getElem?_map,ha];rfl),?_⟩
   walk_at "r"
   refine ⟨L,b,rfl,S13.B,fun y H14 y0 y1 B14 X14=>?_⟩
   have S14:=S13.take B14 X14
   have hns:=hl _ (List.mem_of_getElem? ha)
   refine ⟨a,_,rfl,gm.k (k:=.inl y) (S14.r2 _ (List.mem_of_getElem? ha)) (by rw [List.length_map];exact jd (by have:ns.length<=i:=hns;omega)),?_⟩
   have hns:ns.length<=i:=hns
   refine ⟨_,_,{ c with lds:=c.lds.set ln.toNat (a,xD ns y (1+v13)) },rfl,S14.leap ha y0 y1 (by omega) (by omega) (by omega),fun x hx=>?_⟩
   rcases ug S.O.nd ha hx with z | ⟨z,_⟩
   ·subst z
    exact Nat.le_trans (ur _ _ _) (by omega)
   ·exact Nat.le_succ_of_le (hl x z)
  ·rintro σ H2 ⟨x,y',c,rfl,S,hl⟩
   walk_at "r"
   exact k sd H2 c S.B S.X S.S S.O
end
section
variable {P:Program}{w:World}{K:PySem.W.Frag}{mg:Str->Option Value}{base:Heap}
theorem IceNew.made {C Pt p dx:Addr}{H H':Hp}{g:IceG}{o o':HO}(hp:H p=none) (hd:H dx=none) (I:IceNew C Pt (upd (upd H dx o) p o') H' p g):IceNew C Pt H H' p g:=by
 have s:jj H (upd (upd H dx o) p o'):=fun c u h=>by rw [j5 (j1 h hp),j5 (j1 h hd)];exact h
 exact ⟨I.at_,fun c u h n m=>I.keep c u (s c u h) n m,s.free I.va,s.free I.cy,s.free I.sl,s.free I.ye,s.free I.le,fun a z=>s.free (I.zs a z),I.kvs,fun x hx=>⟨s.free (I.lds x hx).1,(I.lds x hx).2⟩,I.ll,I.nd,I.ny,I.sl2⟩
structure IceFr (H:Hp) (p:Addr) (g:IceG):Prop where
 p:H p=none
 va:H g.va=none
 cy:H g.cy=none
 sl:H g.sl=none
 ye:H g.ye=none
 le:H g.le=none
 zs:∀ a,V.ref a∈g.zs->H a=none
 lds:∀ x∈g.lds,H x.1=none
theorem IceAt.stay {C p:Addr}{H H2 H3:Hp}{g:IceG}(I:IceAt C H2 p g) (F:IceFr H p g) (f:∀ a o,H2 a=some o->H a=none->H3 a=some o) (t:jg H2 H3):IceAt C H3 p g :=
 ⟨f _ _ I.ob F.p,f _ _ I.va F.va,I.rs.keep t,f _ _ I.cy F.cy,I.rows.imp fun _ _ q=>t _ _ q,f _ _ I.sl F.sl,pmM I.slopes fun v hv w ⟨a,ea,q⟩=>⟨a,ea,f _ _ q (F.zs a (ea ▸ hv))⟩,f _ _ I.ye F.ye,f _ _ I.le F.le,fun x hx=>f _ _ (I.lds x hx) (F.lds x hx)⟩
theorem Fr3.ext {N M:Addr->Prop}{H H2 H3:Hp}{a:Addr}(f:Fr3 N M H H2) (e:Ext a H2 H3) (ha:H a=none):Fr3 N M H H3:=fun c o h n=>by
 have ca:c≠a:=j1 h ha
 rcases f c o h n with q | ⟨m,ob,kvs,eo,q⟩
 ·exact .inl (e _ _ q ca)
 ·exact .inr ⟨m,ob,kvs,eo,e _ _ q ca⟩
theorem Fr3.same {N M:Addr->Prop}{H H2 H3:Hp}(f:Fr3 N M H H2) (e:jj H2 H3):Fr3 N M H H3:=fun c o h n=>by
 rcases f c o h n with q | ⟨m,ob,kvs,eo,q⟩
 ·exact .inl (e _ _ q)
 ·exact .inr ⟨m,ob,kvs,eo,e _ _ q⟩
theorem Fr3.frz {N M:Addr->Prop}{H H2:Hp}{a:Addr}{ob:Obj}{kvs:List (Key×V)}(f:Fr3 N M H H2) (h:H2 a=some (.dK kvs)) (m:M a):Fr3 N M H (upd H2 a (.frz ob (.dK kvs))):=fun c o hc n=>by
 by_cases e:c=a
 ·subst e
  rcases f c o hc n with q | ⟨_,ob',kvs',eo,q⟩
  ·rw [h] at q
   cases q
   exact .inr ⟨m,ob,kvs,rfl,j6⟩
  ·rw [h] at q
   cases q
 ·rw [j5 e]
  exact f c o hc n
theorem ZS {H:Hp}{a:Addr}{ob:Obj}{kvs:List (Key×V)}(h:H a=some (.dK kvs)):jg H (upd H a (.frz ob (.dK kvs))):=fun c xs q=>by rw [j5 (jp q h (by walk_at "z"))];exact q
theorem UN {H:Hp}{a Pt:Addr}{ob:Obj}{kvs:List (Key×V)}(T:qy H Pt) (h:H a=some (.dK kvs)):qy (upd H a (.frz ob (.dK kvs))) Pt:=by
 rcases T with q | ⟨c,q,q'⟩
 ·exact .inl (by rw [j5 (jp q h (by walk_at "z"))];exact q)
 ·exact .inr ⟨c,by rw [j5 (jp q h (by walk_at "z"))];exact q,by rw [j5 (jp q' h (by walk_at "z"))];exact q'⟩
theorem Qp {H H':Hp}{a Pt:Addr}{kvs:List (Key×V)}(T:qy H Pt) (h:H a=some (.dK kvs)) (e:Ext a H H'):qy H' Pt:=by
 rcases T with q | ⟨c,q,q'⟩
 ·exact .inl (e _ _ q (jp q h (by walk_at "z")))
 ·exact .inr ⟨c,e _ _ q (jp q h (by walk_at "z")),e _ _ q' (jp q' h (by walk_at "z"))⟩
theorem G1 {ns:List (Int×Addr)}{i:Nat}{q:Key×V}(h:(ns.map kvA)[i]? = some q):∃ z,ns[i]? = some z/\q=kvA z:=by
 rw [List.getElem?_map] at h
 cases e:ns[i]? with
 | none=>rw [e] at h;cases h
 | some z=>rw [e] at h;cases h;exact ⟨z,rfl,rfl⟩
theorem J9:∀ {ns:List (Int×Addr)},(ns.map (·.1)).Nodup->∀ {z:Int×Addr},z∈ns->qE (ns.map kvA) (.inl z.1)=some (.ref z.2)
 | [],_,z,h=>by cases h
 | q::r,nd,z,h=>by
  rw [List.map_cons] at nd
  obtain ⟨h1,h2⟩:=List.nodup_cons.mp nd
  rw [List.map_cons]
  rcases List.mem_cons.mp h with e | e
  ·subst e
   exact xk
  ·have ne:¬ q.1=z.1:=fun w=>h1 (by rw [w];exact List.mem_map_of_mem e)
   show qE ((.inl q.1,.ref q.2)::r.map kvA) (.inl z.1)=_
   rw [ju (fun w=>ne (Sum.inl.inj w))]
   exact J9 h2 e
theorem VG {α:Type}{l:List (Int×α)}{y:Int}{a:α}(h:y∉l.map (·.1)):xD l y a=l++[(y,a)]:=by
 unfold xD
 rw [if_neg]
 intro z
 obtain ⟨u,hu,e⟩:=List.any_eq_true.mp z
 exact h (of_decide_eq_true e ▸ List.mem_map_of_mem hu)
theorem Xu {α:Type}{l:List (Int×α)}(nd:(l.map (·.1)).Nodup) {i:Nat}{z:Int×α}(h:l[i]? = some z):z.1∉(l.take i).map (·.1):=fun m=>by
 obtain ⟨hi,e⟩:=List.getElem?_eq_some_iff.mp h
 obtain ⟨u,hu,eu⟩:=List.mem_map.mp m
 obtain ⟨j,hj,ej⟩:=List.mem_iff_getElem.mp hu
 rw [List.length_take] at hj
 rw [List.getElem_take] at ej
 have h1:(l.map (·.1))[j]'(by rw [List.length_map];omega)=(l.map (·.1))[i]'(by rw [List.length_map];exact hi):=by rw [List.getElem_map,List.getElem_map,ej,e,eu]
 exact absurd h1 (List.pairwise_iff_getElem.mp nd j i _ _ (by omega))
theorem QB {α:Type}{f:α->V}{l:List (Int×α)}(nd:(l.map (·.1)).Nodup) {i:Nat}{z:Int×α}(h:l[i]? = some z):qA ((l.take i).map fun z=>((.inl z.1,f z.2):Key×V)) (.inl z.1) (f z.2)=(l.take (i+1)).map fun z=>((.inl z.1,f z.2):Key×V):=by
 rw [wF f,VG (Xu nd h),List.take_add_one,h]
 rfl
structure LdN (g0:List (Addr×List (Key×V))) (cl:List (Addr×List (Int×Int))) (i n:Nat) (lds:List (Addr×List (Key×V))):Prop where
 fst:lds.map (·.1)=g0.map (·.1)
 at_:∀ j x,lds[j]? = some x->∃ y,cl[j]? = some y/\x.2=(if j<i then y.2 else if j=i then y.2.take n else []).map kvI
theorem LdN.len {g0 lds:List (Addr×List (Key×V))}{cl:List (Addr×List (Int×Int))}{i n:Nat}(h:LdN g0 cl i n lds):lds.length=g0.length:=by
 have:=congrArg List.length h.fst
 rwa [List.length_map,List.length_map] at this
theorem LdN.next {g0 lds:List (Addr×List (Key×V))}{cl:List (Addr×List (Int×Int))}{i n:Nat}{y:Addr×List (Int×Int)}(h:LdN g0 cl i n lds) (hy:cl[i]? = some y) (hn:y.2.length<=n):LdN g0 cl (i+1) 0 lds:=⟨h.fst,fun j x hx=>by
 obtain ⟨u,hu,e⟩:=h.at_ j x hx
 refine ⟨u,hu,?_⟩
 rw [e]
 by_cases a:j<i
 ·rw [if_pos a,if_pos (by omega)]
 ·rw [if_neg a]
  by_cases b:j=i
  ·subst b
   rw [hy] at hu
   cases hu
   rw [if_pos rfl,if_pos (by omega),List.take_of_length_le hn]
  ·rw [if_neg b,if_neg (by omega)]
   split
   ·rfl
   ·rfl⟩
theorem LdN.put {g0 lds:List (Addr×List (Key×V))}{cl:List (Addr×List (Int×Int))}{i n:Nat}{y:Addr×List (Int×Int)}{z:Int×Int}{a:Addr}{kvs:List (Key×V)}(h:LdN g0 cl i n lds) (hy:cl[i]? = some y) (nd:(y.2.map (·.1)).Nodup) (hz:y.2[n]? = some z) (ha:lds[i]? = some (a,kvs)):LdN g0 cl i (n+1) (yr lds i (qA kvs (.inl z.1) (.int z.2))):=by
 obtain ⟨u,hu,e⟩:=h.at_ i _ ha
 rw [hy] at hu
 cases hu
 rw [if_neg (Nat.lt_irrefl i),if_pos rfl] at e
 have e2:qA kvs (.inl z.1) (.int z.2)=(y.2.take (n+1)).map kvI:=by
  rw [show kvs=(y.2.take n).map kvI from e]
  exact QB (f:=V.int) nd hz
 refine ⟨?_,fun j x hx=>?_⟩
 ·rw [<- h.fst]
  unfold yr
  rw [List.getD_eq_getElem?_getD,ha]
  exact Zx ha
 ·unfold yr at hx
  rw [List.getElem?_set] at hx
  by_cases b:i=j
  ·subst b
   rw [if_pos rfl,if_pos (List.getElem?_eq_some_iff.mp ha).1] at hx
   cases hx
   exact ⟨y,hy,by rw [if_neg (Nat.lt_irrefl i),if_pos rfl];exact e2⟩
  ·rw [if_neg b] at hx
   obtain ⟨u,hu,e⟩:=h.at_ j x hx
   refine ⟨u,hu,?_⟩
   rw [e]
   by_cases c:j<i
   ·rw [if_pos c,if_pos c]
   ·rw [if_neg c,if_neg c,if_neg (fun q=>b q.symm),if_neg (fun q=>b q.symm)]
theorem ScAt.fr {Pt sd:Addr}{H H':Hp}{c:ScN}(S:ScAt H sd c) (T:qy H Pt) (f:Fr3 (fun a=>a=Pt) c.D H H'):ScAt H' sd c:=by
 obtain ⟨ps,hP⟩:=T.ne
 have n:∀ {a:Addr} {o:HO},H a=some o->(∀ ps,o≠.tbl ps)->¬ a=Pt:=fun h q=>jp h hP (q _)
 have nr:∀ {a:Addr} {kvs:List (Key×V)},Rd H a (.dK kvs)->¬ a=Pt:=fun h=>by
  rcases h with h | ⟨o,h⟩
  ·exact n h (by walk_at "w")
  ·exact n h (by walk_at "w")
 exact S.keep f (fun a xs h=>n h (by walk_at "w")) (n S.sd (by walk_at "w")) S.nD (n S.p (by walk_at "w")) (n S.q (by walk_at "w")) (n S.gl (by walk_at "w")) (n S.ll (by walk_at "w")) (fun a h=>by
  obtain ⟨w,a',e,q⟩:=pm S.gi _ h
  cases e
  exact n q (by walk_at "w")) (nr S.sg) fun x hx=>nr (S.ld x hx)
theorem ScAt.inD {H:Hp}{sd a:Addr}{c:ScN}(S:ScAt H sd c) (h:c.D a):∃ o,H a=some o:=by
 have r:∃ kvs,Rd H a (.dK kvs):=by
  rcases h with h | ⟨x,hx,e⟩
  ·exact ⟨_,h ▸ S.sg⟩
  ·exact ⟨_,e ▸ S.ld x hx⟩
 obtain ⟨_,r | ⟨o,r⟩⟩:=r
 ·exact ⟨_,r⟩
 ·exact ⟨_,r⟩
theorem V2 {a:Addr}{kvs:List (Key×V)}{o:Obj}{H H4:Hp}(f:Fz a kvs o H H4):jg H H4:=fun c xs q=>by
 rcases f.2 with rfl | ⟨h,rfl⟩
 ·exact q
 ·exact ZS h c xs q
theorem Gy {N M:Addr->Prop}{a:Addr}{kvs:List (Key×V)}{o:Obj}{H H2 H4:Hp}(f:Fz a kvs o H2 H4) (r:Fr3 N M H H2) (m:M a):Fr3 N M H H4:=by
 rcases f.2 with rfl | ⟨h,rfl⟩
 ·exact r
 ·exact r.frz h m
theorem WS {a Pt:Addr}{kvs:List (Key×V)}{o:Obj}{H H4:Hp}(f:Fz a kvs o H H4) (T:qy H Pt):qy H4 Pt:=by
 rcases f.2 with rfl | ⟨h,rfl⟩
 ·exact T
 ·exact UN T h
structure MdI (C Pt p:Addr) (c:ScN) (H H2:Hp) (g:IceG):Prop where
 I:IceAt C H2 p g
 F:IceFr H p g
 R:Fr3 (fun a=>a=Pt) c.D H H2
 T:qy H2 Pt
theorem MdI.frz {C Pt p sd a:Addr}{c:ScN}{H H2 H4:Hp}{g:IceG}{kvs:List (Key×V)}{o:Obj}(M:MdI C Pt p c H H2 g) (S:ScAt H sd c) (h:c.D a) (f:Fz a kvs o H2 H4):MdI C Pt p c H H4 g:=by
 obtain ⟨_,ha⟩:=S.inD h
 exact ⟨M.I.stay M.F (fun b u hb n=>f.at hb (j1 ha n).symm) (V2 f),M.F,Gy f M.R h,WS f M.T⟩
theorem MdI.same {C Pt p:Addr}{c:ScN}{H H2 H4:Hp}{g:IceG}(M:MdI C Pt p c H H2 g) (s:jj H2 H4):MdI C Pt p c H H4 g:=⟨M.I.same s,M.F,M.R.same s,M.T.same s⟩
theorem LdN.mem {g0 lds:List (Addr×List (Key×V))}{cl:List (Addr×List (Int×Int))}{i n:Nat}(h:LdN g0 cl i n lds) {x:Addr×List (Key×V)}(hx:x∈lds):∃ y∈g0,y.1=x.1:=by
 have:x.1∈g0.map (·.1):=h.fst ▸ List.mem_map_of_mem hx
 obtain ⟨y,hy,e⟩:=List.mem_map.mp this
 exact ⟨y,hy,e⟩
def YI (C Pt:Addr):Sp:=fun vs H Q _=>∃ (sd b:Addr) (c:ScN),vs=[.ref sd]/\ScAt H sd c/\ScOk b c/\qy H Pt /\
 ∀ p H' g,IceAt C H' p g->IceFr H p g->Fr3 (fun a=>a=Pt) c.D H H'->qy H' Pt->g.rs=c.rs->g.rows=c.ts->g.slopes=c.ws.map (jb c.rs)->g.kvs=c.sk.map kvA->g.lds.length=c.lds.length->(∀ (l:Nat) x,g.lds[l]? = some x->∃ y,c.lds[l]? = some y/\x.2=y.2.map kvI)->(∀ x∈g.lds,x.1≠g.ye)->(g.lds.map (·.1)).Nodup->Q (.ref p) H'
theorem xi:FnScope ["_law_scene_here","_law_ice","_law_year_here","_law_lane","_law_leaps"] ["_law_scene_here"] (j8 vB):=by walk_at "s"
theorem Ui {f C CV CR CN CY CW CS Pt:Addr}{fd:FuncData}(nb:Nb2 mg) (cl_Ice:Cls K C) (c_Ice:MakX P w K mg base 8 C "Ice" ["self","reaches","rows"] (YC C CV CR Pt)) (c_Ice__tell:CalMX P w K mg base 2 C "tell" ["self","year","row"] (Vl C CY CW)) (c_Ice__surge:CalMX P w K mg base 2 C "surge" ["self","lane","year","many"] (Zr C CN CY CS)) (F:Fun K "_law_made" "_law_made" vB f fd):FnOk P w K mg base CX0 10 f fd ["_law_scene_here"] (YI C Pt):=by
 refine F.ok xi (fun vs H Q E h=>?_) (fun cdv A outer s H vs Q E hr h=>?_)
 ·obtain ⟨sd,b,c,rfl,_⟩:=h
  rfl
 ·obtain ⟨sd,b,c,rfl,S,O,T,k⟩:=h
  refine ⟨_,(j4 (jm (i:=1) xi.nd rfl (Or.inl rfl) (U1 c_Ice (hr.mono (by decide)) Js rfl (j0 (qp (qw K) rfl nb.b_list PyProof.Rows.boot_list (j0 (jN (qc hr) (pv 0) jG (fun _ _=>rfl)) j2)) (j0 (qp (qw K) rfl nb.b_list PyProof.Rows.boot_list (j0 (jN (qc hr) (pv 0) jG (fun _ _=>rfl)) j2)) j2))))
   (j4 (xb PassesOwn.never rfl (Z8 (jN (qc hr) (pv 0) jG (fun _ _=>rfl))) (ja (i:=2) xi.nd rfl (Or.inl rfl)) (j9 (jO (zy (pv 1) cl_Ice c_Ice__tell (hr.mono (by decide)) Js (j0 (pv 2) (j0 (jN (qc hr) (jN (qc hr) (pv 0) jG (fun _ _=>rfl)) (pv 2) (fun _ _=>rfl)) j2))))))
   (j4 (xb PassesOwn.never rfl (Zo K rfl nb.b_enumerate (j0 (jN (qc hr) (pv 0) jG (fun _ _=>rfl)) j2)) (qk (n:=2) K rfl (jh (ja (i:=3) xi.nd rfl (Or.inl rfl)) (jh (ja (i:=4) xi.nd rfl (Or.inl rfl)) qj))) (j9 (xb PassesOwn.never rfl (Z8 (pv 4)) (ja (i:=2) xi.nd rfl (Or.inl rfl)) (j9 (jO (zy (pv 1) cl_Ice c_Ice__surge (hr.mono (by decide)) Js (j0 (pv 3) (j0 (pv 2) (j0 (jN (qc hr) (pv 4) (pv 2) (fun _ _=>rfl)) j2)))))))))
   (j9 (jk (pv 1)))))),?_⟩
  walk_at "r"
  refine ⟨sd,.ref c.p,rfl,by rw [<- Xl c.p c.q c.sg c.gl c.ll];exact qN.k (k:=.inr "reaches") S.sd,?_⟩
  refine ⟨_,_,rfl,.inl (SqL.of S.p),fun l1 H1 hl1 hl11 s1=>?_⟩
  have S1:=S.same s1
  walk_at "r"
  refine ⟨sd,.ref c.q,rfl,by rw [<- wn c.p c.q c.sg c.gl c.ll];exact qN.k (k:=.inr "rows") S1.sd,?_⟩
  refine ⟨_,_,rfl,.inl (SqL.of S1.q),fun l2 H2 hl2 hl22 s2=>?_⟩
  have S2:=S1.same s2
  have s12:=s1.trans s2
  walk_at "r"
  intro p dx hp hd hdp
  have s3:jj H2 (upd (upd H2 dx (.own p)) p (.ins C dx [])):=fun c u h=>by rw [j5 (j1 h hp),j5 (j1 h hd)];exact h
  have S3:=S2.same s3
  have egr:gr c.ts=true:=by
   have:=O.t1
   have:=O.t2
   unfold gr
   rw [decide_eq_true (by omega),O.tg]
   rfl
  have eg:=O.gr.good O.l1 O.l8
  refine ⟨p,dx,l1,l2,c.xs,c.ys,c.rs,c.ts,rfl,j6,s3 _ _ (s2 _ _ hl11),S3.rv,s3 _ _ hl22,S3.r3,fun r hr=>Nat.le_trans (ZA O.gr r hr) (by decide),Nat.le_trans O.l8 (by decide),Nat.le_trans O.t2 (by decide),(T.same s12).same s3,fun H4 g _ _ I e1 e2 e3 e4 T4=>?_,(fun H' z _ _=>by rw [eg] at z;cases z),(fun H' _ z _ _=>by rw [egr] at z;cases z)⟩
  have I:=I.made hp hd
  obtain ⟨ws,hR,esl⟩:=I.sl2
  rw [e1] at hR esl
  obtain rfl:=hR.unique O.ro
  have F4:IceFr H p g:=⟨s12.free hp,s12.free I.va,s12.free I.cy,s12.free I.sl,s12.free I.ye,s12.free I.le,fun a z=>s12.free (I.zs a z),fun x hx=>s12.free (I.lds x hx).1⟩
  have M4:MdI C Pt p c H H4 g:=⟨I.at_,F4,fun a o h n=>.inl (I.keep a o (s12 _ _ h) (j1 h F4.p) n),T4⟩
  have ll4:g.lds.length=c.lds.length:=by rw [I.ll,esl,List.length_map,O.ldl]
  have nd4:=I.nd
  have ny4:=I.ny
  have kv4:=I.kvs
  have ld4:∀ x∈g.lds,x.2=[]:=fun x hx=>(I.lds x hx).2
  clear I S3 s3 S2 hl22 hl11 S1 T4
  refine ⟨rfl,?_⟩
  have nof:∀ {m:Str},¬ m = "leaps" -> ¬ m = "years" -> ¬ m = "slopes" -> ¬ m = "cycle" -> ¬ m = "valley" -> (uh g.va g.cy g.sl g.ye g.le).lookup m=none:=fun a b c d e=>xj _ _ _ _ _ a b c d e
  have S4:=S.fr T M4.R
  walk_at "r"
  refine ⟨sd,.ref c.sg,rfl,by rw [<- zf c.p c.q c.sg c.gl c.ll];exact qN.k (k:=.inr "single") S4.sd,?_⟩
  have hsgD:c.D c.sg:=.inl rfl
  refine gq (kvs:=c.sk.map kvA) S4.sg (fun o i σ H5=>∃ x:Option V,σ=[some (.ref sd),some (.ref p),x,none,none]/\H5 c.sg=some (.frz o (.dK (c.sk.map kvA)))/\MdI C Pt p c H H5 { g with kvs:=(c.sk.take i).map kvA }) ?_ ?_ ?_ ?_
  ·intro o H5 f5
   refine ⟨none,rfl,f5.1,?_⟩
   have:=M4.frz S hsgD f5
   have e:g={ g with kvs:=(c.sk.take 0).map kvA }:=by
    show g={ g with kvs:=[] }
    rw [<- kv4]
   rw [<- e]
   exact this
  ·rintro o i σ H5 hi ⟨x,rfl,h5,M5⟩
   exact h5
  ·rintro o i u σ H5 hq ⟨x,rfl,h5,M5⟩
   obtain ⟨z,hz,rfl⟩:=G1 hq
   have hm:=List.mem_of_getElem? hz
   have hi:i<c.sk.length:=(List.getElem?_eq_some_iff.mp hz).1
   have h10:=O.k3
   have S5:=S.fr T M5.R
   obtain ⟨r,hr3,hgr⟩:=S5.sk z hm
   obtain ⟨y0,y1⟩:=O.k2 z hm
   show Q5 2 (V.int z.1) _ _ _
   walk_at "r"
   refine ⟨p,g.dx,_,rfl,M5.I.ob,nof (by walk_at "k") (by walk_at "k") (by walk_at "k") (by walk_at "k") (by walk_at "k"),?_⟩
   walk_at "r"
   refine ⟨sd,.ref c.sg,rfl,by rw [<- zf c.p c.q c.sg c.gl c.ll];exact qN.k (k:=.inr "single") S5.sd,?_⟩
   walk_at "r"
   refine ⟨c.sg,.ref z.2,rfl,(by rw [<- J9 O.k1 hm];exact .inl ⟨_,.inl z.1,.inr ⟨o,h5⟩,rfl,rfl⟩),?_⟩
   refine ⟨p,z.2,_,z.1,r,rfl,M5.I,ny4,hr3,(by rw [List.length_map,List.length_take];omega),fun H6 _ _ _ X6 I6=>?_,fun hb=>absurd hb (by omega),fun _ _ hb=>by rw [hgr] at hb;cases hb⟩
   have e:qA ((c.sk.take i).map kvA) (.inl z.1) (.ref z.2)=(c.sk.take (i+1)).map kvA:=QB (f:=V.ref) O.k1 hz
   obtain ⟨_,hsg0⟩:=S.inD hsgD
   refine ⟨_,rfl,X6 _ _ h5 (j1 hsg0 F4.ye),?_⟩
   rw [<- e]
   exact ⟨I6,⟨F4.p,F4.va,F4.cy,F4.sl,F4.ye,F4.le,F4.zs,F4.lds⟩,M5.R.ext X6 F4.ye,Qp M5.T M5.I.ye X6⟩
  ·rintro o σ H5 ⟨x,rfl,h5,M5⟩
   rw [List.length_map,List.take_length] at M5
   have S5:=S.fr T M5.R
   walk_at "r"
   refine ⟨sd,.ref c.ll,rfl,by rw [<- kZ c.p c.q c.sg c.gl c.ll];exact qN.k (k:=.inr "leaps") S5.sd,?_⟩
   walk_at "r"
   refine ⟨⟨_,SqL.of S5.ll⟩,?_⟩
   refine Ve (K:=K) (a:=c.ll) (xs:=c.lds.map fun x=>V.ref x.1) (fun i σ H6=>∃ (x y z:Option V) (lds:List (Addr×List (Key×V))),σ=[some (.ref sd),some (.ref p),x,y,z]/\MdI C Pt p c H H6 { g with kvs:=c.sk.map kvA,lds:=lds }/\LdN g.lds c.lds i 0 lds) ?_ ?_ ?_ ?_
   ·refine ⟨x,none,none,g.lds,rfl,M5,rfl,fun j x hx=>?_⟩
    have hj:=(List.getElem?_eq_some_iff.mp hx).1
    obtain ⟨y,hy⟩:∃ y,c.lds[j]? = some y:=⟨_,List.getElem?_eq_getElem (by omega)⟩
    refine ⟨y,hy,?_⟩
    rw [ld4 x (List.mem_of_getElem? hx),if_neg (Nat.not_lt_zero _)]
    split <;> rfl
   ·rintro i σ H6 hi ⟨x,y,z,lds,rfl,M6,L6⟩
    exact SqL.of (S.fr T M6.R).ll
   ·rintro i v σ H6 t hv ⟨x,y,z,lds,rfl,M6,L6⟩ ht
    rw [List.getElem?_map] at hv
    obtain ⟨⟨a,ns⟩,hy,ev⟩:=Option.map_eq_some_iff.mp hv
    subst ev
    have M7:=M6.same (jj.new (o:=.tup [.int i,.ref a]) ht)
    walk_at "r"
    refine ⟨t,_,rfl,SqT.of j6,rfl,?_⟩
    refine ⟨_,_,rfl,_,_,rfl,rfl,?_⟩
    walk_at "r"
    clear M6
    generalize upd H6 t (.tup [.int i,.ref a])=H7 at *
    have S7:=S.fr T M7.R
    have hm:=List.mem_of_getElem? hy
    have haD:c.D a:=.inr ⟨_,hm,rfl⟩
    obtain ⟨_,ha0⟩:=S.inD haD
    refine gq (kvs:=ns.map kvI) (S7.ld _ hm) (fun o n σ H8=>∃ (x:Option V) (lds:List (Addr×List (Key×V))),σ=[some (.ref sd),some (.ref p),x,some (.int i),some (.ref a)]/\H8 a=some (.frz o (.dK (ns.map kvI)))/\MdI C Pt p c H H8 { g with kvs:=c.sk.map kvA,lds:=lds }/\LdN g.lds c.lds i n lds) ?_ ?_ ?_ ?_
    ·intro o H8 f8
     exact ⟨x,lds,rfl,f8.1,M7.frz S haD f8,L6⟩
    ·rintro o n σ H8 hn ⟨x,lds,rfl,h8,M8,L8⟩
     exact h8
    ·clear L6 M7 S7
     rintro o n u σ H8 hq ⟨x,lds,rfl,h8,M8,L8⟩
     obtain ⟨z,hz,rfl⟩:=WT hq
     have hzm:=List.mem_of_getElem? hz
     obtain ⟨y0,y1,m0,m1⟩:=O.m2 _ hm z hzm
     have hl8:=L8.len
     have hi8:i<lds.length:=by
      have:=(List.getElem?_eq_some_iff.mp hy).1
      omega
     have hsl:g.slopes.length=lds.length:=by rw [esl,List.length_map,hl8,ll4,O.ldl]
     show Q5 2 (V.int z.1) _ _ _
     walk_at "r"
     refine ⟨p,g.dx,_,rfl,M8.I.ob,nof (by walk_at "k") (by walk_at "k") (by walk_at "k") (by walk_at "k") (by walk_at "k"),?_⟩
     walk_at "r"
     refine ⟨a,.int z.2,rfl,(by rw [<- J7 (O.m1 _ hm) hzm,<- uH ns z.1 (List.mem_map_of_mem hzm)];exact .inl ⟨_,.inl z.1,.inr ⟨o,h8⟩,rfl,rfl⟩),?_⟩
     refine ⟨p,_,(i:Int),z.1,z.2,rfl,M8.I,hsl.symm,(fun x hx=>by obtain ⟨y,hy,e⟩:=L8.mem hx;rw [<- e];exact ny4 y hy),(by show (lds.map (·.1)).Nodup;rw [L8.fst];exact nd4),(fun x hx=>?_),fun H9 a9 kvs9 _ _ _ _ _ _ ha9 X9 I9=>?_,(fun hb=>absurd hb (by show ¬ ((i:Int)<0\/(g.slopes.length:Int)<=i);omega)),(fun _ _ hb=>absurd hb (by omega)),fun _ _ _ _ hb=>absurd hb (by omega)⟩
     ·obtain ⟨j,hj,ex⟩:=List.mem_iff_getElem.mp hx
      obtain ⟨y,hy,e⟩:=L8.at_ j x (by rw [List.getElem?_eq_getElem hj,ex])
      have h10:=O.m3 y (List.mem_of_getElem? hy)
      rw [e,List.length_map]
      split
      ·omega
      ·split
       ·rw [List.length_take];omega
       ·exact Nat.zero_le _
     ·have ha9:lds[i]? = some (a9,kvs9):=ha9
      have L9:=L8.put hy (O.m1 _ hm) hz ha9
      have a90:H a9=none:=M8.F.lds _ (List.mem_of_getElem? ha9)
      refine ⟨_,_,rfl,X9 _ _ h8 (j1 ha0 a90),⟨I9,⟨F4.p,F4.va,F4.cy,F4.sl,F4.ye,F4.le,F4.zs,fun x hx=>?_⟩,M8.R.ext X9 a90,Qp M8.T (M8.I.lds _ (List.mem_of_getElem? ha9)) X9⟩,L9⟩
      obtain ⟨y,hy,e⟩:=L9.mem hx
      rw [<- e]
      exact F4.lds y hy
    ·rintro o σ H8 ⟨x,lds,rfl,h8,M8,L8⟩
     exact ⟨x,_,_,lds,rfl,M8,L8.next hy (by rw [List.length_map];exact Nat.le_refl _)⟩
   ·rintro σ H6 ⟨x,y,z,lds,rfl,M6,L6⟩
    walk_at "r"
    refine k p H6 _ M6.I M6.F M6.R M6.T e1 e2 esl rfl (L6.len.trans ll4) (fun l x hx=>?_) (fun x hx=>?_) (by show (lds.map (·.1)).Nodup;rw [L6.fst];exact nd4)
    ·obtain ⟨y,hy,e⟩:=L6.at_ l x hx
     refine ⟨y,hy,?_⟩
     rw [e,if_pos (by rw [List.length_map];exact (List.getElem?_eq_some_iff.mp hy).1)]
    ·obtain ⟨y,hy,e⟩:=L6.mem hx
     rw [<- e]
     exact ny4 y hy
theorem uO {rs:List Rch}(h:zu rs=true):1<=rs.length/\rs.length<=8/\uy rs=true/\∀ ws,jX rs ws->∀ w∈ws,(jb rs w).length<=30:=by
 unfold zu at h
 rw [Bool.and_eq_true,Bool.and_eq_true,Bool.and_eq_true] at h
 obtain ⟨h1,h2,_,h4⟩:=h
 have h1:=of_decide_eq_true h1
 refine ⟨by omega,by omega,h2,fun ws hR w hw=>?_⟩
 obtain ⟨x,hx,e⟩:=hR.mem hw
 have:=of_decide_eq_true (List.all_eq_true.mp h4 x hx)
 have g:=wR rs w
 rw [<- e] at this
 omega
theorem wL {rs:List Rch}(G:Grown rs) {ws:List (List Int)}(R:jX rs ws) {w:List Int}(hw:w∈ws):1<=(jb rs w).length:=by
 obtain ⟨x,hx,e⟩:=R.mem hw
 have hl:=xw hx
 have o:=JP G.ok (List.getElem?_eq_getElem hl)
 unfold okR at o
 rw [Bool.and_eq_true,Bool.and_eq_true] at o
 have o:=of_decide_eq_true o.1.2
 have eh:zG rs ((x:Int)).toNat=(rs[x]'hl).2:=by
  unfold zG
  rw [Int.toNat_natCast,List.getD_eq_getElem?_getD,List.getElem?_eq_getElem hl]
  rfl
 rw [e,zt (jZ G.ok) hl]
 unfold jb
 rw [List.map_cons,List.flatten_cons,List.length_append,eh]
 omega
theorem Uc {L b Pt:Addr}{Ha Hb:Hp}(B:qd L Ha b) (e:Ext b Ha Hb) (T:qy Ha Pt):qy Hb Pt:=by
 obtain ⟨ns,a,r,c,d,h1,_⟩:=B
 exact T.ext h1 e
structure Lw (C L b sd p:Addr) (c:ScN) (g:IceG) (H0 H:Hp):Prop where
 B:qd L H b
 S:ScAt H sd c
 I:IceAt C H p g
 O:ScOk b c
 F:IceFr H0 p g
 B0:qd L H0 b
 S0:ScAt H0 sd c
theorem Lw.same {C L b sd p:Addr}{c:ScN}{g:IceG}{H0 H H':Hp}(W:Lw C L b sd p c g H0 H) (s:jj H H'):Lw C L b sd p c g H0 H':=⟨W.B.same s,W.S.same s,W.I.same s,W.O,W.F,W.B0,W.S0⟩
theorem Lw.take {C L b sd p:Addr}{c:ScN}{g:IceG}{H0 H H':Hp}(W:Lw C L b sd p c g H0 H) (B:qd L H' b) (X:Ext b H H'):Lw C L b sd p c g H0 H' :=
 ⟨B,W.S.ext W.O W.B X,W.I.stay W.F (fun a o h n=>X a o h (W.B0.ne n)) (zQ W.B X),W.O,W.F,W.B0,W.S0⟩
theorem Lw.start {C L b sd p Pt:Addr}{c:ScN}{g:IceG}{H2 H3:Hp}(S2:ScAt H2 sd c) (O:ScOk b c) (B2:qd L H2 b) (T2:qy H2 Pt) (I3:IceAt C H3 p g) (F3:IceFr H2 p g) (R3:Fr3 (fun a=>a=Pt) c.D H2 H3):Lw C L b sd p c g H2 H3:=by
 refine ⟨?_,S2.fr T2 R3,I3,O,F3,B2,S2⟩
 obtain ⟨ps,hP⟩:=T2.ne
 obtain ⟨ns,a,r,c,d,h1,h2,h3,h4⟩:=B2
 exact ⟨ns,a,r,c,d,R3.at h1 (jp h1 hP (by walk_at "z")) (by walk_at "w"),h2,R3.at h3 (jp h3 hP (by walk_at "z")) (by walk_at "w"),h4⟩
structure Lk (c:ScN) (g:IceG):Prop where
 rs:g.rs=c.rs
 rows:g.rows=c.ts
 sl:g.slopes=c.ws.map (jb c.rs)
 kv:g.kvs=c.sk.map kvA
 ll:g.lds.length=c.lds.length
 ld:∀ (l:Nat) x,g.lds[l]? = some x->∃ y,c.lds[l]? = some y/\x.2=y.2.map kvI
 ny:∀ x∈g.lds,x.1≠g.ye
 nd:(g.lds.map (·.1)).Nodup
structure LaneF (c:ScN) (g:IceG) (ln:Int) (wy:List Int) (da:Addr) (dn:List (Int×Int)):Prop where
 way:c.ws[ln.toNat]? = some wy
 sl:g.slopes.getD ln.toNat []=jb c.rs wy
 g1:1<=(jb c.rs wy).length
 g30:(jb c.rs wy).length<=30
 cd:c.lds[ln.toNat]? = some (da,dn)
 D:c.D da
 nd:(dn.map (·.1)).Nodup
 b:∀ q∈dn,0<=q.1/\q.1<=99/\1<=q.2/\q.2<=9
 l10:dn.length<=10
 at_:ZP g ln dn
 l0:0<=ln
 l1:ln<(g.slopes.length:Int)
theorem Lk.lane {b:Addr}{c:ScN}{g:IceG}(k:Lk c g) (O:ScOk b c) {ln:Int}(h0:0<=ln) (h1:ln<(c.ws.length:Int)):∃ wy da dn,LaneF c g ln wy da dn:=by
 have hi:ln.toNat<c.ws.length:=by omega
 have hwy:=List.getElem?_eq_getElem hi
 have hgs:g.slopes[ln.toNat]? = some (jb c.rs (c.ws[ln.toNat]'hi)):=by rw [k.sl,List.getElem?_map,hwy];rfl
 have hl:g.slopes.length=c.ws.length:=by rw [k.sl,List.length_map]
 obtain ⟨⟨da,dn⟩,hda⟩:∃ z,c.lds[ln.toNat]? = some z:=⟨_,List.getElem?_eq_getElem (by rw [O.ldl];omega)⟩
 have hdm:=List.mem_of_getElem? hda
 obtain ⟨⟨da2,dk⟩,hda2⟩:∃ z,g.lds[ln.toNat]? = some z:=⟨_,List.getElem?_eq_getElem (by rw [k.ll,O.ldl];omega)⟩
 obtain ⟨_,q1,q2⟩:=k.ld _ _ hda2
 rw [hda] at q1
 cases q1
 obtain rfl:dk=dn.map kvI:=q2
 have hm:=List.getElem_mem hi
 have h10:dn.length<=10:=O.m3 _ hdm
 exact ⟨_,da,dn,hwy,by rw [List.getD_eq_getElem?_getD,hgs];rfl,wL O.gr O.ro hm,(uO (O.gr.good O.l1 O.l8)).2.2.2 c.ws O.ro _ hm,hda,.inr ⟨_,hdm,rfl⟩,O.m1 _ hdm,O.m2 _ hdm,h10,⟨h0,by omega,⟨da2,hda2⟩,O.m1 _ hdm,by omega,fun q hq=>by have:=O.m2 _ hdm q hq;omega⟩,h0,by omega⟩
theorem LaneF.pos {c:ScN}{g:IceG}{ln:Int}{wy:List Int}{da:Addr}{dn:List (Int×Int)}(L:LaneF c g ln wy da dn):∀ q∈dn,0<=q.1/\0<=q.2:=fun q hq=>by have:=L.b q hq;omega
theorem XQ {ns:List (Int×Int)}(h:∀ q∈ns,0<=q.2) {y z:Int}(yz:y<=z):jx ns y<=jx ns z:=by
 induction ns with
 | nil=>exact Int.le_refl _
 | cons q r ih =>
  rw [jR,jR]
  have a:=h q (List.mem_cons_self ..)
  have b:=ih fun z hz=>h z (List.mem_cons_of_mem _ hz)
  by_cases e:q.1<=y
  ·rw [if_pos e,if_pos (by omega)];omega
  ·rw [if_neg e]
   split <;> omega
theorem uq {ns ms:List (Int×Int)}(p:ms.Perm ns) (s:(ms.map (·.1)).Pairwise (· <= ·)) (nd:(ns.map (·.1)).Nodup) (h:∀ q∈ns,0<=q.1/\0<=q.2) (one len y:Int) (hy:0<=y):(0<=y+jx ns y-one/\y+jx ns y-one<len)↔(jv 0 0 ms one<=y/\y<jv 0 0 ms (one+len)):=by
 have hm:∀ q∈ms,0<=q.1/\0<=q.2:=fun q hq=>h q (p.mem_iff.mp hq)
 have ndm:(ms.map (·.1)).Nodup:=(p.map (·.1)).nodup_iff.mpr nd
 have st:=qK s ndm
 have key:∀ goal:Int,(goal<=y+jx ns y↔jv 0 0 ms goal<=y):=fun goal=>by
  have:=uD ms 0 0 goal y hm st hy
  rw [xg p,Int.add_zero] at this
  exact this
 have a:=key one
 have b:=key (one+len)
 constructor
 ·rintro ⟨c,d⟩
  refine ⟨a.mp (by omega),?_⟩
  have:=mt b.mpr (by omega)
  omega
 ·rintro ⟨c,d⟩
  have a':=a.mpr c
  have b':=mt b.mp (by omega)
  omega
theorem yv {ns ms:List (Int×Int)}(p:ms.Perm ns) (s:(ms.map (·.1)).Pairwise (· <= ·)) (h:∀ q∈ns,0<=q.1/\0<=q.2) (goal:Int):0<=jv 0 0 ms goal:=kQ ms 0 0 goal (fun q hq=>(h q (p.mem_iff.mp hq)).1) s
theorem Za {ns ms:List (Int×Int)}(p:ms.Perm ns) (s:(ms.map (·.1)).Pairwise (· <= ·)) (nd:(ns.map (·.1)).Nodup) (h:∀ q∈ns,0<=q.1/\0<=q.2) (one len:Int) (hl:jv 0 0 ms one<jv 0 0 ms (one+len)):jv 0 0 ms (one+len)-1-jv 0 0 ms one<len:=by
 have f0:=yv p s h one
 have a:=(uq p s nd h one len _ f0).mpr ⟨Int.le_refl _,hl⟩
 have b:=(uq p s nd h one len (jv 0 0 ms (one+len)-1) (by omega)).mpr ⟨by omega,by omega⟩
 have m:=XQ (fun q hq=>(h q hq).2) (y:=jv 0 0 ms one) (z:=jv 0 0 ms (one+len)-1) (by omega)
 omega
def V4:Sp:=fun vs H Q _=>∃ (L b sd:Addr) (c:ScN),vs=[.ref b,.ref sd]/\qd L H b/\ScAt H sd c/\ScOk b c/\1<=c.ws.length/\c.ws.length<=6/\(∀ w∈c.ws,1<=(jb c.rs w).length/\(jb c.rs w).length<=30) /\
 ∀ (ln n:Int) (w:List Int) (t:Addr) (H':Hp),0<=ln->ln<(c.ws.length:Int)->c.ws[ln.toNat]? = some w->0<=n->n<((jb c.rs w).length:Int)->qd L H' b->Ext b H H'->H t=none->H' t=some (.tup [.int ln,.int n])->Q (.ref t) H'
theorem uR:FnScope ["_law_box_here","_law_scene_here","_law_lane"] ["_law_box_here","_law_scene_here"] (j8 vn):=by walk_at "s"
theorem VU {f:Addr}{fd:FuncData}(nb:Nb2 mg) (c_law_take:Cal P w K mg base 2 "_law_take" ["_law_box_here","_law_size"] zd) (F:Fun K "_law_spot" "_law_spot" vn f fd):FnOk P w K mg base CX0 3 f fd ["_law_box_here","_law_scene_here"] V4:=by
 refine F.ok uR (fun vs H Q E h=>?_) (fun cdv A outer s H vs Q E hr h=>?_)
 ·obtain ⟨L,b,sd,c,rfl,_⟩:=h
  rfl
 ·obtain ⟨L,b,sd,c,rfl,B,S,O,hw1,hw6,hg,k⟩:=h
  have hzl:c.zs.length=c.ws.length:=(Paired.length S.gi).trans (List.length_map _)
  refine ⟨_,(j4 (jm (i:=2) uR.nd rfl (Or.inl rfl) (jc c_law_take (hr.mono (by decide)) rfl (j0 (pv 0) (j0 (jf (ji K) rfl nb.b_len PySem.boot_len (j0 (jN (qc hr) (pv 1) jG (fun _ _=>rfl)) j2)) j2))))
   (j9 (jk (qm (j0 (pv 2) (j0 (jc c_law_take (hr.mono (by decide)) rfl (j0 (pv 0) (j0 (jf (ji K) rfl nb.b_len PySem.boot_len (j0 (jt (je K) (jN (qc hr) (pv 1) jG (fun _ _=>rfl)) (pv 2) (fun _ _=>rfl)) j2)) j2))) j2)))))),?_⟩
  walk_at "r"
  refine ⟨sd,.ref c.gl,rfl,by rw [<- zn c.p c.q c.sg c.gl c.ll];exact qN.k (k:=.inr "grounds") S.sd,?_⟩
  walk_at "r"
  refine ⟨c.gl,_,rfl,.inl (SqL.of S.gl),?_⟩
  walk_at "r"
  refine ⟨L,b,_,rfl,B,⟨by omega,by omega⟩,fun ln H1 ln0 ln1 B1 X1=>?_⟩
  have S1:=S.ext O B X1
  have hi:ln.toNat<c.zs.length:=by omega
  obtain ⟨gw,hgw,ga,ega,hga⟩:=Paired.get S1.gi (List.getElem?_eq_getElem hi)
  rw [List.getElem?_map] at hgw
  obtain ⟨wy,hwy,rfl⟩:=Option.map_eq_some_iff.mp hgw
  have hgb:=hg wy (List.mem_of_getElem? hwy)
  walk_at "r"
  refine ⟨sd,.ref c.gl,rfl,by rw [<- zn c.p c.q c.sg c.gl c.ll];exact qN.k (k:=.inr "grounds") S1.sd,?_⟩
  walk_at "r"
  refine ⟨_,_,_,_,rfl,rfl,SqL.of S1.gl,qW ln0 (v:=V.ref ga) (by rw [List.getElem?_eq_getElem hi,ega]),?_⟩
  walk_at "r"
  refine ⟨ga,_,rfl,.inl (SqL.of hga),?_⟩
  rw [List.length_map]
  walk_at "r"
  refine ⟨L,b,_,rfl,B1,⟨by omega,by omega⟩,fun n H2 n0 n1 B2 X2=>?_⟩
  walk_at "r"
  refine ⟨by show 2<=sizeLine;decide,fun t H3 ht ht3 s3=>?_⟩
  have tb:t≠b:=B2.ne ht
  exact k ln n wy t H3 ln0 (by omega) hwy n0 n1 (B2.same s3) ((X1.trans X2).trans (Ext.of_same s3)) (X1.free (X2.free ht tb) tb) ht3
end
section
variable {P:Program}{w:World}{K:PySem.W.Frag}{mg:Str->Option Value}{base:Heap}
def chg (t:T3) (h:Int):Int:=if t.1<=h then t.2.1 else-t.2.2
def QG:Sp:=fun vs H Q _=>∃ (p:Addr) (t:T3) (h:Int),vs=[.ref p,.int h]/\H p=some (y3 t)/\Q (.int (chg t h)) H
theorem yG:FnScope ["row","height","line","snow","sun"] ["row","height"] (j8 kB):=by walk_at "s"
theorem Y1 {f:Addr}{fd:FuncData}(F:Fun K "change" "change" kB f fd):FnOk P w K mg base CX0 1 f fd ["row","height"] QG:=by
 refine F.ok yG (fun vs H Q E h=>?_) (fun cdv A outer s H vs Q E hr h=>?_)
 ·obtain ⟨p,t,h,rfl,_⟩:=h
  rfl
 ·obtain ⟨p,t,h,rfl,hp,k⟩:=h
  unfold chg at k
  refine ⟨_,(j4 (xY (pv 0) (qk (n:=3) K rfl (jh (ja (i:=2) yG.nd rfl (Or.inl rfl)) (jh (ja (i:=3) yG.nd rfl (Or.inl rfl)) (jh (ja (i:=4) yG.nd rfl (Or.inl rfl)) qj)))))
   (j4 (jV (jD VL (pv 1) (pv 2) (jI _)) (j9 (jk (pv 3))) jy)
   (j9 (jk (yZ zF (pv 4)))))),?_⟩
  walk_at "r"
  refine ⟨p,_,rfl,SqT.of hp,rfl,?_⟩
  refine ⟨_,_,rfl,_,_,rfl,_,_,rfl,rfl,?_⟩
  walk_at "r"
  refine qB (fun h1=>?_) (fun h1=>?_)
  ·walk_at "r"
   rw [if_pos h1] at k
   exact k
  ·walk_at "r"
   rw [if_neg h1] at k
   exact k
def Vk:Sp:=fun vs H Q _=>∃ (p:Addr) (t:T3) (h:Int),vs=[.ref p,.int h]/\H p=some (y3 t)/\Q (.int (chg t h)) H
theorem Qm:FnScope ["_law_row_here","_law_height"] ["_law_row_here","_law_height"] (j8 vv):=by walk_at "s"
theorem UB {f:Addr}{fd:FuncData}(F:Fun K "_law_wish" "_law_wish" vv f fd):FnOk P w K mg base CX0 1 f fd ["_law_row_here","_law_height"] Vk:=by
 refine F.ok Qm (fun vs H Q E h=>?_) (fun cdv A outer s H vs Q E hr h=>?_)
 ·obtain ⟨p,t,h,rfl,_⟩:=h
  rfl
 ·obtain ⟨p,t,h,rfl,hp,k⟩:=h
  unfold chg at k
  have hp:H p=some (.tup [.int t.1,.int t.2.1,.int t.2.2]):=hp
  refine ⟨_,(j4 (jV (jD yV (pv 1) (jt (qL K) (pv 0) j7 (fun _ _=>rfl)) (jI _)) (j9 (jk (jn qT j7 (jt (qL K) (pv 0) j7 (fun _ _=>rfl))))) jy)
   (j9 (jk (jt (qL K) (pv 0) j7 (fun _ _=>rfl))))),?_⟩
  walk_at "r"
  refine qB (fun h1=>?_) (fun h1=>?_)
  ·walk_at "r"
   rw [if_neg (by omega),show-t.2.2=0-t.2.2 by omega] at k
   exact k
  ·walk_at "r"
   rw [if_pos (by omega)] at k
   exact k
def xX (H:Hp) (sk:List (Int×Addr)) (wr:List (Int×T3)):Prop:=Paired (fun (z:Int×Addr) (q:Int×T3)=>z.1=q.1/\H z.2=some (y3 q.2)) sk wr
theorem xX.keep {H H':Hp}{sk:List (Int×Addr)}{wr:List (Int×T3)}(h:xX H sk wr) (t:jg H H'):xX H' sk wr:=Paired.mapP h fun _ _ ⟨e,q⟩=>⟨e,t _ _ q⟩
theorem xX.of {H:Hp}:∀ {sk:List (Int×Addr)},(∀ z∈sk,∃ t,H z.2=some (y3 t)/\good t=true)->∃ wr,xX H sk wr
 | [],_=>⟨[],.nil⟩
 | z::r,h=>by
  obtain ⟨t,ht,_⟩:=h z (List.mem_cons_self ..)
  obtain ⟨wr,hw⟩:=xX.of (sk:=r) fun u hu=>h u (List.mem_cons_of_mem _ hu)
  exact ⟨(z.1,t)::wr,.cons ⟨rfl,ht⟩ hw⟩
def xV (wr:List (Int×T3)) (ts:List T3) (y:Int):T3 :=
 match wr.find? fun q=>decide (q.1=y) with
 | some q=>q.2
 | none=>ts.getD (y % (ts.length:Int)).toNat (0,0,0)
theorem wD {H:Hp}:∀ {sk:List (Int×Addr)}{wr:List (Int×T3)},xX H sk wr->∀ y:Int,
  (∃ a q,qE (sk.map kvA) (.inl y)=some (.ref a)/\(wr.find? fun q=>decide (q.1=y))=some q/\H a=some (y3 q.2))\/(qE (sk.map kvA) (.inl y)=none/\(wr.find? fun q=>decide (q.1=y))=none)
 | _,_,.nil,y=>.inr ⟨rfl,rfl⟩
 | z::sk,q::wr,.cons ⟨e,h⟩ r,y=>by
  rw [List.map_cons]
  by_cases c:z.1=y
  ·subst c
   exact .inl ⟨z.2,q,xk,by rw [List.find?_cons_of_pos (by rw [decide_eq_true e.symm])],h⟩
  ·have e1:qE (kvA z::sk.map kvA) (.inl y)=qE (sk.map kvA) (.inl y):=ju fun w=>c (Sum.inl.inj w)
   have e2:((q::wr).find? fun q=>decide (q.1=y))=wr.find? fun q=>decide (q.1=y):=List.find?_cons_of_neg (by rw [decide_eq_false (by rw [<- e];exact c)];exact Bool.false_ne_true)
   rw [e1,e2]
   exact wD r y
theorem YR {H:Hp}{ys:List V}{ts:List T3}(r:jo H ys ts) (h1:1<=ts.length) (y:Int):∃ a,atI ys (y % (ys.length:Int))=some (.ref a)/\H a=some (y3 (ts.getD (y % (ts.length:Int)).toNat (0,0,0))):=by
 have hl:ys.length=ts.length:=r.length
 have n0:(0:Int)<ts.length:=by omega
 have m0:=Int.emod_nonneg y (show (ts.length:Int)≠0 by omega)
 have m1:=Int.emod_lt_of_pos y n0
 have hi:(y % (ts.length:Int)).toNat<ys.length:=by omega
 obtain ⟨t,ht,a,ea,ha⟩:=r.get (List.getElem?_eq_getElem hi)
 refine ⟨a,?_,?_⟩
 ·rw [hl]
  exact qW m0 (by rw [List.getElem?_eq_getElem hi,ea])
 ·rw [List.getD_eq_getElem?_getD,ht]
  exact ha
def UU (C:Addr):Sp:=fun vs H Q _=>∃ (p:Addr) (g:IceG) (y:Int) (sk:List (Int×Addr)) (wr:List (Int×T3)),vs=[.ref p,.int y]/\IceAt C H p g/\g.kvs=sk.map kvA/\xX H sk wr/\1<=g.rows.length/\g.rows.length<=1000/\∀ t,H t=some (y3 (xV wr g.rows y))->Q (.ref t) H
theorem QL:FnScope ["self","year"] ["self","year"] (j8 vD):=by walk_at "s"
theorem Qz {f C:Addr}{fd:FuncData}(nb:Nb2 mg) (T:IceC K C) (F:Fun K "sky" "Ice.sky" vD f fd):FnOk P w K mg base CX0 1 f fd ["self","year"] (UU C):=by
 refine F.ok QL (fun vs H Q E h=>?_) (fun cdv A outer s H vs Q E hr h=>?_)
 ·obtain ⟨p,g,y,sk,wr,rfl,_⟩:=h
  rfl
 ·obtain ⟨p,g,y,sk,wr,rfl,I,ek,hw,h1,h2,k⟩:=h
  have hye:H g.ye=some (.dK (sk.map kvA)):=by rw [<- ek];exact I.ye
  obtain ⟨ra,hra,hrow⟩:=YR I.rows h1 y
  refine ⟨_,(j9 (jk (QM (qc hr) (x5 K (pv 0)) (pv 1) (jt (je K) (x5 K (pv 0)) (jn xW (pv 1) (jf (ji K) rfl nb.b_len PySem.boot_len (j0 (x5 K (pv 0)) j2))) (fun _ _=>rfl)) ⟨rfl,rfl,rfl,rfl⟩))),?_⟩
  walk_at "r"
  refine ⟨p,C,g.dx,_,_,rfl,I.ob,T.cl,T.nY,kh _ _ _ _ _,?_⟩
  walk_at "r"
  refine ⟨.inl ⟨_,.inl hye⟩,?_⟩
  walk_at "r"
  refine ⟨p,C,g.dx,_,_,rfl,I.ob,T.cl,T.nC,wv _ _ _ _ _,?_⟩
  walk_at "r"
  refine ⟨p,C,g.dx,_,_,rfl,I.ob,T.cl,T.nC,wv _ _ _ _ _,?_⟩
  walk_at "r"
  refine ⟨g.cy,_,rfl,.inl (SqL.of I.cy),?_⟩
  have hl:g.ys.length=g.rows.length:=I.rows.length
  walk_at "r"
  refine ⟨_,_,_,_,rfl,rfl,SqL.of I.cy,hra,?_⟩
  rcases wD hw y with ⟨a,q,e1,e2,h⟩ | ⟨e1,e2⟩
  ·refine ⟨some (.ref a),by rw [<- e1];exact qN.k (k:=.inl y) hye,?_⟩
   exact k a (by unfold xV;rw [e2];exact h)
  ·refine ⟨none,by rw [<- e1];exact qN.k (k:=.inl y) hye,?_⟩
   exact k ra (by unfold xV;rw [e2];exact hrow)
def Vw:Sp:=fun vs H Q _=>∃ (sd:Addr) (c:ScN) (y:Int) (wr:List (Int×T3)),vs=[.ref sd,.int y]/\ScAt H sd c/\xX H c.sk wr/\1<=c.ts.length/\c.ts.length<=1000/\∀ t,H t=some (y3 (xV wr c.ts y))->Q (.ref t) H
theorem QS:FnScope ["_law_scene_here","_law_year_here"] ["_law_scene_here","_law_year_here"] (j8 uB):=by walk_at "s"
theorem Wa {f:Addr}{fd:FuncData}(nb:Nb2 mg) (F:Fun K "_law_row" "_law_row" uB f fd):FnOk P w K mg base CX0 1 f fd ["_law_scene_here","_law_year_here"] Vw:=by
 refine F.ok QS (fun vs H Q E h=>?_) (fun cdv A outer s H vs Q E hr h=>?_)
 ·obtain ⟨sd,c,y,wr,rfl,_⟩:=h
  rfl
 ·obtain ⟨sd,c,y,wr,rfl,S,hw,h1,h2,k⟩:=h
  refine ⟨_,(j4 (jV (Wd (WZ (qc hr) (pv 1) (jN (qc hr) (pv 0) jG (fun _ _=>rfl))) (by with_unfolding_all rfl)) (j9 (jk (jN (qc hr) (jN (qc hr) (pv 0) jG (fun _ _=>rfl)) (pv 1) (fun _ _=>rfl)))) jy)
   (j9 (jk (jt (je K) (jN (qc hr) (pv 0) jG (fun _ _=>rfl)) (jn xW (pv 1) (jf (ji K) rfl nb.b_len PySem.boot_len (j0 (jN (qc hr) (pv 0) jG (fun _ _=>rfl)) j2))) (fun _ _=>rfl))))),?_⟩
  obtain ⟨ra,hra,hrow⟩:=YR S.r3 h1 y
  walk_at "r"
  refine ⟨sd,.ref c.sg,rfl,by rw [<- zf c.p c.q c.sg c.gl c.ll];exact qN.k (k:=.inr "single") S.sd,?_⟩
  rcases wD hw y with ⟨a,q,e1,e2,h⟩ | ⟨e1,e2⟩
  ·refine ⟨c.sg,some (.ref a),rfl,.inl ⟨_,.inl y,S.sg,rfl,e1.symm⟩,?_⟩
   walk_at "r"
   refine ⟨sd,.ref c.sg,rfl,by rw [<- zf c.p c.q c.sg c.gl c.ll];exact qN.k (k:=.inr "single") S.sd,?_⟩
   walk_at "r"
   refine ⟨c.sg,.ref a,rfl,.inl ⟨_,.inl y,S.sg,rfl,e1.symm⟩,?_⟩
   exact k a (by unfold xV;rw [e2];exact h)
  ·refine ⟨c.sg,none,rfl,.inl ⟨_,.inl y,S.sg,rfl,e1.symm⟩,?_⟩
   have hl:c.ys.length=c.ts.length:=S.r3.length
   walk_at "r"
   refine ⟨sd,.ref c.q,rfl,by rw [<- wn c.p c.q c.sg c.gl c.ll];exact qN.k (k:=.inr "rows") S.sd,?_⟩
   walk_at "r"
   refine ⟨sd,.ref c.q,rfl,by rw [<- wn c.p c.q c.sg c.gl c.ll];exact qN.k (k:=.inr "rows") S.sd,?_⟩
   walk_at "r"
   refine ⟨c.q,_,rfl,.inl (SqL.of S.q),?_⟩
   walk_at "r"
   refine ⟨_,_,_,_,rfl,rfl,SqL.of S.q,hra,?_⟩
   exact k ra (by unfold xV;rw [e2];exact hrow)
end
end K18
end
section
namespace L2
open PySem PySem.Spec PySem.W PyProof.Rows
abbrev Cx.noX (X:Cx):Cx:={ X with xe:=fun _ _=>False }
section
variable {X:Cx}{pins:List (Addr×Obj)}{σ:St}{H:Hp}{s:Shared}
theorem Inv.toNoX (I:Inv X pins σ H s):Inv X.noX pins σ H s:=⟨okP I.ok _ rfl,I.os,I.bare,I.base,I.loc,I.cell,I.free,I.freeC,I.pin,I.hok,I.len⟩
theorem Inv.ofNoX (I:Inv X.noX pins σ H s):Inv X pins σ H s:=⟨okP I.ok _ rfl,I.os,I.bare,I.base,I.loc,I.cell,I.free,I.freeC,I.pin,I.hok,I.len⟩
theorem Vj {st:Stmt}{t:TS}(h:PS X.noX st t):PS X st t:=fun pins s σ H D I q=>thn (wpAny_noRaise (h pins s σ H D I.toNoX q)) fun _ _ z=>spOf (fun I=>I.ofNoX) z
end
end L2
end
section
namespace K18
open PySem PySem.Spec PyProof.Rows L2
local macro_rules | `(tactic| walk_at "hp")=>`(tactic| first | assumption | exact j6 | (rw [j5 (by first | assumption | (apply Ne.symm;assumption))];first | assumption | exact j6))
local macro_rules | `(tactic| walk_at "num")=>`(tactic| first | decide | omega)
local macro_rules | `(tactic| walk_at "rd1")=>`(tactic| first | refine ⟨_,rfl,?_⟩ | refine ⟨_,_,rfl,rfl,?_⟩ | refine And.intro (show JA _ _ from Or.inr ⟨by walk_at "num",by walk_at "num"⟩) ?_ | refine And.intro (show JA _ _ from Or.inl ⟨by walk_at "num",by walk_at "num"⟩) ?_ | refine And.intro (show Zb _ _ from ⟨by walk_at "num",by walk_at "num"⟩) ?_ | refine And.intro (show VW _ _ from ⟨by walk_at "num",by walk_at "num",by walk_at "num"⟩) ?_ | refine And.intro (show (0:Int)<_ by walk_at "num") ?_ | refine ⟨_,_,_,_,rfl,rfl,SqL.of (by walk_at "hp"),(by rfl),?_⟩ | refine ⟨_,_,_,_,rfl,rfl,SqT.of (by walk_at "hp"),(by rfl),?_⟩ | refine ⟨_,_,_,_,rfl,rfl,(by assumption),(by rfl),?_⟩ | refine ⟨_,_,_,_,rfl,rfl,(by walk_at "hp"),(by rfl),?_⟩ | refine ⟨rfl,?_⟩)
local macro_rules | `(tactic| walk_at "r")=>`(tactic| repeat walk_at "rd1")
local macro_rules | `(tactic| walk_at "s")=>`(tactic| exact ⟨rfl,rfl,rfl,by decide +kernel,rfl,by decide +kernel,by decide +kernel⟩)
local macro_rules | `(tactic| walk_at "k")=>`(tactic| decide +kernel)
local macro_rules | `(tactic| walk_at "w")=>`(tactic| (intro _ z;cases z))
local macro_rules | `(tactic| walk_at "z")=>`(tactic| (intro z;cases z))
section
variable {P:Program}{w:World}{K:PySem.W.Frag}{mg:Str->Option Value}{base:Heap}
abbrev Q4:=Int×Int×Int×Int
abbrev tup4 (q:Q4):HO:=.tup [.int q.1,.int q.2.1,.int q.2.2.1,.int q.2.2.2]
def qY (H:Hp) (out:List V) (qs:List Q4):Prop:=Paired (fun v (q:Q4)=>∃ b,v=V.ref b/\H b=some (tup4 q)) out qs
theorem qY.keep {H H':Hp}{out:List V}{qs:List Q4}(h:qY H out qs) (t:jg H H'):qY H' out qs:=Paired.mapP h fun _ _ ⟨b,e,q⟩=>⟨b,e,t _ _ q⟩
def WP (q:Q4):PyData:=.tuple [.int q.1,.int q.2.1,.int q.2.2.1,.int q.2.2.2]
theorem qY.dat {H:Hp}:∀ {out:List V}{qs:List Q4},qY H out qs->DatL H out (qs.map WP)
 | _,_,.nil=>.nil
 | _,_,.cons ⟨b,e,h⟩ r=>by
  subst e
  exact .cons (.tup h (.cons (.int _) (.cons (.int _) (.cons (.int _) (.cons (.int _) .nil))))) (qY.dat r)
def plc (ns:List (Int×Int)) (m y:Int):Int:=y+jx ns y-m
def xz (ns:List (Int×Int)) (gd:List Int) (wr:List (Int×T3)) (ts:List T3) (m y:Int):Int:=chg (xV wr ts y) (gd.getD (plc ns m y).toNat 0)
def yg (ns:List (Int×Int)) (gd:List Int) (wr:List (Int×T3)) (ts:List T3) (m fst:Int):Nat->Int
 | 0=>0
 | i+1=>yg ns gd wr ts m fst i+(if xz ns gd wr ts m (fst+(i:Int)) > - yg ns gd wr ts m fst i then xz ns gd wr ts m (fst+(i:Int)) else-yg ns gd wr ts m fst i)
def x4 (ns:List (Int×Int)) (gd:List Int) (wr:List (Int×T3)) (ts:List T3) (m fst:Int) (i:Nat):Q4 :=
 (fst+(i:Int),plc ns m (fst+(i:Int)),(if xz ns gd wr ts m (fst+(i:Int)) > - yg ns gd wr ts m fst i then xz ns gd wr ts m (fst+(i:Int)) else-yg ns gd wr ts m fst i),yg ns gd wr ts m fst (i+1))
def uS (ns:List (Int×Int)) (gd:List Int) (wr:List (Int×T3)) (ts:List T3) (m fst:Int) (n:Nat):List Q4:=(List.range n).map (x4 ns gd wr ts m fst)
def qz (ms:List (Int×Int)) (gd:List Int) (wr:List (Int×T3)) (ts:List T3) (m:Int):List Q4:=uS ms gd wr ts m (jv 0 0 ms m) (jv 0 0 ms (m+(gd.length:Int))-jv 0 0 ms m).toNat
theorem Xk (ns:List (Int×Int)) (gd:List Int) (wr:List (Int×T3)) (ts:List T3) (m fst:Int) (n:Nat):uS ns gd wr ts m fst (n+1)=uS ns gd wr ts m fst n++[x4 ns gd wr ts m fst n]:=by
 unfold uS
 rw [List.range_succ,List.map_append]
 rfl
theorem uU:∀ {xs ys:List (Int×Int)},xs.Perm ys->(xs.map (·.1)).Pairwise (· < ·)->(ys.map (·.1)).Pairwise (· < ·)->xs=ys
 | [],ys,p,_,_=>p.nil_eq
 | x::r,[],p,_,_=>absurd p.length_eq (by simp)
 | x::r,y::t,p,hx,hy=>by
  rw [List.map_cons,List.pairwise_cons] at hx hy
  have e:x=y:=by
   rcases List.mem_cons.mp (p.mem_iff.mpr (List.mem_cons_self (a:=y) (l:=t))) with e | e
   ·exact e.symm
   ·rcases List.mem_cons.mp (p.mem_iff.mp (List.mem_cons_self (a:=x) (l:=r))) with e2 | e2
    ·exact e2
    ·have a:=hx.1 _ (List.mem_map_of_mem e)
     have b:=hy.1 _ (List.mem_map_of_mem e2)
     omega
  subst e
  rw [uU (List.Perm.cons_inv p) hx.2 hy.2]
theorem v0 {ns ms os:List (Int×Int)}(nd:(ns.map (·.1)).Nodup) (p:ms.Perm ns) (s:(ms.map (·.1)).Pairwise (· <= ·)) (q:os.Perm ns) (t:(os.map (·.1)).Pairwise (· <= ·)):os=ms :=
 uU (q.trans p.symm) (qK t ((q.map (·.1)).nodup_iff.mpr nd)) (qK s ((p.map (·.1)).nodup_iff.mpr nd))
theorem kF:∀ {ns:List (Int×Int)},(ns.map (·.1)).Nodup->∀ y:Int,jx ns (y+1)=jx ns y+qG ns (y+1)
 | [],_,y=>rfl
 | q::r,nd,y=>by
  rw [List.map_cons] at nd
  obtain ⟨h1,h2⟩:=List.nodup_cons.mp nd
  have ih:=kF h2 y
  rw [jR,jR]
  unfold qG
  by_cases e:q.1=y+1
  ·have z:qG r (y+1)=0:=by
    have:∀ {l:List (Int×Int)} {y:Int},y∉l.map (·.1)->qG l y=0:=fun {l}=>by
     induction l with
     | nil=>intro _ _;rfl
     | cons a t ih2 =>
      intro y hy
      rw [List.map_cons,List.mem_cons,not_or] at hy
      unfold qG
      rw [if_neg (fun z=>hy.1 z.symm)]
      exact ih2 hy.2
    exact this (by rw [<- e];exact h1)
   rw [if_pos e,if_pos (by omega),if_neg (by omega)]
   omega
  ·rw [if_neg e]
   by_cases l:q.1<=y
   ·rw [if_pos l,if_pos (by omega)];omega
   ·rw [if_neg l,if_neg (by omega)];omega
theorem J6:∀ (ns:List (Int×Int)) (y:Int),(qE (ns.map kvI) (.inl y)).getD (.int 0) = .int (qG ns y)
 | [],y=>rfl
 | q::r,y=>by
  rw [List.map_cons]
  unfold qG
  by_cases e:q.1=y
  ·subst e
   rw [if_pos rfl,show qE (kvI q::r.map kvI) (.inl q.1)=some (.int q.2) from xk]
   rfl
  ·rw [if_neg e,show qE (kvI q::r.map kvI) (.inl y)=qE (r.map kvI) (.inl y) from ju fun w=>e (Sum.inl.inj w)]
   exact J6 r y
def JR (C CN:Addr):Sp:=fun vs H Q E=>∃ (p:Addr) (g:IceG) (l m:Int) (sk:List (Int×Addr)) (wr:List (Int×T3)),vs=[.ref p,.int l,.int m]/\IceAt C H p g/\g.lds.length=g.slopes.length/\g.kvs=sk.map kvA/\xX H sk wr/\1<=g.rows.length/\g.rows.length<=1000 /\
 (∀ H',jj H H'->l<0\/(g.slopes.length:Int)<=l->E (.ref CN) none H') /\
 (0<=l->l<(g.slopes.length:Int)->∃ ns ms,ZP g l ns/\(∀ q∈ns,0<=q.1)/\(g.slopes.getD l.toNat []).length<=100/\ms.Perm ns/\(ms.map (·.1)).Pairwise (· <= ·) /\
  ∀ o H' out,H o=none->H' o=some (.lst out)->qY H' out (qz ms (g.slopes.getD l.toNat []) wr g.rows m)->jj H H'->Q (.ref o) H')
theorem qO:FnScope ["ice","lane","mark","years","first","last","surges","leaps","place","rows","lying","year","moved"] ["ice","lane","mark"] (j8 XX):=by walk_at "s"
theorem UA {f C CN CP:Addr}{fd:FuncData}(nb:Nb2 mg) (b_dict:mg "dict" = none) (cl_Ice:Cls K C) (c_span:CalX P w K mg base 3 "span" ["ice","lane","mark"] (Vf C CN)) (c_Ice__surges:CalMX P w K mg base 2 C "surges" ["self","lane"] (yO C CN)) (c_ride_by:Cal P w K mg base 1 "ride_by" ["surges","year"] kL)
  (c_change:Cal P w K mg base 1 "change" ["row","height"] QG) (c_Ice__sky:CalM P w K mg base 1 C "sky" ["self","year"] (UU C)) (c_Ice__height:CalMX P w K mg base 3 C "height" ["self","lane","place"] (gH C CN CP))
  (F:Fun K "life" "life" XX f fd):FnOk P w K mg base (CX1 P w) 4 f fd ["ice","lane","mark"] (JR C CN):=by
 refine Fun.okX F qO (fun vs H Q E h=>?_) (fun cdv A outer s H vs Q E hr h=>?_)
 ·obtain ⟨p,g,l,m,sk,wr,rfl,_⟩:=h
  rfl
 ·obtain ⟨p,g,l,m,sk,wr,rfl,I,hll,ek,hw,hr1,hr2,kx,k⟩:=h
  have nof:∀ {m:Str},¬ m = "leaps" -> ¬ m = "years" -> ¬ m = "slopes" -> ¬ m = "cycle" -> ¬ m = "valley" -> (uh g.va g.cy g.sl g.ye g.le).lookup m=none:=fun a b c d e=>xj _ _ _ _ _ a b c d e
  refine ⟨_,(j4 (jm (i:=3) qO.nd rfl (Or.inl rfl) (xG c_span (hr.mono (by decide)) qr rfl (j0 (pv 0) (j0 (pv 1) (j0 (pv 2) j2)))))
   (j4 (jV (jD XT (pv 3) Jo (jI _)) (j9 (jk (jL j2))) jy)
   (j4 (xY (pv 3) (qk (n:=2) K rfl (jh (ja (i:=4) qO.nd rfl (Or.inl rfl)) (jh (ja (i:=5) qO.nd rfl (Or.inl rfl)) qj))))
   (j4 (jm (i:=6) qO.nd rfl (Or.inl rfl) (zy (pv 0) cl_Ice c_Ice__surges (hr.mono (by decide)) qr (j0 (pv 1) j2)))
   (j4 (jm (i:=7) qO.nd rfl (Or.inl rfl) (qp (Xe K rfl) rfl b_dict PyProof.Rows.boot_dict (j0 (pv 6) j2)))
   (j4 (jm (i:=8) qO.nd rfl (Or.inl rfl) (jn qT (jc c_ride_by (hr.mono (by decide)) rfl (j0 (pv 6) (j0 (pv 4) j2))) (pv 2)))
   (j4 (jm (i:=9) qO.nd rfl (Or.inl rfl) (jL j2))
   (j4 (jm (i:=10) qO.nd rfl (Or.inl rfl) j7)
   (j4 (Vj (xb PassesOwn.never rfl (ZG rfl nb.b_range (j0 (pv 4) (j0 (jn jH (pv 5) j7) j2))) (ja (i:=11) qO.nd rfl (Or.inl rfl)) (j4 (jm (i:=12) qO.nd rfl (Or.inl rfl) (jf (yK rfl) rfl nb.b_max boot_max (j0 (yZ zF (pv 10)) (j0 (jc c_change (hr.mono (by decide)) rfl (j0 (pe_m (pv 0) cl_Ice c_Ice__sky (hr.mono (by decide)) (j0 (pv 11) j2)) (j0 (zy (pv 0) cl_Ice c_Ice__height (hr.mono (by decide)) Js (j0 (pv 1) (j0 (pv 8) j2))) j2))) j2))))
   (j4 (JM (i:=10) qO.nd rfl (Or.inl rfl) (pv 12) XH)
   (j4 (jO (zM K PySem.F.plainAttrs_list PySem.F.slot_list_append PySem.F.type_list_append qo (pv 9) (j0 (qm (j0 (pv 11) (j0 (pv 8) (j0 (pv 12) (j0 (pv 10) j2))))) j2)))
   (j9 (JM (i:=8) qO.nd rfl (Or.inl rfl) (jn jH j7 (QM (qc hr) (pv 7) (jn jH (pv 11) j7) j7 ⟨rfl,rfl,rfl,rfl⟩)) XH)))))))
   (j9 (jk (pv 9)))))))))))),?_⟩
  walk_at "r"
  refine ⟨p,g,l,m,rfl,I,hll,kx,fun l0 l1=>?_⟩
  obtain ⟨ns,ms,⟨_,_,⟨a,ha⟩,nd,h64,h9⟩,hp0,g100,hp,hs,k⟩:=k l0 l1
  have hpos:∀ q∈ns,0<=q.1/\0<=q.2:=fun q hq=>⟨hp0 q hq,(h9 q hq).1⟩
  refine ⟨a,ns,ha,nd,h64,fun os hos hss fst gon e1 e2=>?_⟩
  obtain rfl:=v0 nd hp hs hos hss
  clear hos hss
  refine ⟨fun hlt t H1 s1 ht1=>?_,fun hlt H1 s1=>?_⟩
  ·have hn:(gon-1+1-fst).toNat=(gon-fst).toNat:=by omega
   have on:=fun w hw=>uq hp hs nd hpos m (g.slopes.getD l.toNat []).length w hw
   have f0:=yv hp hs hpos m
   have spl:=Za hp hs nd hpos m (g.slopes.getD l.toNat []).length (by rw [<- e1,<- e2];exact hlt)
   unfold qz at k
   rw [<- e1,<- e2] at k spl
   rw [<- e1] at f0
   rw [<- e1,<- e2] at on
   have sper:=fun y=>xg hp y
   have ndm:(os.map (·.1)).Nodup:=(hp.map (·.1)).nodup_iff.mpr nd
   have h9m:∀ q∈os,0<=q.2/\q.2<=9:=fun q hq=>h9 q (hp.mem_iff.mp hq)
   have hlm:os.length<64:=by rw [hp.length_eq];exact h64
   clear e1 e2
   generalize hgd:g.slopes.getD l.toNat []=gd at *
   walk_at "r"
   refine ⟨t,_,rfl,SqT.of ht1,rfl,?_⟩
   refine ⟨_,_,rfl,_,_,rfl,rfl,?_⟩
   walk_at "r"
   refine ⟨p,g.dx,_,rfl,s1 _ _ I.ob,nof (by walk_at "k") (by walk_at "k") (by walk_at "k") (by walk_at "k") (by walk_at "k"),?_⟩
   walk_at "r"
   refine ⟨p,g,l,rfl,I.same s1,hll,(fun hb=>absurd hb (by omega)),fun _ _=>⟨a,ns,ha,nd,h64,fun so H2 out ms2 hso hso2 hq2 s2 hp2 hs2=>?_⟩⟩
   obtain rfl:=v0 nd hp hs hp2 hs2
   walk_at "r"
   refine ⟨so,out,ms2,rfl,SqL.of hso2,hq2,ndm,by omega,fun d H3 hd hd3 s3=>?_⟩
   have hd3:H3 d=some (.dK (ms2.map kvI)):=hd3
   walk_at "r"
   refine ⟨so,out,ms2,fst,rfl,s3 _ _ hso2,wB.same hq2 s3,by omega,h9m,fun H4 s4=>?_⟩
   walk_at "r"
   refine ⟨Nat.zero_le _,fun rw_ H5 hrw hrw5 s5=>?_⟩
   have S4:jj H H4:=((s1.trans s2).trans s3).trans s4
   have d4:=s4 _ _ hd3
   have rw0:H rw_=none:=S4.free hrw
   walk_at "r"
   refine ⟨_,_,rfl,?_⟩
   refine zg (fun i σ H6=>∃ (x y:Option V) (out6:List V),σ=[some (.ref p),some (.int l),some (.int m),some (.ref t),some (.int fst),some (.int (gon-1)),some (.ref so),some (.ref d),some (.int (plc ms2 m (fst+(i:Int)))),some (.ref rw_),some (.int (yg ms2 gd wr g.rows m fst i)),x,y]/\H6 rw_=some (.lst out6)/\out6.length=i/\qY H6 out6 (uS ms2 gd wr g.rows m fst i)/\Ext rw_ H4 H6) ?_ ?_ ?_
   ·refine ⟨none,none,[],?_,hrw5,rfl,.nil,fun c o hc _=>s5 _ _ hc⟩
    rw [show fst+((0:Nat):Int)=fst by omega]
    rfl
   ·rintro i σ H6 hi ⟨x,y,out6,rfl,h6,hl6,r6,e6⟩
    rw [hn] at hi
    have y0:0<=fst+(i:Int):=by omega
    have onp:=(on _ y0).mpr ⟨by omega,by omega⟩
    rw [<- sper] at onp
    have onp:0<=plc ms2 m (fst+(i:Int))/\plc ms2 m (fst+(i:Int))<(gd.length:Int):=onp
    have s6:jj H4 H6:=fun c o hc=>e6 c o hc (j1 hc hrw)
    have I6:=I.same (S4.trans s6)
    have hw6:xX H6 sk wr:=hw.keep (jg.same (S4.trans s6))
    walk_at "r"
    refine ⟨p,g.dx,_,rfl,I6.ob,nof (by walk_at "k") (by walk_at "k") (by walk_at "k") (by walk_at "k") (by walk_at "k"),?_⟩
    walk_at "r"
    refine ⟨p,g,fst+(i:Int),sk,wr,rfl,I6,ek,hw6,hr1,hr2,fun tr htr=>?_⟩
    walk_at "r"
    refine ⟨p,g.dx,_,rfl,I6.ob,nof (by walk_at "k") (by walk_at "k") (by walk_at "k") (by walk_at "k") (by walk_at "k"),?_⟩
    walk_at "r"
    refine ⟨p,g,l,plc ms2 m (fst+(i:Int)),rfl,I6,fun _ _ _ _=>?_,(fun hb=>absurd hb (by omega)),fun _ _ hb=>absurd hb (by rw [hgd];omega)⟩
    rw [hgd]
    walk_at "r"
    refine ⟨tr,_,_,rfl,htr,?_⟩
    walk_at "r"
    refine ⟨_,_,rfl,?_⟩
    walk_at "r"
    refine ⟨.inl ⟨rfl,_,SqL.of h6⟩,?_⟩
    walk_at "r"
    refine ⟨by show 4<=sizeLine;decide,fun tq H7 htq htq7 s7=>?_⟩
    refine ⟨_,_,_,rfl,rfl,s7 _ _ h6,jd (by omega),?_⟩
    have d7:upd H7 rw_ (.lst (out6++[.ref tq])) d=some (.dK (ms2.map kvI)):=by rw [j5 (j1 d4 hrw)];exact s7 _ _ (s6 _ _ d4)
    have tqr:tq≠rw_:=(j1 h6 htq).symm
    walk_at "r"
    refine ⟨.inl ⟨_,.inl d7⟩,?_⟩
    walk_at "r"
    refine ⟨_,qN.k (k:=.inl (fst+(i:Int)+1)) d7,?_⟩
    rw [J6]
    walk_at "r"
    have epl:plc ms2 m (fst+((i+1:Nat):Int))=plc ms2 m (fst+(i:Int))+(1+qG ms2 (fst+(i:Int)+1)):=by
     have:=kF ndm (fst+(i:Int))
     rw [show fst+((i+1:Nat):Int)=fst+(i:Int)+1 by omega]
     unfold plc
     omega
    refine ⟨_,_,out6++[.ref tq],by rw [epl];rfl,j6,by rw [List.length_append,hl6];rfl,?_,fun c o hc n=>by rw [j5 n];exact s7 _ _ (e6 c o hc n)⟩
    rw [Xk]
    exact Paired.snoc (r6.keep fun a xs q=>by rw [j5 (jp (s7 _ _ q) (s7 _ _ h6) (by walk_at "z"))];exact s7 _ _ q) ⟨tq,rfl,by rw [j5 tqr];exact htq7⟩
   ·rintro σ H6 ⟨x,y,out6,rfl,h6,hl6,r6,e6⟩
    rw [hn] at r6
    walk_at "r"
    exact k rw_ H6 out6 rw0 h6 r6 (S4.trans fun c o hc=>e6 c o hc (j1 hc hrw))
  ·have hz:(gon-fst).toNat=0:=by omega
   unfold qz at k
   rw [<- e1,<- e2,hz] at k
   walk_at "r"
   refine ⟨Nat.zero_le _,fun o H2 ho ho2 s2=>?_⟩
   exact k o H2 [] (s1.free ho) ho2 .nil (s1.trans s2)
end
section
variable {P:Program}{w:World}{K:PySem.W.Frag}{mg:Str->Option Value}{base:Heap}
theorem Zu (xs:List V) (k:Nat):wf xs none (some (k:Int))=xs.take k:=by
 unfold wf
 rw [HT.sIx_none,HT.sIx_nat,List.drop_zero,Nat.sub_zero]
 by_cases h:k<=xs.length
 ·rw [Nat.min_eq_left h]
 ·rw [Nat.min_eq_right (by omega),List.take_of_length_le (Nat.le_refl _)]
  exact (List.take_of_length_le (by omega)).symm
theorem ZQ (xs:List V) (k:Nat):wf xs (some (k:Int)) none=xs.drop k:=by
 unfold wf
 rw [HT.sIx_none,HT.sIx_nat]
 by_cases h:k<=xs.length
 ·rw [Nat.min_eq_left h]
  exact List.take_of_length_le (by rw [List.length_drop];omega)
 ·rw [Nat.min_eq_right (by omega),List.drop_eq_nil_of_le (Nat.le_refl _),List.take_nil]
  exact (List.drop_eq_nil_of_le (by omega)).symm
theorem vA {ms:List (Int×Int)}{gd:List Int}{wr:List (Int×T3)}{ts:List T3}{m:Int}{i:Nat}(h:i<(jv 0 0 ms (m+(gd.length:Int))-jv 0 0 ms m).toNat):(qz ms gd wr ts m)[i]? = some (x4 ms gd wr ts m (jv 0 0 ms m) i):=by
 unfold qz uS
 rw [List.getElem?_map,List.getElem?_range h]
 rfl
theorem vz (ms:List (Int×Int)) (gd:List Int) (wr:List (Int×T3)) (ts:List T3) (m:Int):(qz ms gd wr ts m).length=(jv 0 0 ms (m+(gd.length:Int))-jv 0 0 ms m).toNat:=by
 unfold qz uS
 rw [List.length_map,List.length_range]
def Qr (C CN CP CY:Addr):Sp:=fun vs H Q E=>∃ (p:Addr) (g:IceG) (l n y:Int) (sk:List (Int×Addr)) (wr:List (Int×T3)),vs=[.ref p,.int l,.int n,.int y]/\IceAt C H p g/\g.lds.length=g.slopes.length/\g.kvs=sk.map kvA/\xX H sk wr/\1<=g.rows.length/\g.rows.length<=1000 /\
 (l<0\/(g.slopes.length:Int)<=l->E (.ref CN) none H)/\(0<=l->l<(g.slopes.length:Int)->n<0\/((g.slopes.getD l.toNat []).length:Int)<=n->E (.ref CP) none H) /\
 (0<=l->l<(g.slopes.length:Int)->0<=n->n<((g.slopes.getD l.toNat []).length:Int)->∃ ns ms,ZP g l ns/\(∀ q∈ns,0<=q.1)/\(g.slopes.getD l.toNat []).length<=100/\ms.Perm ns/\(ms.map (·.1)).Pairwise (· <= ·)/\(∀ H',jj H H'->y<0\/10 ^ 40<y->E (.ref CY) none H') /\
  (0<=y->y<=10 ^ 40->∀ t a1 a2 out H',H t=none->H a1=none->H a2=none->H' t=some (.tup [.ref a1,.ref a2])->H' a1=some (.lst (out.take (y-jv 0 0 ms (y+jx ns y-n)).toNat))->H' a2=some (.lst (out.drop (y-jv 0 0 ms (y+jx ns y-n)).toNat))->qY H' out (qz ms (g.slopes.getD l.toNat []) wr g.rows (y+jx ns y-n))->jj H H'->Q (.ref t) H'))
theorem ux:FnScope ["ice","lane","place","year","rows","lived"] ["ice","lane","place","year"] (j8 kK):=by walk_at "s"
theorem ZD {f C CN CP CY:Addr}{fd:FuncData}(cl_Ice:Cls K C) (c_Ice__check_place:CalMX P w K mg base 2 C "check_place" ["self","lane","place"] (xZ C CN CP)) (c_ridden:CalX P w K mg base 3 "ridden" ["ice","lane","year"] (kU C CN CY)) (c_life:CalX P w K mg base 4 "life" ["ice","lane","mark"] (JR C CN))
  (F:Fun K "parted" "parted" kK f fd):FnOk P w K mg base (CX1 P w) 5 f fd ["ice","lane","place","year"] (Qr C CN CP CY):=by
 refine Fun.okX F ux (fun vs H Q E h=>?_) (fun cdv A outer s H vs Q E hr h=>?_)
 ·obtain ⟨p,g,l,n,y,sk,wr,rfl,_⟩:=h
  rfl
 ·obtain ⟨p,g,l,n,y,sk,wr,rfl,I,hll,ek,hw,hr1,hr2,kl,kp,k⟩:=h
  refine ⟨_,(j4 (jO (zy (pv 0) cl_Ice c_Ice__check_place (hr.mono (by decide)) qr (j0 (pv 1) (j0 (pv 2) j2))))
   (j4 (jm (i:=4) ux.nd rfl (Or.inl rfl) (xG c_life (hr.mono (by decide)) qr rfl (j0 (pv 0) (j0 (pv 1) (j0 (jn qT (xG c_ridden (hr.mono (by decide)) qr rfl (j0 (pv 0) (j0 (pv 1) (j0 (pv 3) j2)))) (pv 2)) j2)))))
   (j4 (jm (i:=5) ux.nd rfl (Or.inl rfl) (jn qT (pv 3) (jt (qL K) (jt (je K) (pv 4) j7 (fun _ _=>rfl)) j7 (fun _ _=>rfl))))
   (j9 (jk (qm (j0 (vX (uM K) (pv 4) wm (wg (pv 5))) (j0 (vX (uM K) (pv 4) (wg (pv 5)) wm) j2)))))))),?_⟩
  walk_at "r"
  refine ⟨p,g.dx,_,rfl,I.ob,xj _ _ _ _ _ (by walk_at "k") (by walk_at "k") (by walk_at "k") (by walk_at "k") (by walk_at "k"),?_⟩
  walk_at "r"
  refine ⟨p,g,l,n,rfl,I,fun l0 l1 n0 n1=>?_,fun hb=>kl hb,fun l0 l1 hb=>kp l0 l1 hb⟩
  obtain ⟨ns,ms,hL,hp0,g100,hp,hs,ky,k⟩:=k l0 l1 n0 n1
  have hpos:∀ q∈ns,0<=q.1/\0<=q.2:=fun q hq=>⟨hp0 q hq,(hL.2.2.2.2.2 q hq).1⟩
  have nd:(ns.map (·.1)).Nodup:=hL.2.2.2.1
  walk_at "r"
  refine ⟨p,g,l,y,rfl,I,hll,(fun hb=>absurd hb (by omega)),fun _ _=>⟨ns,hL,ky,fun H1 s1 y0 y1=>?_⟩⟩
  have k:=k y0 y1
  have e0:y+jx ns y-(y+jx ns y-n)=n:=by omega
  have onm:=(uq hp hs nd hpos (y+jx ns y-n) (g.slopes.getD l.toNat []).length y y0).mp (by rw [e0];exact ⟨n0,n1⟩)
  have hlo:=vz ms (g.slopes.getD l.toNat []) wr g.rows (y+jx ns y-n)
  have hg0:=vA (ms:=ms) (gd:=g.slopes.getD l.toNat []) (wr:=wr) (ts:=g.rows) (m:=y+jx ns y-n) (i:=0) (by omega)
  obtain ⟨m,em⟩:∃ m,y+jx ns y-n=m:=⟨_,rfl⟩
  rw [em] at k onm hlo hg0
  walk_at "r"
  refine ⟨p,g,l,m,sk,wr,by rw [<- em],I.same s1,hll,ek,hw.keep (jg.same s1),hr1,hr2,(fun H' _ hb=>absurd hb (by omega)),fun _ _=>⟨ns,ms,hL,hp0,g100,hp,hs,fun o H2 out ho ho2 r2 s2=>?_⟩⟩
  have hol:out.length=(qz ms (g.slopes.getD l.toNat []) wr g.rows m).length:=Paired.length r2
  have h0:0<out.length:=by omega
  obtain ⟨q0,hq0,b0,ev0,hb0⟩:=Paired.get r2 (List.getElem?_eq_getElem h0)
  rw [hg0] at hq0
  have eq0:q0.1=jv 0 0 ms m:=by
   cases hq0
   show jv 0 0 ms m+((0:Nat):Int)=_
   omega
  have hb0:H2 b0=some (.tup [.int q0.1,.int q0.2.1,.int q0.2.2.1,.int q0.2.2.2]):=hb0
  walk_at "r"
  refine ⟨_,_,_,_,rfl,rfl,SqL.of ho2,qW (by decide) (v:=V.ref b0) (by show out[0]? = _;rw [List.getElem?_eq_getElem h0,ev0]),?_⟩
  walk_at "r"
  have ek2:y-q0.1=(((y-jv 0 0 ms m).toNat:Nat):Int):=by rw [eq0];omega
  refine ⟨_,_,rfl,SqL.of ho2,fun a1 H3 ha1 ha13 s3=>?_⟩
  walk_at "r"
  refine ⟨_,_,rfl,SqL.of (s3 _ _ ho2),fun a2 H4 ha2 ha24 s4=>?_⟩
  have ha13:H3 a1=some (.lst (out.take (y-jv 0 0 ms m).toNat)):=by rw [ha13,<- Zu,<- ek2]
  have ha24:H4 a2=some (.lst (out.drop (y-jv 0 0 ms m).toNat)):=by rw [ha24,<- ZQ,<- ek2]
  walk_at "r"
  refine ⟨by show 2<=sizeLine;decide,fun t H5 ht ht5 s5=>?_⟩
  have t2:=s1.trans s2
  have t3:=t2.trans s3
  exact k t a1 a2 out H5 ((t3.trans s4).free ht) (t2.free ha1) (t3.free ha2) ht5 (s5 _ _ (s4 _ _ ha13)) (s5 _ _ ha24) (r2.keep (jg.same (s3.trans (s4.trans s5)))) (t3.trans (s4.trans s5))
def VN:Sp:=fun vs H Q _=>∃ (p:Addr) (xs:List V) (v:V),vs=[.ref p,v]/\H p=some (.lst xs)/\xs.length<=1000/\∀ l H',H l=none->H' l=some (.lst (xs++[v]))->jj H H'->Q (.ref l) H'
theorem Ub:FnScope ["runs","run"] ["runs","run"] (j8 QX):=by walk_at "s"
theorem Ua {f:Addr}{fd:FuncData}(nb:Nb2 mg) (F:Fun K "laid" "laid" QX f fd):FnOk P w K mg base CX0 1 f fd ["runs","run"] VN:=by
 refine F.ok Ub (fun vs H Q E h=>?_) (fun cdv A outer s H vs Q E hr h=>?_)
 ·obtain ⟨p,xs,v,rfl,_⟩:=h
  rfl
 ·obtain ⟨p,xs,v,rfl,hp,hl,k⟩:=h
  refine ⟨_,(j9 (jk (jn vJ (pv 0) (jL (j0 (pv 1) j2))))),?_⟩
  walk_at "r"
  refine ⟨by show 1<=sizeLine;decide,fun q H1 hq hq1 s1=>?_⟩
  refine ⟨p,q,xs,[v],rfl,rfl,s1 _ _ hp,hq1,?_,fun l H2 hl2 hl22 s2=>?_⟩
  ·have:=jd hl
   rw [List.length_singleton];omega
  ·exact k l H2 (s1.free hl2) hl22 (s1.trans s2)
theorem za {H:Hp}:∀ {vs:List V}{v:V}{ts:List T3},jo H (vs++[v]) ts->∃ ti t,ts=ti++[t]/\jo H vs ti/\UD H v t
 | [],v,_,.cons r .nil=>⟨[],_,rfl,.nil,r⟩
 | x::vs,v,_,.cons r rs=>by
  obtain ⟨ti,t,e,a,b⟩:=za rs
  exact ⟨_::ti,t,by rw [e];rfl,.cons r a,b⟩
theorem jo.same {H H':Hp}{vs:List V}{ts:List T3}(r:jo H vs ts) (s:jj H H'):jo H' vs ts:=r.imp fun _ _ q=>s _ _ q
theorem jo.keep {H H':Hp}{vs:List V}{ts:List T3}(r:jo H vs ts) (s:jg H H'):jo H' vs ts:=r.imp fun _ _ q=>s _ _ q
def muM:L2.St->Hp->Nat:=fun σ _=>match σ with | _::some (.int m)::_=>m.toNat | _=>0
def Zv:Sp:=fun vs H Q _=>∃ (p:Addr) (xs:List V) (rs:List T3) (m:Int),vs=[.ref p,.int m]/\H p=some (.lst xs)/\jo H xs rs/\xy rs/\(jr rs).length<=900/\0<=m /\
 ∀ t l o H' vl vo left off m',H l=none->H o=none->l≠o->H' t=some (.tup [.ref l,.ref o])->H' l=some (.lst vl)->jo H' vl left->H' o=some (.lst vo)->jo H' vo off->jj H H'->Tk rs m left off m'->(left=[]\/m'<=0)->Q (.ref t) H'
theorem xR:FnScope ["runs","many","left","off","year","place","hands","part"] ["runs","many"] (j8 Jt):=by walk_at "s"
theorem G2 {rs left off:List T3}{m m':Int}(t:Tk rs m left off m'):left.length+off.length<=(jr rs).length:=by
 have h1:=yC t.gl
 have h2:=yC t.go
 rw [<- t.keys,List.length_append]
 rw [List.length_reverse] at h2
 omega
theorem Vi {f:Addr}{fd:FuncData}(nb:Nb2 mg) (F:Fun K "taken" "taken" Jt f fd):FnOk P w K mg base CX0 1 f fd ["runs","many"] Zv:=by
 refine F.ok xR (fun vs H Q E h=>?_) (fun cdv A outer s H vs Q E hr h=>?_)
 ·obtain ⟨p,xs,rs,m,rfl,_⟩:=h
  rfl
 ·obtain ⟨p,xs,rs,m0,rfl,hp,hrw,hg,h9,hm0,k⟩:=h
  refine ⟨_,(j4 (jm (i:=2) xR.nd rfl (Or.inl rfl) (qp (qw K) rfl nb.b_list PyProof.Rows.boot_list (j0 (pv 0) j2)))
   (j4 (jm (i:=3) xR.nd rfl (Or.inl rfl) (jL j2))
   (j4 (wC PassesOwn.never (PW.pt (Xg (Yp K (pv 2)) (Jy (jD Zp (pv 1) j7 (jI _))))) (j4 (xY (Uv K PySem.F.plainAttrs_list PySem.F.slot_list_pop PySem.F.type_list_pop Wj (pv 2)) (qk (n:=3) K rfl (jh (ja (i:=4) xR.nd rfl (Or.inl rfl)) (jh (ja (i:=5) xR.nd rfl (Or.inl rfl)) (jh (ja (i:=6) xR.nd rfl (Or.inl rfl)) qj)))))
   (j4 (jm (i:=7) xR.nd rfl (Or.inl rfl) (jf (uA rfl) rfl nb.b_min boot_min (j0 (pv 6) (j0 (pv 1) j2))))
   (j4 (jO (zM K PySem.F.plainAttrs_list PySem.F.slot_list_append PySem.F.type_list_append qo (pv 3) (j0 (qm (j0 (pv 4) (j0 (pv 5) (j0 (pv 7) j2)))) j2)))
   (j4 (jV (jD yV (pv 7) (pv 6) (jI _)) (j9 (jO (zM K PySem.F.plainAttrs_list PySem.F.slot_list_append PySem.F.type_list_append qo (pv 2) (j0 (qm (j0 (pv 4) (j0 (pv 5) (j0 (jn qT (pv 6) (pv 7)) j2)))) j2)))) jy)
   (j9 (JM (i:=1) xR.nd rfl (Or.inl rfl) (pv 7) WG)))))))
   (j9 (jk (qm (j0 (pv 2) (j0 (pv 3) j2)))))))),?_⟩
  walk_at "r"
  refine ⟨_,_,rfl,.inl (SqL.of hp),fun l H1 hl hl1 s1=>?_⟩
  walk_at "r"
  refine ⟨by show 0<=sizeLine;decide,fun o H2 ho ho2 s2=>?_⟩
  have lo:l≠o:=j1 hl1 ho
  walk_at "r"
  refine kj (fun σ H3=>∃ (m:Int) (vl vo:List V) (left off:List T3) (v4 v5 v6 v7:Option V),σ=[some (.ref p),some (.int m),some (.ref l),some (.ref o),v4,v5,v6,v7]/\H3 l=some (.lst vl)/\jo H3 vl left/\H3 o=some (.lst vo)/\jo H3 vo off/\jj H H3/\Tk rs m0 left off m) muM ?_ ?_ ?_
  ·exact ⟨m0,xs,[],rs,[],_,_,_,_,rfl,s2 _ _ hl1,jo.same hrw (s1.trans s2),ho2,.nil,s1.trans s2,Tk.start hg hm0⟩
  ·rintro σ H3 ⟨m,vl,vo,left,off,v4,v5,v6,v7,rfl,hl3,rl3,ho3,ro3,s3,tk⟩
   have hlen:=G2 tk
   have ol:=ro3.length
   have ll:=rl3.length
   walk_at "r"
   refine ⟨_,.inl ⟨vl,SqL.of hl3,rfl⟩,?_⟩
   rcases List.eq_nil_or_concat vl with e | ⟨vi,v,e⟩
   ·subst e
    refine vM ?_
    cases rl3
    walk_at "r"
    refine ⟨by show 2<=sizeLine;decide,fun t H4 ht ht4 s4=>?_⟩
    exact k t l o H4 [] vo [] off m hl (s1.free ho) lo ht4 (s4 _ _ hl3) .nil (s4 _ _ ho3) (jo.same ro3 s4) (s3.trans s4) tk (.inl rfl)
   ·rw [List.concat_eq_append] at e
    subst e
    refine iteP (by simp) ?_
    walk_at "r"
    refine qB (fun hm=>?_) (fun hm=>?_)
    ·obtain ⟨li,⟨y,pl,h⟩,rfl,rli,q,rfl,hq⟩:=za rl3
     have ql:q≠l:=jp hq hl3 (by walk_at "z")
     walk_at "r"
     refine ⟨.inl ⟨rfl,_,SqL.of hl3⟩,l,_,_,rfl,rfl,hl3,(by simp:(vi++[V.ref q])[(vi++[V.ref q]).length-1]? = some (V.ref q)),?_⟩
     rw [List.dropLast_concat]
     have kt4:jg H3 (upd H3 l (.lst vi)):=jg.lst Ext.put hl3
     have hl4:upd H3 l (.lst vi) l=some (.lst vi):=j6
     have ho4:upd H3 l (.lst vi) o=some (.lst vo):=by rw [j5 lo.symm];exact ho3
     have s4:jj H (upd H3 l (.lst vi)):=fun c ob hc=>by rw [j5 (j1 hc hl)];exact s3 _ _ hc
     have hq4:=kt4 _ _ hq
     generalize upd H3 l (.lst vi)=H4 at kt4 hl4 ho4 s4 hq4
     refine ⟨q,_,rfl,SqT.of hq4,rfl,?_⟩
     refine ⟨_,_,rfl,_,_,rfl,_,_,rfl,rfl,?_⟩
     walk_at "r"
     refine ⟨_,_,rfl,?_⟩
     walk_at "r"
     refine ⟨.inl ⟨rfl,_,SqL.of ho4⟩,?_⟩
     walk_at "r"
     refine ⟨by show 3<=sizeLine;decide,fun q2 H5 hq2 hq25 s5=>?_⟩
     walk_at "r"
     refine ⟨o,vo,_,rfl,rfl,s5 _ _ ho4,jd (by omega),?_⟩
     have oq2:o≠q2:=j1 ho4 hq2
     have kt6:jg H4 (upd H5 o (.lst (vo++[.ref q2]))):=(jg.same s5).trans (jg.lst Ext.put (s5 _ _ ho4))
     have ho6:upd H5 o (.lst (vo++[.ref q2])) o=some (.lst (vo++[.ref q2])):=j6
     have hl6:upd H5 o (.lst (vo++[.ref q2])) l=some (.lst vi):=by rw [j5 lo];exact s5 _ _ hl4
     have hoH:H o=none:=s1.free ho
     have s6:jj H (upd H5 o (.lst (vo++[.ref q2]))):=fun c ob hc=>by rw [j5 (j1 hc hoH)];exact s5 _ _ (s4 _ _ hc)
     have hq26:upd H5 o (.lst (vo++[.ref q2])) q2=some (.tup [.int y,.int pl,.int (if m<h then m else h)]):=by rw [j5 oq2.symm];exact hq25
     generalize upd H5 o (.lst (vo++[.ref q2]))=H6 at kt6 ho6 hl6 s6 hq26
     walk_at "r"
     by_cases hmh:m<h
     ·rw [if_pos hmh] at hq26 ⊢
      refine qB (fun _=>?_) (fun z=>absurd hmh z)
      walk_at "r"
      refine ⟨.inl ⟨rfl,_,SqL.of hl6⟩,?_⟩
      walk_at "r"
      refine ⟨by show 3<=sizeLine;decide,fun q3 H7 hq3 hq37 s7=>?_⟩
      walk_at "r"
      have vil:vi.length<=900:=by
       have:=rli.length
       rw [List.length_append] at hlen
       omega
      refine ⟨l,vi,_,rfl,rfl,s7 _ _ hl6,jd (by omega),?_⟩
      have kt8:jg H6 (upd H7 l (.lst (vi++[.ref q3]))):=(jg.same s7).trans (jg.lst Ext.put (s7 _ _ hl6))
      have lq3:l≠q3:=j1 hl6 hq3
      walk_at "r"
      refine ⟨⟨m-m,_,_,li++[(y,pl,h-m)],off++[(y,pl,m)],_,_,_,_,rfl,j6,?_,by rw [j5 lo.symm];exact s7 _ _ ho6,?_,fun c ob hc=>by rw [j5 (j1 hc hl)];exact s7 _ _ (s6 _ _ hc),?_⟩,?_⟩
      ·exact jo.snoc (jo.keep rli (kt4.trans (kt6.trans kt8))) ⟨q3,rfl,by rw [j5 lq3.symm];exact hq37⟩
      ·exact jo.snoc (jo.keep ro3 (kt4.trans (kt6.trans kt8))) ⟨q2,rfl,kt8 _ _ hq26⟩
      ·rw [Int.sub_self]
       exact tk.part hm hmh
      ·show (m-m).toNat<m.toNat
       omega
     ·rw [if_neg hmh] at hq26 ⊢
      refine qB (fun z=>absurd z (by omega)) (fun _=>?_)
      walk_at "r"
      have h1:1<=h:=tk.gl.1 _ (List.mem_append_right _ List.mem_cons_self)
      refine ⟨⟨m-h,_,_,li,off++[(y,pl,h)],_,_,_,_,rfl,hl6,?_,ho6,?_,s6,?_⟩,?_⟩
      ·exact jo.keep rli (kt4.trans kt6)
      ·exact jo.snoc (jo.keep ro3 (kt4.trans kt6)) ⟨q2,rfl,hq26⟩
      ·exact tk.whole hm (by omega)
      ·show (m-h).toNat<m.toNat
       omega
    ·walk_at "r"
     refine ⟨by show 2<=sizeLine;decide,fun t H4 ht ht4 s4=>?_⟩
     exact k t l o H4 _ vo left off m hl (s1.free ho) lo ht4 (s4 _ _ hl3) (jo.same rl3 s4) (s4 _ _ ho3) (jo.same ro3 s4) (s3.trans s4) tk (.inr (by omega))
  ·refine VX (fun σ H Q Q' h q=>?_) (fun σ H Q Q' h q=>?_)
   ·obtain ⟨x,e1,b,tr,z⟩:=q
    exact ⟨x,e1,b,tr,h _ _ z⟩
   ·obtain ⟨x,e1,i,j,e2,e3,b,e4,z⟩:=q
    exact ⟨x,e1,i,j,e2,e3,b,e4,h _ _ z⟩
end
section
variable {P:Program}{w:World}{K:PySem.W.Frag}{mg:Str->Option Value}{base:Heap}
def VP:Sp:=fun vs H Q _=>∃ (p:Addr) (xs:List V) (hs:List T3),vs=[.ref p]/\H p=some (.lst xs)/\jo H xs hs/\hs.length<=900/\∀ l H' vl,H l=none->H' l=some (.lst vl)->jo H' vl (grp hs)->jj H H'->Q (.ref l) H'
theorem xN:FnScope ["_law_hands","_law_found","_law_year_here","_law_place","_law_layer"] ["_law_hands"] (j8 vq):=by walk_at "s"
theorem vS {α:Type}{xs:List α}{x:α}:atI (xs++[x]) (-1)=some x:=by
 unfold atI ixN
 rw [if_neg (by decide),List.length_append,List.length_singleton,if_pos (by omega),Option.bind_some,show (-1+((xs.length+1:Nat):Int)).toNat=xs.length by omega]
 simp
theorem Vh {n:Nat}(h:0<n):ixN n (-1)=some (n-1):=by
 unfold ixN
 rw [if_neg (by decide),if_pos (by omega)]
 congr 1
 omega
theorem Zh:∀ (a b:List Int),PyData.eqvAll (a.map PyData.int) (b.map PyData.int)=decide (a=b)
 | [],[]=>rfl
 | [],_::_=>rfl
 | _::_,[]=>rfl
 | x::a,y::b=>by
  rw [List.map_cons,List.map_cons]
  show (PyData.eqv (.int x) (.int y) && PyData.eqvAll (a.map PyData.int) (b.map PyData.int))=_
  rw [Zh a b,show PyData.eqv (.int x) (.int y)=(x == y) from rfl]
  by_cases h:x=y <;> by_cases h2:a=b <;> simp [h,h2]
theorem YD (a b:List Int):PyData.eqv (.tuple (a.map PyData.int)) (.tuple (b.map PyData.int))=decide (a=b):=Zh a b
theorem ZB (ns:List Int):SeqAt.shaped (.tuple (ns.map PyData.int))=true:=by
 unfold SeqAt.shaped
 rw [show PyData.canLay0 (.tuple (ns.map PyData.int))=PyData.canLayAll0 (ns.map PyData.int) from rfl,(kR ns).1,Bool.true_and]
 exact decide_eq_true (by show PyData.depthAll (ns.map PyData.int)+1<=64;rw [(kR ns).2];decide)
theorem VJ (hs:List T3) (j:Nat) (h:T3) (e:hs[j]? = some h):grp (hs.take (j+1))=zO (grp (hs.take j)) h:=by
 unfold grp
 rw [List.take_add_one,e,List.foldl_append]
 rfl
theorem ZH (acc:List T3) (h:T3):(zO acc h).length<=acc.length+1:=by
 unfold zO
 split
 ·split
  ·rw [List.length_append,List.length_dropLast]
   simp
  ·simp
 ·simp
theorem Ze:∀ (hs acc:List T3),(hs.foldl zO acc).length<=acc.length+hs.length
 | [],acc=>Nat.le_refl _
 | h::hs,acc=>by
  rw [List.foldl_cons]
  have:=Ze hs (zO acc h)
  have:=ZH acc h
  rw [List.length_cons]
  omega
theorem Uu {f:Addr}{fd:FuncData}(nb:Nb2 mg) (F:Fun K "_law_runs" "_law_runs" vq f fd):FnOk P w K mg base CX0 1 f fd ["_law_hands"] VP:=by
 refine F.ok xN (fun vs H Q E h=>?_) (fun cdv A outer s H vs Q E hr h=>?_)
 ·obtain ⟨p,xs,hs,rfl,_⟩:=h
  rfl
 ·obtain ⟨p,xs,hs,rfl,hp,hrw,h9,k⟩:=h
  have hlen:=hrw.length
  refine ⟨_,(j4 (jm (i:=1) xN.nd rfl (Or.inl rfl) (jL j2))
   (j4 (xb PassesOwn.never rfl (jT K (pv 0)) (qk (n:=3) K rfl (jh (ja (i:=2) xN.nd rfl (Or.inl rfl)) (jh (ja (i:=3) xN.nd rfl (Or.inl rfl)) (jh (ja (i:=4) xN.nd rfl (Or.inl rfl)) qj)))) (j9 (jV (PW.pt (Xg (jD Zp (jf (ji K) rfl nb.b_len PySem.boot_len (j0 (pv 1) j2)) j7 (jI _)) (Jy (jD (U9 K hr.units) (vX (VH K) (jt (je K) (pv 1) (yZ zF j7) (fun _ _=>rfl)) wm (wg j7)) (qm (j0 (pv 2) (j0 (pv 3) j2))) (jI _))))) (j9 (xY (qm (j0 (pv 2) (j0 (pv 3) (j0 (jn jH (jt (qL K) (jt (je K) (pv 1) (yZ zF j7) (fun _ _=>rfl)) j7 (fun _ _=>rfl)) j7) j2)))) (wM (pv 1) (yZ zF j7) yl))) (j9 (jO (zM K PySem.F.plainAttrs_list PySem.F.slot_list_append PySem.F.type_list_append qo (pv 1) (j0 (qm (j0 (pv 2) (j0 (pv 3) (j0 j7 j2)))) j2)))))))
   (j9 (jk (pv 1))))),?_⟩
  walk_at "r"
  refine ⟨by show 0<=sizeLine;decide,fun l H1 hl hl1 s1=>?_⟩
  have pl:p≠l:=j1 hp hl
  walk_at "r"
  refine ⟨⟨_,SqL.of (s1 _ _ hp)⟩,?_⟩
  refine yp (K:=K) (a:=p) (xs:=xs) (fun j σ H2=>∃ (v2 v3 v4:Option V) (vl:List V),σ=[some (.ref p),some (.ref l),v2,v3,v4]/\H2 l=some (.lst vl)/\jo H2 vl (grp (hs.take j))/\jj H H2) ?_ ?_ ?_ ?_
  ·exact ⟨_,_,_,[],rfl,hl1,.nil,s1⟩
  ·rintro j σ H2 hj ⟨v2,v3,v4,vl,rfl,hl2,r2,s2⟩
   exact SqL.of (s2 _ _ hp)
  ·rintro j v σ H2 hv ⟨v2,v3,v4,vl,rfl,hl2,r2,s2⟩
   obtain ⟨⟨y,pl',la⟩,hr,q,rfl,hq⟩:=jo.get (jo.same hrw s2) hv
   have hj:j<hs.length:=(List.getElem?_eq_some_iff.mp hr).1
   have r2l:=r2.length
   have gl:(grp (hs.take j)).length<=900:=by have:=Ze (hs.take j) [];rw [List.length_take] at this;unfold grp;simp at this;omega
   have gs:=VJ hs j _ hr
   walk_at "r"
   refine ⟨q,_,rfl,SqT.of hq,rfl,?_⟩
   refine ⟨_,_,rfl,_,_,rfl,_,_,rfl,rfl,?_⟩
   walk_at "r"
   refine ⟨_,_,rfl,.inl (SqL.of hl2),?_⟩
   walk_at "r"
   rcases List.eq_nil_or_concat vl with e | ⟨vi,x,e⟩
   ·subst e
    refine qB (fun z=>absurd z (by simp)) (fun _=>?_)
    refine vM ?_
    walk_at "r"
    refine ⟨.inl ⟨rfl,_,SqL.of hl2⟩,?_⟩
    walk_at "r"
    refine ⟨by show 3<=sizeLine;decide,fun q2 H3 hq2 hq23 s3=>?_⟩
    walk_at "r"
    refine ⟨l,[],_,rfl,rfl,s3 _ _ hl2,jd (by simp),?_⟩
    have lq:l≠q2:=j1 hl2 hq2
    have e0:grp (hs.take j)=[]:=List.eq_nil_of_length_eq_zero r2l.symm
    rw [gs,e0]
    refine ⟨_,_,_,[.ref q2],rfl,j6,.cons ⟨q2,rfl,by rw [j5 lq.symm];exact hq23⟩ .nil,fun c o hc=>by rw [j5 (j1 hc hl)];exact s3 _ _ (s2 _ _ hc)⟩
   ·rw [List.concat_eq_append] at e
    subst e
    obtain ⟨gi,⟨y0,p0,m0⟩,eg,ri,q0,rfl,hq0⟩:=za r2
    refine qB (fun _=>?_) (fun z=>absurd (by simp) z)
    walk_at "r"
    refine ⟨_,_,_,_,rfl,rfl,SqL.of hl2,vS,?_⟩
    walk_at "r"
    refine ⟨q0,_,rfl,hq0,fun q1 H3 s3 hq1=>?_⟩
    have hq1':H3 q1=some (.tup [.int y0,.int p0]):=hq1
    walk_at "r"
    refine ⟨by show 2<=sizeLine;decide,fun q4 H4 hq4 hq44 s4=>?_⟩
    refine ⟨fun _=>False,fun _=>False,.tuple ([y0,p0].map PyData.int),.tuple ([y,pl'].map PyData.int),.tup id (SqT.of (s4 _ _ hq1')) (RepL.of_ints [y0,p0]),.tup id (SqT.of hq44) (RepL.of_ints [y,pl']),ZB _,ZB _,_,rfl,?_⟩
    rw [YD]
    have hl4:=s4 _ _ (s3 _ _ hl2)
    have hl4':=hl4
    have hq04:=s4 _ _ (s3 _ _ hq0)
    have s04:jj H H4:=s2.trans (s3.trans s4)
    have ri4:=jo.same ri (s3.trans s4)
    have e2:=(za (jo.same r2 (s3.trans s4)))
    refine qB (fun hk=>?_) (fun hk=>?_)
    ·injection hk with hk1 hk2
     injection hk2 with hk2 _
     subst hk1 hk2
     walk_at "r"
     refine ⟨_,_,_,_,rfl,rfl,SqL.of hl4,vS,?_⟩
     walk_at "r"
     refine ⟨by show 3<=sizeLine;decide,fun q5 H5 hq5 hq55 s5=>?_⟩
     walk_at "r"
     refine ⟨l,_,_,(vi++[V.ref q0]).length-1,rfl,rfl,s5 _ _ hl4,Vh (by simp),?_⟩
     have lq:l≠q5:=j1 hl4 hq5
     rw [gs,eg,ke]
     have es:(vi++[V.ref q0]).set ((vi++[V.ref q0]).length-1) (.ref q5)=vi++[.ref q5]:=by simp
     rw [es]
     have kt:jg H4 (upd H5 l (.lst (vi++[.ref q5]))):=(jg.same s5).trans (jg.lst Ext.put (s5 _ _ hl4))
     exact ⟨_,_,_,_,rfl,j6,jo.snoc (jo.keep ri4 kt) ⟨q5,rfl,by rw [j5 lq.symm];exact hq55⟩,fun c o hc=>by rw [j5 (j1 hc hl)];exact s5 _ _ (s04 _ _ hc)⟩
    ·walk_at "r"
     refine ⟨.inl ⟨rfl,_,SqL.of hl4⟩,?_⟩
     walk_at "r"
     refine ⟨by show 3<=sizeLine;decide,fun q2 H5 hq2 hq25 s5=>?_⟩
     walk_at "r"
     refine ⟨l,_,_,rfl,rfl,s5 _ _ hl4,jd (by omega),?_⟩
     have lq:l≠q2:=j1 hl4 hq2
     have kt:jg H4 (upd H5 l (.lst (vi++[.ref q0]++[.ref q2]))):=(jg.same s5).trans (jg.lst Ext.put (s5 _ _ hl4))
     rw [gs,gz (fun r hr z=>hk (by
      rw [eg,List.getLast?_concat] at hr
      cases hr
      have z1:y0=y/\p0=pl':=by simpa [xU] using z
      rw [z1.1,z1.2]))]
     exact ⟨_,_,_,_,rfl,j6,jo.snoc (jo.keep (jo.same r2 (s3.trans s4)) kt) ⟨q2,rfl,by rw [j5 lq.symm];exact hq25⟩,fun c o hc=>by rw [j5 (j1 hc hl)];exact s5 _ _ (s04 _ _ hc)⟩
  ·rintro σ H2 ⟨v2,v3,v4,vl,rfl,hl2,r2,s2⟩
   rw [hlen,List.take_length] at r2
   walk_at "r"
   exact k l H2 vl hl hl2 r2 s2
end
section
variable {P:Program}{w:World}{K:PySem.W.Frag}{mg:Str->Option Value}{base:Heap}
theorem qY.take {H:Hp}:∀ (n:Nat) {out:List V}{qs:List Q4},qY H out qs->qY H (out.take n) (qs.take n)
 | 0,_,_,_=>.nil
 | _+1,_,_,.nil=>.nil
 | n+1,_,_,.cons a r=>.cons a (qY.take n r)
section
variable {L:List Q4}{dp mv pl:Nat->Int}{fst:Int}{n:Nat}
structure Col (L:List Q4) (dp mv pl:Nat->Int) (fst:Int) (n:Nat):Prop where
 len:L.length=n
 at_:∀ i,i<n->L[i]? = some (fst+(i:Int),pl i,mv i,dp (i+1))
 step:∀ i,dp (i+1)=dp i+mv i
end
theorem Va (ms:List (Int×Int)) (gd:List Int) (wr:List (Int×T3)) (ts:List T3) (m:Int):Col (qz ms gd wr ts m) (yg ms gd wr ts m (jv 0 0 ms m)) (fun i=>(x4 ms gd wr ts m (jv 0 0 ms m) i).2.2.1) (fun i=>plc ms m (jv 0 0 ms m+(i:Int))) (jv 0 0 ms m) (jv 0 0 ms (m+(gd.length:Int))-jv 0 0 ms m).toNat :=
 ⟨vz _ _ _ _ _,fun i hi=>vA hi,fun i=>rfl⟩
theorem vd (ns:List (Int×Int)):∃ ms:List (Int×Int),ms.Perm ns/\(ms.map (·.1)).Pairwise (· <= ·):=by
 refine ⟨ns.mergeSort (fun a b=>decide (a.1<=b.1)),List.mergeSort_perm _ _,?_⟩
 rw [List.pairwise_map]
 exact (List.pairwise_mergeSort (fun a b c h1 h2=>by simp at *;omega) (fun a b=>by simp;omega) ns).imp fun h=>by simpa using h
theorem xX.good {H:Hp}:∀ {sk:List (Int×Addr)}{wr:List (Int×T3)},xX H sk wr->(∀ z∈sk,∃ t,H z.2=some (y3 t)/\good t=true)->∀ q∈wr,good q.2=true
 | _,_,.nil,_,q,hq=>by cases hq
 | z::r,x::t,.cons ⟨_,h⟩ tl,g,q,hq=>by
  rcases List.mem_cons.mp hq with e | e
  ·subst e
   obtain ⟨u,hu,gu⟩:=g z (List.mem_cons_self ..)
   rw [h] at hu
   have:y3 q.2=y3 u:=Option.some.inj hu
   have e1:q.2.1=u.1:=by injection this with this;injection this with a b;exact V.int.inj a
   have e2:q.2.2.1=u.2.1:=by injection this with this;injection this with a b;injection b with b c;exact V.int.inj b
   have e3:q.2.2.2=u.2.2:=by injection this with this;injection this with a b;injection b with b c;injection c with c d;exact V.int.inj c
   rw [show q.2=u from Prod.ext e1 (Prod.ext e2 e3)]
   exact gu
  ·exact xX.good tl (fun z hz=>g z (List.mem_cons_of_mem _ hz)) q e
theorem YF {wr:List (Int×T3)}{ts:List T3}(h1:∀ q∈wr,good q.2=true) (h2:ts.all good=true) (h3:1<=ts.length) (y:Int):good (xV wr ts y)=true:=by
 unfold xV
 cases e:wr.find? fun q=>decide (q.1=y) with
 | some q=>exact h1 q (List.mem_of_find?_eq_some e)
 | none =>
  have m0:=Int.emod_nonneg y (show (ts.length:Int)≠0 by omega)
  have m1:=Int.emod_lt_of_pos y (show (0:Int)<ts.length by omega)
  have hi:(y % (ts.length:Int)).toNat<ts.length:=by omega
  show good (ts.getD (y % (ts.length:Int)).toNat (0,0,0))=true
  rw [List.getD_eq_getElem?_getD,List.getElem?_eq_getElem hi]
  exact List.all_eq_true.mp h2 _ (List.getElem_mem hi)
theorem VC {t:T3}(g:good t=true) (h:Int):chg t h<=9:=by
 unfold good at g
 have:=of_decide_eq_true g
 unfold chg
 split <;> omega
theorem w9 (ns:List (Int×Int)) (gd:List Int) (wr:List (Int×T3)) (ts:List T3) (m fst:Int):∀ i,0<=yg ns gd wr ts m fst i
 | 0=>Int.le_refl _
 | i+1=>by
  have:=w9 ns gd wr ts m fst i
  show 0<=yg ns gd wr ts m fst i+(if xz ns gd wr ts m (fst+(i:Int)) > - yg ns gd wr ts m fst i then xz ns gd wr ts m (fst+(i:Int)) else-yg ns gd wr ts m fst i)
  split <;> omega
def ww (ks:List K2) (q:Q4):List K2:=if 0<q.2.2.1 then ks++List.replicate q.2.2.1.toNat (q.1,q.2.1) else ks.take (ks.length-(- q.2.2.1).toNat)
def yY (rows:List Q4):List K2:=rows.foldl ww []
theorem XG {W:List Q4}{i:Nat}{q:Q4}(h:W[i]? = some q):yY (W.take (i+1))=ww (yY (W.take i)) q:=by
 unfold yY
 rw [List.take_succ,h,List.foldl_append]
 rfl
theorem Uk {rs:List T3}(g:xy rs) {r:T3}(h:r∈rs):xU r∈jr rs:=by
 unfold jr
 rw [List.mem_flatMap]
 have:=g.1 r h
 exact ⟨r,h,List.mem_replicate.mpr ⟨by omega,rfl⟩⟩
theorem UO {rs left off:List T3}{m m':Int}(t:Tk rs m left off m') (e:left=[]\/m'<=0):jr left=(jr rs).take ((jr rs).length-m.toNat):=by
 have h1:=t.cnt
 have h2:=t.m0'
 have h3:=congrArg List.length t.keys
 rw [List.length_append] at h3
 rcases e with rfl | e
 ·have:jr ([]:List T3)=[]:=rfl
  rw [this] at h3 ⊢
  rw [show (jr rs).length-m.toNat=0 by rw [List.length_nil] at h3;omega]
  rfl
 ·have e2:(jr rs).length-m.toNat=(jr left).length:=by omega
  rw [e2,<- t.keys,List.take_left]
theorem Y4 {rs:List T3}{r:T3}(g:xy rs) (h1:1<=r.2.2) (h:∀ k∈jr rs,k.1<r.1):xy (rs++[r]):=by
 refine ⟨fun x hx=>?_,List.pairwise_append.mpr ⟨g.2,List.pairwise_singleton _ _,fun a ha b hb=>?_⟩⟩
 ·rcases List.mem_append.mp hx with z | z
  ·exact g.1 x z
  ·rw [List.mem_singleton.mp z];exact h1
 ·rw [List.mem_singleton.mp hb]
  exact h _ (Uk g ha)
def XE (C:Addr):Sp:=fun vs H Q E=>∃ (p:Addr) (g:IceG) (l n y:Int) (sk:List (Int×Addr)) (wr:List (Int×T3)),vs=[.ref p,.int l,.int n,.int y]/\IceAt C H p g/\g.lds.length=g.slopes.length/\g.kvs=sk.map kvA/\xX H sk wr/\1<=g.rows.length/\g.rows.length<=1000/\(∀ z,good (xV wr g.rows z)=true) /\
 0<=l/\l<(g.slopes.length:Int)/\0<=n/\n<((g.slopes.getD l.toNat []).length:Int)/\0<=y/\y<=10 ^ 40/\∃ ns ms,ZP g l ns/\(∀ q∈ns,0<=q.1)/\(g.slopes.getD l.toNat []).length<=100/\ms.Perm ns/\(ms.map (·.1)).Pairwise (· <= ·) /\
  ∀ L i,L=qz ms (g.slopes.getD l.toNat []) wr g.rows (y+jx ns y-n)->i=(y-jv 0 0 ms (y+jx ns y-n)).toNat->∀ o out rs H',H o=none->H' o=some (.lst out)->jo H' out rs->xy rs->jr rs=yY (L.take (i+1))->(jr rs).length<=900->jj H H'->Q (.ref o) H'
theorem xE:FnScope ["ice","lane","place","year","ahead","onward","runs","when","where","moved","lying"] ["ice","lane","place","year"] (j8 XS):=by walk_at "s"
theorem Ur {f C CN CP CY:Addr}{fd:FuncData}(nb:Nb2 mg) (c_parted:CalX P w K mg base 5 "parted" ["ice","lane","place","year"] (Qr C CN CP CY)) (c_laid:Cal P w K mg base 1 "laid" ["runs","run"] VN) (c_taken:Cal P w K mg base 1 "taken" ["runs","many"] Zv)
  (F:Fun K "pile" "pile" XS f fd):FnOk P w K mg base (CX1 P w) 6 f fd ["ice","lane","place","year"] (XE C):=by
 refine Fun.okX F xE (fun vs H Q E h=>?_) (fun cdv A outer s H vs Q E hr h=>?_)
 ·obtain ⟨p,g,l,n,y,sk,wr,rfl,_⟩:=h
  rfl
 ·obtain ⟨p,g,l,n,y,sk,wr,rfl,I,hll,ek,hw,hr1,hr2,sg,l0,l1,n0,n1,y0,y1,ns,ms,hL,hp0,g100,hp,hs,k⟩:=h
  refine ⟨_,(j4 (xY (xG c_parted (hr.mono (by decide)) qr rfl (j0 (pv 0) (j0 (pv 1) (j0 (pv 2) (j0 (pv 3) j2))))) (qk (n:=2) K rfl (jh (ja (i:=4) xE.nd rfl (Or.inl rfl)) (jh (ja (i:=5) xE.nd rfl (Or.inl rfl)) qj))))
   (j4 (jm (i:=6) xE.nd rfl (Or.inl rfl) (jL j2))
   (j4 (Vj (xb PassesOwn.never rfl (jT K (jn vJ (pv 4) (vX (uM K) (pv 5) wm (wg j7)))) (qk (n:=4) K rfl (jh (ja (i:=7) xE.nd rfl (Or.inl rfl)) (jh (ja (i:=8) xE.nd rfl (Or.inl rfl)) (jh (ja (i:=9) xE.nd rfl (Or.inl rfl)) (jh (ja (i:=10) xE.nd rfl (Or.inl rfl)) qj))))) (j9 (jV (jD Zp (pv 9) j7 (jI _)) (j9 (jm (i:=6) xE.nd rfl (Or.inl rfl) (jc c_laid (hr.mono (by decide)) rfl (j0 (pv 6) (j0 (qm (j0 (pv 7) (j0 (pv 8) (j0 (pv 9) j2)))) j2))))) (j9 (jm (i:=6) xE.nd rfl (Or.inl rfl) (jt (qL K) (jc c_taken (hr.mono (by decide)) rfl (j0 (pv 6) (j0 (yZ zF (pv 9)) j2))) j7 (fun _ _=>rfl))))))))
   (j9 (jk (pv 6)))))),?_⟩
  walk_at "r"
  refine ⟨p,g,l,n,y,sk,wr,rfl,I,hll,ek,hw,hr1,hr2,(fun hb=>absurd hb (by omega)),(fun _ _ hb=>absurd hb (by omega)),fun _ _ _ _=>⟨ns,ms,hL,hp0,g100,hp,hs,(fun H' s' hb=>absurd hb (by omega)),fun _ _ t a1 a2 out H1 ht ha1 ha2 ht1 ha11 ha21 r1 s1=>?_⟩⟩
  have hpos:∀ q∈ns,0<=q.1/\0<=q.2:=fun q hq=>⟨hp0 q hq,(hL.2.2.2.2.2 q hq).1⟩
  have nd:(ns.map (·.1)).Nodup:=hL.2.2.2.1
  have e0:y+jx ns y-(y+jx ns y-n)=n:=by omega
  have onm:=(uq hp hs nd hpos (y+jx ns y-n) (g.slopes.getD l.toNat []).length y y0).mp (by rw [e0];exact ⟨n0,n1⟩)
  have CL:=Va ms (g.slopes.getD l.toNat []) wr g.rows (y+jx ns y-n)
  have spl:=Za hp hs nd hpos (y+jx ns y-n) (g.slopes.getD l.toNat []).length (by omega)
  have mv9:∀ i,(x4 ms (g.slopes.getD l.toNat []) wr g.rows (y+jx ns y-n) (jv 0 0 ms (y+jx ns y-n)) i).2.2.1<=9:=fun i=>by
   have h1:=w9 ms (g.slopes.getD l.toNat []) wr g.rows (y+jx ns y-n) (jv 0 0 ms (y+jx ns y-n)) i
   have h2:xz ms (g.slopes.getD l.toNat []) wr g.rows (y+jx ns y-n) (jv 0 0 ms (y+jx ns y-n)+(i:Int))<=9:=VC (sg _) _
   show (if xz ms (g.slopes.getD l.toNat []) wr g.rows (y+jx ns y-n) (jv 0 0 ms (y+jx ns y-n)+(i:Int)) > - yg ms (g.slopes.getD l.toNat []) wr g.rows (y+jx ns y-n) (jv 0 0 ms (y+jx ns y-n)) i then _ else _)<=9
   split <;> omega
  have k:=k _ _ rfl rfl
  generalize yg ms (g.slopes.getD l.toNat []) wr g.rows (y+jx ns y-n) (jv 0 0 ms (y+jx ns y-n))=dp at CL
  generalize y+jx ns y-n=m at *
  generalize hmv:(fun i=>(x4 ms (g.slopes.getD l.toNat []) wr g.rows m (jv 0 0 ms m) i).2.2.1)=mv at CL
  have mvb:∀ i,mv i<=9:=fun i=>by rw [<- hmv];exact mv9 i
  generalize (fun i:Nat=>plc ms m (jv 0 0 ms m+(i:Int)))=pl at CL
  generalize qz ms (g.slopes.getD l.toNat []) wr g.rows m=L at *
  generalize hfst:jv 0 0 ms m=fst at *
  generalize jv 0 0 ms (m+((g.slopes.getD l.toNat []).length:Int))=gon at *
  generalize hkk:(y-fst).toNat=kk at *
  have hkN:kk<(gon-fst).toNat:=by omega
  have hol:out.length=(gon-fst).toNat:=(Paired.length r1).trans CL.len
  walk_at "r"
  refine ⟨t,_,rfl,SqT.of ht1,rfl,?_⟩
  refine ⟨_,_,rfl,_,_,rfl,rfl,?_⟩
  walk_at "r"
  refine ⟨Nat.zero_le _,fun r0 H2 hr0 hr02 s2=>?_⟩
  have hr00:H r0=none:=s1.free hr0
  walk_at "r"
  refine ⟨_,_,rfl,SqL.of (s2 _ _ ha21),fun a3 H3 ha3 ha33 s3=>?_⟩
  have ha33:H3 a3=some (.lst ((out.drop kk).take 1)):=by rw [ha33];exact congrArg (fun z=>some (HO.lst z)) (Zu (out.drop kk) 1)
  refine ⟨a1,a3,_,_,rfl,rfl,s3 _ _ (s2 _ _ ha11),ha33,by rw [List.length_take,List.length_take,List.length_drop];exact Nat.le_of_lt (jd (by omega)),fun a4 H4 ha4 ha44 s4=>?_⟩
  have eo:out.take kk++(out.drop kk).take 1=out.take (kk+1):=by rw [List.take_add]
  rw [eo] at ha44
  have s14:jj H1 H4:=s2.trans (s3.trans s4)
  have rt:qY H4 (out.take (kk+1)) (L.take (kk+1)):=(qY.take _ r1).keep (jg.same s14)
  have hlt:(out.take (kk+1)).length=kk+1:=by rw [List.length_take];omega
  have hr04:=s4 _ _ (s3 _ _ hr02)
  walk_at "r"
  refine ⟨⟨_,SqL.of ha44⟩,?_⟩
  refine yp (K:=K) (a:=a4) (xs:=out.take (kk+1)) (fun i σ H6=>∃ (x7 x8 x9 x10:Option V) (ra:Addr) (xs:List V) (rs:List T3),σ=[some (.ref p),some (.int l),some (.int n),some (.int y),some (.ref a1),some (.ref a2),some (.ref ra),x7,x8,x9,x10]/\H ra=none/\H6 ra=some (.lst xs)/\jo H6 xs rs/\xy rs/\jr rs=yY ((L.take (kk+1)).take i)/\(∀ q∈jr rs,q.1<fst+(i:Int))/\(jr rs).length<=9*i/\jj H4 H6) ?_ ?_ ?_ ?_
  ·exact ⟨_,_,_,_,r0,[],[],rfl,hr00,hr04,.nil,⟨fun _ h=>(by cases h),.nil⟩,rfl,fun _ h=>(by cases h),Nat.le_refl _,jj.refl _⟩
  ·rintro i σ H6 hi ⟨x7,x8,x9,x10,ra,xs,rs,rfl,hra,h6,r6,g6,e6,y6,l6,s6⟩
   exact SqL.of (s6 _ _ ha44)
  ·rintro i v σ H6 hv ⟨x7,x8,x9,x10,ra,xs,rs,rfl,hra,h6,r6,g6,e6,y6,l6,s6⟩
   obtain ⟨q,hq,bq,rfl,hbq⟩:=Paired.get rt hv
   have hi:i<kk+1:=by rw [<- hlt];exact (List.getElem?_eq_some_iff.mp hv).1
   have ek':=XG hq
   rw [<- e6] at ek'
   rw [List.getElem?_take_of_lt hi,CL.at_ i (by omega)] at hq
   have hq:=Option.some.inj hq
   subst hq
   have m9:=mvb i
   have xl:xs.length=rs.length:=r6.length
   have gl:=yC g6
   have hbq:H4 bq=some (.tup [.int (fst+(i:Int)),.int (pl i),.int (mv i),.int (dp (i+1))]):=hbq
   unfold ww at ek'
   have ek':yY ((L.take (kk+1)).take (i+1))=if 0<mv i then jr rs++List.replicate (mv i).toNat (fst+(i:Int),pl i) else (jr rs).take ((jr rs).length-(- mv i).toNat):=ek'
   walk_at "r"
   refine ⟨bq,_,rfl,SqT.of (s6 _ _ hbq),rfl,?_⟩
   refine ⟨_,_,rfl,_,_,rfl,_,_,rfl,_,_,rfl,rfl,?_⟩
   walk_at "r"
   refine qB (fun z=>?_) (fun z=>?_)
   ·rw [if_pos z] at ek'
    walk_at "r"
    refine ⟨by show 3<=sizeLine;decide,fun tq H7 htq htq7 s7=>?_⟩
    walk_at "r"
    refine ⟨ra,xs,.ref tq,rfl,s7 _ _ h6,by omega,fun l8 H8 hl8 hl88 s8=>?_⟩
    have e1:jr (rs++[(fst+(i:Int),pl i,mv i)])=jr rs++List.replicate (mv i).toNat (fst+(i:Int),pl i):=by
     rw [qf]
     congr 1
     exact List.append_nil _
    refine ⟨_,_,_,_,l8,xs++[.ref tq],rs++[(fst+(i:Int),pl i,mv i)],rfl,s1.free (s14.free (s6.free (s7.free hl8))),hl88,?_,Y4 g6 z y6,e1.trans ek'.symm,fun q hq=>?_,?_,s6.trans (s7.trans s8)⟩
    ·exact jo.snoc (jo.same r6 (s7.trans s8)) ⟨tq,rfl,s8 _ _ htq7⟩
    ·rw [e1] at hq
     rcases List.mem_append.mp hq with h | h
     ·have:=y6 q h
      omega
     ·rw [(List.mem_replicate.mp h).2]
      show fst+(i:Int)<_
      omega
    ·rw [e1,List.length_append,List.length_replicate]
     omega
   ·rw [if_neg z] at ek'
    walk_at "r"
    refine ⟨ra,xs,rs,- mv i,rfl,h6,r6,g6,by omega,by omega,fun t9 l9 o9 H9 vl vo left off m' hl9 ho9 lo9 ht9 hl99 rl9 ho99 ro9 s9 tk fin=>?_⟩
    have e1:=(UO tk fin).trans ek'.symm
    have hsub:∀ q∈jr left,q∈jr rs:=fun q hq=>by rw [<- tk.keys];exact List.mem_append_left _ hq
    have hle:(jr left).length<=(jr rs).length:=by rw [<- tk.keys,List.length_append];omega
    walk_at "r"
    refine ⟨_,_,_,_,l9,vl,left,rfl,s1.free (s14.free (s6.free hl9)),hl99,rl9,tk.gl,e1,fun q hq=>?_,by omega,s6.trans s9⟩
    have:=y6 q (hsub q hq)
    omega
  ·rintro σ H6 ⟨x7,x8,x9,x10,ra,xs,rs,rfl,hra,h6,r6,g6,e6,y6,l6,s6⟩
   rw [hlt,List.take_take,Nat.min_self] at e6
   walk_at "r"
   exact k ra xs rs H6 hra h6 r6 g6 e6 (by omega) (s1.trans (s14.trans s6))
end
section
variable {P:Program}{w:World}{K:PySem.W.Frag}{mg:Str->Option Value}{base:Heap}
def YW:Sp:=fun vs H Q _=>∃ (sd:Addr) (c:ScN) (l:Int) (da:Addr) (dn:List (Int×Int)),vs=[.ref sd,.int l]/\ScAt H sd c/\0<=l/\c.lds[l.toNat]? = some (da,dn)/\dn.length<=100/\c.sk.length<=100 /\
 ∀ M H',-1<=M->(M = -1\/M∈c.sk.map (·.1)\/M∈dn.map (·.1))->(∀ z∈c.sk,z.1<=M)->(∀ q∈dn,q.1<=M)->jj H H'->Q (.int M) H'
theorem Q8:FnScope ["_law_scene_here","_law_lane"] ["_law_scene_here","_law_lane"] (j8 vx):=by walk_at "s"
theorem UM {f:Addr}{fd:FuncData}(nb:Nb2 mg) (F:Fun K "_law_news" "_law_news" vx f fd):FnOk P w K mg base CX0 1 f fd ["_law_scene_here","_law_lane"] YW:=by
 refine F.ok Q8 (fun vs H Q E h=>?_) (fun cdv A outer s H vs Q E hr h=>?_)
 ·obtain ⟨sd,c,l,da,dn,rfl,_⟩:=h
  rfl
 ·obtain ⟨sd,c,l,da,dn,rfl,S,l0,hda,hdn,hsk,k⟩:=h
  refine ⟨_,(j9 (jk (jf (Y0 K rfl) rfl nb.b_max boot_max (j0 (jn vJ (jn vJ (jL (j0 (jn qT j7 j7) j2)) (qp (kN K rfl) rfl nb.b_list PyProof.Rows.boot_list (j0 (jN (qc hr) (pv 0) jG (fun _ _=>rfl)) j2))) (qp (kN K rfl) rfl nb.b_list PyProof.Rows.boot_list (j0 (jt (je K) (jN (qc hr) (pv 0) jG (fun _ _=>rfl)) (pv 1) (fun _ _=>rfl)) j2))) j2)))),?_⟩
  walk_at "r"
  refine ⟨by show 1<=sizeLine;decide,fun a1 H1 ha1 ha11 s1=>?_⟩
  walk_at "r"
  refine ⟨sd,.ref c.sg,rfl,by rw [<- zf c.p c.q c.sg c.gl c.ll];exact qN.k (k:=.inr "single") (S.same s1).sd,?_⟩
  walk_at "r"
  refine ⟨c.sg,_,c.sk.map (·.1),rfl,(S.same s1).sg,by rw [List.map_map,List.map_map];rfl,by rw [List.length_map];omega,fun a2 H2 ha2 ha22 s2=>?_⟩
  walk_at "r"
  refine ⟨a1,a2,_,_,rfl,rfl,s2 _ _ ha11,ha22,by rw [List.length_map,List.length_map];show 1+_<=_;exact Nat.le_of_lt (jd (by omega)),fun a3 H3 ha3 ha33 s3=>?_⟩
  have S3:=((S.same s1).same s2).same s3
  walk_at "r"
  refine ⟨sd,.ref c.ll,rfl,by rw [<- kZ c.p c.q c.sg c.gl c.ll];exact qN.k (k:=.inr "leaps") S3.sd,?_⟩
  walk_at "r"
  refine ⟨_,_,_,_,rfl,rfl,SqL.of S3.ll,qW l0 (v:=V.ref da) (by rw [List.getElem?_map,hda];rfl),?_⟩
  walk_at "r"
  refine ⟨da,_,dn.map (·.1),rfl,S3.ld _ (List.mem_of_getElem? hda),by rw [List.map_map,List.map_map];rfl,by rw [List.length_map];omega,fun a4 H4 ha4 ha44 s4=>?_⟩
  walk_at "r"
  refine ⟨a3,a4,_,_,rfl,rfl,s4 _ _ ha33,ha44,by simp only [List.length_append,List.length_map];show 1+_+_<=_;exact Nat.le_of_lt (jd (by omega)),fun a5 H5 ha5 ha55 s5=>?_⟩
  have ha55:H5 a5=some (.lst ((-1::(c.sk.map (·.1)++dn.map (·.1))).map V.int)):=by rw [ha55,List.map_cons,List.map_append];rfl
  walk_at "r"
  refine ⟨a5,_,rfl,SqL.of ha55,by simp,fun M hM hle=>?_⟩
  have h1:=hle (-1) (List.mem_cons_self ..)
  refine k M H5 h1 ?_ (fun z hz=>hle _ (List.mem_cons_of_mem _ (List.mem_append_left _ (List.mem_map_of_mem hz)))) (fun q hq=>hle _ (List.mem_cons_of_mem _ (List.mem_append_right _ (List.mem_map_of_mem hq)))) (s1.trans (s2.trans (s3.trans (s4.trans s5))))
  rcases List.mem_cons.mp hM with h | h
  ·exact .inl h
  ·rcases List.mem_append.mp h with h | h
   ·exact .inr (.inl h)
   ·exact .inr (.inr h)
def yL (y p:Int) (n:Nat):List T3:=(List.range n).map fun i:Nat=>(y,p,(i:Int))
def US:Sp:=fun vs H Q _=>∃ (sd:Addr) (c:ScN) (wy:List Int) (wr:List (Int×T3)),vs=[.ref sd]/\ScAt H sd c/\c.ws[0]? = some wy/\1<=(jb c.rs wy).length/\xX H c.sk wr/\1<=c.ts.length/\c.ts.length<=1000/\(∀ z,good (xV wr c.ts z)=true) /\
 ∀ o out H',H o=none->H' o=some (.lst out)->jo H' out (yL (10 ^ 40) 0 (chg (xV wr c.ts (10 ^ 40)) ((jb c.rs wy).getD 0 0)).toNat)->jj H H'->Q (.ref o) H'
theorem vj:FnScope ["_law_scene_here","_law_year_here","_law_many"] ["_law_scene_here"] (j8 yI):=by walk_at "s"
theorem WX {f:Addr}{fd:FuncData}(nb:Nb2 mg) (c_law_wish:Cal P w K mg base 1 "_law_wish" ["_law_row_here","_law_height"] Vk) (c_law_row:Cal P w K mg base 1 "_law_row" ["_law_scene_here","_law_year_here"] Vw)
  (F:Fun K "_law_top" "_law_top" yI f fd):FnOk P w K mg base CX0 2 f fd ["_law_scene_here"] US:=by
 refine F.ok vj (fun vs H Q E h=>?_) (fun cdv A outer s H vs Q E hr h=>?_)
 ·obtain ⟨sd,c,wy,wr,rfl,_⟩:=h
  rfl
 ·obtain ⟨sd,c,wy,wr,rfl,S,hwy,g1,hw,t1,t2,sg,k⟩:=h
  refine ⟨_,(j4 (jm (i:=1) vj.nd rfl (Or.inr rfl) (jn wV j7 j7))
   (j4 (jm (i:=2) vj.nd rfl (Or.inl rfl) (jc c_law_wish (hr.mono (by decide)) rfl (j0 (jc c_law_row (hr.mono (by decide)) rfl (j0 (pv 0) (j0 (pv 1) j2))) (j0 (jt (je K) (jt (je K) (jN (qc hr) (pv 0) jG (fun _ _=>rfl)) j7 (fun _ _=>rfl)) j7 (fun _ _=>rfl)) j2))))
   (j9 (jk (jY (osc:=(j8 yI)) (ON:=["_law_scene_here","_law_year_here","_law_many"]) (N:=["_law_layer","_law_year_here"]) (own:=1) (caps:=[1]) ⟨rfl,by walk_at "k",by walk_at "k",by walk_at "k",rfl,by walk_at "k"⟩ rfl rfl rfl (qx rfl nb.b_range (j0 (jf (yK rfl) rfl nb.b_max boot_max (j0 j7 (j0 (pv 2) j2))) j2)) (fun _ _ _ _ _=>(ja (i:=0) (show List.Nodup (["_law_layer","_law_year_here"]:List Str) by decide +kernel) rfl (Or.inl rfl))) (fun _ _ _ _ _=>jF) (fun _ _ _ _ _=>(qm (j0 (pv 1) (j0 j7 (j0 (pv 0) j2)))))))))),?_⟩
  have hzl:c.zs.length=c.ws.length:=(Paired.length S.gi).trans (List.length_map _)
  have hi:0<c.zs.length:=by rw [hzl];exact (List.getElem?_eq_some_iff.mp hwy).1
  obtain ⟨gw,hgw,ga,ega,hga⟩:=Paired.get S.gi (List.getElem?_eq_getElem hi)
  rw [List.getElem?_map,hwy] at hgw
  have hgw:=Option.some.inj hgw
  subst hgw
  have hg0:((jb c.rs wy).map V.int)[0]? = some (V.int ((jb c.rs wy).getD 0 0)):=by
   rw [List.getElem?_map,List.getD_eq_getElem?_getD,List.getElem?_eq_getElem (by omega)]
   rfl
  have ch9:chg (xV wr c.ts (10 ^ 40)) ((jb c.rs wy).getD 0 0)<=9:=VC (sg _) _
  walk_at "r"
  refine ⟨sd,c,10 ^ 40,wr,rfl,S,hw,t1,t2,fun t0 ht0=>?_⟩
  walk_at "r"
  refine ⟨sd,.ref c.gl,rfl,by rw [<- zn c.p c.q c.sg c.gl c.ll];exact qN.k (k:=.inr "grounds") S.sd,?_⟩
  walk_at "r"
  refine ⟨_,_,_,_,rfl,rfl,SqL.of S.gl,qW (Int.le_refl 0) (v:=V.ref ga) (by show c.zs[0]? = _;rw [List.getElem?_eq_getElem hi,ega]),?_⟩
  walk_at "r"
  refine ⟨_,_,_,_,rfl,rfl,SqL.of hga,qW (Int.le_refl 0) hg0,?_⟩
  walk_at "r"
  refine ⟨t0,_,_,rfl,ht0,?_⟩
  walk_at "r"
  refine ⟨_,_,rfl,?_⟩
  generalize chg (xV wr c.ts (10 ^ 40)) ((jb c.rs wy).getD 0 0)=mn at *
  walk_at "r"
  refine ⟨by split <;> omega,by split <;> omega,fun acc hacc=>?_⟩
  have en:(if mn > 0 then mn else 0).toNat=mn.toNat:=by split <;> omega
  refine xc (lo:=0) (n:=(if mn > 0 then mn else 0).toNat) (acc:=acc) (fun i σ H1=>∃ (x:Option V) (out:List V),σ=[x,some (.int (10 ^ 40))]/\H1 acc=some (.lst out)/\out.length=i/\jo H1 out (yL (10 ^ 40) 0 i)/\Ext acc H H1) ?_ ?_ ?_
  ·exact ⟨none,[],rfl,j6,rfl,.nil,Ext.put⟩
  ·rintro i σ H1 hi' ⟨x,out,rfl,h1,l1,r1,e1⟩
   walk_at "r"
   refine ⟨by show 3<=sizeLine;decide,fun tq H7 htq htq7 s7=>?_⟩
   have tqa:tq≠acc:=(j1 h1 htq).symm
   refine ⟨_,s7 _ _ h1,jd (by rw [en] at hi';omega),_,out++[.ref tq],rfl,j6,by rw [List.length_append,l1];rfl,?_,fun c o hc n=>by rw [j5 n];exact s7 _ _ (e1 c o hc n)⟩
   unfold yL
   rw [List.range_succ,List.map_append]
   have ra:(0+(i:Int))=(i:Int):=by omega
   rw [ra] at htq7
   exact jo.snoc (jo.keep r1 fun a xs z=>by rw [j5 (jp (s7 _ _ z) (s7 _ _ h1) (by walk_at "z"))];exact s7 _ _ z) ⟨tq,rfl,by rw [j5 tqa];exact htq7⟩
  ·rintro σ H1 ⟨x,out,rfl,h1,l1,r1,e1⟩
   rw [en] at r1
   walk_at "r"
   exact k acc out H1 hacc h1 r1 fun c o hc=>e1 c o hc (j1 hc hacc)
end
section
variable {P:Program}{w:World}{K:PySem.W.Frag}{mg:Str->Option Value}{base:Heap}
theorem xC {ns:List (Int×Int)}{M y:Int}(h:∀ q∈ns,q.1<=M) (hy:M<=y):jx ns y=jP ns:=by
 unfold jx jP
 rw [List.filter_eq_self.mpr fun q hq=>decide_eq_true (Int.le_trans (h q hq) hy)]
theorem qQ {ns ms:List (Int×Int)}(p:ms.Perm ns) (s:(ms.map (·.1)).Pairwise (· <= ·)) (nd:(ns.map (·.1)).Nodup) (h:∀ q∈ns,0<=q.1/\0<=q.2) {M goal:Int}(hM:∀ q∈ns,q.1<=M) (hM1 : -1<=M) (hg:M<goal-jP ns):jv 0 0 ms goal=goal-jP ns:=by
 have hm:∀ q∈ms,0<=q.1/\0<=q.2:=fun q hq=>h q (p.mem_iff.mp hq)
 have ndm:(ms.map (·.1)).Nodup:=(p.map (·.1)).nodup_iff.mpr nd
 have st:=qK s ndm
 have key:∀ y:Int,0<=y->(goal<=y+jx ns y↔jv 0 0 ms goal<=y):=fun y hy=>by
  have:=uD ms 0 0 goal y hm st hy
  rw [xg p,Int.add_zero] at this
  exact this
 have f0:=yv p s h goal
 have a:=(key (goal-jP ns) (by omega)).mp (by rw [xC hM (by omega)];omega)
 by_cases e:jv 0 0 ms goal<=goal-jP ns-1
 ·have b:=(key (goal-jP ns-1) (by omega)).mpr e
  have c:=YV (fun q hq=>(h q hq).2) (goal-jP ns-1)
  omega
 ·omega
theorem QA {wr:List (Int×T3)}{ts:List T3}{M y:Int}(hW:∀ q∈wr,q.1<=M) (hy:M<y):xV wr ts y=ts.getD (y % (ts.length:Int)).toNat (0,0,0):=by
 unfold xV
 rw [List.find?_eq_none.mpr fun q hq z=>by have:=hW q hq;have:=of_decide_eq_true z;omega]
theorem Y6 {wr:List (Int×T3)}{ts:List T3}{M y k:Int}(hW:∀ q∈wr,q.1<=M) (hy:M<y) (hk:0<=k*(ts.length:Int)):xV wr ts (y+k*(ts.length:Int))=xV wr ts y:=by
 rw [QA hW (by omega),QA hW hy,Int.add_mul_emod_self_right]
def sh4 (D:Int) (q:Q4):Q4:=(q.1+D,q.2)
def sh3 (D:Int) (q:T3):T3:=(q.1+D,q.2)
def sh2 (D:Int) (q:K2):K2:=(q.1+D,q.2)
section
variable {ns ms:List (Int×Int)}{wr:List (Int×T3)}{ts:List T3}{gd:List Int}{M m k:Int}
theorem gx (p:ms.Perm ns) (hM:∀ q∈ns,q.1<=M) {D y:Int}(hD:0<=D) (hy:M<y):plc ms (m+D) (y+D)=plc ms m y:=by
 unfold plc
 rw [xg p,xg p,xC hM (by omega),xC hM (by omega)]
 omega
theorem k9 (p:ms.Perm ns) (hM:∀ q∈ns,q.1<=M) (hW:∀ q∈wr,q.1<=M) (hk:0<=k*(ts.length:Int)) {y:Int}(hy:M<y):xz ms gd wr ts (m+k*(ts.length:Int)) (y+k*(ts.length:Int))=xz ms gd wr ts m y:=by
 unfold xz
 rw [Y6 hW hy hk,gx p hM hk hy]
theorem uv (p:ms.Perm ns) (hM:∀ q∈ns,q.1<=M) (hW:∀ q∈wr,q.1<=M) (hk:0<=k*(ts.length:Int)) {fst:Int}(hf:M<fst):∀ i,yg ms gd wr ts (m+k*(ts.length:Int)) (fst+k*(ts.length:Int)) i=yg ms gd wr ts m fst i
 | 0=>rfl
 | i+1=>by
  have ih:=uv p hM hW hk hf i
  have e:=k9 (gd:=gd) (m:=m) p hM hW hk (show M<fst+(i:Int) by omega)
  rw [show fst+(i:Int)+k*(ts.length:Int)=fst+k*(ts.length:Int)+(i:Int) by omega] at e
  unfold yg
  rw [ih,e]
theorem Y2 (p:ms.Perm ns) (hM:∀ q∈ns,q.1<=M) (hW:∀ q∈wr,q.1<=M) (hk:0<=k*(ts.length:Int)) {fst:Int}(hf:M<fst) (i:Nat):x4 ms gd wr ts (m+k*(ts.length:Int)) (fst+k*(ts.length:Int)) i=sh4 (k*(ts.length:Int)) (x4 ms gd wr ts m fst i):=by
 have e:=k9 (gd:=gd) (m:=m) p hM hW hk (show M<fst+(i:Int) by omega)
 have e2:=gx (m:=m) p hM hk (show M<fst+(i:Int) by omega)
 rw [show fst+(i:Int)+k*(ts.length:Int)=fst+k*(ts.length:Int)+(i:Int) by omega] at e e2
 unfold x4 sh4
 rw [uv p hM hW hk hf i,uv p hM hW hk hf (i+1),e,e2]
 show (_,_)=(_,_)
 rw [show fst+k*(ts.length:Int)+(i:Int)=fst+(i:Int)+k*(ts.length:Int) by omega]
theorem Z2 (p:ms.Perm ns) (s:(ms.map (·.1)).Pairwise (· <= ·)) (nd:(ns.map (·.1)).Nodup) (h:∀ q∈ns,0<=q.1/\0<=q.2) (hM:∀ q∈ns,q.1<=M) (hM1 : -1<=M) (hW:∀ q∈wr,q.1<=M) (hk:0<=k*(ts.length:Int)) (hm:M<m-jP ns):qz ms gd wr ts (m+k*(ts.length:Int))=(qz ms gd wr ts m).map (sh4 (k*(ts.length:Int))):=by
 unfold qz uS
 rw [qQ p s nd h hM hM1 hm,qQ (goal:=m+k*(ts.length:Int)) p s nd h hM hM1 (by omega),qQ (goal:=m+(gd.length:Int)) p s nd h hM hM1 (by omega),qQ (goal:=m+k*(ts.length:Int)+(gd.length:Int)) p s nd h hM hM1 (by omega),List.map_map]
 rw [show (m+k*(ts.length:Int)+(gd.length:Int)-jP ns-(m+k*(ts.length:Int)-jP ns)).toNat=(m+(gd.length:Int)-jP ns-(m-jP ns)).toNat by omega]
 refine List.map_congr_left fun i _=>?_
 rw [show m+k*(ts.length:Int)-jP ns=m-jP ns+k*(ts.length:Int) by omega]
 exact Y2 p hM hW hk hm i
end
theorem QE (D:Int) (rows:List Q4):yY (rows.map (sh4 D))=(yY rows).map (sh2 D):=by
 have go:∀ (rows:List Q4) (ks:List K2),(rows.map (sh4 D)).foldl ww (ks.map (sh2 D))=(rows.foldl ww ks).map (sh2 D):=fun rows=>by
  induction rows with
  | nil=>exact fun _=>rfl
  | cons q r ih =>
   intro ks
   rw [List.map_cons,List.foldl_cons,List.foldl_cons,<- ih]
   congr 1
   show (if 0<q.2.2.1 then ks.map (sh2 D)++List.replicate q.2.2.1.toNat (q.1+D,q.2.1) else (ks.map (sh2 D)).take ((ks.map (sh2 D)).length-(- q.2.2.1).toNat))=(if 0<q.2.2.1 then ks++List.replicate q.2.2.1.toNat (q.1,q.2.1) else ks.take (ks.length-(- q.2.2.1).toNat)).map (sh2 D)
   split
   ·rw [List.map_append,List.map_replicate]
    rfl
   ·rw [List.map_take,List.length_map]
 exact go rows []
theorem vL (D:Int):∀ rs:List T3,jr (rs.map (sh3 D))=(jr rs).map (sh2 D)
 | []=>rfl
 | r::rs=>by
  rw [List.map_cons,zr,zr,vL D rs,List.map_append,List.map_replicate]
  rfl
theorem XV {rs:List T3}(D:Int) (g:xy rs):xy (rs.map (sh3 D)):=by
 refine ⟨fun r hr=>?_,?_⟩
 ·obtain ⟨x,hx,rfl⟩:=List.mem_map.mp hr
  exact g.1 x hx
 ·rw [List.pairwise_map]
  exact g.2.imp fun h=>by show _+D<_+D;omega
theorem Qw {rs rs':List T3}(g:xy rs) (g':xy rs') (e:jr rs=jr rs'):rs=rs':=by
 have e1:((jr rs).map fun k=>((k.1,k.2,0):T3)).map xU=jr rs:=by
  rw [List.map_map]
  exact List.map_id' _
 exact (kP e1 g).symm.trans (kP (e1.trans e) g')
end
section
variable {P:Program}{w:World}{K:PySem.W.Frag}{mg:Str->Option Value}{base:Heap}
theorem Wy (qs:List Q4) (h:qs.length<=1000):xT 3 (.list (qs.map WP))=true:=by
 refine gX (by rw [List.length_map];exact h) ?_
 rw [List.all_eq_true]
 intro x hx
 obtain ⟨q,_,rfl⟩:=List.mem_map.mp hx
 rfl
def YH (q:T3):PyData:=.tuple [.int q.1,.int q.2.1,.int q.2.2]
theorem jo.dat {H:Hp}:∀ {out:List V}{qs:List T3},jo H out qs->DatL H out (qs.map YH)
 | _,_,.nil=>.nil
 | _,_,.cons ⟨b,e,h⟩ r=>by
  subst e
  exact .cons (.tup h (.cons (.int _) (.cons (.int _) (.cons (.int _) .nil)))) (jo.dat r)
theorem VM (qs:List T3) (h:qs.length<=1000):xT 3 (.list (qs.map YH))=true:=by
 refine gX (by rw [List.length_map];exact h) ?_
 rw [List.all_eq_true]
 intro x hx
 obtain ⟨q,_,rfl⟩:=List.mem_map.mp hx
 rfl
theorem xX.keys {H:Hp}:∀ {sk:List (Int×Addr)}{wr:List (Int×T3)},xX H sk wr->wr.map (·.1)=sk.map (·.1)
 | _,_,.nil=>rfl
 | _,_,.cons ⟨h,_⟩ r=>by rw [List.map_cons,List.map_cons,xX.keys r,h]
theorem Vz {y p:Int}{n:Nat}{rs:List T3}(g:xy rs) (e:jr rs=List.replicate n (y,p)):grp (yL y p n)=rs:=by
 refine kP ?_ g
 rw [e]
 unfold yL
 rw [List.map_map]
 exact List.eq_replicate_iff.mpr ⟨by rw [List.length_map,List.length_range],fun b hb=>by obtain ⟨i,_,rfl⟩:=List.mem_map.mp hb;rfl⟩
theorem Yu {ms:List (Int×Int)}{gd:List Int}{wr:List (Int×T3)}{ts:List T3}{m y:Int}(hpl:plc ms m y=0):yY [x4 ms gd wr ts m y 0]=List.replicate (chg (xV wr ts y) (gd.getD 0 0)).toNat (y,0):=by
 have ey:y+((0:Nat):Int)=y:=by omega
 have hw:xz ms gd wr ts m y=chg (xV wr ts y) (gd.getD 0 0):=by
  unfold xz
  rw [hpl]
  rfl
 have hl:x4 ms gd wr ts m y 0=(y,0,(if chg (xV wr ts y) (gd.getD 0 0) > 0 then chg (xV wr ts y) (gd.getD 0 0) else 0),yg ms gd wr ts m y 1):=by
  unfold x4
  rw [ey,hpl,hw]
  rfl
 rw [hl]
 generalize chg (xV wr ts y) (gd.getD 0 0)=x
 show ww [] _=_
 unfold ww
 show (if 0<(if x > 0 then x else 0) then []++List.replicate (if x > 0 then x else 0).toNat (y,0) else List.take _ [])=_
 by_cases z:x > 0
 ·rw [if_pos z,if_pos z,List.nil_append]
 ·rw [if_neg z,if_neg (by omega),List.take_nil,show x.toNat=0 by omega]
  rfl
theorem xv:FnScope ["_law_script","_law_box_here","_law_scene_here","_law_ice","_law_size","_law_turn","_law_lane","_law_place","_law_year_here","_law_more","_law_near","_law_far","_law_one","_law_rows"] ["_law_script"] (j8 yF):=by walk_at "s"
theorem WR {f C CN CP CY Pt:Addr}{fd:FuncData}(nb:Nb2 mg)
  (c_law_box:Cal P w K mg base 1 "_law_box" ["_law_script"] (Vp K)) (c_law_take:Cal P w K mg base 2 "_law_take" ["_law_box_here","_law_size"] zd) (c_law_scene:Cal P w K mg base 5 "_law_scene" ["_law_box_here"] Zy) (c_law_made:Cal P w K mg base 10 "_law_made" ["_law_scene_here"] (YI C Pt))
  (c_law_spot:Cal P w K mg base 3 "_law_spot" ["_law_box_here","_law_scene_here"] V4) (c_law_news:Cal P w K mg base 1 "_law_news" ["_law_scene_here","_law_lane"] YW) (c_law_top:Cal P w K mg base 2 "_law_top" ["_law_scene_here"] US) (c_law_runs:Cal P w K mg base 1 "_law_runs" ["_law_hands"] VP)
  (c_law_alike:Cal P w K mg base 4 "_law_alike" ["_law_found","_law_due"] (VT 3)) (c_pile:CalX P w K mg base 6 "pile" ["ice","lane","place","year"] (XE C)) (c_mark:CalX P w K mg base 4 "mark" ["ice","lane","place","year"] (Vs C CN CP CY)) (c_life:CalX P w K mg base 4 "life" ["ice","lane","mark"] (JR C CN))
  (F:Fun K "law" "law" yF f fd):FnOk P w K mg base CX0 11 f fd ["_law_script"] (XU K Pt):=by
 refine F.ok xv (fun vs H Q E h=>?_) (fun cdv A outer s H vs Q E hr h=>?_)
 ·obtain ⟨a,ns,rfl,_⟩:=h
  rfl
 ·obtain ⟨a,ns,rfl,hS,h63,hPt,k⟩:=h
  have T0:qy H Pt:=.inl hPt
  refine ⟨_,(j4 (jm (i:=1) xv.nd rfl (Or.inl rfl) (jc c_law_box (hr.mono (by decide)) rfl (j0 (pv 0) j2)))
   (j4 (jm (i:=2) xv.nd rfl (Or.inl rfl) (jc c_law_scene (hr.mono (by decide)) rfl (j0 (pv 1) j2)))
   (j4 (jm (i:=3) xv.nd rfl (Or.inl rfl) (jc c_law_made (hr.mono (by decide)) rfl (j0 (pv 2) j2)))
   (j4 (jm (i:=4) xv.nd rfl (Or.inl rfl) (jf (ji K) rfl nb.b_len PySem.boot_len (j0 (jN (qc hr) (pv 2) jG (fun _ _=>rfl)) j2)))
   (vQ (xb PassesOwn.never rfl (qx rfl nb.b_range (j0 j7 j2)) (ja (i:=5) xv.nd rfl (Or.inl rfl)) (j4 (xY (jc c_law_spot (hr.mono (by decide)) rfl (j0 (pv 1) (j0 (pv 2) j2))) (qk (n:=2) K rfl (jh (ja (i:=6) xv.nd rfl (Or.inl rfl)) (jh (ja (i:=7) xv.nd rfl (Or.inl rfl)) qj))))
   (j4 (jm (i:=8) xv.nd rfl (Or.inl rfl) (jn jH (jn jH (jc c_law_news (hr.mono (by decide)) rfl (j0 (pv 2) (j0 (pv 6) j2))) (jf (ji K) rfl nb.b_len PySem.boot_len (j0 (jt (je K) (jN (qc hr) (pv 2) jG (fun _ _=>rfl)) (pv 6) (fun _ _=>rfl)) j2))) (jc c_law_take (hr.mono (by decide)) rfl (j0 (pv 1) (j0 j7 j2)))))
   (vQ (jm (i:=9) xv.nd rfl (Or.inr rfl) (jn vE (jc c_law_take (hr.mono (by decide)) rfl (j0 (pv 1) (j0 (jn jH (jn yy (jn qT (jn wV j7 j7) (pv 8)) (pv 4)) j7) j2))) (pv 4)))
   (j4 (jm (i:=10) xv.nd rfl (Or.inl rfl) (jc c_pile.cal (hr.mono (by decide)) rfl (j0 (pv 3) (j0 (pv 6) (j0 (pv 7) (j0 (pv 8) j2))))))
   (j4 (wj (j:=11) (osc:=(j8 yF)) (ON:=["_law_script","_law_box_here","_law_scene_here","_law_ice","_law_size","_law_turn","_law_lane","_law_place","_law_year_here","_law_more","_law_near","_law_far","_law_one","_law_rows"]) (N:=["_law_when","_law_spot_here","_law_many","_law_more"]) (own:=3) (caps:=[9]) ⟨rfl,by walk_at "k",by walk_at "k",by walk_at "k",rfl,by walk_at "k"⟩ xv.nd rfl (Or.inl rfl) rfl rfl rfl (jT K (pv 10)) (fun _ _ _ _ _=>(qk (n:=3) K rfl (jh (ja (i:=0) (show List.Nodup (["_law_when","_law_spot_here","_law_many","_law_more"]:List Str) by decide +kernel) rfl (Or.inl rfl)) (jh (ja (i:=1) (show List.Nodup (["_law_when","_law_spot_here","_law_many","_law_more"]:List Str) by decide +kernel) rfl (Or.inl rfl)) (jh (ja (i:=2) (show List.Nodup (["_law_when","_law_spot_here","_law_many","_law_more"]:List Str) by decide +kernel) rfl (Or.inl rfl)) qj))))) (fun _ _ _ _ _=>jF) (fun _ _ _ _ _=>(qm (j0 (jn jH (pv 0) (pv 3)) (j0 (pv 1) (j0 (pv 2) j2))))))
   (j4 (jV (xf (zK (jc c_law_alike (hr.mono (by decide)) rfl (j0 (jc c_pile.cal (hr.mono (by decide)) rfl (j0 (pv 3) (j0 (pv 6) (j0 (pv 7) (j0 (jn jH (pv 8) (pv 9)) j2))))) (j0 (pv 11) j2))))) (j9 (jk Jd)) jy)
   (j4 (jm (i:=12) xv.nd rfl (Or.inl rfl) (jc c_mark.cal (hr.mono (by decide)) rfl (j0 (pv 3) (j0 (pv 6) (j0 (pv 7) (j0 (pv 8) j2))))))
   (j9 (jV (jD qu (jn jH (pv 12) (pv 9)) (jn wV j7 j7) (jI _)) (j4 (wj (j:=13) (osc:=(j8 yF)) (ON:=["_law_script","_law_box_here","_law_scene_here","_law_ice","_law_size","_law_turn","_law_lane","_law_place","_law_year_here","_law_more","_law_near","_law_far","_law_one","_law_rows"]) (N:=["_law_when","_law_spot_here","_law_many","_law_high","_law_more"]) (own:=4) (caps:=[9]) ⟨rfl,by walk_at "k",by walk_at "k",by walk_at "k",rfl,by walk_at "k"⟩ xv.nd rfl (Or.inl rfl) rfl rfl rfl (jT K (jc c_life.cal (hr.mono (by decide)) rfl (j0 (pv 3) (j0 (pv 6) (j0 (pv 12) j2))))) (fun _ _ _ _ _=>(qk (n:=4) K rfl (jh (ja (i:=0) (show List.Nodup (["_law_when","_law_spot_here","_law_many","_law_high","_law_more"]:List Str) by decide +kernel) rfl (Or.inl rfl)) (jh (ja (i:=1) (show List.Nodup (["_law_when","_law_spot_here","_law_many","_law_high","_law_more"]:List Str) by decide +kernel) rfl (Or.inl rfl)) (jh (ja (i:=2) (show List.Nodup (["_law_when","_law_spot_here","_law_many","_law_high","_law_more"]:List Str) by decide +kernel) rfl (Or.inl rfl)) (jh (ja (i:=3) (show List.Nodup (["_law_when","_law_spot_here","_law_many","_law_high","_law_more"]:List Str) by decide +kernel) rfl (Or.inl rfl)) qj)))))) (fun _ _ _ _ _=>jF) (fun _ _ _ _ _=>(qm (j0 (jn jH (pv 0) (pv 4)) (j0 (pv 1) (j0 (pv 2) (j0 (pv 3) j2)))))))
   (j9 (jV (xf (zK (jc c_law_alike (hr.mono (by decide)) rfl (j0 (jc c_life.cal (hr.mono (by decide)) rfl (j0 (pv 3) (j0 (pv 6) (j0 (jn jH (pv 12) (pv 9)) j2)))) (j0 (pv 13) j2))))) (j9 (jk Jd)) jy))) jy))))))))))
   (j9 (jk (jc c_law_alike (hr.mono (by decide)) rfl (j0 (jc c_pile.cal (hr.mono (by decide)) rfl (j0 (pv 3) (j0 j7 (j0 j7 (j0 (jn wV j7 j7) j2))))) (j0 (jc c_law_runs (hr.mono (by decide)) rfl (j0 (jc c_law_top (hr.mono (by decide)) rfl (j0 (pv 2) j2)) j2)) j2)))))))))),?_⟩
  walk_at "r"
  refine ⟨a,ns,rfl,hS,fun L b H1 hb B1 s1=>?_⟩
  have T1:=T0.same s1
  walk_at "r"
  refine ⟨L,b,rfl,B1,fun sd H2 c B2 X2 S2 O=>?_⟩
  have T2:=Uc B1 X2 T1
  walk_at "r"
  refine ⟨sd,b,c,rfl,S2,O,T2,fun p H3 g I3 F3 R3 T3 er et es ek el ld ny nd=>?_⟩
  have W3:Lw C L b sd p c g H2 H3:=Lw.start S2 O B2 T2 I3 F3 R3
  have kk:Lk c g:=⟨er,et,es,ek,el,ld,ny,nd⟩
  clear I3 R3 T3 er et es ek el ld ny nd
  have hw1:1<=c.ws.length:=by
   rw [O.ro.length]
   exact gK (jZ O.gr.ok) O.l1
  have hw6:c.ws.length<=6:=by rw [O.ro.length];exact O.gr.heads
  have hg30:∀ w∈c.ws,1<=(jb c.rs w).length/\(jb c.rs w).length<=30:=fun w hw=>⟨wL O.gr O.ro hw,(uO (O.gr.good O.l1 O.l8)).2.2.2 c.ws O.ro w hw⟩
  have hll:g.lds.length=g.slopes.length:=by rw [kk.ll,O.ldl,kk.sl,List.length_map]
  have t1:=O.t1
  have t2:=O.t2
  obtain ⟨wr,hwr⟩:=xX.of W3.S.sk
  have wgood:=hwr.good W3.S.sk
  have sgood:=fun y=>YF wgood O.tg t1 y
  have hsz:c.ys.length=c.ts.length:=Paired.length W3.S.r3
  have hzl:c.zs.length=c.ws.length:=(Paired.length W3.S.gi).trans (List.length_map _)
  have hsl:g.slopes.length=c.ws.length:=by rw [kk.sl,List.length_map]
  have hgd:∀ {H':Hp},ScAt H' sd c->qN H' sd (.str "grounds") (some (.ref c.gl)):=fun S'=>by rw [<- zn c.p c.q c.sg c.gl c.ll];exact qN.k (k:=.inr "grounds") S'.sd
  have hwk:=hwr.keys
  have pileC:∀ (H3:Hp) (l n y:Int) (wy:List Int) (da:Addr) (dn ms:List (Int×Int)) (Q':VK),Lw C L b sd p c g H2 H3->xX H3 c.sk wr->LaneF c g l wy da dn->ms.Perm dn->(ms.map (·.1)).Pairwise (· <= ·)->0<=n->n<((jb c.rs wy).length:Int)->0<=y->y<=10 ^ 40->(∀ o out rs H4,H3 o=none->H4 o=some (.lst out)->jo H4 out rs->xy rs->jr rs=yY ((qz ms (jb c.rs wy) wr c.ts (y+jx dn y-n)).take ((y-jv 0 0 ms (y+jx dn y-n)).toNat+1))->(jr rs).length<=900->jj H3 H4->Q' (.ref o) H4)->XE C [.ref p,.int l,.int n,.int y] H3 Q' E0:=fun H3 l n y wy da dn ms Q' W' hw' LF hp hs n0 n1 y0 y1 kq=>by
   have g30:=LF.g30
   refine ⟨p,g,l,n,y,c.sk,wr,rfl,W'.I,hll,kk.kv,hw',by rw [kk.rows];exact t1,by rw [kk.rows];omega,by rw [kk.rows];exact sgood,LF.l0,LF.l1,n0,by rw [LF.sl];exact n1,y0,y1,dn,ms,LF.at_,(fun q hq=>(LF.pos q hq).1),by rw [LF.sl];omega,hp,hs,fun L' i eL ei=>?_⟩
   rw [LF.sl,kk.rows] at eL
   subst eL ei
   exact kq
  walk_at "r"
  refine ⟨sd,.ref c.q,rfl,by rw [<- wn c.p c.q c.sg c.gl c.ll];exact qN.k (k:=.inr "rows") W3.S.sd,?_⟩
  walk_at "r"
  refine ⟨c.q,_,rfl,.inl (SqL.of W3.S.q),?_⟩
  rw [hsz]
  walk_at "r"
  refine ⟨fun σ H9=>∃ v5 v6 v7 v8 v9 v10 v11 v12 v13:Option V,σ=[some (.ref a),some (.ref b),some (.ref sd),some (.ref p),some (.int (c.ts.length:Int)),v5,v6,v7,v8,v9,v10,v11,v12,v13]/\Lw C L b sd p c g H2 H9/\xX H9 c.sk wr,?_,?_⟩
  ·walk_at "r"
   refine ⟨by decide,by decide,?_⟩
   refine zg (fun i σ H4=>∃ v5 v6 v7 v8 v9 v10 v11 v12 v13:Option V,σ=[some (.ref a),some (.ref b),some (.ref sd),some (.ref p),some (.int (c.ts.length:Int)),v5,v6,v7,v8,v9,v10,v11,v12,v13]/\Lw C L b sd p c g H2 H4/\xX H4 c.sk wr) ?_ ?_ ?_
   ·exact ⟨_,_,_,_,_,_,_,_,_,rfl,W3,hwr⟩
   ·clear W3 hwr
    rintro i σ H4 hi ⟨v5,v6,v7,v8,v9,v10,v11,v12,v13,rfl,W4,hw4⟩
    walk_at "r"
    refine ⟨L,b,sd,c,rfl,W4.B,W4.S,O,hw1,hw6,hg30,fun ln n wy t H5 ln0 ln1 hwy n0 n1 B5 X5 ht ht5=>?_⟩
    have W5:=W4.take B5 X5
    have hw5:=hw4.keep (zQ W4.B X5)
    clear W4 hw4
    obtain ⟨wy',da,dn,LF⟩:=kk.lane O ln0 ln1
    obtain rfl:wy'=wy:=Option.some.inj (LF.way.symm.trans hwy)
    obtain ⟨ms,hp,hs⟩:=vd dn
    have l10:=LF.l10
    have g30:=LF.g30
    have g1:=LF.g1
    have k3:=O.k3
    walk_at "r"
    refine ⟨t,_,rfl,SqT.of ht5,rfl,?_⟩
    refine ⟨_,_,rfl,_,_,rfl,rfl,?_⟩
    walk_at "r"
    refine ⟨sd,c,ln,da,dn,rfl,W5.S,ln0,LF.cd,by omega,by omega,fun M H6 hM1 hMi hMs hMd s6=>?_⟩
    have hM99:M<=99:=by
     rcases hMi with h | h | h
     ·omega
     ·obtain ⟨z,hz,rfl⟩:=List.mem_map.mp h
      exact (O.k2 z hz).2
     ·obtain ⟨z,hz,rfl⟩:=List.mem_map.mp h
      have:=LF.b z hz
      omega
    have hMw:∀ q∈wr,q.1<=M:=fun q hq=>by
     have:q.1∈c.sk.map (·.1):=by rw [<- hwk];exact List.mem_map_of_mem hq
     obtain ⟨z,hz,e⟩:=List.mem_map.mp this
     rw [<- e]
     exact hMs z hz
    have W6:=W5.same s6
    have hw6':=hw5.keep (jg.same s6)
    clear W5 hw5 hMi hMs
    have hi':ln.toNat<c.zs.length:=by omega
    obtain ⟨gw,hgw,ga,ega,hga⟩:=Paired.get W6.S.gi (List.getElem?_eq_getElem hi')
    rw [List.getElem?_map,LF.way] at hgw
    have hgw:=Option.some.inj hgw
    subst hgw
    walk_at "r"
    refine ⟨sd,.ref c.gl,rfl,hgd W6.S,?_⟩
    walk_at "r"
    refine ⟨_,_,_,_,rfl,rfl,SqL.of W6.S.gl,qW ln0 (v:=V.ref ga) (by rw [List.getElem?_eq_getElem hi',ega]),?_⟩
    walk_at "r"
    refine ⟨ga,_,rfl,.inl (SqL.of hga),?_⟩
    rw [List.length_map]
    walk_at "r"
    refine ⟨L,b,_,rfl,W6.B,⟨by decide,by decide⟩,fun v1 H7 v10' v11' B7 X7=>?_⟩
    have W7:=W6.take B7 X7
    have hw7:=hw6'.keep (zQ W6.B X7)
    clear W6 hw6' hga
    walk_at "r"
    refine ⟨fun σ H8=>∃ y D kq:Int,σ=[some (.ref a),some (.ref b),some (.ref sd),some (.ref p),some (.int (c.ts.length:Int)),some (.int (0+(i:Int))),some (.int ln),some (.int n),some (.int y),some (.int D),v10,v11,v12,v13]/\y=M+((jb c.rs wy').length:Int)+v1/\D=kq*(c.ts.length:Int)/\0<=kq/\y+D<=10 ^ 40/\Lw C L b sd p c g H2 H8/\xX H8 c.sk wr,?_,?_⟩
    ·obtain ⟨Y,eY⟩:∃ Y,M+((jb c.rs wy').length:Int)+v1=Y:=⟨_,rfl⟩
     obtain ⟨dv,edv⟩:∃ dv,(10 ^ Int.toNat 40-Y) / (c.ts.length:Int)=dv:=⟨_,rfl⟩
     have hd0:0<=dv:=by rw [<- edv];exact Int.ediv_nonneg (show (0:Int)<=10 ^ 40-Y by omega) (by omega)
     have hd1:dv*(c.ts.length:Int)<=10 ^ 40-Y:=by rw [<- edv];exact Int.ediv_mul_le (10 ^ 40-Y) (show (c.ts.length:Int)≠0 by omega)
     have hd2:dv<=10 ^ 40-Y:=by rw [<- edv];exact Int.ediv_le_self _ (show (0:Int)<=10 ^ 40-Y by omega)
     walk_at "r"
     simp only [JQ,List.append_nil]
     rw [eY,edv]
     refine ⟨L,b,_,rfl,W7.B,⟨by omega,Int.lt_of_le_of_lt (show dv+1<=10 ^ 40+1 by omega) (by decide)⟩,fun v2 H8 v20 v21 B8 X8=>?_⟩
     walk_at "r"
     have hv2:v2*(c.ts.length:Int)<=dv*(c.ts.length:Int):=Int.mul_le_mul_of_nonneg_right (by omega) (by omega)
     exact ⟨Y,v2*(c.ts.length:Int),v2,rfl,rfl,rfl,v20,by omega,W7.take B8 X8,hw7.keep (zQ W7.B X8)⟩
    rintro σ H8 ⟨y,D,kq,rfl,ey,eD,kq0,hyD,W8,hw8⟩
    clear W7 hw7
    have nd:=LF.nd
    have dnn:=LF.pos
    have D0:0<=kq*(c.ts.length:Int):=Int.mul_nonneg kq0 (by omega)
    have hsum:jx dn y=jP dn:=xC hMd (by omega)
    have hsumD:jx dn (y+D)=jP dn:=xC hMd (by omega)
    obtain ⟨m,em⟩:∃ m,y+jP dn-n=m:=⟨_,rfl⟩
    have hm:M<m-jP dn:=by omega
    have ls:=Z2 (gd:=jb c.rs wy') (ts:=c.ts) (k:=kq) hp hs nd dnn hMd hM1 hMw D0 hm
    rw [<- eD] at ls D0
    have ea1:=qQ hp hs nd dnn hMd hM1 hm
    have ea2:=qQ (goal:=m+D) hp hs nd dnn hMd hM1 (by omega)
    have hlo:=vz ms (jb c.rs wy') wr c.ts m
    have hlo1:(qz ms (jb c.rs wy') wr c.ts m).length<=100:=by
     rw [hlo,ea1,qQ (goal:=m+((jb c.rs wy').length:Int)) hp hs nd dnn hMd hM1 (by omega)]
     omega
    walk_at "r"
    simp only [JQ,List.append_nil]
    refine pileC H8 ln n y wy' da dn ms _ W8 hw8 LF hp hs n0 n1 (by omega) (by omega) fun o1 out1 rs1 H9 ho1 ho19 r1 g1' e1 k1 s9=>?_
    rw [hsum,em,ea1] at e1
    have W9:=W8.same s9
    have hw9:=hw8.keep (jg.same s9)
    clear W8 hw8
    have hl1:=yC g1'
    have hol1:out1.length=rs1.length:=Paired.length r1
    walk_at "r"
    refine ⟨⟨_,SqL.of ho19⟩,fun acc hacc=>?_⟩
    refine qg (K:=K) (a:=o1) (xs:=out1) (acc:=acc) (fun j σ H3=>∃ (x0 x1 x2:Option V) (vs:List V),σ=[x0,x1,x2,some (.int D)]/\H3 acc=some (.lst vs)/\vs.length=j/\jo H3 vs ((rs1.take j).map (sh3 D))/\Ext acc H9 H3) ?_ ?_ ?_ ?_
    ·exact ⟨none,none,none,[],rfl,j6,rfl,.nil,Ext.put⟩
    ·rintro j σ H3 hj ⟨x0,x1,x2,vs,rfl,h3,l3,r3,e3⟩
     exact SqL.of (e3 _ _ ho19 (j1 ho19 hacc))
    ·rintro j v σ H3 hv ⟨x0,x1,x2,vs,rfl,h3,l3,r3,e3⟩
     obtain ⟨q,hq,bq,rfl,hbq⟩:=Paired.get r1 hv
     have hj:j<out1.length:=(List.getElem?_eq_some_iff.mp hv).1
     have hbq3:=e3 _ _ hbq (j1 hbq hacc)
     walk_at "r"
     refine ⟨bq,_,rfl,SqT.of hbq3,rfl,?_⟩
     refine ⟨_,_,rfl,_,_,rfl,_,_,rfl,rfl,?_⟩
     walk_at "r"
     refine ⟨by show 3<=sizeLine;decide,fun tq H10 htq htq0 s10=>?_⟩
     have tqa:tq≠acc:=(j1 h3 htq).symm
     refine ⟨_,s10 _ _ h3,jd (by omega),_,_,_,vs++[.ref tq],rfl,j6,by rw [List.length_append,l3];rfl,?_,fun c o hc n=>by rw [j5 n];exact s10 _ _ (e3 c o hc n)⟩
     rw [List.take_add_one,hq,List.map_append]
     exact jo.snoc (jo.keep r3 fun a xs z=>by rw [j5 (jp (s10 _ _ z) (s10 _ _ h3) (by walk_at "z"))];exact s10 _ _ z) ⟨tq,rfl,by rw [j5 tqa];exact htq0⟩
    rintro σ H10 ⟨x0,x1,x2,vs,rfl,h10,l10',r10,e10⟩
    have s10:jj H9 H10:=fun c o hc=>e10 c o hc (j1 hc hacc)
    rw [List.take_of_length_le (by omega)] at r10
    have W10:=W9.same s10
    have hw10:=hw9.keep (jg.same s10)
    clear W9 hw9
    walk_at "r"
    simp only [JQ,List.append_nil]
    refine pileC H10 ln n (y+D) wy' da dn ms _ W10 hw10 LF hp hs n0 n1 (by omega) (by omega) fun o2 out2 rs2 H11 ho2 ho21 r2 g2' e2 k2 s11=>?_
    have ers:rs2=rs1.map (sh3 D):=by
     refine Qw g2' (XV D g1') ?_
     rw [e2,vL,e1,<- QE,hsumD,show y+D+jP dn-n=m+D by omega,ls,ea2,List.map_take,show (y+D-(m+D-jP dn)).toNat=(y-(m-jP dn)).toNat by omega]
    subst ers
    have W11:=W10.same s11
    have hw11:=hw10.keep (jg.same s11)
    clear W10 hw10
    walk_at "r"
    refine ⟨_,_,.list ((rs1.map (sh3 D)).map YH),rfl,.lst ho21 (jo.dat r2),.lst (s11 _ _ h10) (jo.dat (jo.same r10 s11)),VM _ (by rw [List.length_map];omega),fun H12 s12=>?_⟩
    have W12:=W11.same s12
    have hw12:=hw11.keep (jg.same s12)
    clear W11 hw11
    walk_at "r"
    simp only [JQ,List.append_nil]
    have l1:=LF.l1
    have l0:=LF.l0
    refine ⟨p,g,ln,n,y,rfl,W12.I,hll,(fun hb=>absurd hb (by omega)),(fun _ _ hb=>absurd hb (by rw [LF.sl];omega)),fun _ _ _ _=>⟨dn,LF.at_,(fun H' _ hb=>absurd hb (by omega)),fun H13 s13 _ _=>?_⟩⟩
    rw [hsum,em]
    have W13:=W12.same s13
    have hw13:=hw12.keep (jg.same s13)
    clear W12 hw12
    walk_at "r"
    refine qB (fun _=>?_) (fun _=>?_)
    ·have lifeC:∀ (H3:Hp) (m':Int) (Q':VK),jj H13 H3->(∀ o out H4,H3 o=none->H4 o=some (.lst out)->qY H4 out (qz ms (jb c.rs wy') wr c.ts m')->jj H3 H4->Q' (.ref o) H4)->JR C CN [.ref p,.int ln,.int m'] H3 Q' E0:=fun H3 m' Q' s3 kq=>by
      refine ⟨p,g,ln,m',c.sk,wr,rfl,W13.I.same s3,hll,kk.kv,hw13.keep (jg.same s3),by rw [kk.rows];exact t1,by rw [kk.rows];omega,(fun H' _ hb=>absurd hb (by omega)),fun _ _=>⟨dn,ms,LF.at_,(fun q hq=>(LF.pos q hq).1),by rw [LF.sl];omega,hp,hs,fun o H4 out ho ho4 r4 s4=>?_⟩⟩
      rw [LF.sl,kk.rows] at r4
      exact kq o out H4 ho ho4 r4 s4
     walk_at "r"
     simp only [JQ,List.append_nil]
     refine lifeC H13 m _ (jj.refl _) fun o3 out3 H14 ho3 ho34 r3 s14=>?_
     have hol3:out3.length=_:=Paired.length r3
     generalize qz ms (jb c.rs wy') wr c.ts m=Li at *
     walk_at "r"
     refine ⟨⟨_,SqL.of ho34⟩,fun ac2 hac2=>?_⟩
     refine qg (K:=K) (a:=o3) (xs:=out3) (acc:=ac2) (fun j σ H3=>∃ (x0 x1 x2 x3:Option V) (vs:List V),σ=[x0,x1,x2,x3,some (.int D)]/\H3 ac2=some (.lst vs)/\vs.length=j/\qY H3 vs ((Li.take j).map (sh4 D))/\Ext ac2 H14 H3) ?_ ?_ ?_ ?_
     ·exact ⟨none,none,none,none,[],rfl,j6,rfl,.nil,Ext.put⟩
     ·rintro j σ H3 hj ⟨x0,x1,x2,x3,vs,rfl,h3,l3,r3',e3⟩
      exact SqL.of (e3 _ _ ho34 (j1 ho34 hac2))
     ·rintro j v σ H3 hv ⟨x0,x1,x2,x3,vs,rfl,h3,l3,r3',e3⟩
      obtain ⟨q,hq,bq,rfl,hbq⟩:=Paired.get r3 hv
      have hj:j<out3.length:=(List.getElem?_eq_some_iff.mp hv).1
      have hbq3:=e3 _ _ hbq (j1 hbq hac2)
      walk_at "r"
      refine ⟨bq,_,rfl,SqT.of hbq3,rfl,?_⟩
      refine ⟨_,_,rfl,_,_,rfl,_,_,rfl,_,_,rfl,rfl,?_⟩
      walk_at "r"
      refine ⟨by show 4<=sizeLine;decide,fun tq H15 htq htq0 s15=>?_⟩
      have tqa:tq≠ac2:=(j1 h3 htq).symm
      refine ⟨_,s15 _ _ h3,jd (by omega),_,_,_,_,vs++[.ref tq],rfl,j6,by rw [List.length_append,l3];rfl,?_,fun c o hc n=>by rw [j5 n];exact s15 _ _ (e3 c o hc n)⟩
      rw [List.take_add_one,hq,List.map_append]
      exact Paired.snoc (qY.keep r3' fun a xs z=>by rw [j5 (jp (s15 _ _ z) (s15 _ _ h3) (by walk_at "z"))];exact s15 _ _ z) ⟨tq,rfl,by rw [j5 tqa];exact htq0⟩
     rintro σ H15 ⟨x0,x1,x2,x3,vs2,rfl,h15,l15,r15,e15⟩
     have s15:jj H14 H15:=fun c o hc=>e15 c o hc (j1 hc hac2)
     rw [List.take_of_length_le (by omega)] at r15
     walk_at "r"
     simp only [JQ,List.append_nil]
     refine lifeC H15 (m+D) _ (s14.trans s15) fun o4 out4 H16 ho4 ho46 r4 s16=>?_
     rw [ls] at r4
     walk_at "r"
     refine ⟨_,_,.list ((Li.map (sh4 D)).map WP),rfl,.lst ho46 (qY.dat r4),.lst (s16 _ _ h15) (qY.dat (qY.keep r15 (jg.same s16))),Wy _ (by rw [List.length_map];omega),fun H17 s17=>?_⟩
     have sA:=s14.trans (s15.trans (s16.trans s17))
     walk_at "r"
     exact ⟨_,_,_,_,_,_,_,_,_,rfl,W13.same sA,hw13.keep (jg.same sA)⟩
    ·exact ⟨_,_,_,_,_,_,_,_,_,rfl,W13,hw13⟩
   ·rintro σ H9 ⟨v5,v6,v7,v8,v9,v10,v11,v12,v13,rfl,W9,hw9⟩
    exact ⟨_,_,_,_,_,_,_,_,_,rfl,W9,hw9⟩
  ·rintro σ H9 ⟨v5,v6,v7,v8,v9,v10,v11,v12,v13,rfl,W9,hw9⟩
   obtain ⟨wy,da,dn,LF⟩:=kk.lane O (Int.le_refl 0) (by omega)
   obtain ⟨ms,hp,hs⟩:=vd dn
   have g1:=LF.g1
   have g30:=LF.g30
   have hM:∀ q∈dn,q.1<=99:=fun q hq=>by have:=LF.b q hq;omega
   have hsum:jx dn (10 ^ 40)=jP dn:=xC hM (by decide)
   obtain ⟨m,em⟩:∃ m,10 ^ 40+jP dn-0=m:=⟨_,rfl⟩
   have ea:=qQ (goal:=m) hp hs LF.nd LF.pos hM (by omega) (by omega)
   have hfst:m-jP dn=10 ^ 40:=by omega
   have ea2:=qQ (goal:=m+((jb c.rs wy).length:Int)) hp hs LF.nd LF.pos hM (by omega) (by omega)
   have h0:=vA (ms:=ms) (gd:=jb c.rs wy) (wr:=wr) (ts:=c.ts) (m:=m) (i:=0) (by omega)
   walk_at "r"
   simp only [JQ,List.append_nil]
   refine pileC H9 0 0 (10 ^ 40) wy da dn ms _ W9 hw9 LF hp hs (Int.le_refl 0) (by omega) (by decide) (by decide) fun o1 out1 rs1 H10 ho1 ho10 r1 g1' e1 k1 s10=>?_
   have W10:=W9.same s10
   have hw10:=hw9.keep (jg.same s10)
   have ek:jr rs1=List.replicate (chg (xV wr c.ts (10 ^ 40)) ((jb c.rs wy).getD 0 0)).toNat (10 ^ 40,0):=by
    have hpl:plc ms m (10 ^ 40)=0:=by
     unfold plc
     rw [xg hp,hsum]
     omega
    rw [ea,hfst] at h0
    rw [e1,hsum,em,ea,hfst,Int.sub_self,<- Yu (gd:=jb c.rs wy) hpl]
    congr 1
    show List.take (0+1) _=_
    rw [List.take_add_one,List.take_zero,List.nil_append,h0]
    rfl
   have hl1:=yC g1'
   walk_at "r"
   simp only [JQ,List.append_nil]
   refine ⟨sd,c,wy,wr,rfl,W10.S,LF.way,g1,hw10,t1,by omega,sgood,fun o2 out2 H11 ho2 ho21 r2 s11=>?_⟩
   generalize chg (xV wr c.ts (10 ^ 40)) ((jb c.rs wy).getD 0 0)=mn at *
   walk_at "r"
   have hn:mn.toNat<=900:=by rw [ek,List.length_replicate] at k1;exact k1
   refine ⟨o2,out2,_,rfl,ho21,r2,by unfold yL;rw [List.length_map,List.length_range];exact hn,fun o3 H12 vl ho3 ho32 r3 s12=>?_⟩
   rw [Vz g1' ek] at r3
   walk_at "r"
   have s02:=s11.trans s12
   refine ⟨_,_,.list (rs1.map YH),rfl,.lst (s02 _ _ ho10) (jo.dat (jo.same r1 s02)),.lst ho32 (jo.dat r3),VM _ (by omega),fun H13 s13=>?_⟩
   exact k H13
end
end K18
end
namespace K18
open PySem PySem.Spec PyProof.Rows L2
local macro_rules | `(tactic| walk_at "hp")=>`(tactic| first | assumption | exact j6 | (rw [j5 (by first | assumption | (apply Ne.symm;assumption))];first | assumption | exact j6))
local macro_rules | `(tactic| walk_at "num")=>`(tactic| first | decide | omega)
local macro_rules | `(tactic| walk_at "rd1")=>`(tactic| first | refine ⟨_,rfl,?_⟩ | refine ⟨_,_,rfl,rfl,?_⟩ | refine And.intro (show JA _ _ from Or.inr ⟨by walk_at "num",by walk_at "num"⟩) ?_ | refine And.intro (show JA _ _ from Or.inl ⟨by walk_at "num",by walk_at "num"⟩) ?_ | refine And.intro (show Zb _ _ from ⟨by walk_at "num",by walk_at "num"⟩) ?_ | refine And.intro (show VW _ _ from ⟨by walk_at "num",by walk_at "num",by walk_at "num"⟩) ?_ | refine And.intro (show (0:Int)<_ by walk_at "num") ?_ | refine ⟨_,_,_,_,rfl,rfl,SqL.of (by walk_at "hp"),(by rfl),?_⟩ | refine ⟨_,_,_,_,rfl,rfl,SqT.of (by walk_at "hp"),(by rfl),?_⟩ | refine ⟨_,_,_,_,rfl,rfl,(by assumption),(by rfl),?_⟩ | refine ⟨_,_,_,_,rfl,rfl,(by walk_at "hp"),(by rfl),?_⟩ | refine ⟨rfl,?_⟩)
local macro_rules | `(tactic| walk_at "r")=>`(tactic| repeat walk_at "rd1")
local macro_rules | `(tactic| walk_at "s")=>`(tactic| exact ⟨rfl,rfl,rfl,by decide +kernel,rfl,by decide +kernel,by decide +kernel⟩)
local macro_rules | `(tactic| walk_at "k")=>`(tactic| decide +kernel)
local macro_rules | `(tactic| walk_at "w")=>`(tactic| (intro _ z;cases z))
local macro_rules | `(tactic| walk_at "z")=>`(tactic| (intro z;cases z))
local macro_rules | `(tactic| walk_at "1")=>`(tactic| exact fun _ _ _ _ _ _ _ hl=>bnd1 hl fun _=>rfl)
local macro_rules | `(tactic| walk_at "2")=>`(tactic| exact fun _ _ _ _ _ _ _ hl=>bnd2 hl fun _ _=>rfl)
local macro_rules | `(tactic| walk_at "3")=>`(tactic| exact fun _ _ _ _ _ _ _ hl=>bnd3 hl fun _ _ _=>rfl)
local macro_rules | `(tactic| walk_at "4")=>`(tactic| exact fun _ _ _ _ _ _ _ hl=>bnd4 hl fun _ _ _ _=>rfl)
local macro_rules | `(tactic| walk_at "5")=>`(tactic| exact fun _ _ _ _ _ _ _ hl=>bnd5 hl fun _ _ _ _ _=>rfl)
local macro_rules | `(tactic| walk_at "6")=>`(tactic| exact fun _ _ _ _ _ _ _ hl=>bnd6 hl fun _ _ _ _ _ _=>rfl)
theorem WY {l:PySem.W.OpenLaw}{w:World}{K:PySem.W.Frag}{h:Heap}{mg:Str->Option Value}{fa:Addr}(X:K.In h) (G:h.Ns mainGlobals mg) (hfa:mg "law" = some (.ref fa))
  {CI:Addr}
  {C0:Addr}
  {C1:Addr}
  {C2:Addr}
  {C3:Addr}
  {C4:Addr}
  {C5:Addr}
  {C6:Addr}
  {u0:Tok}
  {u1:Tok}
  {u2:Tok}
  {u3:Tok}
  {u4:Tok}
  {u5:Tok}
  {u6:Tok}
  {u7:Tok}
  {u8:Tok}
  {u9:Tok}
  {u10:Tok}
  (aCI:PySem.W.nsIn K mainGlobals "Ice" = some (some (.ref CI))) (pgI:PySem.W.plainGet K CI Str.empty=true) (hdI:PySem.W.hasDictIn K CI=true) (poI:PySem.W.plainOver K CI=true) (saI:PySem.W.findIn K (.ref CI) "__setattr__" = some (some (.builtin "object.__setattr__"))) (mkI:PySem.W.makesIn K CI=true) (kcI:PySem.W.keepIn K (.ref CI)=true)
  (na0:PySem.W.findIn K (.ref CI) "valley" = some none)
  (na1:PySem.W.findIn K (.ref CI) "cycle" = some none)
  (na2:PySem.W.findIn K (.ref CI) "slopes" = some none)
  (na3:PySem.W.findIn K (.ref CI) "years" = some none)
  (na4:PySem.W.findIn K (.ref CI) "leaps" = some none)
  (a1:gN K "laid" QX)
  (a2:gN K "taken" Jt)
  (a3:gN K "leads_on" vF)
  (a4:gN K "is_reach" zV)
  (a5:gN K "way_down" vh)
  (a6:PySem.W.nsIn K mainGlobals "lanes" = some (some (.ref f6))) (l6:K.lookup f6=some ⟨oc6,od6,.func (PySem.W.fnOf "lanes" "lanes" (jW qS) (jM qS) (j8 qS) .none kV6 dc6 pm6 an6 (.ref cL) ct6),sl6⟩) (c6:PySem.W.codeIn K (.ref cL) "lanes" = true) (k6:PySem.W.keepIn K (.ref f6)=true) (hdL:PySem.W.codeHdIn K cL 156=true)
  (a7:gN K "way_of" wN)
  (a8:gN K "count_places" xo)
  (a9:gN K "fits" Jq)
  (a10:gN K "is_valley" zp)
  (a11:gN K "heights" yJ)
  (a12:gN K "is_weather" zX)
  (a13:gN K "change" kB)
  (a14:gN K "is_round" zU)
  (a15:gN K "check_round" zL)
  (a16:gN K "check_told" y9)
  (a17:gM K CI "__init__" "Ice.__init__" qC)
  (a18:gM K CI "check_lane" "Ice.check_lane" xm)
  (a19:gM K CI "check_place" "Ice.check_place" xa)
  (a20:gM K CI "length" "Ice.length" zD)
  (a21:gM K CI "height" "Ice.height" zH)
  (a22:gM K CI "sky" "Ice.sky" vD)
  (a23:gM K CI "tell" "Ice.tell" yk)
  (a24:gM K CI "surge" "Ice.surge" zZ)
  (a25:gM K CI "surges" "Ice.surges" xF)
  (a26:gN K "check_asked" zI)
  (a27:gN K "ride_by" yH)
  (a28:gN K "earliest" vC)
  (a29:gN K "span" XZ)
  (a30:gN K "ridden" kI)
  (a31:gN K "mark" Xy)
  (a32:gN K "life" XX)
  (a33:gN K "parted" kK)
  (a34:gN K "pile" XS)
  (a35:gN K "_law_box" uJ)
  (a36:gN K "_law_mixed" yx)
  (a37:gN K "_law_take" vH)
  (a38:gN K "_law_whole" yq)
  (a39:gN K "_law_alike" xS)
  (a43:gN K "_law_weather" zN)
  (a44:gN K "_law_round" zA)
  (a45:gN K "_law_ground_drawn" qh)
  (a46:gN K "_law_reaches" qZ)
  (a47:gN K "_law_roads" xK)
  (a48:gN K "_law_ground" zW)
  (a49:gN K "_law_year" vg)
  (a50:gN K "_law_scene" xL)
  (a51:gN K "_law_made" vB)
  (a52:gN K "_law_row" uB)
  (a53:gN K "_law_wish" vv)
  (a54:gN K "_law_spot" vn)
  (a55:gN K "_law_runs" vq)
  (a56:gN K "_law_news" vx)
  (a57:gN K "_law_top" yI)
  (a58:PySem.W.nsIn K mainGlobals "law" = some (some (.ref f58))) (l58:K.lookup f58=some ⟨oc58,od58,.func (PySem.W.fnOf "law" "law" (jW yF) (jM yF) (j8 yF) .none kV58 dc58 pm58 an58 cd58 ct58),sl58⟩) (c58:PySem.W.codeIn K cd58 "law" = true) (k58:PySem.W.keepIn K (.ref f58)=true)
  (ec0:gE K "BadValley" C0)
  (ec1:gE K "BadRound" C1)
  (ec2:gE K "NoLane" C2)
  (ec3:gE K "BadYear" C3)
  (ec4:gE K "BadWeather" C4)
  (ec5:gE K "BadSurge" C5)
  (ec6:gE K "NoPlace" C6)
  (z0:PySem.W.nsIn K mainGlobals "len" = some none)
  (z1:PySem.W.nsIn K mainGlobals "range" = some none)
  (z2:PySem.W.nsIn K mainGlobals "isinstance" = some none)
  (z3:PySem.W.nsIn K mainGlobals "int" = some none)
  (z4:PySem.W.nsIn K mainGlobals "bool" = some none)
  (z5:PySem.W.nsIn K mainGlobals "str" = some none)
  (z6:PySem.W.nsIn K mainGlobals "list" = some none)
  (z7:PySem.W.nsIn K mainGlobals "tuple" = some none)
  (z8:PySem.W.nsIn K mainGlobals "min" = some none)
  (z9:PySem.W.nsIn K mainGlobals "max" = some none)
  (z10:PySem.W.nsIn K mainGlobals "all" = some none)
  (z11:PySem.W.nsIn K mainGlobals "zip" = some none)
  (z12:PySem.W.nsIn K mainGlobals "enumerate" = some none)
  (z13:PySem.W.nsIn K mainGlobals "sorted" = some none)
  (z14:PySem.W.nsIn K mainGlobals "sum" = some none)
  (z15:PySem.W.nsIn K mainGlobals "dict" = some none)
  (q0:PySem.W.nsIn K mainGlobals "MOST_REACHES" = some (some (.int 8 u0)))
  (q1:PySem.W.nsIn K mainGlobals "MOST_HEIGHTS" = some (some (.int 12 u1)))
  (q2:PySem.W.nsIn K mainGlobals "GREATEST_HEIGHT" = some (some (.int 99 u2)))
  (q3:PySem.W.nsIn K mainGlobals "MOST_LANES" = some (some (.int 6 u3)))
  (q4:PySem.W.nsIn K mainGlobals "LONGEST_LANE" = some (some (.int 30 u4)))
  (q5:PySem.W.nsIn K mainGlobals "HIGHEST_LINE" = some (some (.int 100 u5)))
  (q6:PySem.W.nsIn K mainGlobals "MOST_HANDS" = some (some (.int 9 u6)))
  (q7:PySem.W.nsIn K mainGlobals "MOST_ROWS" = some (some (.int 12 u7)))
  (q8:PySem.W.nsIn K mainGlobals "LAST_TOLD" = some (some (.int 99 u8)))
  (q9:PySem.W.nsIn K mainGlobals "LAST_ASKED" = some (some (.int 10000000000000000000000000000000000000000 u9)))
  (q10:PySem.W.nsIn K mainGlobals "GREATEST_SURGE" = some (some (.int 9 u10)))
  : ∃ fd:FuncData,(∀ (s:Shared) (v:Value),BindsTo s fd ⟨[v],[]⟩ [("_law_script",v)])/\∀ base:Heap,K.In base->base.Ns mainGlobals mg->Bm mg base->FnOk l.prog w K mg base CX0 11 fa fd ["_law_script"] (XU K 156):=by
 have e:=hfa.symm.trans (PySem.W.mg_of X G a58)
 cases e
 have nb:Nb2 mg:={ b_len:=PySem.W.mg_none_of X G z0,b_range:=PySem.W.mg_none_of X G z1,b_isinstance:=PySem.W.mg_none_of X G z2,b_int:=PySem.W.mg_none_of X G z3,b_bool:=PySem.W.mg_none_of X G z4,b_str:=PySem.W.mg_none_of X G z5,b_list:=PySem.W.mg_none_of X G z6,b_tuple:=PySem.W.mg_none_of X G z7,b_min:=PySem.W.mg_none_of X G z8,b_max:=PySem.W.mg_none_of X G z9,b_all:=PySem.W.mg_none_of X G z10,b_zip:=PySem.W.mg_none_of X G z11,b_enumerate:=PySem.W.mg_none_of X G z12,b_sorted:=PySem.W.mg_none_of X G z13,b_sum:=PySem.W.mg_none_of X G z14 }
 have b_dict:=PySem.W.mg_none_of X G z15
 have g_MOST_REACHES:=PySem.W.mg_of X G q0
 have g_MOST_HEIGHTS:=PySem.W.mg_of X G q1
 have g_GREATEST_HEIGHT:=PySem.W.mg_of X G q2
 have g_MOST_LANES:=PySem.W.mg_of X G q3
 have g_LONGEST_LANE:=PySem.W.mg_of X G q4
 have g_HIGHEST_LINE:=PySem.W.mg_of X G q5
 have g_MOST_HANDS:=PySem.W.mg_of X G q6
 have g_MOST_ROWS:=PySem.W.mg_of X G q7
 have g_LAST_TOLD:=PySem.W.mg_of X G q8
 have g_LAST_ASKED:=PySem.W.mg_of X G q9
 have g_GREATEST_SURGE:=PySem.W.mg_of X G q10
 have e_BadValley:=PySem.W.mg_of X G ec0.e
 have x_BadValley:=ec0.x
 have e_BadRound:=PySem.W.mg_of X G ec1.e
 have x_BadRound:=ec1.x
 have e_NoLane:=PySem.W.mg_of X G ec2.e
 have x_NoLane:=ec2.x
 have e_BadYear:=PySem.W.mg_of X G ec3.e
 have x_BadYear:=ec3.x
 have e_BadWeather:=PySem.W.mg_of X G ec4.e
 have x_BadWeather:=ec4.x
 have e_BadSurge:=PySem.W.mg_of X G ec5.e
 have x_BadSurge:=ec5.x
 have e_NoPlace:=PySem.W.mg_of X G ec6.e
 have x_NoPlace:=ec6.x
 have cl_Ice:Cls K CI:=⟨pgI,hdI,poI,saI⟩
 have T_Ice:IceC K CI:=⟨cl_Ice,na0,na1,na2,na3,na4⟩
 refine ⟨PySem.W.fnOf "law" "law" (jW yF) (jM yF) (j8 yF) .none kV58 dc58 pm58 an58 cd58 ct58,fun s v=>.of_eq rfl,fun base hKb _ hBm=>?_⟩
 have CH:=PySem.W.codeHd_of_K hKb hdL
 have z:Zt l.prog w K mg base:=⟨X,G⟩
 have c_laid:=a1.cal z (by walk_at "2") (Ua nb)
 have c_taken:=a2.cal z (by walk_at "2") (Vi nb)
 have c_leads_on:=a3.cal z (by walk_at "2") (QO)
 have c_is_reach:=a4.cal z (by walk_at "2") (JY nb g_MOST_HEIGHTS g_GREATEST_HEIGHT c_leads_on)
 have c_way_down:=a5.cal z (by walk_at "2") (Qi nb)
 have c_lanes:Cal l.prog w K mg base 5 "lanes" ["reaches"] (vO K 156):=Cal.mkC (st:=qS) X G a6 l6 c6 k6 (by walk_at "1") (Vm nb c_way_down CH hBm l6 c6)
 have c_way_of:=a7.calX z (by walk_at "2") (Y3 nb e_NoLane x_NoLane c_lanes)
 have c_count_places:=a8.cal z (by walk_at "2") (we nb)
 have c_fits:=a9.cal z (by walk_at "2") (Uw nb g_MOST_LANES g_LONGEST_LANE c_count_places)
 have c_is_valley:=a10.cal z (by walk_at "1") (Jk nb g_MOST_REACHES c_is_reach c_lanes c_fits)
 have c_heights:=a11.calX z (by walk_at "2") (QY nb c_way_of)
 have c_is_weather:=a12.cal z (by walk_at "1") (gk g_HIGHEST_LINE g_MOST_HANDS)
 have c_change:=a13.cal z (by walk_at "2") (Y1)
 have c_is_round:=a14.cal z (by walk_at "1") (QK nb.toNb g_MOST_ROWS c_is_weather)
 have c_check_round:=a15.calX z (by walk_at "1") (wU nb e_BadRound x_BadRound c_is_round)
 have c_check_told:=a16.calX z (by walk_at "1") (gf g_LAST_TOLD e_BadYear x_BadYear)
 have c_Ice:=a17.mak z mkI kcI aCI (by walk_at "3") (uC nb T_Ice e_BadValley x_BadValley c_is_valley c_check_round c_lanes c_heights.cal)
 have c_Ice__check_lane:=a18.calX z (by walk_at "2") (vy nb T_Ice e_NoLane x_NoLane)
 have c_Ice__check_place:=a19.calX z (by walk_at "3") (yR nb T_Ice e_NoPlace x_NoPlace cl_Ice c_Ice__check_lane)
 have c_Ice__length:=a20.calX z (by walk_at "2") (wW nb T_Ice cl_Ice c_Ice__check_lane)
 have c_Ice__height:=a21.calX z (by walk_at "3") (kD nb T_Ice cl_Ice c_Ice__check_place)
 have c_Ice__sky:=a22.cal z (by walk_at "2") (Qz nb T_Ice)
 have c_Ice__tell:=a23.calX z (by walk_at "3") (Jp nb T_Ice e_BadWeather x_BadWeather c_check_told c_is_weather)
 have c_Ice__surge:=a24.calX z (by walk_at "4") (hV nb T_Ice cl_Ice g_GREATEST_SURGE e_BadSurge x_BadSurge c_Ice__check_lane c_check_told)
 have c_Ice__surges:=a25.calX z (by walk_at "2") (k7 nb T_Ice cl_Ice c_Ice__check_lane)
 have c_check_asked:=a26.calX z (by walk_at "1") (kH g_LAST_ASKED e_BadYear x_BadYear)
 have c_ride_by:=a27.cal z (by walk_at "2") (XR nb)
 have c_earliest:=a28.cal z (by walk_at "2") (Q7 nb)
 have c_span:=a29.calX z (by walk_at "3") (VS cl_Ice c_Ice__surges c_Ice__length c_earliest)
 have c_ridden:=a30.calX z (by walk_at "3") (Yx cl_Ice c_Ice__surges c_check_asked c_ride_by)
 have c_mark:=a31.calX z (by walk_at "4") (UL cl_Ice c_Ice__check_place c_ridden)
 have c_life:=a32.calX z (by walk_at "3") (UA nb b_dict cl_Ice c_span c_Ice__surges c_ride_by c_change c_Ice__sky c_Ice__height)
 have c_parted:=a33.calX z (by walk_at "4") (ZD cl_Ice c_Ice__check_place c_ridden c_life)
 have c_pile:=a34.calX z (by walk_at "4") (Ur nb c_parted c_laid c_taken)
 have c_law_box:=a35.cal z (by walk_at "1") (Wi nb.toNb)
 have c_law_mixed:=a36.cal z (by walk_at "2") (V1)
 have c_law_take:=a37.cal z (by walk_at "2") (UG nb.toNb c_law_mixed)
 have c_law_whole:=a38.cal z (by walk_at "1") (Vy nb)
 have c_law_alike:=a39.cal z (by walk_at "2") (ZR)
 have c_law_alike:=a39.cal z (by walk_at "2") (uK 0 nb c_law_whole c_law_alike)
 have c_law_alike:=a39.cal z (by walk_at "2") (uK 1 nb c_law_whole c_law_alike)
 have c_law_alike:=a39.cal z (by walk_at "2") (uK 2 nb c_law_whole c_law_alike)
 have c_law_weather:=a43.cal z (by walk_at "1") (Xz c_law_take)
 have c_law_round:=a44.cal z (by walk_at "1") (Vx nb.toNb c_law_take c_law_weather)
 have c_law_ground_drawn:=a45.cal z (by walk_at "3") (wd nb c_law_take)
 have c_law_reaches:=a46.cal z (by walk_at "1") (XW nb c_law_take c_law_ground_drawn)
 have c_law_roads:=a47.cal z (by walk_at "1") (Vn nb)
 have c_law_ground:=a48.cal z (by walk_at "2") (Y9)
 have c_law_year:=a49.cal z (by walk_at "1") (Uj c_law_take)
 have c_law_scene:=a50.cal z (by walk_at "1") (VF nb c_law_take c_law_reaches c_law_round c_law_ground c_law_roads c_law_year c_law_weather)
 have c_law_made:=a51.cal z (by walk_at "1") (Ui nb cl_Ice c_Ice c_Ice__tell c_Ice__surge)
 have c_law_row:=a52.cal z (by walk_at "2") (Wa nb)
 have c_law_wish:=a53.cal z (by walk_at "2") (UB)
 have c_law_spot:=a54.cal z (by walk_at "2") (VU nb c_law_take)
 have c_law_runs:=a55.cal z (by walk_at "1") (Uu nb)
 have c_law_news:=a56.cal z (by walk_at "2") (UM nb)
 have c_law_top:=a57.cal z (by walk_at "1") (WX nb c_law_wish c_law_row)
 exact WR nb c_law_box c_law_take c_law_scene c_law_made c_law_spot c_law_news c_law_top c_law_runs c_law_alike c_pile c_mark c_life (vp (st:=yF) l58 c58 k58)
end K18
open PySem PySem.W PyProof.Rows
set_option maxRecDepth 100000 in
set_option maxHeartbeats 0 in
theorem PySem.Challenge.cw_firnfall_k18_whole_far_years_come_round_holds : PySem.Challenge.rw_firnfall_k18_whole_far_years_come_round.Holds := by
 w_on
 refine holds_law HO.ws fun said=>?_
 refine holds_open (q:=HO.view) (loose:=HO.loose) (N:=9000) (Xt:=HO.xt) (XP:=XL HO.view [])
  (Yf:=Hook.obs (kmHook HO.frag.heap_1 HO.asL HO.asE [156])) (Ya:=Hook.val (kmHook HO.frag.heap_1 HO.asL HO.asE [156])) (YP:=Hook.says (kmHook HO.frag.heap_1 HO.asL HO.asE [156]))
  HO.left (Hook.of (kmHook HO.frag.heap_1 HO.asL HO.asE [156])) (Hook.keeps (kmHook HO.frag.heap_1 HO.asL HO.asE [156]))
  (fun s e=>xl_of s (Bool.and_eq_true_iff.mp e).1) XL.keeps rfl rfl rfl
  (fun s e=>recFacts_of (Bool.and_eq_true_iff.mp e).2) rfl
  (by first | assumption | decide +kernel) (by decide +kernel) ⟨rfl,rfl,rfl,rfl,rfl,by decide +kernel⟩ ?hw ?hc
 (case hw=>w_witness2)
 k_fill
 refine L2.UQ (l:=PySem.Challenge.rw_firnfall_k18_whole_far_years_come_round) 11 158 156 ⟨rfl,by decide,by decide⟩ rfl rfl (fun w h Y=>⟨PySem.W.km_in_of Y,PySem.W.km_tabs_of Y 156 (by simp)⟩) (fun _=>by kernel_rfl) (fun _=>by kernel_rfl) ?F
 case F =>
  intro w mg fa h KX G hmg
  refine' K18.WY KX G hmg ..
  all_goals try first | refine' L2.gN.mk ?_ ?_ ?_ ?_ | refine' L2.gM.mk ?_ ?_ ?_ ?_ ?_ | refine' L2.gE.mk ?_ ?_ ?_
  all_goals try show _=_
  all_goals try k_is
  all_goals kernel_rfl
