import PyProof.Rows.All
import Wide.All
import OpenK.AllK
import Wide.FinOn
import Lean
import PyProof.EqAt
import PyProof.EqKinds
import PyProof.TupleCall
import PyProof.NsDelKeeps
import PyProof.AttrMissHeap
import KE.KDictOf
import PySem.Challenge.RW_firnfall_k23_hands_that_are_none
set_option Elab.async false
set_option linter.all false
set_option maxRecDepth 100000
set_option maxHeartbeats 0
section
namespace HO
open PySem PySem.W PyProof.Rows PySem.Calls PySem.Spec
def view:Program:={ PySem.Challenge.pw_firnfall_k23_hands_that_are_none with main:={ PySem.Challenge.pw_firnfall_k23_hands_that_are_none.main with body:=(PySem.Challenge.pw_firnfall_k23_hands_that_are_none.main.body).drop 75 } }
def loose:List Str:=[Str.ofString "_wall",Str.ofString "FirnError",Str.ofString "BadValley",Str.ofString "BadRound",Str.ofString "BadWeather",Str.ofString "BadYear",Str.ofString "BadSurge",Str.ofString "BadHand",Str.ofString "NoLane",Str.ofString "NoPlace",Str.ofString "MOST_REACHES",Str.ofString "MOST_HEIGHTS",Str.ofString "GREATEST_HEIGHT",Str.ofString "MOST_LANES",Str.ofString "LONGEST_LANE",Str.ofString "is_valley",Str.ofString "is_reach",Str.ofString "leads_on",Str.ofString "fits",Str.ofString "lanes",Str.ofString "way_down",Str.ofString "way_of",Str.ofString "count_places",Str.ofString "heights",Str.ofString "HIGHEST_LINE",Str.ofString "MOST_HANDS",Str.ofString "MOST_ROWS",Str.ofString "is_weather",Str.ofString "is_round",Str.ofString "change",Str.ofString "LAST_TOLD",Str.ofString "LAST_ASKED",Str.ofString "GREATEST_SURGE",Str.ofString "check_told",Str.ofString "check_asked",Str.ofString "check_round",Str.ofString "Ice",Str.ofString "ride_by",Str.ofString "earliest",Str.ofString "ridden",Str.ofString "span",Str.ofString "life",Str.ofString "parted",Str.ofString "end_of",Str.ofString "birth_of",Str.ofString "_law_box",Str.ofString "_law_mixed",Str.ofString "_law_take",Str.ofString "_law_odd",Str.ofString "_law_weather",Str.ofString "_law_round",Str.ofString "_law_ground_drawn",Str.ofString "_law_reaches",Str.ofString "_law_roads",Str.ofString "_law_ground",Str.ofString "_law_year",Str.ofString "_law_scene",Str.ofString "_law_made",Str.ofString "_law_row",Str.ofString "_law_wish",Str.ofString "_law_ride",Str.ofString "_law_spot",Str.ofString "_law_refused",Str.ofString "_law_due_spot",Str.ofString "_law_bent_spot",Str.ofString "_law_life_at",Str.ofString "_law_try_hand"]
section
local macro_rules | `(tactic| o_head $H)=>`(tactic| (have hook:=$H;assumption))
theorem frag (hyp:(OpenLaw.row PySem.Challenge.rw_firnfall_k23_hands_that_are_none).Holds):(OpenLaw.row PySem.Challenge.rw_firnfall_k23_hands_that_are_none).Holds:=by
 k_head
end
def asL:List Addr:=[2,3,15,17,18,20,21,22,29,30,31,32,35,42,43,44,47,54,55,56,59,66,67,68,71,78,79,80,83,90,91,92,95,102,103,104,107,114,115,116,119,126,127,128,131,134,135,136,139,140,141,143,144,146,147,148,151,152,153,156,157,158,160,161,163,164,165,167,168,170,171,172,175,176,177,180,181,182,184,185,187,188,189,192,193,194,196,197,199,200,201,203,204,206,207,208,210,211,213,214,215,217,218,220,221,229,232,233,234,236,237,239,240,241,243,244,246,247,248,250,251,253,254,255,257,258,260,261,262,264,265,267,268,269,271,272,274,275,276,278,279,281,282,283,285,286,288,289,290,292,293,295,296,297,299,300,302,303,304,306,307,309,310,311,313,314,316,317,318,321,322,323,326,327,328,330,331,333,334,335,337,338,340,341,342,344,345,347,348,349,350,351,352,353,356,359,360,361,363,364,366,367,368,370,371,373,374,375,377,378,380,381,382,384,385,387,388,389,391,392,394,395,396,398,399,401,402,403,406,407,408,410,411,413,414,415,417,418,420,421,422,424,425,427,428,429,431,432,434,435,436,438,439,441,442,443,446,447,448,451,452,453,456,457,458,461,462,463,465,466,468,469,470,472,473,475,476,477,480,481,482,484,485,487,488,489,491,492,494,495,496,498,499,501,502,503,506,507,508,510,511,513,514,515,518,519,520,522,523,525,526,527,529,530,532,533,534,536,537,539,540,541,543,544,546,547,548,551,552]
theorem asE (P:Params):asL=(frag.heap_1 P).map (·.1):=by kernel_rfl
noncomputable def top (w:World) (os:OsState):Option Shared:=PySem.W.Fast.tw14082659384304107361 PySem.W.Fast.tw14364793385576792824 PySem.Challenge.pw_firnfall_k23_hands_that_are_none w (boot_heap w.params).objs.size ((boot_heap w.params).nsMap mainGlobals "__annotations__") 9000 ⟨boot_heap w.params,Array.mk [],boot_drawn,boot_toks,os⟩ (topStub PySem.Challenge.pw_firnfall_k23_hands_that_are_none)
def xt (s:Shared):Bool:=xlAt view [] s && recOk (RowW.records (OpenRow.toRowW (OpenLaw.row PySem.Challenge.rw_firnfall_k23_hands_that_are_none))) s
theorem ran2 (w:World) (os:OsState):(top w os).map (fun s=>(asL.map s.heap.get?,[154].map s.heap.get?))=some ((frag.heap_1 w.params).map fun p=>some p.2,[154].map fun _=>some (tabObj #[])):=by kernel_rfl
theorem ws:OpenLaw.wellSaid PySem.Challenge.rw_firnfall_k23_hands_that_are_none=true:=by kernel_rfl
theorem ran1 (w:World) (os:OsState):(top w os).map (fun s=>openSeen view loose (importedModules PySem.Challenge.pw_firnfall_k23_hands_that_are_none.main.body) xt true s)=some (openGood view loose):=by kernel_rfl
theorem ran0 (w:World) (os:OsState):(top w os).map (fun s=>staticsOk (importedModules PySem.Challenge.pw_firnfall_k23_hands_that_are_none.main.body) (boot_heap w.params) s.heap && namesBound PySem.Challenge.pw_firnfall_k23_hands_that_are_none s.heap && gensDone s && laidKept (boot_heap w.params) s.heap)=some true:=by kernel_rfl
theorem UB (w:World) (os:OsState):topRun treeTable PySem.Challenge.pw_firnfall_k23_hands_that_are_none w (boot_heap w.params).objs.size ((boot_heap w.params).nsMap mainGlobals "__annotations__") 9000 ⟨boot_heap w.params,Array.mk [],boot_drawn,boot_toks,os⟩ (topStub PySem.Challenge.pw_firnfall_k23_hands_that_are_none)=top w os:=by
 rw [PySem.W.Fast.te14082659384304107361,PySem.W.Fast.te14364793385576792824]
 rfl
theorem W0 (w:World):((boot_heap w.params).isNs mainGlobals && (Array.mk []:Array GenState).size == 0)=true:=by kernel_rfl
theorem Jx {tb:String->Option Builtin}{p:Program}{w:World}{N:Nat}{s:Shared}{h:Heap}{gs d k os}(hb:(h.isNs mainGlobals && gs.size == 0)=true) (hr:topRun tb p w h.objs.size (h.nsMap mainGlobals "__annotations__") N ⟨h,gs,d,k,os⟩ (topStub p)=some s) (hl:(staticsOk (importedModules p.main.body) h s.heap && namesBound p s.heap && gensDone s && laidKept h s.heap)=true):topFrom tb p w N ⟨h,gs,d,k,os⟩=some s:=by
 unfold topFrom
 rw [hb]
 show ((topRun tb p w h.objs.size (h.nsMap mainGlobals "__annotations__") N ⟨h,gs,d,k,os⟩ (topStub p)).bind _)=_
 rw [hr]
 show (match staticsOk (importedModules p.main.body) h s.heap && namesBound p s.heap && gensDone s && laidKept h s.heap with | true=>some s | false=>none)=_
 rw [hl]
theorem ZW {tb:String->Option Builtin}{p:Program}{w:World}{N:Nat}{s₀ s:Shared}(a:fencedOpening tb p w N=some s₀) (t:topFrom tb p w N s₀=some s):openEnds tb p w N=some s:=by
 unfold openEnds
 rw [a]
 exact t
theorem left:LeftO (OpenLaw.row PySem.Challenge.rw_firnfall_k23_hands_that_are_none).prog view loose xt (Hook.obs (kmHook frag.heap_1 asL asE [154])) (Hook.val (kmHook frag.heap_1 asL asE [154])) 9000:=fun w=>by
 obtain ⟨⟨h,gs,d,k,os⟩,a,b⟩:=Option.map_eq_some_iff.mp (boot_open (p:=PySem.Challenge.pw_firnfall_k23_hands_that_are_none) (N:=9000) (by kernel_rfl) (by decide) (fun s=>by kernel_rfl) w)
 obtain ⟨rfl,rfl,rfl,rfl⟩:h=boot_heap w.params/\gs=Array.mk []/\d=boot_drawn/\k=boot_toks:=by simpa using b
 have h0:=ran0 w os
 have h1:=ran1 w os
 have h2:=ran2 w os
 cases e:top w os with
 | none=>rw [e] at h1;cases h1
 | some s =>
  rw [e] at h0 h1 h2
  have l1:(staticsOk (importedModules PySem.Challenge.pw_firnfall_k23_hands_that_are_none.main.body) (boot_heap w.params) s.heap && namesBound PySem.Challenge.pw_firnfall_k23_hands_that_are_none s.heap && gensDone s && laidKept (boot_heap w.params) s.heap)=true:=Option.some.inj h0
  have l2:openSeen view loose (importedModules PySem.Challenge.pw_firnfall_k23_hands_that_are_none.main.body) xt true s=openGood view loose:=Option.some.inj h1
  obtain ⟨m1,m2⟩:=Prod.mk.inj (Option.some.inj h2)
  have m5:asL.map s.heap.get? = (frag.heap_1 w.params).map fun p=>some p.2:=m1
  have t:=ZW a (Jx (W0 w) ((UB w os).trans e) l1)
  show (openEnds treeTable PySem.Challenge.pw_firnfall_k23_hands_that_are_none w 9000).map _=_
  rw [t]
  show some (openSeen view loose (importedModules PySem.Challenge.pw_firnfall_k23_hands_that_are_none.main.body) xt true s,(asL.map s.heap.get?,[154].map s.heap.get?))=some (openGood view loose,_)
  rw [l2,m5,m2]
  rfl
end HO
end
namespace L2
open PySem PySem.Spec PyProof.Rows
abbrev Key:=Sum Int Str
def hW:Key->Value->Bool
 | .inl k,v=>Value.isInt k v
 | .inr x,v=>Value.isStrOf x v
def keyH (w:World):Key->Int
 | .inl k=>hashInt k
 | .inr x=>hashStr w x
theorem qr:∀ {k:Key}{v:Value},hW k v=true->(∃ i t,k=Sum.inl i/\v=Value.int i t)\/(∃ x t,k=Sum.inr x/\v=Value.str x t)
 | .inl i,v,h=>by
  obtain ⟨t,e⟩:=Value.isInt_shape (k:=i) (v:=v) h
  exact .inl ⟨i,t,rfl,e⟩
 | .inr x,v,h=>by
  obtain ⟨t,e⟩:=Value.isStrOf_shape (x:=x) (v:=v) h
  exact .inr ⟨x,t,rfl,e⟩
theorem ZM (i:Int) (t:Tok):hW (.inl i) (.int i t)=true:=by simp [hW,Value.isInt]
theorem Zz (x:Str) (t:Tok):hW (.inr x) (.str x t)=true:=by simp [hW,Value.isStrOf]
theorem Ul (a b:Int):decide ((Sum.inl a:Key)=Sum.inl b)=(a == b):=by
 by_cases e:a=b
 ·subst e;simp
 ·have h:¬ (Sum.inl a:Key)=Sum.inl b:=fun q=>e (Sum.inl.inj q)
  rw [decide_eq_false h]
  exact (beq_eq_false_iff_ne.mpr e).symm
theorem W7 (a b:Str):decide ((Sum.inr a:Key)=Sum.inr b)=decide (a=b):=by
 by_cases e:a=b
 ·subst e;simp
 ·have h:¬ (Sum.inr a:Key)=Sum.inr b:=fun q=>e (Sum.inr.inj q)
  rw [decide_eq_false h,decide_eq_false e]
theorem Uk (a:Int) (b:Str):decide ((Sum.inl a:Key)=Sum.inr b)=false:=decide_eq_false (fun q=>nomatch q)
theorem UK (a:Str) (b:Int):decide ((Sum.inr a:Key)=Sum.inl b)=false:=decide_eq_false (fun q=>nomatch q)
def jF (prog:Program) (w:World):PySem.KeyKind prog w Key where
 is:=hW
 hash:=keyH w
 inj:=fun v a b ha hb=>by
  rcases qr ha with ⟨i,t,rfl,rfl⟩ | ⟨x,t,rfl,rfl⟩
  ·rcases qr hb with ⟨j,u,rfl,e⟩ | ⟨y,u,rfl,e⟩
   ·injection e with e1 _;rw [e1]
   ·exact nomatch e
  ·rcases qr hb with ⟨j,u,rfl,e⟩ | ⟨y,u,rfl,e⟩
   ·exact nomatch e
   ·injection e with e1 _;rw [e1]
 byValue:=fun k v h=>by
  rcases qr h with ⟨i,t,rfl,rfl⟩ | ⟨x,t,rfl,rfl⟩ <;> rfl
 pyHash:=fun hv h=>by
  rcases qr hv with ⟨i,t,rfl,rfl⟩ | ⟨x,t,rfl,rfl⟩
  ·exact wpAny_pyHash_int h
  ·exact wpAny_pyHash_str h
 eqBool:=fun hu hv h=>by
  rcases qr hu with ⟨i,t,rfl,rfl⟩ | ⟨x,t,rfl,rfl⟩
  ·rcases qr hv with ⟨j,u,rfl,rfl⟩ | ⟨y,u,rfl,rfl⟩
   ·rw [Ul] at h;exact wpAny_eqBool_int h
   ·rw [Uk] at h;exact SeqAt.EqAt.int_str i t y u _ _ _ _ h
  ·rcases qr hv with ⟨j,u,rfl,rfl⟩ | ⟨y,u,rfl,rfl⟩
   ·rw [UK] at h;exact SeqAt.EqAt.str_int x t j u _ _ _ _ h
   ·rw [W7] at h;exact wpAny_eqBool_str h
 «strs»:=fun k x t v h=>by
  rcases qr h with ⟨i,u,rfl,e⟩ | ⟨y,u,rfl,e⟩
  ·exact nomatch e
  ·injection e with e1 _
   subst e1
   cases v <;> rfl
theorem Qa (prog:Program) (w:World) (i:Int) (t:Tok):(jF prog w).is (.inl i) (.int i t)=true:=ZM i t
theorem Qi (prog:Program) (w:World) (x:Str) (t:Tok):(jF prog w).is (.inr x) (.str x t)=true:=Zz x t
end L2
namespace L2
open PySem PySem.Spec PyProof.Rows
inductive V where
 | non | bl (b:Bool) | int (i:Int) | str (x:Str) | byt (b:Array UInt8) | flt (b:UInt64) | ref (a:Addr) | ty (n:String)
 deriving DecidableEq
def jB:V->Value->Prop
 | .non,u=>u=Value.none
 | .bl b,u=>u=Value.bool b
 | .int i,u=>∃ t,u=Value.int i t
 | .str x,u=>∃ t,u=Value.str x t
 | .byt b,u=>∃ t,u=Value.bytes b t
 | .flt b,u=>∃ t,u=Value.float b t
 | .ref a,u=>u=Value.ref a
 | .ty n,u=>u=Value.type n
abbrev jC:List V->List Value->Prop:=Paired jB
theorem jC.length {xs:List V}{us:List Value}(r:jC xs us):xs.length=us.length:=Paired.length r
theorem jC.get:∀ {xs:List V}{us:List Value}{i:Nat}{x:V},jC xs us->xs[i]? = some x->∃ u,us[i]? = some u/\jB x u
 | _,_,_,_,.nil,e=>by simp at e
 | _,_,0,_,.cons r _,e=>by simp at e;subst e;exact ⟨_,rfl,r⟩
 | _,_,i+1,x,.cons _ t,e=>by
  obtain ⟨u,h1,h2⟩:=jC.get (i:=i) (x:=x) t (by simpa using e)
  exact ⟨u,by simpa using h1,h2⟩
theorem jC.set {x:V}{u:Value}(r:jB x u):∀ {xs:List V}{us:List Value}(i:Nat),jC xs us->jC (xs.set i x) (us.set i u)
 | _,_,_,.nil=>.nil
 | _,_,0,.cons _ t=>.cons r t
 | _,_,i+1,.cons q t=>.cons q (jC.set r i t)
theorem jC.append:∀ {xs ys:List V}{us ws:List Value},jC xs us->jC ys ws->jC (xs++ys) (us++ws)
 | _,_,_,_,.nil,s=>s
 | _,_,_,_,.cons r t,s=>.cons r (jC.append t s)
theorem jC.take:∀ {xs:List V}{us:List Value}(n:Nat),jC xs us->jC (xs.take n) (us.take n)
 | _,_,0,_=>.nil
 | _,_,_+1,.nil=>.nil
 | _,_,n+1,.cons r t=>.cons r (jC.take n t)
theorem jC.drop:∀ {xs:List V}{us:List Value}(n:Nat),jC xs us->jC (xs.drop n) (us.drop n)
 | _,_,0,r=>r
 | _,_,_+1,.nil=>.nil
 | _,_,n+1,.cons _ t=>jC.drop n t
def yh:Option V->Option Value->Prop
 | some v,some u=>jB v u
 | none,none=>True
 | _,_=>False
def KV {κ:Type}:List (κ×V)->List (κ×Value)->Prop:=Paired fun (p:κ×V) (q:κ×Value)=>p.1=q.1/\jB p.2 q.2
def kV:Key->V
 | .inl i=>.int i
 | .inr x=>.str x
inductive HO where
  | lst (xs:List V)
  | tup (xs:List V)
  | dK (kvs:List (Key×V)) | dT (kvs:List (List Key×V))
  | set (S:Int->Bool) (n:Nat)
  | ins (C dx:Addr) (fs:List (Str×V))
  | own (x:Addr)
  | xd (fs:List (Str×V))
  | met (f x:Addr)
  | rng (lo hi:Int)
  | frz (o:Obj) (u:HO)
  | tbl (ps:Array Value)
  | ext (φ:Heap->Prop)
abbrev Hp:=Addr->Option HO
def upd (H:Hp) (a:Addr) (o:HO):Hp:=fun b=>if b=a then some o else H b
theorem j7 {H:Hp}{a:Addr}{o:HO}:upd H a o a=some o:=by unfold upd;rw [if_pos rfl]
theorem j8 {H:Hp}{a b:Addr}{o:HO}(h:b≠a):upd H a o b=H b:=by unfold upd;rw [if_neg h]
theorem jr {H:Hp}{a b:Addr}{o u:HO}(h:H a=some o) (h':H b=some u) (d:o≠u):a≠b:=by
 intro e;subst e;rw [h] at h';exact d (Option.some.inj h')
theorem j1 {H:Hp}{a b:Addr}{o:HO}(h:H a=some o) (h':H b=none):a≠b:=by
 intro e;subst e;rw [h] at h';cases h'
section
variable (P:Program) (w:World)
def qB (H:Hp) (h:Heap) (a:Addr):HO->Prop
 | .lst xs=>xs.length<=sizeLine/\∃ (its:List Value) (n:Nat),jC xs its/\h.get? a=some { cls:=.type "list",data:=.seq its.toArray n }
 | .tup xs=>xs.length<=sizeLine/\∃ its:List Value,jC xs its/\IsTup h a its.toArray
 | .dK kvs=>kvs.length<=sizeLine/\(a == sysModules)=false/\∃ vs,KV kvs vs/\h.DictOf (jF P w) a vs
 | .dT kvs=>kvs.length<=sizeLine/\(a == sysModules)=false/\∃ xs:List (List Key×Addr×Value),
   Paired (fun (p:List Key×V) (q:List Key×Addr×Value)=>p.1=q.1/\H q.2.1=some (.tup (p.1.map kV))/\jB p.2 q.2.2) kvs xs /\
   ∃ o es ep,h.get? a=some o/\o.ExactDict/\o.data = .dict es ep/\es.toList=xs.map (entryOfKey (tupleKind (jF P w)))/\(xs.map (·.1)).Nodup
 | .set S n=>h.SetOf (intKind P w) a S n
 | .ins C dx fs=>H dx=some (.own a)/\fs.length<=1000/\dx≠a/\h.get? a=some (PySem.W.instObj C dx) /\
   ∃ mA,h.Ns1 dx mA/\(∀ f,yh (fs.lookup f) (mA f))/\PySem.Within mA (fs.map (·.1))
 | .own _=>∃ o,h.get? a=some o
 | .xd fs=>∃ mA,h.Ns1 a mA/\∀ f,yh (fs.lookup f) (mA f)
 | .rng lo hi=>∃ t u v,h.get? a=some { cls:=.type "range",data:=.fields #[.int lo t,.int hi u,.int 1 v] }
 | .frz o u=>h.get? a=some o/\qB H h a u
 | .tbl ps=>h.get? a=some { cls:=.none,data:=.fields ps }
 | .met f x=>h.get? a=some (PySem.W.methodObj (.ref f) (.ref x))
 | .ext φ=>φ h/\(∃ o,h.get? a=some o)/\∀ h1 h2:Heap,φ h1->(∀ o,h1.get? a=some o->h2.get? a=some o)->φ h2
def HOk (H:Hp) (h:Heap):Prop:=∀ a o,H a=some o->qB P w H h a o
end
section
variable {P:Program}{w:World}{H H':Hp}{h h':Heap}{a:Addr}{o:HO}
theorem qB.lt (x:qB P w H h a o):a<h.objs.size:=by
 cases o with
 | lst xs=>obtain ⟨_,_,_,_,e⟩:=x;exact Heap.lt_size e
 | tup xs=>obtain ⟨_,_,_,p⟩:=x;exact p.lt
 | dK kvs=>obtain ⟨_,_,_,_,o,_,_,e,_⟩:=x;exact Heap.lt_size e
 | dT kvs=>obtain ⟨_,_,_,_,o,_,_,e,_⟩:=x;exact Heap.lt_size e
 | set S n=>obtain ⟨o,_,_,_,e,_⟩:=x;exact Heap.lt_size e
 | ins C dx fs=>obtain ⟨_,_,_,e,_⟩:=x;exact Heap.lt_size e
 | own y=>obtain ⟨_,e⟩:=x;exact Heap.lt_size e
 | xd fs=>obtain ⟨_,⟨_,_,_,e,_⟩,_⟩:=x;exact Heap.lt_size e
 | rng lo hi=>obtain ⟨_,_,_,e⟩:=x;exact Heap.lt_size e
 | frz ob u=>obtain ⟨e,_⟩:=x;exact Heap.lt_size e
 | tbl ps=>exact Heap.lt_size (show h.get? a=some _ from x)
 | met f y=>exact Heap.lt_size (show h.get? a=some _ from x)
 | ext φ=>obtain ⟨_,⟨_,e⟩,_⟩:=x;exact Heap.lt_size e
theorem Paired.mapP {α β:Type}{F G:α->β->Prop}:∀ {l₁:List α}{l₂:List β},Paired F l₁ l₂->(∀ a b,F a b->G a b)->Paired G l₁ l₂
 | _,_,.nil,_=>.nil
 | _,_,.cons r t,f=>.cons (f _ _ r) (Paired.mapP t f)
theorem qB.stay (x:qB P w H h a o) (k:∀ b u,(b=a\/H b=some (.own a))->h.get? b=some u->h'.get? b=some u)
  (ho:∀ b,H b=some (.own a)->H' b=some (.own a)) (ht:∀ b xs,H b=some (.tup xs)->H' b=some (.tup xs)):qB P w H' h' a o:=by
 induction o with
 | lst xs=>obtain ⟨z,its,n,r,e⟩:=x;exact ⟨z,its,n,r,k _ _ (.inl rfl) e⟩
 | tup xs=>obtain ⟨z,its,r,ob,e,c⟩:=x;exact ⟨z,its,r,ob,k _ _ (.inl rfl) e,c⟩
 | dK kvs=>obtain ⟨z,y,vs,r,ob,es,ep,e,c⟩:=x;exact ⟨z,y,vs,r,ob,es,ep,k _ _ (.inl rfl) e,c⟩
 | dT kvs =>
  obtain ⟨z,y,xs,r,ob,es,ep,e,c⟩:=x
  exact ⟨z,y,xs,Paired.mapP r fun p q z=>⟨z.1,ht _ _ z.2.1,z.2.2⟩,ob,es,ep,k _ _ (.inl rfl) e,c⟩
 | set S n=>obtain ⟨ob,es,ep,t,e,c⟩:=x;exact ⟨ob,es,ep,t,k _ _ (.inl rfl) e,c⟩
 | ins C dx fs =>
  obtain ⟨d,z,ne,e,mA,⟨od,es,ep,e2,c⟩,r⟩:=x
  exact ⟨ho _ d,z,ne,k _ _ (.inl rfl) e,mA,⟨od,es,ep,k _ _ (.inr d) e2,c⟩,r⟩
 | own y=>obtain ⟨ob,e⟩:=x;exact ⟨ob,k _ _ (.inl rfl) e⟩
 | xd fs=>obtain ⟨mA,⟨od,es,ep,e,c⟩,r⟩:=x;exact ⟨mA,⟨od,es,ep,k _ _ (.inl rfl) e,c⟩,r⟩
 | rng lo hi=>obtain ⟨t,u,v,e⟩:=x;exact ⟨t,u,v,k _ _ (.inl rfl) e⟩
 | frz ob u ih=>obtain ⟨e,q⟩:=x;exact ⟨k _ _ (.inl rfl) e,ih q⟩
 | tbl ps =>
  have e:h.get? a=some { cls:=.none,data:=.fields ps }:=x
  show h'.get? a=some { cls:=.none,data:=.fields ps }
  exact k a _ (.inl rfl) e
 | met f y =>
  have e:h.get? a=some (PySem.W.methodObj (.ref f) (.ref y)):=x
  show h'.get? a=some (PySem.W.methodObj (.ref f) (.ref y))
  exact k a _ (.inl rfl) e
 | ext φ=>obtain ⟨p,⟨o,e⟩,st⟩:=x;exact ⟨st _ _ p fun o q=>k _ _ (.inl rfl) q,⟨o,k _ _ (.inl rfl) e⟩,st⟩
theorem HOk.lt (x:HOk P w H h) (e:H a=some o):a<h.objs.size:=(x a o e).lt
theorem HOk.fresh (x:HOk P w H h) (e:h.objs.size<=a):H a=none:=by
 cases q:H a with
 | none=>rfl
 | some u=>exact absurd (Nat.lt_of_lt_of_le (x.lt q) e) (Nat.lt_irrefl _)
theorem HOk.kept (x:HOk P w H h) (k:∀ b u,h.get? b=some u->h'.get? b=some u):HOk P w H h':=fun a o e =>
 (x a o e).stay (fun b u _ q=>k b u q) (fun _ q=>q) fun _ _ q=>q
theorem HOk.laid (x:HOk P w H h) (k:∀ b u,h.get? b=some u->h'.get? b=some u) (hp:h.objs.size<=a) (new:qB P w (upd H a o) h' a o):HOk P w (upd H a o) h':=fun b u e=>by
 have hn:=x.fresh hp
 by_cases hb:b=a
 ·subst hb;rw [j7] at e;cases e;exact new
 ·rw [j8 hb] at e
  exact (x b u e).stay (fun c v _ q=>k c v q) (fun c q=>by rw [j8 (j1 q hn)];exact q) fun c xs q=>by rw [j8 (j1 q hn)];exact q
end
def Rd (H:Hp) (a:Addr) (u:HO):Prop:=H a=some u\/∃ o,H a=some (.frz o u)
theorem Rd.ok {P:Program}{w:World}{H:Hp}{h:Heap}{a:Addr}{u:HO}(r:Rd H a u) (x:HOk P w H h):qB P w H h a u:=by
 rcases r with r | ⟨o,r⟩
 ·exact x a u r
 ·obtain ⟨_,q⟩:=x a _ r
  exact q
def Mut:Option HO->Prop
 | some (.lst _)=>True
 | some (.dK _)=>True
 | some (.dT _)=>True
 | some (.set _ _)=>True
 | some (.ins _ _ _)=>True
 | some (.ext _)=>True
 | _=>False
section
variable {P:Program}{w:World}{H:Hp}{h h':Heap}{x e:Addr}{o':HO}
theorem HOk.write (ok:HOk P w H h) (mu:Mut (H x)) (he:e=x\/H e=some (.own x)) (k:∀ b u,b≠e->h.get? b=some u->h'.get? b=some u) (heo:∃ u,h'.get? e=some u)
  (new:qB P w (upd H x o') h' x o'):HOk P w (upd H x o') h':=fun b u q=>by
 have nown:∀ c y,H c=some (.own y)->c≠x:=fun c y r z=>by subst z;rw [r] at mu;exact mu
 have ntup:∀ c xs,H c=some (.tup xs)->c≠x:=fun c xs r z=>by subst z;rw [r] at mu;exact mu
 by_cases hb:b=x
 ·subst hb;rw [j7] at q;cases q;exact new
 ·rw [j8 hb] at q
  by_cases hbe:b=e
  ·have q':H b=some (.own x):=by
    rcases he with z | z
    ·exact absurd (hbe.trans z) hb
    ·rw [hbe];exact z
   rw [q] at q';cases q'
   obtain ⟨v,hv⟩:=heo
   exact ⟨v,by rw [hbe];exact hv⟩
  ·refine (ok b u q).stay (fun c v hc r=>k c v ?_ r) (fun c r=>by rw [j8 (nown c b r)];exact r) fun c xs r=>by rw [j8 (ntup c xs r)];exact r
   rcases hc with rfl | hc
   ·exact hbe
   ·rintro rfl
    rcases he with z | z
    ·exact nown c b hc z
    ·rw [hc] at z;cases z;exact hb rfl
end
structure Un (fs ex:List Addr) (H H':Hp) (h h':Heap):Prop where
 keep:∀ b o,h.get? b=some o->H b=none->b∉fs->b∉ex->h'.get? b=some o
 slot:∀ b o,h.get? b=some o->H b=none->b∈fs->b∉ex->∃ sl,h'.get? b=some { o with slots:=sl }
 free:∀ b o,h.get? b=some o->H b=none->b∉ex->H' b=none
 there:∀ b o,h.get? b=some o->b∉ex->∃ o',h'.get? b=some o'
 tups:∀ b xs,H b=some (.tup xs)->H' b=some (.tup xs)
 frzs:∀ b o u,H b=some (.frz o u)->H' b=some (.frz o u)
 tbls:∀ b ps,H b=some (.tbl ps)->∃ more,H' b=some (.tbl (ps++more))
section
variable {fs fs' ex ex':List Addr}{H H1 H2:Hp}{h h1 h2 h':Heap}{a x e:Addr}{o:HO}
theorem Un.any (u:Un fs ex H H1 h h1) {b:Addr}{ob:Obj}(q:h.get? b=some ob) (n:H b=none) (hx:b∉ex):∃ sl,h1.get? b=some { ob with slots:=sl }:=by
 by_cases hb:b∈fs
 ·exact u.slot b ob q n hb hx
 ·exact ⟨ob.slots,u.keep b ob q n hb hx⟩
theorem Un.kept (k:∀ b u,h.get? b=some u->h'.get? b=some u):Un fs ex H H h h' :=
 ⟨fun b ob q _ _ _=>k b ob q,fun b ob q _ _ _=>⟨ob.slots,k b ob q⟩,fun _ _ _ n _=>n,fun b ob q _=>⟨ob,k b ob q⟩,fun _ _ q=>q,fun _ _ _ q=>q,fun _ ps q=>⟨#[],by rw [q];simp⟩⟩
theorem Un.refl:Un fs ex H H h h:=Un.kept fun _ _ q=>q
theorem Un.laid (k:∀ b u,h.get? b=some u->h'.get? b=some u) (hp:h.objs.size<=a) (hn:H a=none):Un fs ex H (upd H a o) h h' where
 keep:=fun b u q _ _ _=>k b u q
 slot:=fun b u q _ _ _=>⟨u.slots,k b u q⟩
 free:=fun b u q n _=>by rw [j8 (Nat.ne_of_lt (Nat.lt_of_lt_of_le (Heap.lt_size q) hp))];exact n
 there:=fun b u q _=>⟨u,k b u q⟩
 tups:=fun b xs q=>by rw [j8 (j1 q hn)];exact q
 frzs:=fun b u xs q=>by rw [j8 (j1 q hn)];exact q
 tbls:=fun b ps q=>⟨#[],by rw [j8 (j1 q hn),q];simp⟩
theorem Un.write (mu:Mut (H x)) (he:e=x\/H e=some (.own x)) (k:∀ b u,b≠e->h.get? b=some u->h'.get? b=some u) (heo:∃ u,h'.get? e=some u):Un fs ex H (upd H x o) h h':=by
 have hx:∀ b,H b=none->b≠x:=fun b n z=>by subst z;rw [n] at mu;exact mu
 have hb:∀ b,H b=none->b≠e:=fun b n z=>by
  subst z
  rcases he with r | r
  ·exact hx b n r
  ·rw [n] at r;cases r
 have hm:∀ b u,H b=some u->¬ Mut (some u)->b≠x:=fun b u q nm z=>by subst z;rw [q] at mu;exact nm mu
 refine ⟨fun b u q n _ _=>k b u (hb b n) q,fun b u q n _ _=>⟨u.slots,k b u (hb b n) q⟩,fun b u q n _=>by rw [j8 (hx b n)];exact n,fun b u q _=>?_,
  fun b xs q=>by rw [j8 (hm b _ q fun z=>z)];exact q,fun b u xs q=>by rw [j8 (hm b _ q fun z=>z)];exact q,fun b ps q=>⟨#[],by rw [j8 (hm b _ q fun z=>z),q];simp⟩⟩
 by_cases hbe:b=e
 ·subst hbe;exact heo
 ·exact ⟨u,k b u hbe q⟩
end
def trk (h:Heap) (H:Hp):List Addr:=(List.range h.objs.size).filter fun a=>(H a).isSome
def kI (h:Heap) (H:Hp):Heap:=PySem.W.hideAll h (trk h H)
theorem ZK (h:Heap) (H:Hp):(kI h H).objs.size=h.objs.size:=PySem.W.hideAll_size _ _
theorem YG {h:Heap}{H:Hp}{b:Addr}{o:Obj}(e:h.get? b=some o) (n:H b=none):(kI h H).get? b=some o :=
 PySem.W.hideAll_get _ e fun hm=>by
  have q:(H b).isSome=true:=(List.mem_filter.mp hm).2
  rw [n] at q;simp at q
theorem VE {h:Heap}{H:Hp}{b:Addr}{o:Obj}(e:(kI h H).get? b=some o):h.get? b=some o/\H b=none:=by
 have e':h.get? b=some o:=PySem.W.of_hideAll (trk h H) e
 refine ⟨e',?_⟩
 cases q:H b with
 | none=>rfl
 | some x =>
  have hm:b∈trk h H:=List.mem_filter.mpr ⟨List.mem_range.mpr (Heap.lt_size e'),by simp [q]⟩
  have z:(kI h H).get? b=none:=PySem.W.hideAll_none (trk h H) hm
  rw [z] at e;cases e
def VM (g h:Heap) (L:Addr):List (Addr×Obj):=(List.range h.objs.size).filterMap fun a=>if a=L\/(g.get? a).isSome=true then none else (h.get? a).map fun o=>(a,o)
def vb (g h:Heap) (L d:Addr):List (Addr×Obj):=(VM g h L).filter fun p=>decide (p.1≠d)
end L2
namespace L2
open PySem PySem.Spec PyProof.Rows
structure Mod (K:PySem.W.Frag) (mg:Str->Option Value) (base:Heap):Prop where
 kin:K.In base
 glob:base.Ns mainGlobals mg
 blt:∃ mb,base.Ns builtinsNs mb/\∀ x:Str,x ≠ "__name__" -> mb x=bootBuiltins x
 nolimit:base.NoLimit
structure Cx where
 prog:Program
 w:World
 K:PySem.W.Frag
 mg:Str->Option Value
 base:Heap
 A:Around
 N:List Str
 s₀:Shared
 H₀:Hp
 env:Env
 outer:List Env
 stack:List Env
 ex:List Addr
 fn:Str->Bool
 calm:Bool
 pn:List (Addr×Obj)
 xe:Value->Shared->Prop
def frs (l:List Env):List Addr:=l.filterMap (·.frame)
abbrev Cx.fs (X:Cx):List Addr:=frs X.outer
def Vis (sc:Scope) (x:Str):Prop:=sc.names.lookup x=some .local\/sc.names.lookup x=some .cell\/sc.names.lookup x=some .free
def Loc (sc:Scope) (x:Str):Prop:=sc.names.lookup x=some .local\/sc.names.lookup x=some .cell
def Look (env:Env) (h:Heap) (m:Str->Option Value) (x:Str) (u:Value):Prop :=
 (env.kindOf x=some .local/\m x=some u)\/((env.kindOf x=some .cell\/env.kindOf x=some .free)/\∃ c,env.cells.lookup x=some c/\h.IsCell c (some u))
structure Cx.Ok (X:Cx):Prop where
 mod:Mod X.K X.mg X.base
 kind:X.env.scope.kind = .function
 glob:X.env.globals=mainGlobals
 blt:X.env.builtins=builtinsNs
 above:X.s₀.heap.objs.size<=X.env.locals
 inj:∀ x y c,X.env.cells.lookup x=some c->X.env.cells.lookup y=some c->x=y
 has:∀ x,(X.env.kindOf x=some .cell\/X.env.kindOf x=some .free)->∃ c,X.env.cells.lookup x=some c
 cab:∀ x c,X.fn x=true->X.env.cells.lookup x=some c->X.s₀.heap.objs.size<=c
 hd:X.calm=true->X.A.handled=none
 frames:X.A.frames=some X.stack
 stk:X.stack=X.outer\/(X.stack=X.env::X.outer/\X.env.frame=some X.env.locals)
 exf:∀ b∈X.ex,b≠X.env.locals/\∀ x c,X.env.cells.lookup x=some c->c≠b
 bs:∀ b o,X.base.get? b=some o->X.s₀.heap.get? b=some o/\X.H₀ b=none
 bsz:X.base.objs.size<=X.s₀.heap.objs.size
 noex:∀ b o,X.base.get? b=some o->b∉X.ex
 exfs:∀ b∈X.ex,b∉X.fs
 funs:X.s₀.heap.FunFrames X.base X.outer
 frf:∀ b∈X.fs,X.H₀ b=none
structure Inv (X:Cx) (pins:List (Addr×Obj)) (σ:List (Option V)) (H:Hp) (s:Shared):Prop where
 ok:X.Ok
 os:s.os=X.s₀.os
 bare:AllBare s.gens
 base:Un X.fs X.ex X.H₀ H X.s₀.heap s.heap
 loc:∃ m,s.heap.Ns X.env.locals m/\∀ (i:Nat) (x:Str) (v:V),X.N[i]? = some x->σ[i]? = some (some v)->Vis X.env.scope x->∃ u,jB v u/\Look X.env s.heap m x u
 cell:∀ x c,X.env.cells.lookup x=some c->∃ v,s.heap.IsCell c v
 free:H X.env.locals=none
 freeC:∀ x c,X.env.cells.lookup x=some c->H c=none
 pin:∀ p∈X.pn++pins,s.heap.get? p.1=some p.2/\H p.1=none/\p.1≠X.env.locals/\p.1∉X.fs/\∀ v,p.2.data≠.cell v
 hok:HOk X.prog X.w H s.heap
 len:σ.length=X.N.length
section
variable {X:Cx}{pins:List (Addr×Obj)}{σ:List (Option V)}{H H':Hp}{s:Shared}{h':Heap}
theorem Cx.Ok.nofr (ok:X.Ok) {b:Addr}{o:Obj}(e:X.base.get? b=some o):b∉X.fs:=fun hb=>by
 have:=(ok.funs.mem hb).1
 rw [e] at this;cases this
theorem Inv.bs (I:Inv X pins σ H s):∀ b o,X.base.get? b=some o->s.heap.get? b=some o/\H b=none:=fun b o e =>
 ⟨I.base.keep b o (I.ok.bs b o e).1 (I.ok.bs b o e).2 (I.ok.nofr e) (I.ok.noex b o e),I.base.free b o (I.ok.bs b o e).1 (I.ok.bs b o e).2 (I.ok.noex b o e)⟩
theorem Inv.bk (I:Inv X pins σ H s):∀ b o,X.base.get? b=some o->s.heap.get? b=some o:=fun b o e=>(I.bs b o e).1
theorem Inv.mod (I:Inv X pins σ H s):Mod X.K X.mg X.base:=I.ok.mod
theorem Inv.kIn (I:Inv X pins σ H s):X.K.In s.heap:=I.ok.mod.kin.keeps I.bk
theorem Inv.lt (I:Inv X pins σ H s):X.env.locals<s.heap.objs.size:=let ⟨_,hn,_⟩:=I.loc;hn.lt
theorem Inv.sz (I:Inv X pins σ H s):X.s₀.heap.objs.size<=s.heap.objs.size:=Nat.le_trans I.ok.above (Nat.le_of_lt I.lt)
theorem Inv.nofs (I:Inv X pins σ H s) {a:Addr}(h:s.heap.objs.size<=a):a∉X.fs:=fun hb=>by
 obtain ⟨_,o,ho,_⟩:=I.ok.funs.mem hb
 exact absurd (Nat.lt_of_lt_of_le (Heap.lt_size ho) (Nat.le_trans I.sz h)) (Nat.lt_irrefl _)
theorem Inv.cne (I:Inv X pins σ H s):∀ x c,X.env.cells.lookup x=some c->c≠X.env.locals:=fun x c e z=>by
 obtain ⟨v,o,ho,hd⟩:=I.cell x c e
 obtain ⟨m,⟨o',es,ep,ho',hd',_⟩,_⟩:=I.loc
 rw [z,ho'] at ho;cases ho;rw [hd'] at hd;cases hd
theorem Inv.funs (I:Inv X pins σ H s):s.heap.FunFrames X.base X.outer:=by
 have all:∀ (l:List Env),(∀ b∈frs l,b∈X.fs)->X.s₀.heap.FunFrames X.base l->s.heap.FunFrames X.base l:=by
  intro l
  induction l with
  | nil=>intro _ _;trivial
  | cons env r ih =>
   intro hs hl
   obtain ⟨hk,⟨L,o,hf,hn,ho,hd⟩,hr⟩:=hl
   have hL:L∈X.fs:=hs L (by unfold frs;rw [List.filterMap_cons,hf];exact List.mem_cons_self)
   obtain ⟨sl,e⟩:=I.base.slot L o ho (I.ok.frf L hL) hL fun z=>I.ok.exfs L z hL
   exact ⟨hk,⟨L,_,hf,hn,e,hd⟩,ih (fun b hb=>hs b (by unfold frs;rw [List.filterMap_cons,hf];exact List.mem_cons_of_mem _ hb)) hr⟩
 exact all X.outer (fun _ hb=>hb) I.ok.funs
theorem Inv.stack (I:Inv X pins σ H s):s.heap.FunFrames X.base X.stack:=by
 rcases I.ok.stk with e | ⟨e,hf⟩
 ·rw [e];exact I.funs
 ·rw [e]
  obtain ⟨m,hn,_⟩:=I.loc
  refine .cons (by rw [I.ok.kind];decide) hf hn ?_ I.funs
  exact Heap.get?_none_of_le (Nat.le_trans I.ok.bsz I.ok.above)
theorem Inv.stkSub (I:Inv X pins σ H s):∀ b∈frs X.stack,b∈X.env.locals::X.fs:=fun b hb=>by
 rcases I.ok.stk with e | ⟨e,hf⟩
 ·rw [e] at hb;exact List.mem_cons_of_mem _ hb
 ·rw [e] at hb
  unfold frs at hb
  rw [List.filterMap_cons,hf] at hb
  exact hb
theorem Inv.stkFree (I:Inv X pins σ H s):∀ b∈frs X.stack,H b=none:=fun b hb=>by
 rcases List.mem_cons.mp (I.stkSub b hb) with e | hb
 ·rw [e];exact I.free
 ·obtain ⟨_,o,ho,_⟩:=I.ok.funs.mem hb
  exact I.base.free b o ho (I.ok.frf b hb) fun z=>I.ok.exfs b z hb
theorem Inv.step {g':Array GenState}{t':Nat}{d':Drawn}{ch:List Addr}(I:Inv X pins σ H s)
  (hch:∀ b∈ch,(b∈X.ex\/X.s₀.heap.objs.size<=b)/\b≠X.env.locals/\(∀ x c,X.env.cells.lookup x=some c->c≠b)/\∀ p∈X.pn++pins,p.1≠b)
  (keep:∀ b o,b≠X.env.locals->b∉X.fs->b∉ch->s.heap.get? b=some o->H b=none->h'.get? b=some o)
  (slot:∀ b o,b≠X.env.locals->b∈X.fs->b∉ch->s.heap.get? b=some o->H b=none->∃ sl,h'.get? b=some { o with slots:=sl }) (free:∀ b o,b∉ch->s.heap.get? b=some o->H b=none->H' b=none)
  (there:∀ b o,b∉ch->s.heap.get? b=some o->∃ o',h'.get? b=some o')
  (tups:∀ b xs,H b=some (.tup xs)->H' b=some (.tup xs)) (frzs:∀ b o u,H b=some (.frz o u)->H' b=some (.frz o u)) (tbls:∀ b ps,H b=some (.tbl ps)->∃ more,H' b=some (.tbl (ps++more)))
  (ns:∀ m,s.heap.Ns X.env.locals m->h'.Ns X.env.locals m) (hok:HOk X.prog X.w H' h') (hg:AllBare g') :
  Inv X pins σ H' { s with heap:=h',gens:=g',drawn:=d',toks:=t' }:=by
 have neL:∀ b o,X.s₀.heap.get? b=some o->b≠X.env.locals:=fun b o e=>Nat.ne_of_lt (Nat.lt_of_lt_of_le (Heap.lt_size e) I.ok.above)
 have neC:∀ b o,X.s₀.heap.get? b=some o->b∉X.ex->b∉ch:=fun b o e hx hb=>by
  rcases (hch b hb).1 with z | z
  ·exact hx z
  ·exact absurd (Nat.lt_of_lt_of_le (Heap.lt_size e) z) (Nat.lt_irrefl _)
 have cellK:∀ x c,X.env.cells.lookup x=some c->∀ v,s.heap.IsCell c v->h'.IsCell c v:=fun x c e v ⟨o,ho,hd⟩=>by
  have nch:c∉ch:=fun z=>(hch c z).2.2.1 x c e rfl
  by_cases hc:c∈X.fs
  ·obtain ⟨sl,q⟩:=slot c o (I.cne x c e) hc nch ho (I.freeC x c e)
   exact ⟨_,q,hd⟩
  ·exact ⟨o,keep c o (I.cne x c e) hc nch ho (I.freeC x c e),hd⟩
 refine ⟨I.ok,I.os,hg,⟨fun b o e n hb hx=>?_,fun b o e n hb hx=>?_,fun b o e n hx=>?_,fun b o e hx=>?_,fun b xs e=>tups b xs (I.base.tups b xs e),fun b o xs e=>frzs b o xs (I.base.frzs b o xs e),fun b ps e=>?_⟩,?_,fun x c e=>?_,?_,fun x c e=>?_,fun p hp=>?_,hok,I.len⟩
 ·exact keep b o (neL b o e) hb (neC b o e hx) (I.base.keep b o e n hb hx) (I.base.free b o e n hx)
 ·obtain ⟨sl,e1⟩:=I.base.slot b o e n hb hx
  obtain ⟨sl',e2⟩:=slot b _ (neL b o e) hb (neC b o e hx) e1 (I.base.free b o e n hx)
  exact ⟨sl',e2⟩
 ·obtain ⟨o',e1⟩:=I.base.there b o e hx
  exact free b o' (neC b o e hx) e1 (I.base.free b o e n hx)
 ·obtain ⟨o',e1⟩:=I.base.there b o e hx
  exact there b o' (neC b o e hx) e1
 ·obtain ⟨m1,e1⟩:=I.base.tbls b ps e
  obtain ⟨m2,e2⟩:=tbls b _ e1
  exact ⟨m1++m2,by rw [e2,Array.append_assoc]⟩
 ·obtain ⟨m,hn,hl⟩:=I.loc
  refine ⟨m,ns m hn,fun i x v e1 e2 e3=>?_⟩
  obtain ⟨u,r,l⟩:=hl i x v e1 e2 e3
  refine ⟨u,r,?_⟩
  rcases l with l | ⟨k,c,e,z⟩
  ·exact .inl l
  ·exact .inr ⟨k,c,e,cellK x c e _ z⟩
 ·obtain ⟨v,z⟩:=I.cell x c e
  exact ⟨v,cellK x c e v z⟩
 ·obtain ⟨m,⟨o,_,_,ho,_⟩,_⟩:=I.loc
  exact free _ o (fun z=>(hch _ z).2.1 rfl) ho I.free
 ·obtain ⟨v,o,ho,hd⟩:=I.cell x c e
  exact free c o (fun z=>(hch c z).2.2.1 x c e rfl) ho (I.freeC x c e)
 ·obtain ⟨e,n,ne,nf,d⟩:=I.pin p hp
  have nch:p.1∉ch:=fun z=>(hch p.1 z).2.2.2 p hp rfl
  exact ⟨keep p.1 p.2 ne nf nch e n,free p.1 p.2 nch e n,ne,nf,d⟩
theorem Inv.un {t':Nat}(I:Inv X pins σ H s) (u:Un X.fs [] H H' s.heap h') (hok:HOk X.prog X.w H' h'):Inv X pins σ H' { s with heap:=h',toks:=t' }:=by
 obtain ⟨m,⟨o,es,ep,ho,r⟩,_⟩:=id I.loc
 obtain ⟨sl,hL⟩:=u.any ho I.free (by simp)
 exact I.step (g':=s.gens) (d':=s.drawn) (ch:=[]) (fun _ z=>nomatch z) (fun b o _ hb _ e n=>u.keep b o e n hb (by simp)) (fun b o _ hb _ e n=>u.slot b o e n hb (by simp)) (fun b o _ e n=>u.free b o e n (by simp)) (fun b o _ e=>u.there b o e (by simp)) u.tups u.frzs u.tbls (fun m' hm=>by
  obtain ⟨o',es',ep',ho',r'⟩:=hm
  rw [ho] at ho';cases ho'
  exact ⟨_,es',ep',hL,r'⟩) hok I.bare
theorem Inv.call {g':Array GenState}{t':Nat}{d':Drawn}{ch:List Addr}(I:Inv X pins σ H s) (u:Un (frs X.stack) ch H H' s.heap h') (hok:HOk X.prog X.w H' h') (hg:AllBare g')
  (hch:∀ b∈ch,(b∈X.ex\/X.s₀.heap.objs.size<=b)/\b≠X.env.locals/\(∀ x c,X.env.cells.lookup x=some c->c≠b)/\∀ p∈X.pn++pins,p.1≠b) :
  Inv X pins σ H' { s with heap:=h',gens:=g',drawn:=d',toks:=t' }:=by
 obtain ⟨m,⟨o,es,ep,ho,r⟩,_⟩:=id I.loc
 obtain ⟨sl,hL⟩:=u.any ho I.free fun z=>(hch _ z).2.1 rfl
 exact I.step (ch:=ch) hch (fun b o hL hb hc e n=>u.keep b o e n (fun z=>(List.mem_cons.mp (I.stkSub b z)).elim hL hb) hc) (fun b o _ _ hc e n=>u.any e n hc) (fun b o hc e n=>u.free b o e n hc) (fun b o hc e=>u.there b o e hc) u.tups u.frzs u.tbls (fun m' hm=>by
  obtain ⟨o',es',ep',ho',r'⟩:=hm
  rw [ho] at ho';cases ho'
  exact ⟨_,es',ep',hL,r'⟩) hok hg
theorem Inv.turned {t':Nat}{it:Addr}(I:Inv X pins σ H s) (k:∀ b o,b≠it->s.heap.get? b=some o->h'.get? b=some o) (hn:H it=none) (hL:it≠X.env.locals)
  (h1:it∈X.ex\/X.s₀.heap.objs.size<=it) (h2:∀ x c,X.env.cells.lookup x=some c->c≠it) (h3:∀ p∈X.pn++pins,p.1≠it):Inv X pins σ H { s with heap:=h',toks:=t' }:=by
 have nit:∀ b u,H b=some u->b≠it:=fun b u e z=>by rw [z,hn] at e;cases e
 refine I.step (g':=s.gens) (d':=s.drawn) (ch:=[it]) (fun b hb=>?_) (fun b o _ _ hc e _=>k b o (fun z=>hc (by simp [z])) e) (fun b o _ _ hc e _=>⟨o.slots,k b o (fun z=>hc (by simp [z])) e⟩) (fun _ _ _ _ n=>n)
  (fun b o hc e=>⟨o,k b o (fun z=>hc (by simp [z])) e⟩) (fun _ _ e=>e) (fun _ _ _ e=>e) (fun b ps e=>⟨#[],by rw [e];simp⟩) (fun m hm=>?_) (fun b u e=>?_) I.bare
 ·have e:b=it:=by simpa using hb
  subst e
  exact ⟨h1,hL,h2,h3⟩
 ·obtain ⟨o,es,ep,ho,r⟩:=hm
  exact ⟨o,es,ep,k _ o (Ne.symm hL) ho,r⟩
 ·refine (I.hok b u e).stay (fun c v hc q=>k c v ?_ q) (fun _ q=>q) fun _ _ q=>q
  rcases hc with z | z
  ·rw [z];exact nit b u e
  ·exact nit c _ z
theorem Inv.tok (I:Inv X pins σ H s) (t:Nat):Inv X pins σ H { s with toks:=t }:=I.un (h':=s.heap) (t':=t) Un.refl I.hok
theorem Inv.kept {t':Nat}(I:Inv X pins σ H s) (k:∀ b u,s.heap.get? b=some u->h'.get? b=some u):Inv X pins σ H { s with heap:=h',toks:=t' }:=I.un (Un.kept k) (I.hok.kept k)
theorem Inv.laid {a:Addr}{o:HO}{t':Nat}(I:Inv X pins σ H s) (k:∀ b u,s.heap.get? b=some u->h'.get? b=some u) (hp:s.heap.objs.size<=a) (new:qB X.prog X.w (upd H a o) h' a o) :
  Inv X pins σ (upd H a o) { s with heap:=h',toks:=t' }:=I.un (Un.laid k hp (I.hok.fresh hp)) (I.hok.laid k hp new)
theorem Inv.write {x e:Addr}{o:HO}{t':Nat}(I:Inv X pins σ H s) (mu:Mut (H x)) (he:e=x\/H e=some (.own x)) (k:∀ b u,b≠e->s.heap.get? b=some u->h'.get? b=some u) (heo:∃ u,h'.get? e=some u)
  (new:qB X.prog X.w (upd H x o) h' x o):Inv X pins σ (upd H x o) { s with heap:=h',toks:=t' }:=I.un (Un.write mu he k heo) (I.hok.write mu he k heo new)
theorem Inv.pins_of {pins':List (Addr×Obj)}(I:Inv X pins σ H s) (h:∀ p∈pins',s.heap.get? p.1=some p.2/\H p.1=none/\p.1≠X.env.locals/\p.1∉X.fs/\∀ v,p.2.data≠.cell v):Inv X pins' σ H s :=
 ⟨I.ok,I.os,I.bare,I.base,I.loc,I.cell,I.free,I.freeC,fun p hp=>(List.mem_append.mp hp).elim (fun z=>I.pin p (List.mem_append_left _ z)) (h p),I.hok,I.len⟩
theorem wv {N:List Str}(hN:N.Nodup) {i j:Nat}{x:Str}(a:N[i]? = some x) (b:N[j]? = some x):i=j:=by
 obtain ⟨h1,e1⟩:=List.getElem?_eq_some_iff.mp a
 obtain ⟨h2,e2⟩:=List.getElem?_eq_some_iff.mp b
 exact (List.getElem_inj hN).mp (e1.trans e2.symm)
theorem gv {M:Model}{A:Around}{E:Value->Shared->Prop}{i:Nat}{x:Str}{v:V}{u:Value}{Q:Unit->Shared->Prop}(I:Inv X pins σ H s) (hN:X.N.Nodup) (hi:X.N[i]? = some x) (hx:Loc X.env.scope x) (r:jB v u)
  (h:∀ s',Inv X pins (σ.set i (some v)) H s'->(∃ a,Heap.SameBut a s.heap s'.heap/\(a=X.env.locals\/X.env.cells.lookup x=some a))->Q () s') (hf:X.fn x=true\/X.env.scope.names.lookup x=some .local:=by first | exact .inl rfl | exact .inr rfl | assumption):wpAny M A (storeName X.env x u) Q E s:=by
 obtain ⟨m,hn,hl⟩:=id I.loc
 have hcls:(X.env.scope.kind == .class || (X.env.scope.kind == .module && X.env.locals != X.env.globals))=false:=by rw [I.ok.kind];rfl
 have hiσ:i<σ.length:=by rw [I.len];exact (List.getElem?_eq_some_iff.mp hi).1
 have cne:=I.cne
 have tracked:∀ {a:Addr} {h':Heap},(∃ o,s.heap.get? a=some o/\H a=none)->Heap.SameBut a s.heap h'->HOk X.prog X.w H h':=fun {a h'} ha hs b ob e=>by
  obtain ⟨_,_,hfree⟩:=ha
  refine (I.hok b ob e).stay (fun c w' hc q=>(hs.2 c ?_).trans q) (fun _ q=>q) fun _ _ q=>q
  rintro rfl
  rcases hc with rfl | hc
  ·rw [hfree] at e;cases e
  ·rw [hfree] at hc;cases hc
 rcases hx with hk | hk
 ·refine wpAny_storeName_local hk hn (fun h' hn' hs=>?_) hcls
  obtain ⟨oL,_,_,hoL,_⟩:=id hn
  refine h _ ⟨I.ok,I.os,I.bare,⟨fun b o e n hb hx=>?_,fun b o e n hb hx=>?_,I.base.free,fun b o e hx=>?_,I.base.tups,I.base.frzs,I.base.tbls⟩,⟨_,hn',fun j y v' e1 e2 e3=>?_⟩,fun y c e=>?_,I.free,I.freeC,fun p hp=>?_,tracked ⟨oL,hoL,I.free⟩ hs,by simpa using I.len⟩ ⟨_,hs,.inl rfl⟩
  ·exact (hs.2 b (Nat.ne_of_lt (Nat.lt_of_lt_of_le (Heap.lt_size e) I.ok.above))).trans (I.base.keep b o e n hb hx)
  ·obtain ⟨sl,e1⟩:=I.base.slot b o e n hb hx
   exact ⟨sl,(hs.2 b (Nat.ne_of_lt (Nat.lt_of_lt_of_le (Heap.lt_size e) I.ok.above))).trans e1⟩
  ·obtain ⟨o',e1⟩:=I.base.there b o e hx
   exact ⟨o',(hs.2 b (Nat.ne_of_lt (Nat.lt_of_lt_of_le (Heap.lt_size e) I.ok.above))).trans e1⟩
  ·by_cases hj:j=i
   ·subst hj
    rw [hi] at e1;cases e1
    rw [List.getElem?_set_self hiσ] at e2
    cases e2
    exact ⟨u,r,.inl ⟨hk,by simp⟩⟩
   ·rw [List.getElem?_set_ne (Ne.symm hj)] at e2
    obtain ⟨u',r',q⟩:=hl j y v' e1 e2 e3
    refine ⟨u',r',?_⟩
    rcases q with ⟨k,e⟩ | ⟨k,c,e,z⟩
    ·refine .inl ⟨k,?_⟩
     have:y≠x:=fun e=>hj (wv hN e1 (e ▸ hi))
     simp [this,e]
    ·exact .inr ⟨k,c,e,z.sameBut hs (cne y c e)⟩
  ·obtain ⟨w',z⟩:=I.cell y c e
   exact ⟨w',z.sameBut hs (cne y c e)⟩
  ·obtain ⟨e,n,ne,nf,d⟩:=I.pin p hp
   exact ⟨(hs.2 p.1 ne).trans e,n,ne,nf,d⟩
 ·have hfn:X.fn x=true:=by
   rcases hf with z | z
   ·exact z
   ·rw [z] at hk;cases hk
  obtain ⟨c,hc⟩:=I.ok.has x (.inl hk)
  obtain ⟨w',z⟩:=I.cell x c hc
  refine wpAny_storeName_cell I.ok.kind hk hc z (fun h' hc' hs=>?_)
  obtain ⟨oc,hoc,hocd⟩:=id z
  refine h { s with heap:=h' } ⟨I.ok,I.os,I.bare,⟨fun b o e n hb hx=>?_,fun b o e n hb hx=>?_,I.base.free,fun b o e hx=>?_,I.base.tups,I.base.frzs,I.base.tbls⟩,⟨m,hn.sameBut hs (Ne.symm (cne x c hc)),fun j y v' e1 e2 e3=>?_⟩,fun y c' e=>?_,I.free,I.freeC,fun p hp=>?_,tracked ⟨oc,hoc,I.freeC x c hc⟩ hs,by simpa using I.len⟩ ⟨c,hs,.inr hc⟩
  ·exact (hs.2 b (Nat.ne_of_lt (Nat.lt_of_lt_of_le (Heap.lt_size e) (I.ok.cab x c hfn hc)))).trans (I.base.keep b o e n hb hx)
  ·obtain ⟨sl,e1⟩:=I.base.slot b o e n hb hx
   exact ⟨sl,(hs.2 b (Nat.ne_of_lt (Nat.lt_of_lt_of_le (Heap.lt_size e) (I.ok.cab x c hfn hc)))).trans e1⟩
  ·obtain ⟨o',e1⟩:=I.base.there b o e hx
   exact ⟨o',(hs.2 b (Nat.ne_of_lt (Nat.lt_of_lt_of_le (Heap.lt_size e) (I.ok.cab x c hfn hc)))).trans e1⟩
  ·by_cases hj:j=i
   ·subst hj
    rw [hi] at e1;cases e1
    rw [List.getElem?_set_self hiσ] at e2
    cases e2
    exact ⟨u,r,.inr ⟨.inl hk,c,hc,hc'⟩⟩
   ·rw [List.getElem?_set_ne (Ne.symm hj)] at e2
    obtain ⟨u',r',q⟩:=hl j y v' e1 e2 e3
    refine ⟨u',r',?_⟩
    rcases q with q | ⟨k,c',e,z'⟩
    ·exact .inl q
    ·refine .inr ⟨k,c',e,z'.sameBut hs ?_⟩
     rintro rfl
     exact hj (wv hN e1 (I.ok.inj _ _ _ e hc ▸ hi))
  ·by_cases hcc:c'=c
   ·subst hcc;exact ⟨_,hc'⟩
   ·obtain ⟨w2,z2⟩:=I.cell y c' e
    exact ⟨w2,z2.sameBut hs hcc⟩
  ·obtain ⟨e,n,ne,nf,d⟩:=I.pin p hp
   refine ⟨(hs.2 p.1 ?_).trans e,n,ne,nf,d⟩
   intro q
   rw [q,hoc] at e
   have q':oc=p.2:=Option.some.inj e
   exact d w' (by rw [<- q'];exact hocd)
theorem vY {M:Model}{A:Around}{E:Value->Shared->Prop}{i:Nat}{x:Str}{v:V}{u:Value}{Q:Unit->Shared->Prop}(I:Inv X pins σ H s) (hN:X.N.Nodup) (hi:X.N[i]? = some x) (hx:Loc X.env.scope x) (r:jB v u)
  (h:∀ s',Inv X pins (σ.set i (some v)) H s'->Q () s') (hf:X.fn x=true\/X.env.scope.names.lookup x=some .local:=by first | exact .inl rfl | exact .inr rfl | assumption):wpAny M A (storeName X.env x u) Q E s :=
 gv I hN hi hx r (fun s' I' _=>h s' I') hf
theorem Inv.call' {s':Shared}{ch:List Addr}(I:Inv X pins σ H s) (ho:s'.os=s.os) (u:Un (frs X.stack) ch H H' s.heap s'.heap) (hok:HOk X.prog X.w H' s'.heap) (hg:AllBare s'.gens)
  (hch:∀ b∈ch,(b∈X.ex\/X.s₀.heap.objs.size<=b)/\b≠X.env.locals/\(∀ x c,X.env.cells.lookup x=some c->c≠b)/\∀ p∈X.pn++pins,p.1≠b):Inv X pins σ H' s':=by
 obtain ⟨h',g',d',t',o'⟩:=s'
 have e:o'=s.os:=ho
 subst e
 exact I.call (g':=g') (t':=t') (d':=d') u hok hg hch
end
abbrev XK:=Value->Option Addr->Hp->Prop
abbrev St:=List (Option V)
abbrev VK:=V->Hp->Prop
abbrev TE:=St->Hp->VK->Prop
abbrev TT:=St->Hp->(Bool->Hp->Prop)->Prop
abbrev TA:=St->Hp->(List V->Hp->Prop)->Prop
structure Ends where
 nx:St->Hp->Prop
 rt:VK
 bk:St->Hp->Prop:=fun _ _=>False
 ct:St->Hp->Prop:=fun _ _=>False
abbrev TS:=Ends->St->Hp->Prop
def EP (X:Cx) (pins:List (Addr×Obj)) (σ:St) (Q:VK) (u:Value) (s':Shared):Prop:=∃ v H',Inv X pins σ H' s'/\jB v u/\Q v H'
def TP (X:Cx) (pins:List (Addr×Obj)) (σ:St) (Q:Bool->Hp->Prop) (b:Bool) (s':Shared):Prop:=∃ H',Inv X pins σ H' s'/\Q b H'
def AP (X:Cx) (pins:List (Addr×Obj)) (σ:St) (Q:List V->Hp->Prop) (us:List Value) (s':Shared):Prop:=∃ vs H',Inv X pins σ H' s'/\jC vs us/\Q vs H'
def SP (X:Cx) (pins:List (Addr×Obj)) (D:Ends) (f:Flow) (s':Shared):Prop :=
 match f with
 | .next=>∃ σ' H',Inv X pins σ' H' s'/\D.nx σ' H'
 | .brk=>∃ σ' H',Inv X pins σ' H' s'/\D.bk σ' H'
 | .cont=>∃ σ' H',Inv X pins σ' H' s'/\D.ct σ' H'
 | .ret u=>∃ v σ' H',Inv X pins σ' H' s'/\jB v u/\D.rt v H'
def PE (X:Cx) (e:Expr) (t:TE):Prop :=
 ∀ (pins:List (Addr×Obj)) (s:Shared) (σ:St) (H:Hp) (Q:VK),Inv X pins σ H s->t σ H Q->wpAny (model X.prog X.w) X.A (eval e X.env) (EP X pins σ Q) X.xe s
def PT (X:Cx) (e:Expr) (t:TT):Prop :=
 ∀ (pins:List (Addr×Obj)) (s:Shared) (σ:St) (H:Hp) (Q:Bool->Hp->Prop),Inv X pins σ H s->t σ H Q->wpAny (model X.prog X.w) X.A (isTrue e X.env (eval e X.env)) (TP X pins σ Q) X.xe s
def PW (X:Cx) (e:Expr) (t:TT):Prop :=
 ∀ (whole:Sem Value) (pins:List (Addr×Obj)) (s:Shared) (σ:St) (H:Hp) (Q:Bool->Hp->Prop),Inv X pins σ H s->t σ H Q->wpAny (model X.prog X.w) X.A (isTrue e X.env whole) (TP X pins σ Q) X.xe s
theorem PW.pt {X:Cx}{e:Expr}{t:TT}(h:PW X e t):PT X e t:=h _
def PA (X:Cx) (es:List Expr) (t:TA):Prop :=
 ∀ (pos:Pos) (pins:List (Addr×Obj)) (s:Shared) (σ:St) (H:Hp) (Q:List V->Hp->Prop),Inv X pins σ H s->t σ H Q->wpAny (model X.prog X.w) X.A (spliced (backTo pos (starEach es X.env))) (AP X pins σ Q) X.xe s
def PS (X:Cx) (st:Stmt) (t:TS):Prop :=
 ∀ (pins:List (Addr×Obj)) (s:Shared) (σ:St) (H:Hp) (D:Ends),Inv X pins σ H s->t D σ H->wpAny (model X.prog X.w) X.A (exec st X.env) (SP X pins D) X.xe s
def PSs (X:Cx) (st:List Stmt) (t:TS):Prop :=
 ∀ (pins:List (Addr×Obj)) (s:Shared) (σ:St) (H:Hp) (D:Ends),Inv X pins σ H s->t D σ H->wpAny (model X.prog X.w) X.A (execs st X.env) (SP X pins D) X.xe s
theorem thn {α:Type}{t:Sem α}{Q Q':α->Shared->Prop}{M:Model}{A:Around}{E:Value->Shared->Prop}{s:Shared}(h:wpAny M A t Q E s) (hQ:∀ a s,Q a s->Q' a s):wpAny M A t Q' E s:=wpAny_mono h hQ fun _ _ x=>x
end L2
namespace L2
open PySem PySem.Spec PyProof.Rows
section
variable {X:Cx}
theorem bin {a b:Expr}{ta tb:TE}(ha:PE X a ta) (hb:PE X b tb) {pins:List (Addr×Obj)}{s:Shared}{σ:St}{H:Hp}{R:V->V->Hp->Prop}(I:Inv X pins σ H s) (h:ta σ H fun x H1=>tb σ H1 fun y H2=>R x y H2)
  {α:Type} {Q:α->Shared->Prop} {f:Value->Value->Sem α}
  (hf:∀ v u s2 x y H2,Inv X pins σ H2 s2->jB x v->jB y u->R x y H2->wpAny (model X.prog X.w) X.A (f v u) Q X.xe s2) :
  wpAny (model X.prog X.w) X.A (eval a X.env) (fun v s₁=>wpAny (model X.prog X.w) X.A (eval b X.env) (fun u s₂=>wpAny (model X.prog X.w) X.A (f v u) Q X.xe s₂) X.xe s₁) X.xe s:=by
 refine thn (ha pins s σ H _ I h) fun v s1 ⟨x,H1,I1,r1,q1⟩=>?_
 refine thn (hb pins s1 σ H1 _ I1 q1) fun u s2 ⟨y,H2,I2,r2,q2⟩=>?_
 exact hf v u s2 x y H2 I2 r1 r2 q2
def vo (i:Nat):TE:=fun σ H Q=>∃ v,σ[i]? = some (some v)/\Q v H
def tC (v:V):TE:=fun _ H Q=>Q v H
theorem Wj {i:Nat}{x:Str}{pos:Pos}(hN:X.N[i]? = some x) (hv:Vis X.env.scope x) (hd:(x == ("__debug__" : Str))=false:=by decide) (hcd:(x == ("__classdict__" : Str))=false:=by decide):PE X (.Name x pos) (vo i):=by
 intro pins s σ H Q I h
 obtain ⟨v,e,h⟩:=h
 obtain ⟨m,hn,hl⟩:=I.loc
 obtain ⟨u,r,l⟩:=hl i x v hN e hv
 have fin:EP X pins σ Q u s:=⟨v,H,I,r,h⟩
 rcases l with ⟨hk,hm⟩ | ⟨hk,c,hc,hcell⟩
 ·exact wpAny_Name (wpAny_loadName_local I.ok.kind hk hn hm fin) hd
 ·rcases hk with hk | hk
  ·exact wpAny_Name (wpAny_loadName_cell I.ok.kind hk hc hcell fin) hd
  ·exact wpAny_Name (wpAny_loadName_free I.ok.kind hk hc hcell fin hcd) hd
theorem j4 {i j pos}:PE X (.Constant (.int i) j pos) (tC (.int i)):=fun _ _ _ H _ I h=>wpAny_Constant_int ⟨.int i,H,I.tok _,⟨_,rfl⟩,h⟩
theorem yS {b j pos}:PE X (.Constant (.bool b) j pos) (tC (.bl b)):=fun _ _ _ H _ I h=>Constant_bool ⟨.bl b,H,I,rfl,h⟩
theorem zW {j pos}:PE X (.Constant .none j pos) (tC .non):=fun _ _ _ H _ I h=>Constant_none ⟨.non,H,I,rfl,h⟩
theorem jo {x j pos}:PE X (.Constant (.str x) j pos) (tC (.str x)):=fun _ _ _ H _ I h=>Calls.Constant_str ⟨.str x,H,I.tok _,⟨_,rfl⟩,h⟩
def Gl (X:Cx) (x:Str):Prop:=X.env.kindOf x=some .globalImplicit
theorem zV {E:Value->Shared->Prop}{pins:List (Addr×Obj)}{s:Shared}{σ:St}{H:Hp}{x:Str}{u:Value}{pos:Pos}{Q:Value->Shared->Prop}(I:Inv X pins σ H s) (hg:Gl X x) (hm:X.mg x=some u) (h:Q u s)
  (hd:(x == ("__debug__" : Str))=false:=by decide):wpAny (model X.prog X.w) X.A (eval (.Name x pos) X.env) Q E s :=
 Calls.Name_function_global I.ok.kind hg (Calls.loadGlobal_global (by rw [I.ok.glob];exact I.mod.glob.keeps I.bk) hm h) hd
theorem yu {E:Value->Shared->Prop}{pins:List (Addr×Obj)}{s:Shared}{σ:St}{H:Hp}{x:Str}{u:Value}{pos:Pos}{Q:Value->Shared->Prop}(I:Inv X pins σ H s) (hg:Gl X x) (hm:X.mg x=none) (hv:bootBuiltins x=some u) (h:Q u s)
  (hn:x ≠ "__name__":=by decide) (hd:(x == ("__debug__" : Str))=false:=by decide):wpAny (model X.prog X.w) X.A (eval (.Name x pos) X.env) Q E s:=by
 obtain ⟨mb,h1,h2⟩:=I.mod.blt
 exact Calls.Name_function_global I.ok.kind hg (Calls.loadGlobal_builtin (by rw [I.ok.glob];exact I.mod.glob.keeps I.bk) hm (by rw [I.ok.blt];exact h1.keeps I.bk) ((h2 x hn).trans hv) h) hd
theorem qv {x:Str}{v:V}{u:Value}{pos:Pos}(hg:Gl X x) (hm:X.mg x=some u) (r:jB v u) (hd:(x == ("__debug__" : Str))=false:=by decide):PE X (.Name x pos) (tC v) :=
 fun _ _ _ H _ I h=>zV I hg hm ⟨v,H,I,r,h⟩ hd
theorem V7 {x:Str}{v:V}{u:Value}{pos:Pos}(hg:Gl X x) (hm:X.mg x=none) (hv:bootBuiltins x=some u) (r:jB v u) (hn:x ≠ "__name__":=by decide) (hd:(x == ("__debug__" : Str))=false:=by decide):PE X (.Name x pos) (tC v) :=
 fun _ _ _ H _ I h=>yu I hg hm hv ⟨v,H,I,r,h⟩ hn hd
variable {a b:Expr}{ta tb:TE}{pos:Pos}
def PC (X:Cx) (op:CmpOp) (a b:Expr) (t:TE):Prop :=
 ∀ (pins:List (Addr×Obj)) (s:Shared) (σ:St) (H:Hp) (Q:VK),Inv X pins σ H s->t σ H Q ->
  wpAny (model X.prog X.w) X.A (eval a X.env) (fun v s₁=>wpAny (model X.prog X.w) X.A (eval b X.env) (fun u s₂=>wpAny (model X.prog X.w) X.A (compareOp op v u) (EP X pins σ Q) X.xe s₂) X.xe s₁) X.xe s
theorem YJ (b:Expr) {op:CmpOp}(h:op≠.In) (h2:op≠.NotIn):behindInMarks op b=false:=by
 have e1:(op == CmpOp.In)=false:=by cases op <;> first | rfl | exact absurd rfl h
 have e2:(op == CmpOp.NotIn)=false:=by cases op <;> first | rfl | exact absurd rfl h2
 cases b <;> simp [behindInMarks,e1,e2]
def tB (t:TE):TT:=fun σ H Q=>t σ H fun x H1=>∃ c,x = .bl c/\Q c H1
theorem UE {op:CmpOp}{t:TE}(h:PC X op a b t) (h1:behindInMarks op b=false:=by first | exact YJ _ (by decide) (by decide) | rfl):PT X (.Compare a [op] [b] pos) (tB t):=by
 intro pins s σ H Q I hw
 refine wpAny_isTrue_Compare1 (thn (h pins s σ H _ I hw) fun v s1 h1=>thn h1 fun u s2 h2=>thn h2 fun c s3 ⟨x,H1,I1,r1,q1⟩=>?_) h1
 obtain ⟨d,rfl,q⟩:=q1
 cases r1
 exact wpAny_truthy_bool ⟨H1,I1,q⟩
theorem ve {e:Expr}{t:TE}(h:PE X e t) (he:∀ whole,isTrue e X.env whole=(do let v <- whole;standAt e.pos;holding [v] (truthy v)):=by intro _;rfl):PT X e (tB t):=by
 intro pins s σ H Q I hw
 refine isTrue_plain (thn (h pins s σ H _ I hw) fun v s1 ⟨x,H1,I1,r1,q1⟩=>?_) (he _)
 obtain ⟨d,rfl,q⟩:=q1
 cases r1
 exact wpAny_truthy_bool ⟨H1,I1,q⟩
variable {tA tB':TT}{vb:List Expr}
def tAnd (t u:TT):TT:=fun σ H Q=>t σ H fun c H1=>if c=true then u σ H1 Q else Q false H1
def tOr (t u:TT):TT:=fun σ H Q=>t σ H fun c H1=>if c=true then Q true H1 else u σ H1 Q
def tNot (t:TT):TT:=fun σ H Q=>t σ H fun c H1=>Q (!c) H1
theorem zS (ha:PT X a tA):PW X (.BoolOp .And [a] pos) tA:=by
 intro wh pins s σ H Q I h
 refine isTrue_and (thn (ha pins s σ H Q I h) fun c s1 e=>?_)
 cases c with
 | true=>exact isTrue_and_nil e
 | false=>exact e
theorem Ji (ha:PT X a tA):PW X (.BoolOp .Or [a] pos) tA:=by
 intro wh pins s σ H Q I h
 refine isTrue_or (thn (ha pins s σ H Q I h) fun c s1 e=>?_)
 cases c with
 | false=>exact isTrue_or_nil e
 | true=>exact e
theorem zF (ha:PT X a tA) (hb:PW X (.BoolOp .And (b::vb) pos) tB'):PW X (.BoolOp .And (a::b::vb) pos) (tAnd tA tB'):=by
 intro wh pins s σ H Q I h
 refine isTrue_and (thn (ha pins s σ H _ I h) fun c s1 ⟨H1,I1,q1⟩=>?_)
 cases c with
 | true=>exact hb wh pins s1 σ H1 Q I1 q1
 | false=>exact ⟨H1,I1,q1⟩
theorem Qn (ha:PT X a tA) (hb:PW X (.BoolOp .Or (b::vb) pos) tB'):PW X (.BoolOp .Or (a::b::vb) pos) (tOr tA tB'):=by
 intro wh pins s σ H Q I h
 refine isTrue_or (thn (ha pins s σ H _ I h) fun c s1 ⟨H1,I1,q1⟩=>?_)
 cases c with
 | true=>exact ⟨H1,I1,q1⟩
 | false=>exact hb wh pins s1 σ H1 Q I1 q1
theorem qJ (ha:PT X a tA):PT X (.UnaryOp .Not a pos) (tNot tA):=by
 intro pins s σ H Q I h
 exact isTrue_not (ha pins s σ H (fun c H1=>Q (!c) H1) I h)
def Wq (ta tb:TE):TE:=fun σ H Q=>ta σ H fun x H1=>∃ c,x = .bl c/\if c=true then tb σ H1 Q else Q (.bl false) H1
def WD (ta:TE):TE:=fun σ H Q=>ta σ H fun x H1=>∃ c,x = .bl c/\Q (.bl (!c)) H1
theorem Xf {op}{t:TE}(h:PE X a t):PE X (.BoolOp op [a] pos) t:=fun pins s σ H Q I hw=>BoolOp_one (h pins s σ H Q I hw)
theorem Jl (ha:PE X a ta) (hb:PE X (.BoolOp .And (b::vb) pos) tb):PE X (.BoolOp .And (a::b::vb) pos) (Wq ta tb):=by
 intro pins s σ H Q I h
 refine BoolOp_and (thn (ha pins s σ H _ I h) fun v s1 ⟨x,H1,I1,r1,q1⟩=>?_)
 obtain ⟨c,rfl,q1⟩:=q1
 cases r1
 refine wpAny_truthy_bool ?_
 cases c with
 | true=>exact hb pins s1 σ H1 Q I1 q1
 | false=>exact ⟨.bl false,H1,I1,rfl,q1⟩
theorem Yb (ha:PE X a ta):PE X (.UnaryOp .Not a pos) (WD ta):=by
 intro pins s σ H Q I h
 refine UnaryOp_ (thn (ha pins s σ H _ I h) fun v s1 ⟨x,H1,I1,r1,q1⟩=>?_)
 obtain ⟨c,rfl,q1⟩:=q1
 cases r1
 exact not_of (wpAny_truthy_bool ⟨.bl (!c),H1,I1,rfl,q1⟩)
def tIf (t:TT) (ta tb:TE):TE:=fun σ H Q=>t σ H fun c H1=>if c=true then ta σ H1 Q else tb σ H1 Q
theorem YX {c:Expr}(hc:PT X c tA) (ha:PE X a ta) (hb:PE X b tb):PE X (.IfExp c a b pos) (tIf tA ta tb):=by
 intro pins s σ H Q I h
 refine wpAny_IfExp (thn (hc pins s σ H _ I h) fun d s1 ⟨H1,I1,q1⟩=>?_)
 cases d with
 | true=>exact ha pins s1 σ H1 Q I1 q1
 | false=>exact hb pins s1 σ H1 Q I1 q1
end
end L2
namespace L2
open PySem PySem.Spec PyProof.Rows
def SqL (K:PySem.W.Frag) (H:Hp) (a:Addr) (xs:List V):Prop :=
 Rd H a (.lst xs) \/
  ∃ (o:Obj) (its:Array Value) (n:Nat),K.lookup a=some o/\o.cls = .type "list" /\ o.dict=none/\o.data = .seq its n/\its.size<=sizeLine/\jC xs its.toList
def SqT (K:PySem.W.Frag) (H:Hp) (a:Addr) (xs:List V):Prop :=
 Rd H a (.tup xs) \/
  ∃ (o:Obj) (its:Array Value) (n:Nat),K.lookup a=some o/\o.cls = .type "tuple" /\ o.data = .seq its n/\its.size<=sizeLine/\jC xs its.toList
def absV:Value->Option V
 | .none=>some .non
 | .bool b=>some (.bl b)
 | .int i _=>some (.int i)
 | .str x _=>some (.str x)
 | .bytes b _=>some (.byt b)
 | .float b _=>some (.flt b)
 | .ref a=>some (.ref a)
 | .type n=>some (.ty n)
 | _=>none
theorem jB.abs {x:V}{u:Value}(r:jB x u):absV u=some x:=by
 cases x with
 | non=>cases r;rfl
 | bl _=>cases r;rfl
 | int _=>obtain ⟨t,rfl⟩:=r;rfl
 | str _=>obtain ⟨t,rfl⟩:=r;rfl
 | byt _=>obtain ⟨t,rfl⟩:=r;rfl
 | flt _=>obtain ⟨t,rfl⟩:=r;rfl
 | ref _=>cases r;rfl
 | ty _=>cases r;rfl
theorem jB.inj {x y:V}{u:Value}(r:jB x u) (q:jB y u):x=y:=Option.some.inj (r.abs.symm.trans q.abs)
theorem jC.inj:∀ {xs ys:List V}{us:List Value},jC xs us->jC ys us->xs=ys
 | _,_,_,.nil,.nil=>rfl
 | _,_,_,.cons r t,.cons r' t'=>by rw [r.inj r',jC.inj t t']
section
variable {X:Cx}{pins:List (Addr×Obj)}{σ:St}{H:Hp}{s:Shared}{a:Addr}{xs ys:List V}
theorem SqL.of {K:PySem.W.Frag}(h:H a=some (.lst xs)):SqL K H a xs:=.inl (.inl h)
theorem SqT.of {K:PySem.W.Frag}(h:H a=some (.tup xs)):SqT K H a xs:=.inl (.inl h)
theorem Inv.list (I:Inv X pins σ H s) (h:SqL X.K H a xs):∃ its:List Value,jC xs its/\PlainL s.heap a its.toArray/\xs.length<=sizeLine:=by
 rcases h with h | ⟨o,its,n,hk,hc,hd,hs,hz,r⟩
 ·obtain ⟨z,its,n,r,e⟩:=h.ok I.hok
  exact ⟨its,r,⟨_,n,e,rfl,rfl,rfl⟩,z⟩
 ·refine ⟨its.toList,r,⟨o,n,I.kIn a o hk,hc,hd,by simpa using hs⟩,?_⟩
  have e:=r.length
  simp only [Array.length_toList] at e
  omega
theorem Inv.tuple (I:Inv X pins σ H s) (h:SqT X.K H a xs):∃ its:List Value,jC xs its/\IsTup s.heap a its.toArray/\xs.length<=sizeLine:=by
 rcases h with h | ⟨o,its,n,hk,hc,hs,hz,r⟩
 ·obtain ⟨z,its,r,p⟩:=h.ok I.hok
  exact ⟨its,r,p,z⟩
 ·refine ⟨its.toList,r,⟨o,I.kIn a o hk,hc,n,by simpa using hs⟩,?_⟩
  have e:=r.length
  simp only [Array.length_toList] at e
  omega
theorem Inv.list_inj (I:Inv X pins σ H s) (h:SqL X.K H a xs) (h':SqL X.K H a ys):xs=ys:=by
 obtain ⟨its,r,⟨o,n,e,_,_,d⟩,_⟩:=I.list h
 obtain ⟨its',r',⟨o',n',e',_,_,d'⟩,_⟩:=I.list h'
 rw [e] at e';cases e'
 rw [d] at d'
 injection d' with d1 _
 have:its=its':=by simpa using congrArg Array.toList d1
 subst this
 exact r.inj r'
theorem Inv.tuple_inj (I:Inv X pins σ H s) (h:SqT X.K H a xs) (h':SqT X.K H a ys):xs=ys:=by
 obtain ⟨its,r,⟨o,e,_,n,d⟩,_⟩:=I.tuple h
 obtain ⟨its',r',⟨o',e',_,n',d'⟩,_⟩:=I.tuple h'
 rw [e] at e';cases e'
 rw [d] at d'
 injection d' with d1 _
 have:its=its':=by simpa using congrArg Array.toList d1
 subst this
 exact r.inj r'
end
abbrev Cx.wish (X:Cx) (E:Value->Shared->Prop):Cx:={ X with xe:=E }
abbrev Cx.nox (X:Cx):Cx:=X.wish fun _ _=>False
theorem Cx.Ok.wish {X:Cx}(ok:X.Ok) (E:Value->Shared->Prop):(X.wish E).Ok :=
 ⟨ok.mod,ok.kind,ok.glob,ok.blt,ok.above,ok.inj,ok.has,ok.cab,ok.hd,ok.frames,ok.stk,ok.exf,ok.bs,ok.bsz,ok.noex,ok.exfs,ok.funs,ok.frf⟩
theorem Cx.Ok.unwish {X:Cx}{E:Value->Shared->Prop}(ok:(X.wish E).Ok):X.Ok :=
 ⟨ok.mod,ok.kind,ok.glob,ok.blt,ok.above,ok.inj,ok.has,ok.cab,ok.hd,ok.frames,ok.stk,ok.exf,ok.bs,ok.bsz,ok.noex,ok.exfs,ok.funs,ok.frf⟩
section
variable {X:Cx}{pins:List (Addr×Obj)}{σ:St}{H:Hp}{s:Shared}{E:Value->Shared->Prop}
theorem Inv.wish (I:Inv X pins σ H s) (E:Value->Shared->Prop):Inv (X.wish E) pins σ H s:=⟨I.ok.wish E,I.os,I.bare,I.base,I.loc,I.cell,I.free,I.freeC,I.pin,I.hok,I.len⟩
theorem Inv.unwish (I:Inv (X.wish E) pins σ H s):Inv X pins σ H s:=⟨I.ok.unwish,I.os,I.bare,I.base,I.loc,I.cell,I.free,I.freeC,I.pin,I.hok,I.len⟩
theorem SP.unwish {D:Ends}{f:Flow}{s':Shared}(h:SP (X.wish E) pins D f s'):SP X pins D f s':=by
 cases f with
 | next=>obtain ⟨σ',H',I,q⟩:=h;exact ⟨σ',H',I.unwish,q⟩
 | brk=>obtain ⟨σ',H',I,q⟩:=h;exact ⟨σ',H',I.unwish,q⟩
 | cont=>obtain ⟨σ',H',I,q⟩:=h;exact ⟨σ',H',I.unwish,q⟩
 | ret u=>obtain ⟨v,σ',H',I,r,q⟩:=h;exact ⟨v,σ',H',I.unwish,r,q⟩
theorem PE.nox {e:Expr}{t:TE}(h:PE X.nox e t):PE X e t:=fun pins s σ H Q I hw =>
 wpAny_mono (h pins s σ H Q (I.wish _) hw) (fun _ _ ⟨v,H',I',r,q⟩=>⟨v,H',I'.unwish,r,q⟩) fun _ _ z=>False.elim z
theorem PSs.nox {st:List Stmt}{t:TS}(h:PSs X.nox st t):PSs X st t:=fun pins s σ H D I hw =>
 wpAny_mono (h pins s σ H D (I.wish _) hw) (fun _ _ q=>q.unwish) fun _ _ z=>False.elim z
end
section
variable {X:Cx}{st:Stmt}{vb:List Stmt}{t u:TS}{e:Expr}{te:TE}{pos:Pos}
def WU:TS:=fun D σ H=>D.nx σ H
def tSeq (t u:TS):TS:=fun D σ H=>t { D with nx:=u D } σ H
theorem jw:PSs X [] WU:=fun _ _ σ H _ I h=>wpAny_execs_nil ⟨σ,H,I,h⟩
theorem j5 (h1:PS X st t) (h2:PSs X vb u):PSs X (st::vb) (tSeq t u):=by
 intro pins s σ H D I h
 refine wpAny_execs_cons (thn (h1 pins s σ H { D with nx:=u D } I h) fun f s1 q=>?_)
 cases f with
 | next =>
  obtain ⟨σ',H',I',q⟩:=q
  exact h2 pins s1 σ' H' D I' q
 | ret v=>exact q
 | brk=>exact q
 | cont=>exact q
theorem j9 (h1:PS X st t):PSs X [st] t:=by
 intro pins s σ H D I h
 refine wpAny_execs_cons (thn (h1 pins s σ H D I h) fun f s1 q=>?_)
 cases f with
 | next=>exact wpAny_execs_nil q
 | ret v=>exact q
 | brk=>exact q
 | cont=>exact q
def UN:TS:=fun D σ H=>D.bk σ H
theorem Yd:PS X (.Break pos) UN:=fun _ _ σ H _ I h=>wpAny_Break ⟨σ,H,I,h⟩
theorem Inv.quiet {pins:List (Addr×Obj)}{σ:St}{H:Hp}{s:Shared}(I:Inv X pins σ H s):interactive X.env=false:=by simp [interactive,I.ok.kind]
def Wo (te:TE):TS:=fun D σ H=>te σ H fun _ H1=>D.nx σ H1
theorem qd (he:PE X e te) (hs:swapsWith e none pos.line X.env=pure false:=by rfl):PS X (.Expr e pos) (Wo te):=by
 intro pins s σ H D I h
 exact wpAny_Expr_any (thn (he pins s σ H _ I h) fun v s1 ⟨x,H1,I1,r1,q1⟩=>⟨σ,H1,I1,q1⟩) I.quiet hs
def Ju (te:TE):TS:=fun D σ H=>te σ H D.rt
theorem jj (he:PE X e te):PS X (.Return (some e) pos) (Ju te):=by
 intro pins s σ H D I h
 exact wpAny_Return_some (thn (he pins s σ H _ I h) fun v s1 ⟨x,H1,I1,r1,q1⟩=>⟨x,σ,H1,I1,r1,q1⟩)
def tIfS (c:TT) (t u:TS):TS:=fun D σ H=>c σ H fun b H1=>if b=true then t D σ H1 else u D σ H1
theorem jM {c:Expr}{a b:List Stmt}{tc:TT}(hc:PT X c tc) (ha:PSs X a t) (hb:PSs X b u):PS X (.If c a b pos) (tIfS tc t u):=by
 intro pins s σ H D I h
 refine wpAny_If (thn (hc pins s σ H _ I h) fun d s1 ⟨H1,I1,q1⟩=>?_)
 cases d with
 | true=>exact ha pins s1 σ H1 D I1 q1
 | false=>exact hb pins s1 σ H1 D I1 q1
end
abbrev TG:=V->St->Hp->(St->Hp->Prop)->Prop
abbrev TGs:=List V->St->Hp->(St->Hp->Prop)->Prop
def PG (X:Cx) (target:Expr) (t:TG):Prop :=
 ∀ (pins:List (Addr×Obj)) (s:Shared) (σ:St) (H:Hp) (v:V) (u:Value) (Q:St->Hp->Prop),Inv X pins σ H s->jB v u->t v σ H Q ->
  wpAny (model X.prog X.w) X.A (assign target X.env u) (fun _ s'=>∃ σ' H',Inv X pins σ' H' s'/\Q σ' H') X.xe s
def PGs (X:Cx) (ts:List Expr) (t:TGs):Prop :=
 ∀ (pins:List (Addr×Obj)) (s:Shared) (σ:St) (H:Hp) (vs:List V) (us:List Value) (Q:St->Hp->Prop),Inv X pins σ H s->jC vs us->t vs σ H Q ->
  wpAny (model X.prog X.w) X.A (assignInOrder ((assignEach ts X.env).map (·.2)) us) (fun _ s'=>∃ σ' H',Inv X pins σ' H' s'/\Q σ' H') X.xe s
abbrev Wh:=V->V->V->Hp->(Hp->Prop)->Prop
def Wt (X:Cx) (t:Wh):Prop :=
 ∀ (pins:List (Addr×Obj)) (s:Shared) (σ:St) (H:Hp) (o i v:V) (ov iv u:Value) (Q:Hp->Prop),Inv X pins σ H s->jB o ov->jB i iv->jB v u->t o i v H Q ->
  wpAny (model X.prog X.w) X.A (setItem ov iv u) (fun _ s'=>∃ H',Inv X pins σ H' s'/\Q H') X.xe s
abbrev TIp:=V->V->Hp->VK->Prop
def PIp (X:Cx) (op:Operator) (t:TIp):Prop :=
 ∀ (pins:List (Addr×Obj)) (s:Shared) (σ:St) (H:Hp) (x y:V) (v u:Value) (Q:VK),Inv X pins σ H s->jB x v->jB y u->t x y H Q ->
  wpAny (model X.prog X.w) X.A (inplaceOp op v u) (EP X pins σ Q) X.xe s
section
variable {X:Cx}{pos:Pos}
def wZ (i:Nat):TG:=fun v σ H Q=>Q (σ.set i (some v)) H
theorem ja {i:Nat}{x:Str}(hN:X.N.Nodup) (hi:X.N[i]? = some x) (hx:Loc X.env.scope x) (hf:X.fn x=true\/X.env.scope.names.lookup x=some .local:=by first | exact .inl rfl | exact .inr rfl | assumption):PG X (.Name x pos) (wZ i):=by
 intro pins s σ H v u Q I r h
 exact wpAny_assign_Name (vY I hN hi hx r (fun s' I'=>⟨_,H,I',h⟩) hf)
def gNil:TGs:=fun vs σ H Q=>vs=[]/\Q σ H
def Ww (t:TG) (u:TGs):TGs:=fun vs σ H Q=>∃ v r,vs=v::r/\t v σ H fun σ' H'=>u r σ' H' Q
theorem qm:PGs X [] gNil:=by
 intro pins s σ H vs us Q I r h
 obtain ⟨e,h⟩:=h
 subst e
 cases r
 exact assignInOrder_nil ⟨σ,H,I,h⟩
theorem jk {e:Expr}{es:List Expr}{t:TG}{u:TGs}(h1:PG X e t) (h2:PGs X es u)
  (hs:(assignEach (e::es) X.env).map (·.2)=assign e X.env::(assignEach es X.env).map (·.2):=by rfl):PGs X (e::es) (Ww t u):=by
 intro pins s σ H vs us Q I r h
 obtain ⟨v,vr,e1,h⟩:=h
 subst e1
 cases r with
 | cons r rr =>
  rw [hs]
  refine assignInOrder_cons (thn (h1 pins s σ H _ _ _ I r h) fun _ s1 ⟨σ1,H1,I1,q1⟩=>?_)
  exact h2 pins s1 σ1 H1 _ _ Q I1 rr q1
def W1 (K:PySem.W.Frag) (n:Nat) (t:TGs):TG:=fun v σ H Q=>∃ a xs,v = .ref a/\SqT K H a xs/\xs.length=n/\t xs σ H Q
theorem UM {es:List Expr}{k:Nat}{t:TGs}{n:Nat}(hc:X.calm=true) (h:PGs X es t)
  (hn:(assignEach es X.env).length=n:=by rfl) (hst:(assignEach es X.env).findIdx? (·.1)=none:=by rfl):PG X (.Tuple es k pos) (W1 X.K n t):=by
 intro pins s σ H v u Q I r hw
 obtain ⟨a,xs,e1,hq,hl,hw⟩:=hw
 subst e1
 cases r
 obtain ⟨its,rv,ht,hz⟩:=I.tuple hq
 refine assign_Tuple_tuple (I.ok.hd hc) ht (by simp [hn,<- hl,rv.length]) hst fun h' hx=>?_
 have I1:Inv X pins σ H { s with heap:=h' }:=I.kept (t':=s.toks) fun b o e=>hx b o (Nat.ne_of_lt (Heap.lt_size e)) e
 exact h pins _ σ H xs _ Q I1 (by simpa using rv) hw
def gSub (to ti:TE) (t:Wh):TG:=fun v σ H Q=>to σ H fun o H1=>ti σ H1 fun i H2=>t o i v H2 fun H3=>Q σ H3
theorem Jy {o i:Expr}{to ti:TE}{t:Wh}(ho:PE X o to) (hi:PE X i ti) (hs:Wt X t)
  (ha:∀ v,assign (.Subscript o i pos) X.env v=(do
   let ov <- holding [v] (eval o X.env)
   let iv <- holding [v,ov] (eval i X.env)
   standAt pos
   holding [v,ov,iv] (setItem ov iv v)
   release [v,ov,iv] []):=by intro _;rfl):PG X (.Subscript o i pos) (gSub to ti t):=by
 intro pins s σ H v u Q I r h
 rw [ha]
 refine wpAny_bind (wpAny_holding (thn (ho pins s σ H _ I h) fun ov s1 ⟨x,H1,I1,r1,q1⟩=>?_))
 refine wpAny_bind (wpAny_holding (thn (hi pins s1 σ H1 _ I1 q1) fun iv s2 ⟨y,H2,I2,r2,q2⟩=>?_))
 refine wpAny_bind (wpAny_standAt (wpAny_bind (wpAny_holding (thn (hs pins s2 σ H2 x y v ov iv u _ I2 r1 r2 r q2) fun _ s3 ⟨H3,I3,q3⟩=>?_))))
 exact wpAny_release ⟨σ,H3,I3,q3⟩
def Up (te:TE) (g:TG):TS:=fun D σ H=>te σ H fun x H1=>g x σ H1 D.nx
theorem xy {tg e:Expr}{te:TE}{g:TG}(he:PE X e te) (hg:PG X tg g) (hs:swapsWithSole [tg] e pos.line X.env=pure false:=by rfl) (hw:swappedStores [tg] e X.env=pure none:=by rfl)
  (h1:(assignEach [tg] X.env).map (·.2)=[assign tg X.env]:=by rfl):PS X (.Assign [tg] e pos) (Up te g):=by
 intro pins s σ H D I h
 refine wpAny_Assign_stores (thn (he pins s σ H _ I h) fun v s1 ⟨x,H1,I1,r1,q1⟩=>?_) hs hw
 rw [h1]
 exact thn (hg pins s1 σ H1 x v _ I1 r1 q1) fun _ s2 q=>q
theorem je {i:Nat}{x:Str}{e:Expr}{te:TE}{pos':Pos}(hN:X.N.Nodup) (hi:X.N[i]? = some x) (hx:Loc X.env.scope x) (he:PE X e te) (hs:swapsWith e (some (.Name x pos')) pos.line X.env=pure false:=by rfl) (hf:X.fn x=true\/X.env.scope.names.lookup x=some .local:=by first | exact .inl rfl | exact .inr rfl | assumption) :
  PS X (.Assign [.Name x pos'] e pos) (Up te (wZ i)):=by
 intro pins s σ H D I h
 refine wpAny_Assign_Name (thn (he pins s σ H _ I h) fun v s1 ⟨y,H1,I1,r1,q1⟩=>?_) hs
 exact vY I1 hN hi hx r1 (fun s2 I2=>⟨_,H1,I2,q1⟩) hf
def tAug (i:Nat) (te:TE) (ti:TIp):TS:=fun D σ H=>∃ x,σ[i]? = some (some x)/\te σ H fun y H1=>ti x y H1 fun z H2=>D.nx (σ.set i (some z)) H2
theorem QR {i:Nat}{x:Str}{e:Expr}{te:TE}{op:Operator}{ti:TIp}{pos':Pos}(hN:X.N.Nodup) (hi:X.N[i]? = some x) (hx:Loc X.env.scope x) (he:PE X e te) (ho:PIp X op ti) (hf:X.fn x=true\/X.env.scope.names.lookup x=some .local:=by first | exact .inl rfl | exact .inr rfl | assumption) :
  PS X (.AugAssign (.Name x pos') op e pos) (tAug i te ti):=by
 intro pins s σ H D I h
 obtain ⟨v,e1,h⟩:=h
 obtain ⟨m,hn,hl⟩:=I.loc
 have vis:Vis X.env.scope x:=by rcases hx with k | k;exact .inl k;exact .inr (.inl k)
 obtain ⟨u,r,l⟩:=hl i x v hi e1 vis
 refine wpAny_AugAssign_Name ?_
 have go:wpAny (model X.prog X.w) X.A (eval e X.env) (fun w s₂=>wpAny (model X.prog X.w) X.A (inplaceOp op u w) (fun r s₃=>wpAny (model X.prog X.w) X.A (storeName X.env x r) (fun _=>SP X pins D .next) X.xe s₃) X.xe s₂) X.xe s:=by
  refine thn (he pins s σ H _ I h) fun w s1 ⟨y,H1,I1,r1,q1⟩=>?_
  refine thn (ho pins s1 σ H1 v y u w _ I1 r r1 q1) fun z s2 ⟨zv,H2,I2,r2,q2⟩=>?_
  exact vY I2 hN hi hx r2 (fun s3 I3=>⟨_,H2,I3,q2⟩) hf
 rcases l with ⟨hk,hm⟩ | ⟨hk,c,hc,hcell⟩
 ·exact wpAny_loadName_local I.ok.kind hk hn hm go
 ·rcases hk with hk | hk
  ·exact wpAny_loadName_cell I.ok.kind hk hc hcell go
  ·rcases hx with k | k
   ·have:X.env.scope.names.lookup x=some .free:=hk
    rw [k] at this;cases this
   ·have:X.env.scope.names.lookup x=some .free:=hk
    rw [k] at this;cases this
def ipI (f:Int->Int->Int):TIp:=fun x y H Q=>∃ i j,x = .int i/\y = .int j/\Q (.int (f i j)) H
theorem QT:PIp X .Add (ipI fun i j=>i+j):=by
 intro pins s σ H x y v u Q I r1 r2 h
 obtain ⟨i,j,e1,e2,q⟩:=h
 subst e1;subst e2
 obtain ⟨t,rfl⟩:=r1
 obtain ⟨t',rfl⟩:=r2
 exact iadd_int ⟨.int _,H,I.tok _,⟨_,rfl⟩,q⟩
end
section
variable {X:Cx}{pos:Pos}
def Yj (c:TT) (tb:TS):TS:=fun D σ H=>∃ W:Nat->St->Hp->Prop,(∃ m,W m σ H)/\∀ m σ H,W m σ H ->
 c σ H fun b H1=>if b=true then ∃ N:St->Hp->Prop,(∀ σ' H',N σ' H'->∃ m',m'<m/\W m' σ' H')/\tb { D with nx:=N,ct:=N,bk:=D.nx } σ H1 else D.nx σ H1
theorem JO {c:Expr}{body:List Stmt}{tc:TT}{tb:TS}(hp:PassesOwn (model X.prog X.w) X.A X.env X.xe) (hc:PT X c tc) (hb:PSs X body tb):PS X (.While c body [] pos) (Yj tc tb):=by
 intro pins s σ H D I h
 obtain ⟨W,⟨m0,w0⟩,turn⟩:=h
 refine wpAny_While (codeAny_whileLoop (fun n s'=>∃ σ' H',Inv X pins σ' H' s'/\W n σ' H') ?_ m0 ⟨σ,H,I,w0⟩)
 rintro n s1 ⟨σ1,H1,I1,w1⟩
 refine wpAny_passesOwn hp (thn (hc pins s1 σ1 H1 _ I1 (turn n σ1 H1 w1)) fun b s2 ⟨H2,I2,q2⟩=>?_)
 cases b with
 | true =>
  obtain ⟨N,hN,q2⟩:=q2
  rw [if_pos rfl]
  refine wpAny_passesOwn hp (thn (hb pins s2 σ1 H2 _ I2 q2) fun f s3 q3=>?_)
  cases f with
  | next =>
   obtain ⟨σ3,H3,I3,n3⟩:=q3
   obtain ⟨m',hm,w3⟩:=hN σ3 H3 n3
   exact ⟨m',hm,σ3,H3,I3,w3⟩
  | cont =>
   obtain ⟨σ3,H3,I3,n3⟩:=q3
   obtain ⟨m',hm,w3⟩:=hN σ3 H3 n3
   exact ⟨m',hm,σ3,H3,I3,w3⟩
  | brk=>exact q3
  | ret v=>exact q3
 | false =>
  rw [if_neg Bool.false_ne_true]
  exact wpAny_execs_nil ⟨σ1,H2,I2,q2⟩
end
structure It where
 go:Nat->Hp->Prop
 yld:Nat->Hp->V->Hp->Prop
 stop:Nat->Hp->Prop
def zT (X:Cx) (pins:List (Addr×Obj)) (H:Hp) (b:Addr):Prop :=
 H b=none/\b≠X.env.locals/\b∉X.fs/\(b∈X.ex\/X.s₀.heap.objs.size<=b)/\(∀ x c,X.env.cells.lookup x=some c->c≠b)/\∀ p∈X.pn++pins,p.1≠b
theorem Inv.fpOk {X:Cx}{pins:List (Addr×Obj)}{σ:St}{H H':Hp}{s:Shared}{b:Addr}(I:Inv X pins σ H s) (hb:s.heap.objs.size<=b) (hn:H' b=none):zT X pins H' b:=by
 refine ⟨hn,Nat.ne_of_gt (Nat.lt_of_lt_of_le I.lt hb),I.nofs hb,.inr (Nat.le_trans I.sz hb),fun x c e z=>?_,fun p hp z=>?_⟩
 ·obtain ⟨v,q⟩:=I.cell x c e
  exact absurd (Nat.lt_of_lt_of_le q.lt (by rw [z];exact hb)) (Nat.lt_irrefl _)
 ·exact absurd (Nat.lt_of_lt_of_le (Heap.lt_size (I.pin p hp).1) (by rw [z];exact hb)) (Nat.lt_irrefl _)
structure Turn (P:Program) (w:World) (K:PySem.W.Frag) (tg:Expr) (J:It) (fp:List Addr) (it:Addr) (tn:Nat->Heap->Prop):Prop where
 mem:it∈fp
 obj:∀ i h,tn i h->∀ b∈fp,∃ o,h.get? b=some o/\∀ v,o.data≠.cell v
 keep:∀ i h h',tn i h->(∀ b∈fp,∀ o,h.get? b=some o->h'.get? b=some o)->tn i h'
 item:∀ (X:Cx),X.prog=P->X.w=w->X.K=K->X.calm=true->∀ (i:Nat) (pins:List (Addr×Obj)) (s:Shared) (σ:St) (H:Hp) (E:Value->Shared->Prop),Inv X pins σ H s->(∀ b∈fp,zT X pins H b)->tn i s.heap->J.go i H ->
  wpAny (model P w) X.A (pyNext (.ref it)) (fun r s1=>∃ u,r=some u /\
   wpAny (model P w) X.A (letOwnedTupleGo tg (.ref it) u) (fun _ s2=>∃ x H',Inv X pins σ H' s2/\jB x u/\J.yld i H x H'/\tn (i+1) s2.heap/\∀ b∈fp,H' b=none) E s1) E s
 done:∀ (X:Cx),X.prog=P->X.w=w->X.K=K->X.calm=true->∀ (i:Nat) (pins:List (Addr×Obj)) (s:Shared) (σ:St) (H:Hp) (E:Value->Shared->Prop),Inv X pins σ H s->(∀ b∈fp,zT X pins H b)->tn i s.heap->J.stop i H ->
  wpAny (model P w) X.A (pyNext (.ref it)) (fun r s1=>r=none/\Inv X pins σ H s1) E s
 self:∀ (A:Around) (i:Nat) (s:Shared) (Q:Value->Shared->Prop) (E:Value->Shared->Prop),tn i s.heap->Q (.ref it) s->wpAny (model P w) A (pyIter (.ref it)) Q E s
abbrev TI:=St->Hp->(It->Hp->Prop)->Prop
def PIE (X:Cx) (pins:List (Addr×Obj)) (σ:St) (tg:Expr) (R:It->Hp->Prop) (itv:Value) (s2:Shared):Prop :=
 ∃ (it:Addr) (fp:List Addr) (tn:Nat->Heap->Prop) (J:It) (H':Hp),itv = .ref it/\Inv X pins σ H' s2/\Turn X.prog X.w X.K tg J fp it tn/\tn 0 s2.heap/\(∀ b∈fp,zT X pins H' b)/\R J H'
def PI (X:Cx) (tg iter:Expr) (wi:TI):Prop :=
 ∀ (pins:List (Addr×Obj)) (s:Shared) (σ:St) (H:Hp) (R:It->Hp->Prop),Inv X pins σ H s->wi σ H R ->
  wpAny (model X.prog X.w) X.A (eval iter X.env) (fun v s1=>wpAny (model X.prog X.w) X.A (pyIter v) (PIE X pins σ tg R) X.xe s1) X.xe s
theorem kW {M:Model}{A:Around}{E:Value->Shared->Prop}{s:Shared}{tg:Expr}{it:Addr}{u:Value}{o:Obj}{n:String}{vs:Array Value}{Q:Unit->Shared->Prop}(ho:s.heap.get? it=some o) (hc:o.cls = .type n) (hd:o.data = .fields vs)
  (hn:["enumerate","zip","dict_itemiterator","dict_reverseitemiterator","odict_iterator","itertools.zip_longest","itertools.pairwise"].contains n=false) (hQ:Q () s):wpAny M A (letOwnedTupleGo tg (.ref it) u) Q E s:=by
 unfold letOwnedTupleGo
 cases tg <;> first
  | exact wpAny_pure hQ
  | (cases u <;> first
    | exact wpAny_pure hQ
    | (refine wpAny_bind (wpAny_load ho ?_)
       rw [hc,hd]
       show wpAny M A (if (["enumerate","zip","dict_itemiterator","dict_reverseitemiterator","odict_iterator","itertools.zip_longest","itertools.pairwise"].contains n && vs[0]? == some (rawInt _))=true then _ else _) Q E s
       rw [if_neg (by intro h;rw [hn,Bool.false_and] at h;cases h)]
       exact wpAny_pure hQ))
def Itl (K:PySem.W.Frag) (a:Addr):It :=
 ⟨fun i H=>∃ xs x,SqL K H a xs/\xs[i]? = some x,fun i H x H'=>H'=H/\∀ xs,SqL K H a xs->xs[i]? = some x,fun i H=>∃ xs,SqL K H a xs/\xs.length<=i⟩
def Itt (K:PySem.W.Frag) (a:Addr):It :=
 ⟨fun i H=>∃ xs x,SqT K H a xs/\xs[i]? = some x,fun i H x H'=>H'=H/\∀ xs,SqT K H a xs->xs[i]? = some x,fun i H=>∃ xs,SqT K H a xs/\xs.length<=i⟩
def Itr (lo:Int) (n:Nat):It:=⟨fun i _=>i<n,fun i H x H'=>H'=H/\x = .int (lo+i),fun i _=>n<=i⟩
theorem Zk {P:Program}{w:World}{K:PySem.W.Frag}{tg:Expr}(a it:Addr):Turn P w K tg (Itl K a) [it] it (fun i h=>h.IsListIter it a i) where
 mem:=by simp
 obj:=fun i h st b hb=>by
  have e:b=it:=by simpa using hb
  subst e
  obtain ⟨o,e,c,d⟩:=st
  exact ⟨o,e,fun v z=>by rw [d] at z;cases z⟩
 keep:=fun i h h' st k=>st.at fun o e=>k it (by simp) o e
 item:=by
  intro X hP hw hK hc i pins s σ H E I hf st hg
  subst hP hw hK
  obtain ⟨xs,x,hq,hx⟩:=hg
  obtain ⟨its,rv,p,hz⟩:=I.list hq
  obtain ⟨u,hu,ru⟩:=rv.get hx
  obtain ⟨f0,f1,f2,f3,f4,f5⟩:=hf it (by simp)
  refine wpAny_pyNext_list_item st p.isList (x:=u) (by simpa using hu) fun h' st' sb=>?_
  have I1:Inv X pins σ H { s with heap:=h' }:=I.turned (t':=s.toks) (fun b o hb e=>(sb.2 b hb).trans e) f0 f1 f3 f4 f5
  obtain ⟨o,e,c,d⟩:=id st'
  exact ⟨u,rfl,kW (s:={ s with heap:=h' }) e c d (by decide) ⟨x,H,I1,ru,⟨rfl,fun ys hy=>by rw [I.list_inj hy hq];exact hx⟩,st',fun b hb=>(hf b hb).1⟩⟩
 done:=by
  intro X hP hw hK hc i pins s σ H E I hf st hg
  subst hP hw hK
  obtain ⟨xs,hq,hx⟩:=hg
  obtain ⟨its,rv,p,hz⟩:=I.list hq
  obtain ⟨f0,f1,f2,f3,f4,f5⟩:=hf it (by simp)
  have hl:=rv.length
  exact wpAny_pyNext_list_end (I.ok.hd hc) st p.isList (by simp;omega) fun h' eb=>⟨rfl,I.turned (t':=s.toks) (fun b o hb e=>eb b o hb e) f0 f1 f3 f4 f5⟩
 self:=fun _ _ _ _ _ st h=>wpAny_pyIter_listiter st h
theorem Xu {P:Program}{w:World}{K:PySem.W.Frag}{tg:Expr}(a it:Addr):Turn P w K tg (Itt K a) [it] it (fun i h=>h.IsTupleIter it a i) where
 mem:=by simp
 obj:=fun i h st b hb=>by
  have e:b=it:=by simpa using hb
  subst e
  obtain ⟨o,e,c,d⟩:=st
  exact ⟨o,e,fun v z=>by rw [d] at z;cases z⟩
 keep:=fun i h h' st k=>st.at fun o e=>k it (by simp) o e
 item:=by
  intro X hP hw hK hc i pins s σ H E I hf st hg
  subst hP hw hK
  obtain ⟨xs,x,hq,hx⟩:=hg
  obtain ⟨its,rv,p,hz⟩:=I.tuple hq
  obtain ⟨u,hu,ru⟩:=rv.get hx
  obtain ⟨f0,f1,f2,f3,f4,f5⟩:=hf it (by simp)
  refine wpAny_pyNext_tuple_item st (show s.heap.IsTuple a its.toArray from p) (x:=u) (by simpa using hu) fun h' st' sb=>?_
  have I1:Inv X pins σ H { s with heap:=h' }:=I.turned (t':=s.toks) (fun b o hb e=>(sb.2 b hb).trans e) f0 f1 f3 f4 f5
  obtain ⟨o,e,c,d⟩:=id st'
  exact ⟨u,rfl,kW (s:={ s with heap:=h' }) e c d (by decide) ⟨x,H,I1,ru,⟨rfl,fun ys hy=>by rw [I.tuple_inj hy hq];exact hx⟩,st',fun b hb=>(hf b hb).1⟩⟩
 done:=by
  intro X hP hw hK hc i pins s σ H E I hf st hg
  subst hP hw hK
  obtain ⟨xs,hq,hx⟩:=hg
  obtain ⟨its,rv,p,hz⟩:=I.tuple hq
  obtain ⟨f0,f1,f2,f3,f4,f5⟩:=hf it (by simp)
  have hl:=rv.length
  exact wpAny_pyNext_tuple_end (I.ok.hd hc) st (show s.heap.IsTuple a its.toArray from p) (by simp;omega) fun h' eb=>⟨rfl,I.turned (t':=s.toks) (fun b o hb e=>eb b o hb e) f0 f1 f3 f4 f5⟩
 self:=fun _ _ _ _ _ st h=>wpAny_pyIter_tupleiter st h
theorem wV {P:Program}{w:World}{K:PySem.W.Frag}{tg:Expr}(it:Addr) (lo:Int) (n:Nat):Turn P w K tg (Itr lo n) [it] it (fun i h=>IsRangeIter h it (lo+(i:Nat)*1) ((n:Int)-(i:Nat)) 1) where
 mem:=by simp
 obj:=fun i h st b hb=>by
  have e:b=it:=by simpa using hb
  subst e
  exact ⟨_,st,fun v z=>by
   have z':Data.fields _=Data.cell v:=z
   cases z'⟩
 keep:=fun i h h' st k=>k it (by simp) _ st
 item:=by
  intro X hP hw hK hc i pins s σ H E I hf st hg
  subst hP hw hK
  obtain ⟨f0,f1,f2,f3,f4,f5⟩:=hf it (by simp)
  have W:=Walks.range (prog:=X.prog) (w:=X.w) (I.ok.hd hc) it lo 1 n
  refine W.item i s _ _ hg st fun v h' tk hv st' kk=>?_
  obtain ⟨t,rfl⟩:=hv
  have I1:Inv X pins σ H { s with heap:=h',toks:=tk }:=I.turned (fun b o hb e=>kk b o (by simpa using hb) e) f0 f1 f3 f4 f5
  refine ⟨_,rfl,kW (s:={ s with heap:=h',toks:=tk }) (n:="range_iterator") st' rfl rfl (by decide) ⟨.int (lo+i),H,I1,⟨t,?_⟩,⟨rfl,rfl⟩,st',fun b hb=>(hf b hb).1⟩⟩
  rw [Int.mul_one]
 done:=by
  intro X hP hw hK hc i pins s σ H E I hf st hg
  subst hP hw hK
  obtain ⟨f0,f1,f2,f3,f4,f5⟩:=hf it (by simp)
  exact wpAny_pyNext_range_end (I.ok.hd hc) st (by have:n<=i:=hg;omega) fun h' eb=>⟨rfl,I.turned (t':=s.toks) (fun b o hb e=>eb b o hb e) f0 f1 f3 f4 f5⟩
 self:=fun _ _ _ _ _ st h=>wpAny_pyIter_rangeiter st h
end L2
namespace L2
open PySem PySem.Spec PyProof.Rows
section
variable {X:Cx}{tg:Expr}
def XN (K:PySem.W.Frag) (tl:TE):TI:=fun σ H R=>tl σ H fun x H1=>∃ a,x = .ref a/\(∃ xs,SqL K H1 a xs)/\R (Itl K a) H1
def WE (K:PySem.W.Frag) (tl:TE):TI:=fun σ H R=>tl σ H fun x H1=>∃ a,x = .ref a/\(∃ xs,SqT K H1 a xs)/\R (Itt K a) H1
theorem Vo {l:Expr}{tl:TE}(hl:PE X l tl):PI X tg l (XN X.K tl):=by
 intro pins s σ H R I h
 refine thn (hl pins s σ H _ I h) fun v s1 ⟨x,H1,I1,r1,q1⟩=>?_
 obtain ⟨a,e,⟨xs,hq⟩,q⟩:=q1
 subst e
 cases r1
 obtain ⟨its,rv,p,hz⟩:=I1.list hq
 refine wpAny_pyIter_list p.isList ?_
 refine ⟨s1.heap.objs.size,[s1.heap.objs.size],_,_,H1,rfl,I1.kept (t':=s1.toks) fun b o e=>Heap.get?_push_of_some _ e,Zk a _,⟨_,Heap.get?_push_size _ rfl,rfl,rfl⟩,fun b hb=>?_,q⟩
 have e:b=s1.heap.objs.size:=by simpa using hb
 subst e
 exact I1.fpOk (Nat.le_refl _) (I1.hok.fresh (Nat.le_refl _))
theorem Uh {l:Expr}{tl:TE}(hl:PE X l tl):PI X tg l (WE X.K tl):=by
 intro pins s σ H R I h
 refine thn (hl pins s σ H _ I h) fun v s1 ⟨x,H1,I1,r1,q1⟩=>?_
 obtain ⟨a,e,⟨xs,hq⟩,q⟩:=q1
 subst e
 cases r1
 obtain ⟨its,rv,p,hz⟩:=I1.tuple hq
 refine wpAny_pyIter_tuple (show s1.heap.IsTuple a its.toArray from p) ?_
 refine ⟨s1.heap.objs.size,[s1.heap.objs.size],_,_,H1,rfl,I1.kept (t':=s1.toks) fun b o e=>Heap.get?_push_of_some _ e,Xu a _,⟨_,Heap.get?_push_size _ rfl,rfl,rfl⟩,fun b hb=>?_,q⟩
 have e:b=s1.heap.objs.size:=by simpa using hb
 subst e
 exact I1.fpOk (Nat.le_refl _) (I1.hok.fresh (Nat.le_refl _))
theorem JM {pins:List (Addr×Obj)}{σ:St}{H:Hp}{s:Shared}{R:It->Hp->Prop}{E:Value->Shared->Prop}{lo hi:Int}{t u v:Tok}{tk:Nat}(I:Inv X pins σ H s) (h1 : -(2 ^ 62)<=lo) (h2:lo<2 ^ 62) (h3 : -(2 ^ 62)<=hi) (h4:hi<2 ^ 62)
  (q:R (Itr lo (hi-lo).toNat) H):wpAny (model X.prog X.w) X.A (pyIter (.ref s.heap.objs.size)) (PIE X pins σ tg R) E { s with heap:=s.heap.push { cls:=.type "range",data:=.fields #[.int lo t,.int hi u,.int 1 v] },toks:=tk }:=by
 refine wpAny_pyIter_range (IsRange.new ..) (small_one h1 h2 h3 h4) ?_
 have I1:Inv X pins σ H { s with heap:=s.heap.push { cls:=.type "range",data:=.fields #[.int lo t,.int hi u,.int 1 v] },toks:=tk }:=I.kept fun b o e=>Heap.get?_push_of_some _ e
 refine ⟨(s.heap.push { cls:=.type "range",data:=.fields #[.int lo t,.int hi u,.int 1 v] }).objs.size,[(s.heap.push { cls:=.type "range",data:=.fields #[.int lo t,.int hi u,.int 1 v] }).objs.size],_,_,H,rfl,
  I1.kept (t':=tk) fun b o e=>Heap.get?_push_of_some _ e,wV _ lo (hi-lo).toNat,?_,fun b hb=>?_,q⟩
 ·have e1:lo+((0:Nat):Int)*1=lo:=by simp
  have e2:(((hi-lo).toNat:Nat):Int)-((0:Nat):Int)=Builtin.Range.rangeSize lo hi 1:=by rw [rangeSize_one];split <;> omega
  show IsRangeIter _ _ (lo+((0:Nat):Int)*1) ((((hi-lo).toNat:Nat):Int)-((0:Nat):Int)) 1
  rw [e1,e2]
  exact Heap.get?_push_size _ rfl
 ·have e:b=(s.heap.push { cls:=.type "range",data:=.fields #[.int lo t,.int hi u,.int 1 v] }).objs.size:=by simpa using hb
  subst e
  exact I1.fpOk (Nat.le_refl _) (I1.hok.fresh (Nat.le_refl _))
def WQ (ta:TA):TI:=fun σ H R=>ta σ H fun vs H1=>∃ j:Int,vs=[.int j] /\ -(2 ^ 62)<=j/\j<2 ^ 62/\R (Itr 0 j.toNat) H1
def WP (ta:TA):TI:=fun σ H R=>ta σ H fun vs H1=>∃ i j:Int,vs=[.int i,.int j]/\(-(2 ^ 62)<=i/\i<2 ^ 62 /\ -(2 ^ 62)<=j/\j<2 ^ 62)/\R (Itr i (j-i).toNat) H1
theorem qw {a:Expr}{ta:TA}{p pos:Pos}(hg:Gl X "range") (hm:X.mg "range" = none) (ha:PA X [a] ta) (hs:starEach [a] X.env=[(false,eval a X.env)]:=by rfl):PI X tg (.Call (.Name "range" p) [a] [] pos) (WQ ta):=by
 intro pins s σ H R I h
 refine Call_ (yu I hg hm boot_range (PyProof.Rows.callWith_type1 (thn (ha pos pins s σ H _ I h) fun us s1 ⟨vs,H1,I1,r1,q1⟩=>?_) hs rfl))
 obtain ⟨j,e,q1,q2,q⟩:=q1
 subst e
 cases r1 with
 | cons r rr =>
  cases rr
  obtain ⟨t,rfl⟩:=r
  exact call_range_1 (JM I1 (by omega) (by omega) q1 q2 (by simpa using q))
theorem Y2 {a b:Expr}{ta:TA}{p pos:Pos}(hg:Gl X "range") (hm:X.mg "range" = none) (ha:PA X [a,b] ta) (hs:starEach [a,b] X.env=[(false,eval a X.env),(false,eval b X.env)]:=by rfl) (hs2:starEach [b] X.env=[(false,eval b X.env)]:=by rfl) :
  PI X tg (.Call (.Name "range" p) [a,b] [] pos) (WP ta):=by
 intro pins s σ H R I h
 refine Call_ (yu I hg hm boot_range (PyProof.Rows.callWith_type1 (thn (ha pos pins s σ H _ I h) fun us s1 ⟨vs,H1,I1,r1,q1⟩=>?_) (by rw [hs,hs2]) (by rw [hs2];rfl)))
 obtain ⟨i,j,e,⟨q1,q2,q3,q4⟩,q⟩:=q1
 subst e
 cases r1 with
 | cons r rr =>
  cases rr with
  | cons r' rr =>
   cases rr
   obtain ⟨t,rfl⟩:=r
   obtain ⟨t',rfl⟩:=r'
   exact call_range_2 (JM I1 q1 q2 q3 q4 q)
def tFor (wi:TI) (g:TG) (tb:TS):TS:=fun D σ H=>wi σ H fun J H1=>∃ W:Nat->Nat->St->Hp->Prop,(∃ m,W 0 m σ H1)/\∀ i m σ H,W i m σ H ->
 (J.stop i H/\D.nx σ H)\/(J.go i H/\∃ N:St->Hp->Prop,(∀ σ' H',N σ' H'->∃ m',m'<m/\W (i+1) m' σ' H')/\∀ x H',J.yld i H x H'->g x σ H' fun σ2 H2=>tb { D with nx:=N,ct:=N,bk:=D.nx } σ2 H2)
def xU (fp:List Addr) (h:Heap):List (Addr×Obj):=fp.filterMap fun b=>(h.get? b).map fun o=>(b,o)
theorem qt {fp:List Addr}{h:Heap}{b:Addr}{o:Obj}(hb:b∈fp) (e:h.get? b=some o):(b,o)∈xU fp h:=List.mem_filterMap.mpr ⟨b,hb,by rw [e];rfl⟩
theorem Zr {fp:List Addr}{h:Heap}{p:Addr×Obj}(hp:p∈xU fp h):p.1∈fp/\h.get? p.1=some p.2:=by
 obtain ⟨b,hb,e⟩:=List.mem_filterMap.mp hp
 cases q:h.get? b with
 | none=>rw [q] at e;cases e
 | some o =>
  rw [q] at e
  have e':(b,o)=p:=Option.some.inj e
  subst e'
  exact ⟨hb,q⟩
theorem Inv.pinned {pins:List (Addr×Obj)}{σ:St}{H:Hp}{s:Shared}{fp:List Addr}(I:Inv X pins σ H s) (hf:∀ b∈fp,zT X pins H b) (ho:∀ b∈fp,∃ o,s.heap.get? b=some o/\∀ v,o.data≠.cell v):Inv X (pins++xU fp s.heap) σ H s :=
 I.pins_of fun p hp=>(List.mem_append.mp hp).elim (fun z=>I.pin p (List.mem_append_right _ z)) fun z=>by
  obtain ⟨hb,e⟩:=Zr z
  obtain ⟨f0,f1,f2,_⟩:=hf p.1 hb
  obtain ⟨o,e',d⟩:=ho p.1 hb
  rw [e] at e';cases e'
  exact ⟨e,f0,f1,f2,d⟩
theorem Inv.unpinned {pins pl:List (Addr×Obj)}{σ:St}{H:Hp}{s:Shared}(I:Inv X (pins++pl) σ H s):Inv X pins σ H s:=I.pins_of fun p hp=>I.pin p (List.mem_append_right _ (List.mem_append_left _ hp))
theorem qK {iter:Expr}{body:List Stmt}{wi:TI}{g:TG}{tb:TS}{pos:Pos}(hp:PassesOwn (model X.prog X.w) X.A X.env X.xe) (hc:X.calm=true) (hi:PI X tg iter wi) (hg:PG X tg g) (hb:PSs X body tb)
  (hs:∀ x,foldedSetIterable iter X.env x=pure x:=by intro _;rfl):PS X (.For tg iter body [] pos) (tFor wi g tb):=by
 intro pins s σ H D I h
 refine wpAny_For (thn (hi pins s σ H _ I h) fun v s1 h1=>thn h1 fun itv s2 h2=>?_) hs
 obtain ⟨it,fp,tn,J,H2,e,I2,T,st2,f2,W,⟨m0,w0⟩,turn⟩:=h2
 subst e
 have stat:∀ {H':Hp},(∀ b∈fp,H' b=none)->∀ b∈fp,zT X pins H' b:=fun hn b hb=>⟨hn b hb,(f2 b hb).2⟩
 refine codeAny_forLoop_any (fun n s'=>∃ i σ' H',Inv X pins σ' H' s'/\tn i s'.heap/\(∀ b∈fp,H' b=none)/\W i n σ' H') ?_ m0 ⟨0,σ,H2,I2,st2,fun b hb=>(f2 b hb).1,w0⟩
 rintro n s3 ⟨i,σ3,H3,I3,st3,fr3,w3⟩
 rcases turn i n σ3 H3 w3 with ⟨stop,qn⟩ | ⟨go,N,hN,step⟩
 ·refine wpAny_passesOwn hp (thn (T.done X rfl rfl rfl hc i pins s3 σ3 H3 X.xe I3 (stat fr3) st3 stop) fun r s4 ⟨hr,I4⟩=>?_)
  subst hr
  exact wpAny_execs_nil ⟨σ3,H3,I4,qn⟩
 ·refine wpAny_passesOwn hp (thn (T.item X rfl rfl rfl hc i pins s3 σ3 H3 X.xe I3 (stat fr3) st3 go) fun r s4 ⟨u,hr,h4⟩=>?_)
  subst hr
  refine wpAny_passesOwn hp (thn h4 fun _ s5 ⟨x,H5,I5,r5,y5,st5,fr5⟩=>?_)
  have I5':=I5.pinned (stat fr5) (T.obj _ _ st5)
  refine wpAny_passesOwn hp (thn (hg _ s5 σ3 H5 x u _ I5' r5 (step x H5 y5)) fun _ s6 ⟨σ6,H6,I6,q6⟩=>?_)
  refine wpAny_passesOwn hp (thn (hb _ s6 σ6 H6 _ I6 q6) fun f s7 q7=>?_)
  have again:∀ {σ7:St} {H7:Hp},Inv X (pins++xU fp s5.heap) σ7 H7 s7->N σ7 H7->∃ m,m<n/\∃ i σ' H',Inv X pins σ' H' s7/\tn i s7.heap/\(∀ b∈fp,H' b=none)/\W i m σ' H':=fun {σ7 H7} I7 n7=>by
   obtain ⟨m',hm,w7⟩:=hN σ7 H7 n7
   refine ⟨m',hm,i+1,σ7,H7,I7.unpinned,T.keep _ _ _ st5 fun b hb o e=>(I7.pin (b,o) (List.mem_append_right _ (List.mem_append_right _ (qt hb e)))).1,fun b hb=>?_,w7⟩
   obtain ⟨o,e,d⟩:=T.obj _ _ st5 b hb
   exact (I7.pin (b,o) (List.mem_append_right _ (List.mem_append_right _ (qt hb e)))).2.1
  cases f with
  | next=>obtain ⟨σ7,H7,I7,n7⟩:=q7;exact again I7 n7
  | cont=>obtain ⟨σ7,H7,I7,n7⟩:=q7;exact again I7 n7
  | brk=>obtain ⟨σ7,H7,I7,q7⟩:=q7;exact ⟨σ7,H7,I7.unpinned,q7⟩
  | ret v=>obtain ⟨x7,σ7,H7,I7,r7,q7⟩:=q7;exact ⟨x7,σ7,H7,I7.unpinned,r7,q7⟩
end
theorem vH {K:PySem.W.Frag}{a:Addr}{xs:List V}{g:TG}{tb:TS}{D:Ends}{σ:St}{H:Hp}(Pv:Nat->St->Hp->Prop) (h0:Pv 0 σ H) (hl:∀ i σ H,i<=xs.length->Pv i σ H->SqL K H a xs)
  (hs:∀ i x σ H,xs[i]? = some x->Pv i σ H->g x σ H fun σ2 H2=>tb { D with nx:=Pv (i+1),ct:=Pv (i+1),bk:=D.nx } σ2 H2) (hd:∀ σ H,Pv xs.length σ H->D.nx σ H) :
  ∃ W:Nat->Nat->St->Hp->Prop,(∃ m,W 0 m σ H)/\∀ i m σ H,W i m σ H ->
   ((Itl K a).stop i H/\D.nx σ H)\/((Itl K a).go i H/\∃ N:St->Hp->Prop,(∀ σ' H',N σ' H'->∃ m',m'<m/\W (i+1) m' σ' H')/\∀ x H',(Itl K a).yld i H x H'->g x σ H' fun σ2 H2=>tb { D with nx:=N,ct:=N,bk:=D.nx } σ2 H2):=by
 refine ⟨fun i m σ H=>m=xs.length-i/\i<=xs.length/\Pv i σ H,⟨xs.length,by simp,Nat.zero_le _,h0⟩,?_⟩
 rintro i m σ H ⟨rfl,hi,p⟩
 have q:=hl i σ H hi p
 by_cases hlt:i<xs.length
 ·refine .inr ⟨⟨xs,xs[i],q,by simp [hlt]⟩,Pv (i+1),fun σ' H' p'=>⟨xs.length-(i+1),by omega,rfl,hlt,p'⟩,fun x H' y=>?_⟩
  obtain ⟨e,y⟩:=y
  subst e
  exact hs i x σ _ (y xs q) p
 ·have e:i=xs.length:=by omega
  subst e
  exact .inl ⟨⟨xs,q,Nat.le_refl _⟩,hd σ H p⟩
theorem uZ {K:PySem.W.Frag}{a:Addr}{xs:List V}{g:TG}{tb:TS}{D:Ends}{σ:St}{H:Hp}(Pv:Nat->St->Hp->Prop) (h0:Pv 0 σ H) (hl:∀ i σ H,i<=xs.length->Pv i σ H->SqT K H a xs)
  (hs:∀ i x σ H,xs[i]? = some x->Pv i σ H->g x σ H fun σ2 H2=>tb { D with nx:=Pv (i+1),ct:=Pv (i+1),bk:=D.nx } σ2 H2) (hd:∀ σ H,Pv xs.length σ H->D.nx σ H) :
  ∃ W:Nat->Nat->St->Hp->Prop,(∃ m,W 0 m σ H)/\∀ i m σ H,W i m σ H ->
   ((Itt K a).stop i H/\D.nx σ H)\/((Itt K a).go i H/\∃ N:St->Hp->Prop,(∀ σ' H',N σ' H'->∃ m',m'<m/\W (i+1) m' σ' H')/\∀ x H',(Itt K a).yld i H x H'->g x σ H' fun σ2 H2=>tb { D with nx:=N,ct:=N,bk:=D.nx } σ2 H2):=by
 refine ⟨fun i m σ H=>m=xs.length-i/\i<=xs.length/\Pv i σ H,⟨xs.length,by simp,Nat.zero_le _,h0⟩,?_⟩
 rintro i m σ H ⟨rfl,hi,p⟩
 have q:=hl i σ H hi p
 by_cases hlt:i<xs.length
 ·refine .inr ⟨⟨xs,xs[i],q,by simp [hlt]⟩,Pv (i+1),fun σ' H' p'=>⟨xs.length-(i+1),by omega,rfl,hlt,p'⟩,fun x H' y=>?_⟩
  obtain ⟨e,y⟩:=y
  subst e
  exact hs i x σ _ (y xs q) p
 ·have e:i=xs.length:=by omega
  subst e
  exact .inl ⟨⟨xs,q,Nat.le_refl _⟩,hd σ H p⟩
theorem xk {lo:Int}{n:Nat}{g:TG}{tb:TS}{D:Ends}{σ:St}{H:Hp}(Pv:Nat->St->Hp->Prop) (h0:Pv 0 σ H)
  (hs:∀ i σ H,i<n->Pv i σ H->g (.int (lo+i)) σ H fun σ2 H2=>tb { D with nx:=Pv (i+1),ct:=Pv (i+1),bk:=D.nx } σ2 H2) (hd:∀ σ H,Pv n σ H->D.nx σ H) :
  ∃ W:Nat->Nat->St->Hp->Prop,(∃ m,W 0 m σ H)/\∀ i m σ H,W i m σ H ->
   ((Itr lo n).stop i H/\D.nx σ H)\/((Itr lo n).go i H/\∃ N:St->Hp->Prop,(∀ σ' H',N σ' H'->∃ m',m'<m/\W (i+1) m' σ' H')/\∀ x H',(Itr lo n).yld i H x H'->g x σ H' fun σ2 H2=>tb { D with nx:=N,ct:=N,bk:=D.nx } σ2 H2):=by
 refine ⟨fun i m σ H=>m=n-i/\i<=n/\Pv i σ H,⟨n,by simp,Nat.zero_le _,h0⟩,?_⟩
 rintro i m σ H ⟨rfl,hi,p⟩
 by_cases hlt:i<n
 ·refine .inr ⟨hlt,Pv (i+1),fun σ' H' p'=>⟨n-(i+1),by omega,rfl,hlt,p'⟩,fun x H' y=>?_⟩
  obtain ⟨e,y⟩:=y
  subst e y
  exact hs i σ _ hlt p
 ·have e:i=n:=by omega
  subst e
  exact .inl ⟨Nat.le_refl _,hd σ H p⟩
theorem Q0 {c:TT}{tb:TS}{D:Ends}{σ:St}{H:Hp}(Pv:St->Hp->Prop) (μ:St->Hp->Nat) (h0:Pv σ H)
  (hs:∀ σ H,Pv σ H->c σ H fun b H1=>if b=true then tb { D with nx:=fun σ' H'=>Pv σ' H'/\μ σ' H'<μ σ H,ct:=fun σ' H'=>Pv σ' H'/\μ σ' H'<μ σ H,bk:=D.nx } σ H1 else D.nx σ H1)
  (mono:∀ σ H Q Q',(∀ b H1,Q b H1->Q' b H1)->c σ H Q->c σ H Q'):Yj c tb D σ H:=by
 refine ⟨fun m σ H=>m=μ σ H/\Pv σ H,⟨_,rfl,h0⟩,?_⟩
 rintro m σ H ⟨rfl,p⟩
 refine mono σ H _ _ (fun b H1 q=>?_) (hs σ H p)
 cases b with
 | true=>exact ⟨_,fun σ' H' ⟨p',l⟩=>⟨_,l,rfl,p'⟩,q⟩
 | false=>exact q
end L2
namespace L2
open PySem PySem.Spec PyProof.Rows
abbrev R2:=V->V->Hp->VK->Prop
def OpR (X:Cx) (f:Value->Value->Sem Value) (r:R2):Prop :=
 ∀ (pins:List (Addr×Obj)) (s:Shared) (σ:St) (H:Hp) (x y:V) (v u:Value) (Q:VK),Inv X pins σ H s->jB x v->jB y u->r x y H Q ->
  wpAny (model X.prog X.w) X.A (f v u) (EP X pins σ Q) X.xe s
def UnR (X:Cx) (f:Value->Sem Value) (r:V->Hp->VK->Prop):Prop :=
 ∀ (pins:List (Addr×Obj)) (s:Shared) (σ:St) (H:Hp) (x:V) (v:Value) (Q:VK),Inv X pins σ H s->jB x v->r x H Q ->
  wpAny (model X.prog X.w) X.A (f v) (EP X pins σ Q) X.xe s
def x5 (X:Cx) (f:Value) (r:List V->Hp->VK->Prop):Prop :=
 ∀ (pins:List (Addr×Obj)) (s:Shared) (σ:St) (H:Hp) (xs:List V) (us:List Value) (Q:VK),Inv X pins σ H s->jC xs us->r xs H Q ->
  wpAny (model X.prog X.w) X.A (call f us) (EP X pins σ Q) X.xe s
def tOp (r:R2) (ta tb:TE):TE:=fun σ H Q=>ta σ H fun x H1=>tb σ H1 fun y H2=>r x y H2 Q
def tUn (r:V->Hp->VK->Prop) (ta:TE):TE:=fun σ H Q=>ta σ H fun x H1=>r x H1 Q
def rI (C:Int->Int->Prop) (g:Int->Int->V):R2:=fun x y H Q=>∃ i j,x = .int i/\y = .int j/\C i j/\Q (g i j) H
def rI0 (g:Int->Int->V):R2:=fun x y H Q=>∃ i j,x = .int i/\y = .int j/\Q (g i j) H
def rU (g:Int->V):V->Hp->VK->Prop:=fun x H Q=>∃ i,x = .int i/\Q (g i) H
section
variable {X:Cx}{a b c:Expr}{ta tb tc:TE}{pos:Pos}
theorem UT (ha:PE X a ta) (hb:PE X b tb) {pins:List (Addr×Obj)}{s:Shared}{σ:St}{H:Hp}{R:V->V->Hp->Prop}(I:Inv X pins σ H s)
  (h:ta σ H fun x H1=>tb σ H1 fun y H2=>R x y H2) {Q:Value->Shared->Prop} {f:Value->Value->Sem Value}
  (hf:∀ v u s2 x y H2,Inv X pins σ H2 s2->jB x v->jB y u->R x y H2->wpAny (model X.prog X.w) X.A (f v u) Q X.xe s2) :
  wpAny (model X.prog X.w) X.A (eval a X.env) (fun v s₁=>wpAny (model X.prog X.w) X.A (eval b X.env) (fun u s₂=>wpAny (model X.prog X.w) X.A (f v u) Q X.xe s₂) X.xe s₁) X.xe s:=by
 refine thn (ha pins s σ H _ I h) fun v s1 ⟨x,H1,I1,r1,q1⟩=>?_
 refine thn (hb pins s1 σ H1 _ I1 q1) fun u s2 ⟨y,H2,I2,r2,q2⟩=>?_
 exact hf v u s2 x y H2 I2 r1 r2 q2
theorem jh {op:Operator}{r:R2}(ho:OpR X (binaryOp op) r) (ha:PE X a ta) (hb:PE X b tb):PE X (.BinOp a op b pos) (tOp r ta tb):=by
 intro pins s σ H Q I h
 exact wpAny_BinOp (UT ha hb I h fun v u s2 x y H2 I2 rx ry q=>ho pins s2 σ H2 x y v u Q I2 rx ry q)
theorem vz {op:UnaryOp}{r:V->Hp->VK->Prop}(ho:UnR X (unaryOp op) r) (ha:PE X a ta):PE X (.UnaryOp op a pos) (tUn r ta):=by
 intro pins s σ H Q I h
 exact UnaryOp_ (thn (ha pins s σ H _ I h) fun v s1 ⟨x,H1,I1,r1,q1⟩=>ho pins s1 σ H1 x v Q I1 r1 q1)
theorem opI {f:Value->Value->Sem Value}{C:Int->Int->Prop}{g:Int->Int->Int}
  (rule:∀ (i j:Int) (t u:Tok) (s:Shared) (Q:Value->Shared->Prop) (E:Value->Shared->Prop),C i j->Q (.int (g i j) s.toks) { s with toks:=s.toks+1 }->wpAny (model X.prog X.w) X.A (f (.int i t) (.int j u)) Q E s) :
  OpR X f (rI C fun i j=>.int (g i j)):=by
 intro pins s σ H x y v u Q I rx ry h
 obtain ⟨i,j,rfl,rfl,hc,q⟩:=h
 obtain ⟨t,rfl⟩:=rx
 obtain ⟨t',rfl⟩:=ry
 exact rule i j t t' s _ _ hc ⟨.int (g i j),H,I.tok _,⟨_,rfl⟩,q⟩
theorem WX {f:Value->Value->Sem Value}{g:Int->Int->Int}
  (rule:∀ (i j:Int) (t u:Tok) (s:Shared) (Q:Value->Shared->Prop) (E:Value->Shared->Prop),Q (.int (g i j) s.toks) { s with toks:=s.toks+1 }->wpAny (model X.prog X.w) X.A (f (.int i t) (.int j u)) Q E s) :
  OpR X f (rI0 fun i j=>.int (g i j)):=by
 intro pins s σ H x y v u Q I rx ry h
 obtain ⟨i,j,rfl,rfl,q⟩:=h
 obtain ⟨t,rfl⟩:=rx
 obtain ⟨t',rfl⟩:=ry
 exact rule i j t t' s _ _ ⟨.int (g i j),H,I.tok _,⟨_,rfl⟩,q⟩
theorem Vl {f:Value->Value->Sem Value}{g:Int->Int->Bool}
  (rule:∀ (i j:Int) (t u:Tok) (s:Shared) (Q:Value->Shared->Prop) (E:Value->Shared->Prop),Q (.bool (g i j)) s->wpAny (model X.prog X.w) X.A (f (.int i t) (.int j u)) Q E s) :
  OpR X f (rI0 fun i j=>.bl (g i j)):=by
 intro pins s σ H x y v u Q I rx ry h
 obtain ⟨i,j,rfl,rfl,q⟩:=h
 obtain ⟨t,rfl⟩:=rx
 obtain ⟨t',rfl⟩:=ry
 exact rule i j t t' s _ _ ⟨.bl (g i j),H,I,rfl,q⟩
def Vi (i j:Int):Prop:=0<=j/\j<=1000000/\i.natAbs<2 ^ 64
def J4 (i j:Int):Prop:=(-(2 ^ 64)<i/\i<2 ^ 64)\/(-(2 ^ 64)<j/\j<2 ^ 64)
theorem J4.ok {i j:Int}(h:J4 i j):IntMulOk i j:=by
 rcases h with ⟨h1,h2⟩ | ⟨h1,h2⟩
 ·exact .of_left (intBits_le_64 h1 h2)
 ·exact .of_right (intBits_le_64 h1 h2)
theorem jN:OpR X (binaryOp .Add) (rI0 fun i j=>.int (i+j)):=WX fun _ _ _ _ _ _ _ q=>add_int q
theorem jE:OpR X (binaryOp .Sub) (rI0 fun i j=>.int (i-j)):=WX fun _ _ _ _ _ _ _ q=>sub_int q
theorem uk:OpR X (binaryOp .Mult) (rI J4 fun i j=>.int (i*j)):=opI fun _ _ _ _ _ _ _ hc q=>mul_int q hc.ok
theorem xV:OpR X (binaryOp .Mod) (rI (fun _ j=>0<j) fun i j=>.int (i % j)):=opI fun i j _ _ _ _ _ hc q=>by
 have h1:(0:Int)<j:=hc
 exact mod_int' (by omega) (by rw [Int.fmod_eq_emod_of_nonneg i (by omega)];exact q)
theorem yY:OpR X (binaryOp .Pow) (rI Vi fun i j=>.int (i ^ j.toNat)):=opI fun _ _ _ _ _ _ _ hc q=>pow_int_small hc.1 hc.2.1 hc.2.2 q
theorem unI {f:Value->Sem Value}{g:Int->Int}
  (rule:∀ (i:Int) (t:Tok) (s:Shared) (Q:Value->Shared->Prop) (E:Value->Shared->Prop),Q (.int (g i) s.toks) { s with toks:=s.toks+1 }->wpAny (model X.prog X.w) X.A (f (.int i t)) Q E s) :
  UnR X f (rU fun i=>.int (g i)):=by
 intro pins s σ H x v Q I rx h
 obtain ⟨i,rfl,q⟩:=h
 obtain ⟨t,rfl⟩:=rx
 exact rule i t s _ _ ⟨.int (g i),H,I.tok _,⟨_,rfl⟩,q⟩
theorem zR:UnR X (unaryOp .USub) (rU fun i=>.int (-i)):=unI fun _ _ _ _ _ q=>neg_int q
end
def We:V->V->Bool
 | .non,.non=>true | .non,.int _=>true | .int _,.non=>true | .non,.bl _=>true | .bl _,.non=>true | .non,.str _=>true | .str _,.non=>true
 | .int _,.int _=>true | .bl _,.bl _=>true | .str _,.str _=>true | .byt _,.byt _=>true
 | .int _,.str _=>true | .str _,.int _=>true | .bl _,.str _=>true | .str _,.bl _=>true
 | _,_=>false
def rEq:R2:=fun x y H Q=>We x y=true/\Q (.bl (decide (x=y))) H
def rNe:R2:=fun x y H Q=>We x y=true/\Q (.bl (!decide (x=y))) H
theorem XX {i j:Int}:decide (V.int i=V.int j)=(i == j):=by
 rw [Bool.eq_iff_iff]
 simp
theorem Yy {i j:Bool}:decide (V.bl i=V.bl j)=(i == j):=by
 rw [Bool.eq_iff_iff]
 simp
theorem Z4 {i j:Str}:decide (V.str i=V.str j)=(i == j):=by
 rw [Bool.eq_iff_iff]
 simp
theorem Z2 {i j:Array UInt8}:decide (V.byt i=V.byt j)=(i.toList == j.toList):=by
 rw [Bool.eq_iff_iff]
 cases i
 cases j
 simp
section
variable {X:Cx}{a b c:Expr}{ta tb tc:TE}{pos:Pos}
theorem jL {pins:List (Addr×Obj)}{σ:St}{H:Hp}{s:Shared}{Q:VK}{k k':Bool}(I:Inv X pins σ H s) (q:Q (.bl k) H) (e:k=k'):EP X pins σ Q (.bool k') s:=by
 subst e
 exact ⟨.bl k,H,I,rfl,q⟩
theorem zd:OpR X (compareOp .Eq) rEq:=by
 intro pins s σ H x y v u Q I rx ry h
 obtain ⟨hs,q⟩:=h
 cases x with
 | non =>
  cases rx
  cases y with
  | non=>cases ry;exact PySem.EqNone.eq_none_none (jL I q (by simp))
  | bl j=>cases ry;exact PySem.EqNone.eq_none_bool (jL I q (by simp))
  | int j=>obtain ⟨t',rfl⟩:=ry;exact PySem.EqNone.eq_none_int (jL I q (by simp))
  | str j=>obtain ⟨t',rfl⟩:=ry;exact PySem.EqNone.eq_none_str (jL I q (by simp))
  | _=>exact absurd (show false=true from hs) Bool.false_ne_true
 | bl i =>
  cases rx
  cases y with
  | non=>cases ry;exact PySem.EqNone.eq_bool_none (jL I q (by simp))
  | bl j=>cases ry;exact eq_bool (jL I q Yy)
  | str j=>obtain ⟨t',rfl⟩:=ry;exact PySem.EqMixed.eq_bool_str (jL I q (by simp))
  | _=>exact absurd (show false=true from hs) Bool.false_ne_true
 | int i =>
  obtain ⟨t,rfl⟩:=rx
  cases y with
  | non=>cases ry;exact PySem.EqNone.eq_int_none (jL I q (by simp))
  | int j=>obtain ⟨t',rfl⟩:=ry;exact eq_int (jL I q XX)
  | str j=>obtain ⟨t',rfl⟩:=ry;exact PySem.EqMixed.eq_int_str (jL I q (by simp))
  | _=>exact absurd (show false=true from hs) Bool.false_ne_true
 | str i =>
  obtain ⟨t,rfl⟩:=rx
  cases y with
  | non=>cases ry;exact PySem.EqNone.eq_str_none (jL I q (by simp))
  | bl j=>cases ry;exact PySem.EqMixed.eq_str_bool (jL I q (by simp))
  | int j=>obtain ⟨t',rfl⟩:=ry;exact PySem.EqMixed.eq_str_int (jL I q (by simp))
  | str j=>obtain ⟨t',rfl⟩:=ry;exact eq_str (jL I q Z4)
  | _=>exact absurd (show false=true from hs) Bool.false_ne_true
 | byt i =>
  obtain ⟨t,rfl⟩:=rx
  cases y with
  | byt j=>obtain ⟨t',rfl⟩:=ry;exact PySem.W.eq_bytes (jL I q Z2)
  | _=>exact absurd (show false=true from hs) Bool.false_ne_true
 | _=>cases y <;> exact absurd (show false=true from hs) Bool.false_ne_true
theorem Yl:OpR X (compareOp .NotEq) rNe:=by
 intro pins s σ H x y v u Q I rx ry h
 obtain ⟨hs,q⟩:=h
 cases x with
 | non =>
  cases rx
  cases y with
  | non=>cases ry;exact PySem.EqNone.ne_none_none (jL I q (by simp))
  | bl j=>cases ry;exact PySem.EqNone.ne_none_bool (jL I q (by simp))
  | int j=>obtain ⟨t',rfl⟩:=ry;exact PySem.EqNone.ne_none_int (jL I q (by simp))
  | str j=>obtain ⟨t',rfl⟩:=ry;exact PySem.EqNone.ne_none_str (jL I q (by simp))
  | _=>exact absurd (show false=true from hs) Bool.false_ne_true
 | bl i =>
  cases rx
  cases y with
  | non=>cases ry;exact PySem.EqNone.ne_bool_none (jL I q (by simp))
  | bl j=>cases ry;exact ne_bool (jL I q (congrArg not Yy))
  | str j=>obtain ⟨t',rfl⟩:=ry;exact PySem.EqMixed.ne_bool_str (jL I q (by simp))
  | _=>exact absurd (show false=true from hs) Bool.false_ne_true
 | int i =>
  obtain ⟨t,rfl⟩:=rx
  cases y with
  | non=>cases ry;exact PySem.EqNone.ne_int_none (jL I q (by simp))
  | int j=>obtain ⟨t',rfl⟩:=ry;exact ne_int (jL I q (congrArg not XX))
  | str j=>obtain ⟨t',rfl⟩:=ry;exact PySem.EqMixed.ne_int_str (jL I q (by simp))
  | _=>exact absurd (show false=true from hs) Bool.false_ne_true
 | str i =>
  obtain ⟨t,rfl⟩:=rx
  cases y with
  | non=>cases ry;exact PySem.EqNone.ne_str_none (jL I q (by simp))
  | bl j=>cases ry;exact PySem.EqMixed.ne_str_bool (jL I q (by simp))
  | int j=>obtain ⟨t',rfl⟩:=ry;exact PySem.EqMixed.ne_str_int (jL I q (by simp))
  | str j=>obtain ⟨t',rfl⟩:=ry;exact ne_str (jL I q (congrArg not Z4))
  | _=>exact absurd (show false=true from hs) Bool.false_ne_true
 | byt i =>
  obtain ⟨t,rfl⟩:=rx
  cases y with
  | byt j=>obtain ⟨t',rfl⟩:=ry;exact PySem.W.ne_bytes (jL I q (congrArg not Z2))
  | _=>exact absurd (show false=true from hs) Bool.false_ne_true
 | _=>cases y <;> exact absurd (show false=true from hs) Bool.false_ne_true
theorem xX:OpR X (compareOp .Lt) (rI0 fun i j=>.bl (decide (i<j))):=Vl fun _ _ _ _ _ _ _ q=>lt_int q
theorem jP:OpR X (compareOp .LtE) (rI0 fun i j=>.bl (decide (i<=j))):=Vl fun _ _ _ _ _ _ _ q=>le_int q
theorem Ub:OpR X (compareOp .Gt) (rI0 fun i j=>.bl (decide (j<i))):=Vl fun _ _ _ _ _ _ _ q=>gt_int q
theorem XZ:OpR X (compareOp .GtE) (rI0 fun i j=>.bl (decide (j<=i))):=Vl fun _ _ _ _ _ _ _ q=>ge_int q
theorem kj:OpR X (compareOp .Is) (fun x y H Q=>y = .non/\Q (.bl (decide (x = .non))) H):=by
 intro pins s σ H x y v u Q I rx ry h
 obtain ⟨rfl,q⟩:=h
 cases ry
 refine is_none_gen (jL I q ?_)
 cases x <;> first
  | (cases rx;rfl)
  | (obtain ⟨t,rfl⟩:=rx;rfl)
theorem VU:OpR X (compareOp .IsNot) (fun x y H Q=>y = .non/\Q (.bl (!decide (x = .non))) H):=by
 intro pins s σ H x y v u Q I rx ry h
 obtain ⟨rfl,q⟩:=h
 cases ry
 refine isnot_none_gen (jL I q ?_)
 cases x <;> first
  | (cases rx;rfl)
  | (obtain ⟨t,rfl⟩:=rx;rfl)
theorem jx (b:Expr) {op:CmpOp}(h:op≠.In:=by decide) (h2:op≠.NotIn:=by decide):behindInMarks op b=false:=by
 have e1:(op == CmpOp.In)=false:=by cases op <;> first | rfl | exact absurd rfl h
 have e2:(op == CmpOp.NotIn)=false:=by cases op <;> first | rfl | exact absurd rfl h2
 cases b <;> simp [behindInMarks,e1,e2]
theorem vV {op:CmpOp}{r:R2}(ho:OpR X (compareOp op) r) (ha:PE X a ta) (hb:PE X b tb) (hm:behindInMarks op b=false):PE X (.Compare a [op] [b] pos) (tOp r ta tb):=by
 intro pins s σ H Q I h
 exact wpAny_Compare1 (UT ha hb I h fun v u s2 x y H2 I2 rx ry q=>ho pins s2 σ H2 x y v u Q I2 rx ry q) hm
def Qe (t:TE):TT:=fun σ H Q=>t σ H fun x H'=>∃ k,x = .bl k/\Q k H'
theorem jq {op:CmpOp}{r:R2}(ho:OpR X (compareOp op) r) (ha:PE X a ta) (hb:PE X b tb) (hm:behindInMarks op b=false):PT X (.Compare a [op] [b] pos) (Qe (tOp r ta tb)):=by
 intro pins s σ H Q I h
 refine wpAny_isTrue_Compare1 (thn (ha pins s σ H _ I h) fun v s1 ⟨x,H1,I1,r1,q1⟩=>thn (hb pins s1 σ H1 _ I1 q1) fun u s2 ⟨y,H2,I2,r2,q2⟩ =>
  thn (ho pins s2 σ H2 x y v u _ I2 r1 r2 q2) fun c s3 ⟨z,H3,I3,r3,k,e,q3⟩=>?_) hm
 subst e
 cases r3
 exact wpAny_truthy_bool ⟨H3,I3,q3⟩
def Y5 (r r':R2) (ta tb tc:TE):TE:=fun σ H Q=>ta σ H fun x H1=>tb σ H1 fun y H2=>r x y H2 fun z H3=>∃ k,z = .bl k /\
 (if k=true then tc σ H3 fun w' H4=>r' y w' H4 Q else Q (.bl false) H3)
theorem xO {op op':CmpOp}{r r':R2}(ho:OpR X (compareOp op) r) (ho':OpR X (compareOp op') r') (ha:PE X a ta) (hb:PE X b tb) (hc:PE X c tc)
  (hm:lastMarks [op,op'] [b,c]=false:=by with_unfolding_all rfl):PE X (.Compare a [op,op'] [b,c] pos) (Y5 r r' ta tb tc):=by
 intro pins s σ H Q I h
 refine Compare_chain (thn (ha pins s σ H _ I h) fun v s1 ⟨x,H1,I1,r1,q1⟩=>chain_link (thn (hb pins s1 σ H1 _ I1 q1) fun u s2 ⟨y,H2,I2,r2,q2⟩ =>
  thn (ho pins s2 σ H2 x y v u _ I2 r1 r2 q2) fun d s3 ⟨z,H3,I3,r3,k,e,q3⟩=>?_)) hm
 subst e
 cases r3
 refine wpAny_truthy_bool ?_
 cases k with
 | false=>exact ite_ff ⟨.bl false,H3,I3,rfl,q3⟩
 | true=>exact ite_tt (chain_last (thn (hc pins s3 σ H3 _ I3 q3) fun w' s4 ⟨z',H4,I4,r4,q4⟩=>ho' pins s4 σ H4 y z' u w' Q I4 r2 r4 q4))
theorem qy {op op':CmpOp}{r r':R2}(ho:OpR X (compareOp op) r) (ho':OpR X (compareOp op') r') (ha:PE X a ta) (hb:PE X b tb) (hc:PE X c tc)
  (hm:lastMarks [op,op'] [b,c]=false:=by with_unfolding_all rfl):PT X (.Compare a [op,op'] [b,c] pos) (Qe (Y5 r r' ta tb tc)):=by
 intro pins s σ H Q I h
 refine isTrue_chain (thn (ha pins s σ H _ I h) fun v s1 ⟨x,H1,I1,r1,q1⟩=>test_link (thn (hb pins s1 σ H1 _ I1 q1) fun u s2 ⟨y,H2,I2,r2,q2⟩ =>
  thn (ho pins s2 σ H2 x y v u _ I2 r1 r2 q2) fun d s3 ⟨z,H3,I3,r3,k,e,q3⟩=>?_)) hm
 subst e
 cases r3
 refine wpAny_truthy_bool ?_
 cases k with
 | false =>
  obtain ⟨k',e',q'⟩:=q3
  cases e'
  exact ite_ff ⟨H3,I3,q'⟩
 | true =>
  refine ite_tt (test_last (thn (hc pins s3 σ H3 _ I3 q3) fun w' s4 ⟨z',H4,I4,r4,q4⟩=>thn (ho' pins s4 σ H4 y z' u w' _ I4 r2 r4 q4) fun d' s5 ⟨z2,H5,I5,r5,k2,e2,q5⟩=>?_))
  subst e2
  cases r5
  exact wpAny_truthy_bool ⟨H5,I5,q5⟩
theorem Jm:(sizeLine:Nat)<2 ^ 63:=by rw [sizeLine_eq];decide
theorem yo {x:V}{us:List Value}(r:jC [x] us):∃ u,us=[u]/\jB x u:=by
 cases r with
 | cons r1 r2=>cases r2;exact ⟨_,rfl,r1⟩
theorem U3 {x y:V}{us:List Value}(r:jC [x,y] us):∃ u w',us=[u,w']/\jB x u/\jB y w':=by
 cases r with
 | cons r1 r2 =>
  cases r2 with
  | cons r3 r4=>cases r4;exact ⟨_,_,rfl,r1,r3⟩
theorem Qt:x5 X (.builtin "abs") (fun xs H Q=>∃ i,xs=[.int i]/\Q (.int (if i<0 then -i else i)) H):=by
 intro pins s σ H xs us Q I r h
 obtain ⟨i,rfl,q⟩:=h
 obtain ⟨u,rfl,t,rfl⟩:=yo r
 exact call_abs_int fun u tk=>⟨.int (if i<0 then -i else i),H,I.tok _,⟨_,rfl⟩,q⟩
theorem zI (hc:X.calm=true):x5 X (.builtin "max") (fun xs H Q=>∃ i j,xs=[.int i,.int j]/\Q (.int (if j > i then j else i)) H):=by
 intro pins s σ H xs us Q I r h
 obtain ⟨i,j,rfl,q⟩:=h
 obtain ⟨u,w',rfl,⟨t,rfl⟩,⟨t',rfl⟩⟩:=U3 r
 refine max_two_ints (I.ok.hd hc) fun h' tk k=>⟨_,H,I.kept k,?_,q⟩
 by_cases hj:j > i
 ·rw [if_pos hj,if_pos hj];exact ⟨_,rfl⟩
 ·rw [if_neg hj,if_neg hj];exact ⟨_,rfl⟩
theorem uA (hc:X.calm=true):x5 X (.builtin "min") (fun xs H Q=>∃ i j,xs=[.int i,.int j]/\Q (.int (if j<i then j else i)) H):=by
 intro pins s σ H xs us Q I r h
 obtain ⟨i,j,rfl,q⟩:=h
 obtain ⟨u,w',rfl,⟨t,rfl⟩,⟨t',rfl⟩⟩:=U3 r
 refine min_two_ints (I.ok.hd hc) fun h' tk k=>⟨_,H,I.kept k,?_,q⟩
 by_cases hj:j<i
 ·rw [if_pos hj,if_pos hj];exact ⟨_,rfl⟩
 ·rw [if_neg hj,if_neg hj];exact ⟨_,rfl⟩
end
end L2
namespace L2
open PySem PySem.Spec PyProof.Rows
structure ObjM (h:Heap) (x dx C:Addr) (mA:Str->Option Value):Prop where
 obj:h.get? x=some (PySem.W.instObj C dx)
 ns:h.Ns1 dx mA
 ne:dx≠x
theorem Y0 {h:Heap}{dx:Addr}{mA:Str->Option Value}(n:h.Ns1 dx mA):∃ od,h.get? dx=some od/\∀ name,PySem.W.lookIn name od=some (mA name):=by
 obtain ⟨o,es,ep,ho,hd,hk,_,hm⟩:=n
 refine ⟨o,ho,fun name=>?_⟩
 have e:=hm name
 unfold nsFind findBy at e
 rw [<- Array.find?_toList] at e
 unfold PySem.W.lookIn
 rw [hd]
 dsimp only
 split
 ·rename_i y q
  rw [q] at e
  exact congrArg some e
 ·rename_i q
  rw [q] at e
  have a:es.toList.any (·.refKey)=false:=by
   rw [List.any_eq_false]
   intro y hy
   obtain ⟨z,t,hkey⟩:=hk y (Array.mem_toList_iff.mp hy)
   simp [DictEntry.refKey,hkey]
  have a':¬ es.toList.any (·.refKey)=true:=by rw [a];exact Bool.false_ne_true
  rw [if_neg a']
  exact congrArg some e
theorem ObjM.look {h:Heap}{x dx C:Addr}{mA:Str->Option Value}(I:ObjM h x dx C mA):∃ od,PySem.W.InstAt h x (PySem.W.instObj C dx) C (some od)/\∀ name,PySem.W.lookIn name od=some (mA name) :=
 let ⟨od,ho,hl⟩:=Y0 I.ns
 ⟨od,⟨I.obj,rfl,rfl,ho⟩,hl⟩
section
variable {prog:Program}{w:World}{A:Around}{E:Value->Shared->Prop}{s:Shared}{K:PySem.W.Frag}{x dx C f:Addr}{mA:Str->Option Value}{name:Str}{v:Value}
theorem VA {expr:Bool}{Q:Value->Shared->Prop}(X:K.In s.heap) (I:ObjM s.heap x dx C mA) (hg:PySem.W.plainGet K C name=true) (hh:PySem.W.hasDictIn K C=true)
  (ha:PySem.W.findIn K (.ref C) name=some none) (hv:mA name=some v) (hv':PySem.W.handedIn v=true) (h:Q v { s with toks:=s.toks+1 }) :
  wpAny (model prog w) A (getAttr (.ref x) name expr) Q E s:=by
 obtain ⟨od,J,hl⟩:=I.look
 exact PySem.W.get_value X J (PySem.W.plainGet_of hg).1 (PySem.W.findObj_own hh ha rfl (by rw [hl,hv])) hv' h
theorem Yw {pl:Sem Bool}{Q:Value×List Value->Shared->Prop}(X:K.In s.heap) (I:ObjM s.heap x dx C mA) (hg:PySem.W.plainGet K C name=true)
  (hf:PySem.W.findIn K (.ref C) name=some (some (.ref f))) (ht:PySem.W.isFn K (.ref f)=true) (hv:mA name=none) (h:Q (.ref f,[.ref x]) s) :
  wpAny (model prog w) A (getMethod (.ref x) name pl) Q E s:=by
 obtain ⟨od,J,hl⟩:=I.look
 exact PySem.W.method_fn X J (PySem.W.plainGet_of hg).1 (PySem.W.plainGet_of hg).2 hf (beq_iff_eq.mp ht) (by show (PySem.W.lookIn name od).map (·.isSome)=some false;rw [hl,hv];rfl) h
theorem Vj {ns:List Str}{Q:Unit->Shared->Prop}(X:K.In s.heap) (I:ObjM s.heap x dx C mA)
  (hs:PySem.W.findIn K (.ref C) "__setattr__" = some (some (.builtin "object.__setattr__"))) (hp:PySem.W.plainOver K C=true) (ht:PySem.W.takerIn K C name=some none) (hh:PySem.W.hasDictIn K C=true)
  (hw:PySem.Within mA ns) (hsz:ns.length<=sizeLine)
  (h:∀ h',ObjM h' x dx C (fun y=>if y=name then some v else mA y)->Heap.SameBut dx s.heap h'->Q () { s with heap:=h',toks:=s.toks+2 }) :
  wpAny (model prog w) A (setAttr (.ref x) name v) Q E s:=by
 obtain ⟨od,J,hl⟩:=I.look
 refine PySem.W.set_plain X J hs (PySem.W.osa_open (s:={ s with toks:=s.toks+1 }) (r:=none) X J hp ht fun b=>?_)
 obtain ⟨cd,hc,hd'⟩:=PySem.W.any_some hh
 have hx:s.heap.get? x=some ⟨.ref C,some dx,.plain,#[]⟩:=I.obj
 refine wpAny_bind (wpAny_pure (wpAny_bind (wpAny_bind (wpAny_loadPart hx (wpAny_bind (PySem.W.Looks.here (s:={ s with toks:=s.toks+1 }) (PySem.W.looks_clsIn X hc) ?_))))))
 rw [hd']
 refine wpAny_pure (a:=some dx) (wpAny_bind (wpAny_pure (wpAny_bind ?_)))
 refine wpAny_nsSet1 (s:={ s with toks:=s.toks+1 }) I.ns fun h' hn2 hs2=>?_
 obtain ⟨oD,esD,epD,hoD,hdD,hcD⟩:=hn2.count (PySem.Within.cons name v hw)
 refine wpAny_bind (wpAny_lookBehind hoD (by rw [hdD];exact pastItsLine_dict (Nat.le_trans hcD (by rw [List.length_cons];omega))) ?_)
 exact wpAny_pure (h _ ⟨(hs2.2 _ (Ne.symm I.ne)).trans I.obj,hn2,I.ne⟩ hs2)
theorem Yh {R:Result->Shared->Prop}{vs:List Value}{kw:List (Str×Value)}(X:K.In s.heap) (hm:PySem.W.makesIn K C=true)
  (hi:PySem.W.findIn K (.ref C) "__init__" = some (some (.ref f))) (hf:PySem.W.typeIn K (.ref f)=some (.type "function"))
  (h:codeAny (model prog w) (A.under (.builtin "type.__call__" ⟨.ref C::vs,kw⟩)) (.call (.ref f) ⟨.ref (s.heap.objs.size+1)::vs,kw⟩) (PySem.W.InitBack (s.heap.objs.size+1) R)
   { s with heap:=(s.heap.push PySem.W.emptyDict).push (PySem.W.instObj C s.heap.objs.size) }) :
  codeAny (model prog w) A (.call (.ref C) ⟨vs,kw⟩) R s:=by
 obtain ⟨hh,g,d,t,os⟩:=s
 exact PySem.W.make_core (PySem.W.makes_of X hm) (PySem.W.looks_findIn X hi) (fun self=>PySem.W.bind_fn X self hf) (.inl rfl) h
end
def js (f:Str) (v:V):List (Str×V)->List (Str×V)
 | []=>[(f,v)]
 | (g,x)::r=>if g=f then (g,v)::r else (g,x)::js f v r
theorem jz (f g:Str) (v:V):∀ fs:List (Str×V),(js f v fs).lookup g=if g=f then some v else fs.lookup g
 | []=>by
  show List.lookup g [(f,v)]=_
  by_cases h:g=f
  ·have hb:(g == f)=true:=beq_iff_eq.mpr h
   simp only [List.lookup,hb,if_pos h]
  ·have hb:(g == f)=false:=beq_eq_false_iff_ne.mpr h
   simp only [List.lookup,hb,if_neg h]
 | (k,x)::r=>by
  have ih:=jz f g v r
  rw [show js f v ((k,x)::r)=(if k=f then (k,v)::r else (k,x)::js f v r) from rfl]
  by_cases hk:k=f
  ·rw [if_pos hk]
   by_cases h:g=k
   ·have hb:(g == k)=true:=beq_iff_eq.mpr h
    simp only [List.lookup,hb,if_pos (h.trans hk)]
   ·have hb:(g == k)=false:=beq_eq_false_iff_ne.mpr h
    simp only [List.lookup,hb,if_neg (fun e:g=f=>h (e.trans hk.symm))]
  ·rw [if_neg hk]
   by_cases h:g=k
   ·have hb:(g == k)=true:=beq_iff_eq.mpr h
    simp only [List.lookup,hb,if_neg (fun e:g=f=>hk (h.symm.trans e))]
   ·have hb:(g == k)=false:=beq_eq_false_iff_ne.mpr h
    simp only [List.lookup,hb]
    exact ih
theorem ut (f:Str) (v:V):∀ fs:List (Str×V),f∈(js f v fs).map (·.1)/\∀ g,g∈fs.map (·.1)->g∈(js f v fs).map (·.1)
 | []=>⟨by simp [js],fun g h=>by simp at h⟩
 | (k,x)::r=>by
  obtain ⟨i1,i2⟩:=ut f v r
  rw [show js f v ((k,x)::r)=(if k=f then (k,v)::r else (k,x)::js f v r) from rfl]
  by_cases hk:k=f
  ·rw [if_pos hk]
   subst hk
   exact ⟨by simp,fun g h=>by simpa using h⟩
  ·rw [if_neg hk]
   refine ⟨?_,fun g h=>?_⟩
   ·rw [List.map_cons]
    exact List.mem_cons_of_mem _ i1
   ·rw [List.map_cons] at h ⊢
    rcases List.mem_cons.mp h with e | e
    ·exact List.mem_cons.mpr (.inl e)
    ·exact List.mem_cons_of_mem _ (i2 g e)
theorem jT (f:Str) (v:V):∀ fs:List (Str×V),(js f v fs).length<=fs.length+1
 | []=>by simp [js]
 | (k,x)::r=>by
  have ih:=jT f v r
  rw [show js f v ((k,x)::r)=(if k=f then (k,v)::r else (k,x)::js f v r) from rfl]
  by_cases hk:k=f
  ·rw [if_pos hk,List.length_cons,List.length_cons];omega
  ·rw [if_neg hk,List.length_cons,List.length_cons];omega
theorem yh.some_of {v:V}{o:Option Value}(r:yh (some v) o):∃ u,o=some u/\jB v u:=by
 cases o with
 | none=>exact (show False from r).elim
 | some u=>exact ⟨u,rfl,r⟩
theorem yh.none_of {o:Option Value}(r:yh none o):o=none:=by
 cases o with
 | none=>rfl
 | some u=>exact (show False from r).elim
theorem Zp {v:V}{u:Value}(r:jB v u):PySem.W.handedIn u=true:=by
 cases v with
 | non=>cases (show u=Value.none from r);rfl
 | bl b=>cases (show u=Value.bool b from r);rfl
 | int i=>obtain ⟨t,e⟩:=(show ∃ t,u=Value.int i t from r);cases e;rfl
 | str x=>obtain ⟨t,e⟩:=(show ∃ t,u=Value.str x t from r);cases e;rfl
 | byt b=>obtain ⟨t,e⟩:=(show ∃ t,u=Value.bytes b t from r);cases e;rfl
 | flt b=>obtain ⟨t,e⟩:=(show ∃ t,u=Value.float b t from r);cases e;rfl
 | ref a=>cases (show u=Value.ref a from r);rfl
 | ty n=>cases (show u=Value.type n from r);rfl
section
variable {P:Program}{w:World}{H H':Hp}{h h':Heap}{a C dx:Addr}{fs fs':List (Str×V)}
theorem Jd (hok:HOk P w H h) (e:H a=some (.ins C dx fs)):∃ mA,ObjM h a dx C mA/\(∀ f,yh (fs.lookup f) (mA f))/\PySem.Within mA (fs.map (·.1))/\fs.length<=1000/\H dx=some (.own a):=by
 obtain ⟨d,z,ne,ob,mA,n,r,q⟩:=(show qB P w H h a (.ins C dx fs) from hok a _ e)
 exact ⟨mA,⟨ob,n,ne⟩,r,q,z,d⟩
end
structure Cls (K:PySem.W.Frag) (C:Addr):Prop where
 pg:PySem.W.plainGet K C Str.empty=true
 hd:PySem.W.hasDictIn K C=true
 po:PySem.W.plainOver K C=true
 sa:PySem.W.findIn K (.ref C) "__setattr__" = some (some (.builtin "object.__setattr__"))
theorem Cls.get {K:PySem.W.Frag}{C:Addr}(c:Cls K C) (f:Str):PySem.W.plainGet K C f=true:=c.pg
def zg (K:PySem.W.Frag) (C:Addr) (f:Str):Prop:=PySem.W.findIn K (.ref C) f=some none
theorem zg.taker {K:PySem.W.Frag}{C:Addr}{f:Str}(n:zg K C f):PySem.W.takerIn K C f=some none:=by
 unfold PySem.W.takerIn
 rw [show PySem.W.findIn K (.ref C) f=some none from n]
 rfl
structure Meth (K:PySem.W.Frag) (C:Addr) (m:Str) (f:Addr):Prop where
 at_:PySem.W.findIn K (.ref C) m=some (some (.ref f))
 fn:PySem.W.isFn K (.ref f)=true
 kp:PySem.W.keepIn K (.ref f)=true
section
variable {X:Cx}{pins:List (Addr×Obj)}{σ:St}{H:Hp}{s:Shared}{a C dx:Addr}{fs:List (Str×V)}{f:Str}{v:V}{A:Around}{E:Value->Shared->Prop}
theorem QY {b:Bool}{Q:Value->Shared->Prop}(I:Inv X pins σ H s) (e:H a=some (.ins C dx fs)) (c:Cls X.K C) (n:zg X.K C f) (l:fs.lookup f=some v)
  (h:∀ u s',Inv X pins σ H s'->jB v u->Q u s'):wpAny (model X.prog X.w) A (getAttr (.ref a) f b) Q E s:=by
 obtain ⟨mA,O,r,_,_,_⟩:=Jd I.hok e
 obtain ⟨u,hu,ru⟩:=yh.some_of (v:=v) (o:=mA f) (by rw [<- l];exact r f)
 exact VA I.kIn O (c.get f) c.hd n hu (Zp ru) (h u _ (I.tok _) ru)
theorem vp {m:Str}{g:Addr}{pl:Sem Bool}{Q:Value×List Value->Shared->Prop}(I:Inv X pins σ H s) (e:H a=some (.ins C dx fs)) (c:Cls X.K C) (k:Meth X.K C m g) (l:fs.lookup m=none)
  (h:Q (.ref g,[.ref a]) s):wpAny (model X.prog X.w) A (getMethod (.ref a) m pl) Q E s:=by
 obtain ⟨mA,O,r,_,_,_⟩:=Jd I.hok e
 have hn:mA m=none:=yh.none_of (by rw [<- l];exact r m)
 exact Yw I.kIn O (c.get m) k.at_ k.fn hn h
theorem QQ {y:V}{u:Value}{Q:Unit->Shared->Prop}(I:Inv X pins σ H s) (e:H a=some (.ins C dx fs)) (c:Cls X.K C) (n:zg X.K C f) (hl:fs.length<1000) (ry:jB y u)
  (h:∀ s',Inv X pins σ (upd H a (.ins C dx (js f y fs))) s'->Q () s'):wpAny (model X.prog X.w) A (setAttr (.ref a) f u) Q E s:=by
 obtain ⟨mA,O,r,wi,_,ho⟩:=Jd I.hok e
 have hz:(fs.map (·.1)).length<=sizeLine:=by rw [List.length_map,sizeLine_eq];omega
 refine Vj I.kIn O c.sa c.po n.taker c.hd wi hz fun h' O' sb=>h _ ?_
 have hd:∃ o,h'.get? dx=some o:=let ⟨o,_,_,e',_⟩:=O'.ns;⟨o,e'⟩
 refine I.write (x:=a) (e:=dx) (by rw [e];exact True.intro) (.inr ho) (fun b q hb z=>(sb.2 b hb).trans z) hd ?_
 refine ⟨by rw [j8 O.ne];exact ho,?_,O.ne,O'.obj,_,O'.ns,fun g=>?_,fun g hg=>?_⟩
 ·have:=jT f y fs;omega
 ·show yh ((js f y fs).lookup g) (if g=f then some u else mA g)
  rw [jz]
  by_cases q:g=f
  ·rw [if_pos q,if_pos q];exact ry
  ·rw [if_neg q,if_neg q];exact r g
 ·by_cases q:g=f
  ·rw [q];exact (ut f y fs).1
  ·refine (ut f y fs).2 g (wi g fun z=>hg ?_)
   show (if g=f then some u else mA g)=none
   rw [if_neg q];exact z
theorem Inv.made (I:Inv X pins σ H s):Inv X pins σ (upd (upd H s.heap.objs.size (.own (s.heap.objs.size+1))) (s.heap.objs.size+1) (.ins C s.heap.objs.size []))
  { s with heap:=(s.heap.push PySem.W.emptyDict).push (PySem.W.instObj C s.heap.objs.size) }:=by
 have e1:(s.heap.push PySem.W.emptyDict).get? s.heap.objs.size=some PySem.W.emptyDict:=Heap.get?_push_size s.heap rfl
 have e2:((s.heap.push PySem.W.emptyDict).push (PySem.W.instObj C s.heap.objs.size)).get? (s.heap.objs.size+1)=some (PySem.W.instObj C s.heap.objs.size):=by
  have:=Heap.get?_push_size (s.heap.push PySem.W.emptyDict) (o:=PySem.W.instObj C s.heap.objs.size) rfl
  rwa [Heap.size_push] at this
 have e3:(s.heap.push PySem.W.emptyDict).Ns s.heap.objs.size (fun _=>none):=⟨PySem.W.emptyDict,#[],_,e1,rfl,(fun e he=>absurd he (by simp)),fun _=>rfl⟩
 have I1:=I.laid (a:=s.heap.objs.size) (o:=.own (s.heap.objs.size+1)) (h':=s.heap.push PySem.W.emptyDict) (t':=s.toks) (fun b u q=>Heap.get?_push_of_some _ q) (Nat.le_refl _) ⟨_,e1⟩
 refine I1.laid (a:=s.heap.objs.size+1) (o:=.ins C s.heap.objs.size []) (t':=s.toks) (fun b u q=>Heap.get?_push_of_some _ q) (Nat.le_of_eq (Heap.size_push _ _)) ?_
 have ne:s.heap.objs.size≠s.heap.objs.size+1:=Nat.ne_of_lt (Nat.lt_succ_self _)
 refine ⟨by rw [j8 ne,j7],Nat.zero_le _,ne,e2,fun _=>none,(Heap.Ns1.of_empty e3).at fun o q=>Heap.get?_push_of_some _ q,fun _=>True.intro,fun y hy=>absurd rfl hy⟩
theorem Vh {prog:Program}{w:World}{env:Env}{e:Expr}{f:Str}{pos:Pos}{s:Shared}{Q:Value->Shared->Prop}(hb:attributeBase e f env (eval e env)=eval e env)
  (h:wpAny (model prog w) A (eval e env) (fun o s₁=>wpAny (model prog w) A (getAttr o f true) Q E s₁) E s):wpAny (model prog w) A (eval (.Attribute e f pos) env) Q E s :=
 Attribute_any_ h (by rw [arm_eval_Attribute,hb])
end
def WF (K:PySem.W.Frag) (ta:TE) (f:Str):TE:=fun σ H Q=>ta σ H fun x H1=>∃ a C dx fs v,x = .ref a/\H1 a=some (.ins C dx fs)/\Cls K C/\zg K C f/\fs.lookup f=some v/\Q v H1
def WO (K:PySem.W.Frag) (ta tv:TE) (f:Str):TS:=fun D σ H=>tv σ H fun y H1=>ta σ H1 fun x H2=>∃ a C dx fs,x = .ref a/\H2 a=some (.ins C dx fs)/\Cls K C/\zg K C f/\fs.length<1000 /\
 D.nx σ (upd H2 a (.ins C dx (js f y fs)))
section
variable {X:Cx}{o e value:Expr}{f:Str}{pos pos' tpos:Pos}{ta tv:TE}
theorem UG (he:PE X e ta) (hb:attributeBase e f X.env (eval e X.env)=eval e X.env):PE X (.Attribute e f pos) (WF X.K ta f):=by
 intro pins s σ H Q I h
 refine Vh hb (thn (he pins s σ H _ I h) fun u s1 ⟨x,H1,I1,rx,a,C,dx,fs,v,ex,ea,c,n,l,q⟩=>?_)
 subst ex
 obtain rfl:u=Value.ref a:=rx
 exact QY I1 ea c n l fun u' s2 I2 ru=>⟨v,H1,I2,ru,q⟩
theorem Wc (ha:PE X o ta) (hv:PE X value tv) (hs:swapsWith value (some (.Attribute o f pos')) pos.line X.env=pure false):PS X (.Assign [.Attribute o f pos'] value pos) (WO X.K ta tv f):=by
 intro pins s σ H D I h
 refine plainObj_wpAny_Assign_Attribute (thn (hv pins s σ H _ I h) fun u s1 ⟨y,H1,I1,ry,q⟩=>thn (ha pins s1 σ H1 _ I1 q) fun ov s2 ⟨x,H2,I2,rx,a,C,dx,fs,ex,ea,c,n,l,q2⟩=>?_) hs
 subst ex
 obtain rfl:ov=Value.ref a:=rx
 exact QQ I2 ea c n l ry fun s3 I3=>⟨σ,_,I3,q2⟩
theorem Uc {pl:Sem Bool}{m:Str}{apos:Pos}{args:List Expr}{pins:List (Addr×Obj)}{s:Shared}{σ:St}{H:Hp}{Q:Value->Shared->Prop}{te:TE}(he:PE X e te) (I:Inv X pins σ H s)
  (h:te σ H fun x H1=>∃ a C dx fs g,x = .ref a/\H1 a=some (.ins C dx fs)/\Cls X.K C/\Meth X.K C m g/\fs.lookup m=none /\
   ∀ s1,Inv X pins σ H1 s1->wpAny (model X.prog X.w) X.A (callWith pos (.ref g) [.ref a] (backTo pos (starEach args X.env)) (backToKw pos (keywordEach [] X.env))) Q X.xe s1)
  (ht:eval (.Call (.Attribute e m apos) args [] pos) X.env=(do
   let ov <- eval e X.env
   standAt apos.atName
   let (f,first) <- holding [ov] (getMethod ov m pl)
   callWith pos f first (backTo pos (starEach args X.env)) (backToKw pos (keywordEach [] X.env)))) :
  wpAny (model X.prog X.w) X.A (eval (.Call (.Attribute e m apos) args [] pos) X.env) Q X.xe s:=by
 refine PySem.W.methodCall_KW (pl:=pl) (thn (he pins s σ H _ I h) fun u s1 ⟨x,H1,I1,rx,a,C,dx,fs,g,ex,ea,c,k,l,q⟩=>?_) ht
 subst ex
 obtain rfl:u=Value.ref a:=rx
 exact vp I1 ea c k l (q s1 I1)
end
section
variable {X:Cx}{pins:List (Addr×Obj)}{σ:St}{H:Hp}{s:Shared}{A:Around}{E:Value->Shared->Prop}{Q:Value->Shared->Prop}{c:Value}{b:Bool}
end
end L2
namespace L2
open PySem PySem.Spec PyProof.Rows
structure Room (k:Nat) (A:Around):Prop where
 hd:A.handled=none
 dp:A.depth+3*k+5<recursionLimit
 un:A.units+16*k+200<cLine
theorem Room.mono {j k:Nat}{A:Around}(r:Room k A) (h:j<=k):Room j A:=⟨r.hd,by have:=r.dp;omega,by have:=r.un;omega⟩
theorem Room.deeper {k:Nat}{A:Around}(r:Room (k+1) A) (env:Env):Room k (A.deeper env) :=
 ⟨r.hd,by have:=r.dp;show A.depth+1+3*k+5<_;omega,by have:=r.un;show A.units+3+16*k+200<_;omega⟩
theorem Room.in1 {k:Nat}{A:Around}(r:Room (k+1) A):Room k A.in1 :=
 ⟨r.hd,by have:=r.dp;show A.depth+3*k+5<_;omega,by have:=r.un;show A.units+1+16*k+200<_;omega⟩
theorem Xs {A:Around}{C:Addr}{us:List Value}{kw:List (Str×Value)}:(A.under (.builtin "type.__call__" ⟨.ref C::us,kw⟩)).depth=A.depth+1:=by
 first | rfl | simp [Around.under,Code.weight,Code.isCreation,Code.isGuard,Code.isCaller,Code.frames,Code.isFrame,guardIds]
theorem QN {A:Around}{C:Addr}{us:List Value}{kw:List (Str×Value)}:(A.under (.builtin "type.__call__" ⟨.ref C::us,kw⟩)).units=A.units+1:=by
 first | rfl | simp [Around.under,Code.cUnits,Code.frames,Code.isFrame]
theorem Room.make {k:Nat}{A:Around}(r:Room (k+1) A) (C:Addr) (us:List Value) (kw:List (Str×Value)):Room k (A.under (.builtin "type.__call__" ⟨.ref C::us,kw⟩)) :=
 ⟨r.hd,by have:=r.dp;rw [Xs];omega,by have:=r.un;rw [QN];omega⟩
theorem Room.depth {k:Nat}{A:Around}(r:Room k A):A.depth<recursionLimit:=by have:=r.dp;omega
theorem Room.units {k:Nat}{A:Around}(r:Room k A):A.units+64<cLine:=by have:=r.un;omega
def Qv:TA:=fun _ H Q=>Q [] H
def Wr (ta:TE) (tr:TA):TA:=fun σ H Q=>ta σ H fun x H1=>tr σ H1 fun xs H2=>Q (x::xs) H2
section
variable {X:Cx}{e:Expr}{es:List Expr}{te:TE}{t:TA}{pos:Pos}
theorem j2:PA X [] Qv:=fun _ _ _ _ H Q I h=>Calls.spliced_nil ⟨[],H,I,.nil,h⟩
theorem j0 (ha:PE X e te) (hr:PA X es t) (hs:starEach (e::es) X.env=(false,eval e X.env)::starEach es X.env:=by rfl):PA X (e::es) (Wr te t):=by
 intro pos pins s σ H Q I h
 rw [hs]
 show wpAny _ _ (spliced ((false,eval e X.env)::backTo pos (starEach es X.env))) _ _ s
 refine Calls.spliced_cons (thn (ha pins s σ H _ I h) fun u s1 ⟨x,H1,I1,r1,q1⟩=>?_)
 exact thn (hr pos pins s1 σ H1 _ I1 q1) fun us s2 ⟨xs,H2,I2,r2,q2⟩=>⟨x::xs,H2,I2,.cons r1 r2,q2⟩
end
abbrev Sp:=List V->Hp->VK->XK->Prop
abbrev CXT:=List Env->Hp->Shared->XK->Value->Shared->Prop
structure Env0 (P:Program) (w:World) (K:PySem.W.Frag) (mg:Str->Option Value) (base:Heap) (A:Around) (outer:List Env) (s:Shared) (H:Hp):Prop where
 frames:A.frames=some outer
 mod:Mod K mg base
 bs:∀ b o,base.get? b=some o->s.heap.get? b=some o/\H b=none
 bsz:base.objs.size<=s.heap.objs.size
 funs:s.heap.FunFrames base outer
 frf:∀ b∈frs outer,H b=none
 hok:HOk P w H s.heap
 bare:AllBare s.gens
def CE (outer:List Env) (P:Program) (w:World) (H:Hp) (s:Shared) (Q:VK) (u:Value) (s':Shared):Prop :=
 ∃ v H',s'.os=s.os/\AllBare s'.gens/\Un (frs outer) [] H H' s.heap s'.heap/\HOk P w H' s'.heap/\jB v u/\Q v H'
def CR (CX:CXT) (outer:List Env) (P:Program) (w:World) (H:Hp) (s:Shared) (Q:VK) (E:XK) (r:Result) (s':Shared):Prop :=
 match r with
 | .ok (.ret u)=>CE outer P w H s Q u s'
 | .ok _=>False
 | .error e=>CX outer H s E e s'
structure FnOk (P:Program) (w:World) (K:PySem.W.Frag) (mg:Str->Option Value) (base:Heap) (CX:CXT) (k:Nat) (f:Addr) (fd:FuncData) (ps:List Str) (sp:Sp):Prop where
 len:∀ vs H Q E,sp vs H Q E->vs.length=ps.length
 run:∀ (A:Around) (outer:List Env) (s:Shared) (H:Hp) (args:Args) (us:List Value) (vs:List V) (Q:VK) (E:XK),Room k A->Env0 P w K mg base A outer s H->BindsTo s fd args (ps.zip us)->jC vs us->sp vs H Q E ->
  codeAny (model P w) A (.call (.ref f) args) (CR CX outer P w H s Q E) s
theorem Env0.make {P:Program}{w:World}{K:PySem.W.Frag}{mg:Str->Option Value}{base:Heap}{A:Around}{outer:List Env}{s:Shared}{H:Hp}(e:Env0 P w K mg base A outer s H) (C:Addr) (us:List Value) (kw:List (Str×Value)) :
  Env0 P w K mg base (A.under (.builtin "type.__call__" ⟨.ref C::us,kw⟩)) outer s H:=⟨by first | exact e.frames | (simpa [Around.under,Code.envs,Code.isFrame,pushEnvs] using e.frames),e.mod,e.bs,e.bsz,e.funs,e.frf,e.hok,e.bare⟩
theorem Env0.in1 {P:Program}{w:World}{K:PySem.W.Frag}{mg:Str->Option Value}{base:Heap}{A:Around}{outer:List Env}{s:Shared}{H:Hp}(e:Env0 P w K mg base A outer s H) :
  Env0 P w K mg base A.in1 outer s H:=⟨e.frames,e.mod,e.bs,e.bsz,e.funs,e.frf,e.hok,e.bare⟩
section
variable {X:Cx}{pins:List (Addr×Obj)}{σ:St}{H:Hp}{s s':Shared}
theorem Inv.env0 (I:Inv X pins σ H s):Env0 X.prog X.w X.K X.mg X.base X.A X.stack s H :=
 ⟨I.ok.frames,I.ok.mod,I.bs,Nat.le_trans I.ok.bsz I.sz,I.stack,I.stkFree,I.hok,I.bare⟩
theorem Inv.after {Q:VK}{u:Value}(I:Inv X pins σ H s) (h:CE X.stack X.prog X.w H s Q u s'):EP X pins σ Q u s':=by
 obtain ⟨v,H',os,bare,un,hok,r,q⟩:=h
 obtain ⟨hh,g,d,t,os'⟩:=s'
 obtain rfl:os'=s.os:=os
 exact ⟨v,H',I.call (h':=hh) (g':=g) (d':=d) (t':=t) (ch:=[]) un hok bare (fun b z=>absurd z (by simp)),r,q⟩
end
def U1 (sp:Sp) (dvs:List V) (E:XK) (t:TA):TE:=fun σ H Q=>t σ H fun vs H1=>sp (vs++dvs) H1 Q E
def Ua (C:Addr) (m:Str) (sp:Sp) (dvs:List V) (E:XK) (ta:TE) (t:TA):TE:=fun σ H Q=>ta σ H fun x H1=>∃ a dx fs,x = .ref a/\H1 a=some (.ins C dx fs)/\fs.lookup m=none /\
 t σ H1 fun vs H2=>sp (x::(vs++dvs)) H2 Q E
def zN (K:PySem.W.Frag) (fd:FuncData) (ps:List Str) (ds:List Value):Prop :=
 ∀ (s:Shared) (us:List Value),K.In s.heap->(us++ds).length=ps.length->BindsTo s fd ⟨us,[]⟩ (ps.zip (us++ds))
theorem zN.all {K:PySem.W.Frag}{fd:FuncData}{ps:List Str}(h:∀ us:List Value,us.length=ps.length->bindArgs fd ⟨us,[]⟩=pure (ps.zip us)):zN K fd ps []:=fun s us _ hl=>by
 rw [List.append_nil] at hl ⊢
 exact .of_eq (h us hl)
def Je (CX:CXT) (X:Cx) (E:XK):Prop:=∀ (pins:List (Addr×Obj)) (σ:St) (H:Hp) (s:Shared) (e:Value) (s':Shared),Inv X pins σ H s->CX X.stack H s E e s'->X.xe e s'
section
variable {X:Cx}{CX:CXT}{k:Nat}{f C:Addr}{fd:FuncData}{ps:List Str}{sp:Sp}{dvs:List V}{ds:List Value}{E:XK}{x m:Str}{p pos apos:Pos}{e o:Expr}{es:List Expr}{ta:TE}{t:TA}
theorem V6 {pins:List (Addr×Obj)}{σ:St}{H:Hp}{s:Shared}{Q:VK}{us:List Value}{vs:List V}(F:FnOk X.prog X.w X.K X.mg X.base CX k f fd ps sp) (hr:Room k X.A) (hb:zN X.K fd ps ds) (hd:jC dvs ds) (hx:Je CX X E)
  (I:Inv X pins σ H s) (r:jC vs us) (h:sp (vs++dvs) H Q E):wpAny (model X.prog X.w) X.A (call (.ref f) us) (EP X pins σ Q) X.xe s:=by
 have r2:jC (vs++dvs) (us++ds):=r.append hd
 have hl:(us++ds).length=ps.length:=by rw [<- r2.length];exact F.len _ _ _ _ h
 refine wpAny_call (codeAny_mono (F.run X.A X.stack s H ⟨us,[]⟩ (us++ds) (vs++dvs) Q E hr I.env0 (hb s us I.kIn hl) r2 h) fun r s' hq=>?_)
 cases r with
 | error e=>exact hx pins σ H s e s' I hq
 | ok fl =>
  cases fl with
  | ret u=>exact I.after hq
  | next=>exact False.elim hq
  | brk=>exact False.elim hq
  | cont=>exact False.elim hq
theorem Vx (F:FnOk X.prog X.w X.K X.mg X.base CX k f fd ps sp) (hr:Room k X.A) (hg:Gl X x) (hm:X.mg x=some (.ref f)) (hk:PySem.W.keepIn X.K (.ref f)=true) (hb:zN X.K fd ps ds) (hd:jC dvs ds) (hx:Je CX X E)
  (ha:PA X (e::es) t) (hdb:(x == ("__debug__" : Str))=false:=by decide) (he:starEach (e::es) X.env=(false,eval e X.env)::starEach es X.env:=by rfl) (hpl:(backTo pos (starEach es X.env)).any (·.1)=false:=by rfl) :
  PE X (.Call (.Name x p) (e::es) [] pos) (U1 sp dvs E t):=by
 intro pins s σ H Q I h
 refine wpAny_Call_Name_kw (zV I hg hm ?_ hdb)
 refine PySem.W.callWith_K (h₀:=X.base) I.ok.mod.kin hk (thn (ha pos pins s σ H _ I h) fun us s1 ⟨vs,H1,I1,r,q⟩=>⟨I1.kIn,?_⟩) he hpl
 exact V6 F hr hb hd hx I1 r q
theorem Vd {pl:Sem Bool}(he:PE X o ta) (c:Cls X.K C) (hm:Meth X.K C m f) (F:FnOk X.prog X.w X.K X.mg X.base CX k f fd ps sp) (hr:Room k X.A) (hb:zN X.K fd ps ds) (hd:jC dvs ds) (hx:Je CX X E) (ha:PA X (e::es) t)
  (hst:starEach (e::es) X.env=(false,eval e X.env)::starEach es X.env:=by rfl) (hpl:(backTo pos (starEach es X.env)).any (·.1)=false:=by rfl)
  (ht:eval (.Call (.Attribute o m apos) (e::es) [] pos) X.env=(do
   let ov <- eval o X.env
   standAt apos.atName
   let (f,first) <- holding [ov] (getMethod ov m pl)
   callWith pos f first (backTo pos (starEach (e::es) X.env)) (backToKw pos (keywordEach [] X.env))):=by rfl) :
  PE X (.Call (.Attribute o m apos) (e::es) [] pos) (Ua C m sp dvs E ta t):=by
 intro pins s σ H Q I h
 refine PySem.W.methodCall_KW (pl:=pl) (thn (he pins s σ H _ I h) fun u s1 ⟨x,H1,I1,rx,a,dx,fs,ex,ea,l,q⟩=>?_) ht
 subst ex
 obtain rfl:u=Value.ref a:=rx
 refine vp I1 ea c hm l ?_
 refine PySem.W.callWith_K (first:=[.ref a]) (h₀:=X.base) I.ok.mod.kin hm.kp (thn (ha pos pins s1 σ H1 _ I1 q) fun us s2 ⟨vs,H2,I2,r,q2⟩=>⟨I2.kIn,?_⟩) hst hpl
 exact V6 (us:=.ref a::us) (vs:=.ref a::vs) F hr hb hd hx I2 (.cons rfl r) q2
structure Mk (K:PySem.W.Frag) (C f:Addr):Prop where
 makes:PySem.W.makesIn K C=true
 init:PySem.W.findIn K (.ref C) "__init__" = some (some (.ref f))
 fn:PySem.W.isFn K (.ref f)=true
 kp:PySem.W.keepIn K (.ref C)=true
end
section
variable {X:Cx}{CX:CXT}{k:Nat}{f C:Addr}{fd:FuncData}{ps ks:List Str}{sp:Sp}{E:XK}{x m:Str}{p pos apos kpos:Pos}{e o:Expr}{es:List Expr}{kws:List Keyword}{te ta:TE}{t tk:TA}{nm:Option Str}
variable {g:List Value->List Value->List Value}{gV:List V->List V->List V}
end
structure FnScope (N P:List Str) (sc:Scope):Prop where
 kind:sc.kind = .function
 co:sc.isCoroutine=false
 gen:sc.isGenerator=false
 nd:N.Nodup
 pre:N.take P.length=P
 par:∀ x∈P,sc.names.lookup x=some .local\/sc.names.lookup x=some .cell
 nofree:∀ y∈sc.names,y.2≠.free
theorem gq {kindOf:Str->Option NameKind}{x:Str}:∀ {binds:List (Str×Value)}{m:Str->Option Value},(∀ v,(x,v)∉binds)->bindL kindOf binds m x=m x
 | [],_,_=>rfl
 | (n,v)::r,m,h=>by
  unfold bindL
  rw [gq fun w hw=>h w (List.mem_cons_of_mem _ hw)]
  split
  ·have:x≠n:=by rintro rfl;exact h v List.mem_cons_self
   simp [this]
  ·rfl
theorem gP {kindOf:Str->Option NameKind}{x:Str}:∀ {binds:List (Str×Value)}{m:Str->Option Value},(∀ v,(x,v)∉binds)->bindC kindOf binds m x=m x
 | [],_,_=>rfl
 | (n,v)::r,m,h=>by
  unfold bindC
  rw [gP fun w hw=>h w (List.mem_cons_of_mem _ hw)]
  split
  ·rfl
  ·have:x≠n:=by rintro rfl;exact h v List.mem_cons_self
   simp [this]
theorem gS {kindOf:Str->Option NameKind}{x:Str}{v:Value}:∀ {P:List Str}{vs:List Value}{i:Nat}{m:Str->Option Value},P.Nodup->P[i]? = some x->vs[i]? = some v->kindOf x=some .local ->
  bindL kindOf (P.zip vs) m x=some v
 | [],_,_,_,_,h,_,_=>by simp at h
 | _::_,[],_,_,_,_,h,_=>by simp at h
 | p::P,w::vs,0,m,nd,h1,h2,hk=>by
  simp at h1 h2;subst h1;subst h2
  show bindL kindOf ((p,w)::P.zip vs) m p=_
  unfold bindL
  rw [gq fun v hv=>(List.nodup_cons.mp nd).1 (List.of_mem_zip hv).1,if_pos hk]
  simp
 | p::P,w::vs,i+1,m,nd,h1,h2,hk=>by
  show bindL kindOf ((p,w)::P.zip vs) m x=_
  unfold bindL
  exact gS (i:=i) (List.nodup_cons.mp nd).2 (by simpa using h1) (by simpa using h2) hk
theorem gf {kindOf:Str->Option NameKind}{x:Str}{v:Value}:∀ {P:List Str}{vs:List Value}{i:Nat}{m:Str->Option Value},P.Nodup->P[i]? = some x->vs[i]? = some v->kindOf x≠some .local ->
  bindC kindOf (P.zip vs) m x=some v
 | [],_,_,_,_,h,_,_=>by simp at h
 | _::_,[],_,_,_,_,h,_=>by simp at h
 | p::P,w::vs,0,m,nd,h1,h2,hk=>by
  simp at h1 h2;subst h1;subst h2
  show bindC kindOf ((p,w)::P.zip vs) m p=_
  unfold bindC
  rw [gP fun v hv=>(List.nodup_cons.mp nd).1 (List.of_mem_zip hv).1,if_neg hk]
  simp
 | p::P,w::vs,i+1,m,nd,h1,h2,hk=>by
  show bindC kindOf ((p,w)::P.zip vs) m x=_
  unfold bindC
  exact gf (i:=i) (List.nodup_cons.mp nd).2 (by simpa using h1) (by simpa using h2) hk
def start (N:List Str) (vs:List V):St:=vs.map some++List.replicate (N.length-vs.length) none
def yO (CX:CXT) (P:Program) (w:World) (K:PySem.W.Frag) (mg:Str->Option Value) (base:Heap) (N:List Str) (qual:Str) (scope:Scope) (f:Addr) (cd:Value) (A:Around) (outer:List Env) (s:Shared) (H:Hp) (E:XK):Cx where
 prog:=P
 w:=w
 K:=K
 mg:=mg
 base:=base
 A:=A.deeper (envOfC qual scope s.heap.objs.size f cd)
 N:=N
 s₀:=s
 H₀:=H
 env:=envOfC qual scope s.heap.objs.size f cd
 outer:=outer
 stack:=envOfC qual scope s.heap.objs.size f cd::outer
 ex:=[]
 calm:=true
 fn:=fun _=>true
 pn:=[]
 xe:=fun e s'=>wpAny (model P w) (A.deeper (envOfC qual scope s.heap.objs.size f cd)) (leaving (envOfC qual scope s.heap.objs.size f cd) e) (fun _ s''=>CX outer H s E e s'') (fun e' s''=>CX outer H s E e' s'') s'
theorem Qs {sc:Scope}{n:Nat}{x:Str}(h:sc.names.lookup x=some .cell):∃ c,(cellsFrom n sc.names []).lookup x=some c:=by
 have q:=PySem.W.cellsFrom_some sc.names n [] (.inl h)
 exact Option.isSome_iff_exists.mp q
theorem uv {CX:CXT}{P:Program}{w:World}{K:PySem.W.Frag}{mg:Str->Option Value}{base:Heap}{N ps:List Str}{qual:Str}{scope:Scope}{f:Addr}{cd:Value}{A:Around}{outer:List Env}{s s1:Shared}{H:Hp}{E:XK}{us:List Value}{vs:List V}
  (S:FnScope N ps scope) (hd:A.handled=none) (e0:Env0 P w K mg base A outer s H) (hl:vs.length=ps.length) (r:jC vs us)
  (x:InCallC s s.heap.objs.size (bindL (envOfC qual scope s.heap.objs.size f cd).kindOf (ps.zip us) fun _=>none) (cellsFrom (s.heap.objs.size+1) scope.names []) (bindC (envOfC qual scope s.heap.objs.size f cd).kindOf (ps.zip us) fun _=>none) s1) :
  Inv (yO CX P w K mg base N qual scope f cd A outer s H E) [] (start N vs) H s1:=by
 have hpl:ps.length<=N.length:=by have:=congrArg List.length S.pre;rw [List.length_take] at this;omega
 obtain ⟨h1,tk,rfl,hk⟩:=x.done
 have noA:∀ b:Addr,b∉(yO CX P w K mg base N qual scope f cd A outer s H E).ex:=fun b z=>absurd (show b∈([]:List Addr) from z) (by simp)
 refine ⟨⟨e0.mod,S.kind,rfl,rfl,Nat.le_refl _,fun y z c h1 h2=>?_,fun y hy=>?_,fun y c _ h=>?_,fun _=>hd,Around.frames_deeper e0.frames,.inr ⟨rfl,rfl⟩,fun b z=>absurd z (noA b),e0.bs,e0.bsz,fun b _ _=>noA b,fun b z=>absurd z (noA b),e0.funs,e0.frf⟩,
  rfl,e0.bare,Un.kept hk,⟨_,x.toInCall.ns,fun i y v h1 h2 h3=>?_⟩,fun y c h=>⟨_,x.cell y c h⟩,e0.hok.fresh (Nat.le_refl _),fun y c h=>?_,fun p hp=>absurd (show p∈([]:List (Addr×Obj)) from hp) (by simp),e0.hok.kept hk,?_⟩
 ·exact name_of_addr x.apart (PySem.mem_of_lookup h1) (PySem.mem_of_lookup h2)
 ·have hy:scope.names.lookup y=some .cell\/scope.names.lookup y=some .free:=hy
  rcases hy with hy | hy
  ·exact Qs hy
  ·exact absurd rfl (S.nofree _ (PySem.mem_of_lookup hy))
 ·exact Nat.le_of_lt (x.above y c (PySem.mem_of_lookup h))
 ·have hi:i<vs.length:=by
   unfold start at h2
   by_cases hi:i<vs.length
   ·exact hi
   ·rw [List.getElem?_append_right (by simpa using hi)] at h2
    rw [List.getElem?_replicate] at h2
    split at h2 <;> cases h2
  have ha:vs[i]? = some v:=by
   unfold start at h2
   rw [List.getElem?_append_left (by simpa using hi),List.getElem?_map] at h2
   cases e:vs[i]? with
   | none=>rw [e] at h2;cases h2
   | some a=>rw [e] at h2;cases h2;rfl
  obtain ⟨u,hu,rv⟩:=r.get ha
  have hp:ps[i]? = some y:=by
   rw [<- S.pre,List.getElem?_take_of_lt (by omega)];exact h1
  have ndP:ps.Nodup:=by rw [<- S.pre];exact S.nd.sublist (List.take_sublist _ _)
  refine ⟨u,rv,?_⟩
  rcases S.par y (List.mem_of_getElem? hp) with k | k
  ·exact .inl ⟨k,gS ndP hp hu k⟩
  ·obtain ⟨c,e⟩:=Qs (n:=s.heap.objs.size+1) k
   refine .inr ⟨.inl k,c,e,?_⟩
   have q:=x.cell y c e
   rw [gf ndP hp hu (by show scope.names.lookup y≠_;rw [k];decide)] at q
   exact q
 ·exact e0.hok.fresh (Nat.le_of_lt (x.above y c (PySem.mem_of_lookup h)))
 ·unfold start
  show _=N.length
  rw [List.length_append,List.length_map,List.length_replicate]
  omega
theorem Ys {CX:CXT}{P:Program}{w:World}{K:PySem.W.Frag}{mg:Str->Option Value}{base:Heap}{k:Nat}{f:Addr}{name qual:Str}{params:Arguments}{body:List Stmt}{scope:Scope}{dV kV doc pm cdv ct oc:Value}{an od:Option Addr}
  {osl:Array (Option Value)} {N ps:List Str} {sp:Sp} (lk:K.lookup f=some ⟨oc,od,.func (PySem.W.fnOf name qual params body scope dV kV doc pm an cdv ct),osl⟩) (hcd:PySem.W.codeIn K cdv qual=true) (S:FnScope N ps scope)
  (len:∀ vs H Q E,sp vs H Q E->vs.length=ps.length)
  (hbody:∀ (A:Around) (outer:List Env) (s:Shared) (H:Hp) (vs:List V) (Q:VK) (E:XK),Room k (A.deeper (envOfC qual scope s.heap.objs.size f cdv))->sp vs H Q E ->
   ∃ t,PSs (yO CX P w K mg base N qual scope f cdv A outer s H E) body t/\t { nx:=fun _ H'=>Q .non H',rt:=Q } (start N vs) H) :
  FnOk P w K mg base CX (k+1) f (PySem.W.fnOf name qual params body scope dV kV doc pm an cdv ct) ps sp:=by
 refine ⟨len,fun A outer s H args us vs Q E hr e0 hb r hsp=>?_⟩
 have hl:=len _ _ _ _ hsp
 have KX:K.In s.heap:=e0.mod.kin.keeps fun b o e=>(e0.bs b o e).1
 have lim:s.heap.NoLimit:=e0.mod.nolimit.keeps fun b o e=>(e0.bs b o e).1
 have hkind:∀ y∈ps.zip us,scope.names.lookup y.1=some .local\/(scope.names.lookup y.1=some .cell/\((cellsFrom (s.heap.objs.size+1) scope.names []).lookup y.1).isSome=true):=fun ⟨n,v⟩ hy=>by
  rcases S.par n (List.of_mem_zip hy).1 with q | q
  ·exact .inl q
  ·exact .inr ⟨q,PySem.W.cellsFrom_some _ _ _ (.inl q)⟩
 refine codeAny_call_function hr.depth (KX _ _ lk) rfl S.co S.gen rfl (PySem.W.codeRec_of KX hcd) (hb _ _ _ _ ?_)
 refine wpAny_newFunctionEnv_cells S.kind hkind fun env he s1 x=>?_
 subst he
 refine ⟨lim.keeps x.toInCall.keep,codeAny_func ?_⟩
 obtain ⟨t,ht,hq⟩:=hbody A outer s H vs Q E (hr.deeper _) hsp
 have I:Inv (yO CX P w K mg base N qual scope f cdv A outer s H E) [] (start N vs) H s1:=uv S hr.hd e0 hl r x
 refine wpAny_mono (ht [] s1 (start N vs) H _ I hq) (fun fl s' hs=>?_) fun e s' hs=>hs
 have fin:∀ {σ':St} {H':Hp} {v:V} {u:Value},Inv (yO CX P w K mg base N qual scope f cdv A outer s H E) [] σ' H' s'->jB v u->Q v H'->CE outer P w H s Q u s' :=
  fun {σ' H' v u} J rv q=>⟨v,H',J.os,J.bare,J.base,J.hok,rv,q⟩
 cases fl with
 | ret u =>
  obtain ⟨v,σ',H',J,rv,q⟩:=hs
  exact fin J rv q
 | next =>
  obtain ⟨σ',H',J,q⟩:=hs
  exact fin (v:=V.non) (u:=Value.none) J rfl q
 | brk =>
  obtain ⟨_,_,_,q⟩:=hs
  exact False.elim q
 | cont =>
  obtain ⟨_,_,_,q⟩:=hs
  exact False.elim q
end L2
namespace L2
open PySem PySem.Spec PyProof.Rows
section
variable {X:Cx}{x:Str}{p pos:Pos}{e:Expr}{es:List Expr}{t:TA}{id T:String}{r:List V->Hp->VK->Prop}
def tCB (r:List V->Hp->VK->Prop) (t:TA):TE:=fun σ H Q=>t σ H fun vs H1=>r vs H1 Q
theorem jf (hc:x5 X (.builtin id) r) (hg:Gl X x) (hm:X.mg x=none) (hv:bootBuiltins x=some (.builtin id)) (ha:PA X (e::es) t) (hn:x ≠ "__name__":=by decide) (hdb:(x == ("__debug__" : Str))=false:=by decide)
  (he:starEach (e::es) X.env=(false,eval e X.env)::starEach es X.env:=by rfl) (hpl:(backTo pos (starEach es X.env)).any (·.1)=false:=by rfl):PE X (.Call (.Name x p) (e::es) [] pos) (tCB r t):=by
 intro pins s σ H Q I h
 refine wpAny_Call_Name_kw (yu I hg hm hv ?_ hn hdb)
 exact PyProof.Rows.callWith_builtin1 (thn (ha pos pins s σ H _ I h) fun us s1 ⟨vs,H1,I1,r1,q1⟩=>hc pins s1 σ H1 vs us Q I1 r1 q1) he hpl
theorem qH (hc:x5 X (.type T) r) (hg:Gl X x) (hm:X.mg x=none) (hv:bootBuiltins x=some (.type T)) (ha:PA X (e::es) t) (hn:x ≠ "__name__":=by decide) (hdb:(x == ("__debug__" : Str))=false:=by decide)
  (he:starEach (e::es) X.env=(false,eval e X.env)::starEach es X.env:=by rfl) (hpl:(backTo pos (starEach es X.env)).any (·.1)=false:=by rfl):PE X (.Call (.Name x p) (e::es) [] pos) (tCB r t):=by
 intro pins s σ H Q I h
 refine wpAny_Call_Name_kw (yu I hg hm hv ?_ hn hdb)
 exact PyProof.Rows.callWith_type1 (thn (ha pos pins s σ H _ I h) fun us s1 ⟨vs,H1,I1,r1,q1⟩=>hc pins s1 σ H1 vs us Q I1 r1 q1) he hpl
end
end L2
namespace HT
open PySem PyProof.Rows
section
open PySem.SeqAt
open PySem.AutoSeq1 (wpAny_loadPart')
open PySem.MeetsSeq PySem.MeetsSeq2 PySem.MeetsSeq3
end
section
variable {prog:Program}{w:World}{A:Around}{E:Value->Shared->Prop}{s:Shared}
theorem cat_tup {t b:Addr}{vs ws:List Value}{Q:Value->Shared->Prop}(ht:IsTup s.heap t vs.toArray) (hb:IsTup s.heap b ws.toArray) (hv:vs≠[])
  (h1:ws=[]->Q (.ref t) s) (h2:ws≠[]->Q (.ref s.heap.objs.size) { s with heap:=s.heap.push { cls:=.type "tuple",data:=.seq (vs++ws).toArray } })
  (hsz:vs.length+ws.length<=sizeLine):wpAny (model prog w) A (binaryOp .Add (.ref t) (.ref b)) Q E s:=by
 obtain ⟨⟨cls,dd,data,sl⟩,ho,hc,n,hd⟩:=id ht
 obtain ⟨⟨cls2,dd2,data2,sl2⟩,ho2,hc2,n2,hd2⟩:=id hb
 simp only at hc hd hc2 hd2
 subst hc hd hc2 hd2
 have e:vs.toArray++ws.toArray=(vs++ws).toArray:=by simp
 by_cases hw:ws=[]
 ·exact concat_meets ⟨_,ho,rfl⟩ ⟨_,ho2,rfl⟩ noFill_tuple_add seq_tuple_add PySem.F.slot_tuple_add PySem.F.entry_tuple_add (PySem.F.args_tuple_add_2 _ _)
   (tuple_addW1 t b vs.toArray ws.toArray n n2 dd dd2 sl sl2 (by simpa using hv) (by simp [hw])) ⟨ho,ho2,h1 hw⟩
 ·refine concat_meets ⟨_,ho,rfl⟩ ⟨_,ho2,rfl⟩ noFill_tuple_add seq_tuple_add PySem.F.slot_tuple_add PySem.F.entry_tuple_add (PySem.F.args_tuple_add_2 _ _)
   (tuple_addW2 t b vs.toArray ws.toArray n n2 dd dd2 sl sl2 (by simpa using hv) (by simpa using hw) (by rw [List.size_toArray,List.size_toArray];exact hsz)) ⟨ho,ho2,?_⟩
  rw [e]
  exact h2 hw
def sIx (n d:Nat):Option Int->Nat
 | none=>d
 | some v=>if v<0 then (v+(n:Int)).toNat else min v.toNat n
theorem sIx_none (n d:Nat):sIx n d none=d:=rfl
theorem sIx_nat (n d k:Nat):sIx n d (some (k:Int))=min k n:=by
 show (if (k:Int)<0 then ((k:Int)+(n:Int)).toNat else min (k:Int).toNat n)=min k n
 rw [if_neg (by omega),Int.toNat_natCast]
theorem UJ (n d:Nat) (hd:d<=n) (o:Option Int):sIx n d o<=n:=by
 cases o with
 | none=>exact hd
 | some v =>
  show (if v<0 then (v+(n:Int)).toNat else min v.toNat n)<=n
  by_cases hv:v<0
  ·rw [if_pos hv];omega
  ·rw [if_neg hv];exact Nat.min_le_right _ _
theorem XC (v:Int) (n d:Nat):(if v<0 then max (v+(n:Int)) 0 else min v (n:Int))=((sIx n d (some v):Nat):Int):=by
 show (if v<0 then max (v+(n:Int)) 0 else min v (n:Int))=(((if v<0 then (v+(n:Int)).toNat else min v.toNat n):Nat):Int)
 by_cases hv:v<0
 ·simp only [if_pos hv];omega
 ·simp only [if_neg hv];omega
theorem QH (lo hi:Option Int) (n:Nat):Builtin.Slice.sliceAdjust lo hi 1 (n:Int)=(((sIx n 0 lo:Nat):Int),((sIx n n hi:Nat):Int)):=by
 have h1:¬ ((1:Int)<0):=by omega
 unfold Builtin.Slice.sliceAdjust
 simp only [h1,if_false]
 refine Prod.ext ?_ ?_
 ·cases lo with
  | none=>rfl
  | some v=>exact XC v n 0
 ·cases hi with
  | none=>rfl
  | some v=>exact XC v n n
theorem QM (i j:Nat):Builtin.Slice.slicePlaces (i:Int) (j:Int) 1=j-i:=by
 unfold Builtin.Slice.slicePlaces
 have h1:(1:Int) > 0:=by omega
 simp only [h1,if_true,Int.ediv_one]
 split <;> omega
theorem slicePart_ {v:Value}{o:Option Int}{Q:Option Int->Shared->Prop}(p:IsPart v o) (h:Q o s):wpAny (model prog w) A (Builtin.Slice.slicePartIndex v) Q E s:=by
 cases p with
 | none=>exact slicePart_none h
 | int i t=>exact slicePart_int h
theorem uo {sl:Addr}{vl vu:Value}{lo hi:Option Int}{n:Nat}{Q:Int×Int×Nat->Shared->Prop}(hs:s.heap.IsSliceOf sl vl vu .none) (pl:IsPart vl lo) (pu:IsPart vu hi)
  (h:Q (((sIx n 0 lo:Nat):Int),1,sIx n n hi-sIx n 0 lo) s):wpAny (model prog w) A (Builtin.Slice.sliceApplied (.ref sl) (pure (n:Int))) Q E s:=by
 obtain ⟨os,hos,hcs,hds⟩:=id hs
 unfold Builtin.Slice.sliceApplied Builtin.Slice.sliceFields
 refine wpAny_bind (wpAny_bind (wpAny_field hos hds (x:=vl) rfl (wpAny_bind (wpAny_field hos hds (x:=vu) rfl (wpAny_bind (wpAny_field hos hds (x:=.none) rfl (wpAny_pure ?_)))))))
 refine wpAny_bind (slicePart_none ?_)
 show wpAny _ _ (if ((1:Int) == 0)=true then _ else _) _ _ s
 rw [if_neg (by decide)]
 refine wpAny_bind (slicePart_ pl (wpAny_bind (slicePart_ pu (wpAny_bind (wpAny_pure ?_)))))
 show wpAny _ _ (match Builtin.Slice.sliceAdjust lo hi 1 (n:Int) with | (lo,hi)=>pure (lo,(1:Int),Builtin.Slice.slicePlaces lo hi 1)) _ _ s
 rw [QH lo hi n]
 show wpAny _ _ (pure (((sIx n 0 lo:Nat):Int),(1:Int),Builtin.Slice.slicePlaces ((sIx n 0 lo:Nat):Int) ((sIx n n hi:Nat):Int) 1)) _ _ s
 rw [QM]
 exact wpAny_pure h
theorem Ye (xs:Array Value) (i k:Nat):((List.range k).filterMap fun (m:Nat)=>xs[((i:Int)+(m:Int)*1).toNat]?).toArray=((xs.toList.drop i).take k).toArray:=by
 have e:(fun (m:Nat)=>xs[((i:Int)+(m:Int)*1).toNat]?)=fun m=>xs[i+m]?:=by
  funext m
  have:((i:Int)+(m:Int)*1).toNat=i+m:=by omega
  rw [this]
 rw [e]
 have:=pick_run xs i k
 rw [List.filterMap_map] at this
 have e2:((fun x=>xs[x]?) ∘ fun x=>i+x)=fun m=>xs[i+m]?:=rfl
 rw [e2] at this
 rw [this]
theorem getItem_tuple_cut {t sl:Addr}{items:Array Value}{vl vu:Value}{lo hi:Option Int}{Q:Value->Shared->Prop}(ht:IsTup s.heap t items) (hs:s.heap.IsSliceOf sl vl vu .none) (pl:IsPart vl lo) (pu:IsPart vu hi)
  (hw:¬ (sIx items.size 0 lo=0/\sIx items.size items.size hi=items.size))
  (h:Q (.ref s.heap.objs.size) { s with heap:=s.heap.push { cls:=.type "tuple",data:=.seq ((items.toList.drop (sIx items.size 0 lo)).take (sIx items.size items.size hi-sIx items.size 0 lo)).toArray } })
  (hsz:items.size<=sizeLine):wpAny (model prog w) A (getItem (.ref t) (.ref sl)) Q E s:=by
 have htake:sizeOk (.seq ((items.toList.drop (sIx items.size 0 lo)).take (sIx items.size items.size hi-sIx items.size 0 lo)).toArray):=by
  show ((items.toList.drop (sIx items.size 0 lo)).take (sIx items.size items.size hi-sIx items.size 0 lo)).toArray.size<=sizeLine
  rw [List.size_toArray,List.length_take,List.length_drop,Array.length_toList]
  omega
 have hj:sIx items.size items.size hi<=items.size:=UJ _ _ (Nat.le_refl _) hi
 obtain ⟨os,hos,hcs,hds⟩:=id hs
 have hTs:s.TypeIs (.ref sl) "slice":=⟨os,hos,hcs⟩
 unfold getItem
 try with_reducible refine wpAny_holding ?_
 first | refine wpAny_bind (wpAny_pure ?_) | skip
 refine wpAny_bind (wpAny_sequenceKey ht.typeIs (by decide) ?_)
 refine wpAny_bind (wpAny_callSpecial?_slot (name:=Str.ofString "__getitem__") ht.typeIs PyProof.Rows.slot_tuple_getitem
  (wpAny_call_entry PyProof.Rows.slot_tuple_getitem ht.typeIs entry_tuple_getitem ?_ (args_tuple_getitem _ _)))
 show wpAny _ _ (Builtin.Tuple.tupleItemsOf (.ref t) >>= _) _ _ s
 refine wpAny_bind (tupleItemsOf_ ht ?_)
 refine wpAny_bind (wpAny_typeOf hTs ?_)
 rw [if_pos (by decide)]
 refine wpAny_bind (uo hs pl pu ?_)
 have hno:¬ ((((sIx items.size 0 lo:Nat):Int) == 0 && (1:Int) == 1 && (sIx items.size items.size hi-sIx items.size 0 lo) == items.size)=true):=by
  intro q
  rw [Bool.and_eq_true,Bool.and_eq_true] at q
  have q1:((sIx items.size 0 lo:Nat):Int)=0:=eq_of_beq q.1.1
  have q2:sIx items.size items.size hi-sIx items.size 0 lo=items.size:=eq_of_beq q.2
  exact hw ⟨by omega,by omega⟩
 show wpAny _ _ (if (((sIx items.size 0 lo:Nat):Int) == 0 && (1:Int) == 1 && (sIx items.size items.size hi-sIx items.size 0 lo) == items.size)=true then _ else _) _ _ s
 rw [if_neg hno,Ye]
 first
  | exact wpAny_bind (m:=Builtin.Tuple.tupleExact _) (wpAny_newObj_type (wpAny_pure ⟨_,rfl,wpAny_pure h⟩) htake)
  | exact wpAny_bind (m:=Builtin.Tuple.tupleExact _) (wpAny_newObj_type (wpAny_bind (wpAny_pure (wpAny_pure ⟨_,rfl,wpAny_pure h⟩))) htake)
  | exact wpAny_bind (wpAny_bind (m:=Builtin.Tuple.tupleExact _) (wpAny_newObj_type (wpAny_pure (wpAny_pure ⟨_,rfl,wpAny_pure h⟩)) htake))
  | exact wpAny_bind (wpAny_bind (m:=Builtin.Tuple.tupleExact _) (wpAny_newObj_type (wpAny_pure ⟨_,rfl,wpAny_pure h⟩) htake))
end
end HT
namespace L2
open PySem PySem.Spec PyProof.Rows
abbrev TO:=St->Hp->(Option Int->Hp->Prop)->Prop
def PO (X:Cx) (e:Option Expr) (t:TO):Prop :=
 ∀ (pins:List (Addr×Obj)) (s:Shared) (σ:St) (H:Hp) (Q:Option Int->Hp->Prop),Inv X pins σ H s->t σ H Q ->
  wpAny (model X.prog X.w) X.A (evalPart e X.env) (fun u s'=>∃ o H',Inv X pins σ H' s'/\IsPart u o/\Q o H') X.xe s
def VL:TO:=fun _ H Q=>Q none H
def Ws (t:TE):TO:=fun σ H Q=>t σ H fun x H1=>∃ i,x = .int i/\Q (some i) H1
section
variable {X:Cx}{e:Expr}{te:TE}{lo hi:Option Expr}{tl th:TO}{pos p2:Pos}
theorem wb:PO X none VL:=by
 intro pins s σ H Q I h
 rw [evalPart_none]
 exact wpAny_pure ⟨none,H,I,.none,h⟩
theorem wc (h:PE X e te):PO X (some e) (Ws te):=by
 intro pins s σ H Q I hw
 rw [evalPart_some]
 refine thn (h pins s σ H _ I hw) fun u s1 ⟨x,H1,I1,r1,q1⟩=>?_
 obtain ⟨i,rfl,q⟩:=q1
 obtain ⟨t,rfl⟩:=r1
 exact ⟨some i,H1,I1,.int i t,q⟩
def SlR (X:Cx) (r:V->Option Int->Option Int->Hp->VK->Prop):Prop :=
 ∀ (pins:List (Addr×Obj)) (s:Shared) (σ:St) (H:Hp) (x:V) (v vl vu:Value) (lo hi:Option Int) (sl:Addr) (Q:VK),Inv X pins σ H s->jB x v->s.heap.IsSliceOf sl vl vu .none->IsPart vl lo->IsPart vu hi->r x lo hi H Q ->
  ∃ T id,typeLookup (.type T) "__getitem__" = pure (some (.builtin id))/\s.TypeIs v T/\wpAny (model X.prog X.w) X.A (getItem v (.ref sl)) (EP X pins σ Q) X.xe s
def tSl (r:V->Option Int->Option Int->Hp->VK->Prop) (te:TE) (tl th:TO):TE:=fun σ H Q=>te σ H fun x H1=>tl σ H1 fun l H2=>th σ H2 fun u H3=>r x l u H3 Q
theorem vC {r:V->Option Int->Option Int->Hp->VK->Prop}(hr:SlR X r) (he:PE X e te) (hl:PO X lo tl) (hu:PO X hi th):PE X (.Subscript e (.Slice lo hi none p2) pos) (tSl r te tl th):=by
 intro pins s σ H Q I h
 refine Subscript_ (thn (he pins s σ H _ I h) fun v s1 ⟨x,H1,I1,r1,q1⟩=>?_)
 refine wpAny_Slice (thn (hl pins s1 σ H1 _ I1 q1) fun vl s2 ⟨l,H2,I2,pl,q2⟩=>thn (hu pins s2 σ H2 _ I2 q2) fun vu s3 ⟨u,H3,I3,pu,q3⟩=>?_)
 rw [evalPart_none]
 refine wpAny_pure ?_
 have I4:Inv X pins σ H3 { s3 with heap:=s3.heap.push { cls:=.type "slice",data:=.fields #[vl,vu,.none] } }:=I3.kept (t':=s3.toks) fun b ob q=>Heap.get?_push_of_some _ q
 obtain ⟨T,id,hT,ht,hg⟩:=hr pins { s3 with heap:=s3.heap.push { cls:=.type "slice",data:=.fields #[vl,vu,.none] } } σ H3 x v vl vu l u s3.heap.objs.size Q I4 r1 (Heap.IsSliceOf.new ..) pl pu q3
 show wpAny (model X.prog X.w) X.A (subscriptTail e (.Slice lo hi none p2) v (.ref s3.heap.objs.size)) (EP X pins σ Q) X.xe { s3 with heap:=s3.heap.push { cls:=.type "slice",data:=.fields #[vl,vu,.none] } }
 exact tail_any (ops:=[.ref s3.heap.objs.size,v]) ht hT hg (by with_unfolding_all rfl)
def uQ (xs:List V) (lo hi:Option Int):List V:=(xs.drop (HT.sIx xs.length 0 lo)).take (HT.sIx xs.length xs.length hi-HT.sIx xs.length 0 lo)
theorem uL (xs:List V) (lo hi:Option Int):(uQ xs lo hi).length<=xs.length:=by
 unfold uQ
 rw [List.length_take,List.length_drop]
 omega
def rSlT (K:PySem.W.Frag):V->Option Int->Option Int->Hp->VK->Prop:=fun x lo hi H Q=>∃ a xs,x = .ref a/\SqT K H a xs /\
 ¬ (HT.sIx xs.length 0 lo=0/\HT.sIx xs.length xs.length hi=xs.length)/\∀ p,H p=none->Q (.ref p) (upd H p (.tup (uQ xs lo hi)))
theorem UF:SlR X (rSlT X.K):=by
 intro pins s σ H x v vl vu lo hi sl Q I rx hs pl pu h
 obtain ⟨a,xs,rfl,hx,hw,q⟩:=h
 cases rx
 obtain ⟨its,r,ht,hz⟩:=I.tuple hx
 have hlen:its.toArray.size=xs.length:=by rw [List.size_toArray];exact r.length.symm
 refine ⟨"tuple",_,PyProof.Rows.slot_tuple_getitem.lookup,ht.typeIs,?_⟩
 refine HT.getItem_tuple_cut ht hs pl pu (by rw [hlen];exact hw) ?_ (by rw [hlen];exact hz)
 rw [hlen]
 refine ⟨.ref s.heap.objs.size,_,I.laid (t':=s.toks) (o:=.tup (uQ xs lo hi)) (fun b ob q=>Heap.get?_push_of_some _ q) (Nat.le_refl _) ?_,rfl,q _ (I.hok.fresh (Nat.le_refl _))⟩
 exact ⟨Nat.le_trans (uL xs lo hi) hz,_,(r.drop (HT.sIx xs.length 0 lo)).take (HT.sIx xs.length xs.length hi-HT.sIx xs.length 0 lo),IsTup.new _ _⟩
def WS (K:PySem.W.Frag):R2:=fun x y H Q=>∃ a b xs ys,x = .ref a/\y = .ref b/\SqT K H a xs/\SqT K H b ys/\xs≠[]/\xs.length+ys.length<=sizeLine /\
 (ys=[]->Q (.ref a) H)/\(ys≠[]->∀ p,H p=none->Q (.ref p) (upd H p (.tup (xs++ys))))
theorem jC.nil_iff {xs:List V}{us:List Value}(r:jC xs us):us=[]↔xs=[]:=by
 cases r with
 | nil=>simp
 | cons _ _=>simp
theorem VZ:OpR X (binaryOp .Add) (WS X.K):=by
 intro pins s σ H x y v u Q I rx ry h
 obtain ⟨a,b,xs,ys,rfl,rfl,ha,hb,hx,hz,q1,q2⟩:=h
 cases rx
 cases ry
 obtain ⟨its,r1,p1,_⟩:=I.tuple ha
 obtain ⟨its2,r2,p2,_⟩:=I.tuple hb
 refine HT.cat_tup p1 p2 (fun z=>hx (r1.nil_iff.mp z)) (fun z=>⟨.ref a,H,I,rfl,q1 (r2.nil_iff.mp z)⟩) (fun z=>?_) (by rw [<- r1.length,<- r2.length];exact hz)
 refine ⟨.ref s.heap.objs.size,_,I.laid (t':=s.toks) (o:=.tup (xs++ys)) (fun b ob q=>Heap.get?_push_of_some _ q) (Nat.le_refl _) ?_,rfl,q2 (fun w=>z (r2.nil_iff.mpr w)) _ (I.hok.fresh (Nat.le_refl _))⟩
 exact ⟨by rw [List.length_append];exact hz,_,r1.append r2,IsTup.new _ _⟩
end
end L2
namespace L2
open PySem PySem.Spec PyProof.Rows
def ixN (n:Nat) (i:Int):Option Nat:=if 0<=i then (if i<n then some i.toNat else none) else if -(n:Int)<=i then some (i+n).toNat else none
def atI {α:Type}(xs:List α) (i:Int):Option α:=(ixN xs.length i).bind fun j=>xs[j]?
theorem Z3 {n:Nat}{i:Int}{j:Nat}(h:ixN n i=some j):seqIndex? i n=some j/\j<n /\ -(n:Int)<=i/\i<n:=by
 unfold ixN at h
 by_cases h0:0<=i
 ·rw [if_pos h0] at h
  by_cases h1:i<n
  ·rw [if_pos h1] at h
   have e:i.toNat=j:=Option.some.inj h
   exact ⟨by rw [seqIndex_of h0 h1,e],by omega,by omega,h1⟩
  ·rw [if_neg h1] at h;cases h
 ·rw [if_neg h0] at h
  by_cases h1 : -(n:Int)<=i
  ·rw [if_pos h1] at h
   have e:(i+n).toNat=j:=Option.some.inj h
   exact ⟨by rw [seqIndex_neg (by omega) h1,e],by omega,h1,by omega⟩
  ·rw [if_neg h1] at h;cases h
theorem Z5 {α:Type}{xs:List α}{i:Int}{v:α}(h:atI xs i=some v):∃ j,seqIndex? i xs.length=some j/\xs[j]? = some v/\j<xs.length /\ -(xs.length:Int)<=i/\i<xs.length:=by
 unfold atI at h
 cases e:ixN xs.length i with
 | none=>rw [e] at h;cases h
 | some j =>
  rw [e] at h
  obtain ⟨h1,h2,h3,h4⟩:=Z3 e
  exact ⟨j,h1,h,h2,h3,h4⟩
theorem zt {α:Type}{xs:List α}{j:Nat}{v:α}(h:xs[j]? = some v):atI xs (j:Int)=some v:=by
 have hj:j<xs.length:=(List.getElem?_eq_some_iff.mp h).1
 have e:ixN xs.length (j:Int)=some j:=by
  unfold ixN
  rw [if_pos (by omega),if_pos (by omega)];simp
 unfold atI;rw [e];exact h
theorem kz {α:Type}(xs:List α) (v:α):atI (xs++[v]) (-1)=some v:=by
 have hl:(xs++[v]).length=xs.length+1:=by simp
 have e:ixN (xs++[v]).length (-1)=some xs.length:=by
  unfold ixN
  rw [hl,if_neg (by decide),if_pos (by omega)]
  congr 1
  omega
 unfold atI
 rw [e]
 show (xs++[v])[xs.length]? = some v
 simp
def Vn (b:Expr):Prop:=∀ o i,subscripted b false o i=operate [o,i] (getItem o i)
def IxR (X:Cx) (r:R2):Prop :=
 ∀ (value slice:Expr) (pins:List (Addr×Obj)) (s:Shared) (σ:St) (H:Hp) (x y:V) (v u:Value) (Q:VK),Inv X pins σ H s->jB x v->jB y u->r x y H Q ->
  subscripted slice false v u=operate [v,u] (getItem v u)->wpAny (model X.prog X.w) X.A (subscriptTail value slice v u) (EP X pins σ Q) X.xe s
def MtR (X:Cx) (id:String) (r:V->List V->Hp->VK->Prop):Prop :=
 ∀ (pins:List (Addr×Obj)) (s:Shared) (σ:St) (H:Hp) (x:V) (xs:List V) (v:Value) (us:List Value) (Q:VK),Inv X pins σ H s->jB x v->jC xs us->r x xs H Q ->
  wpAny (model X.prog X.w) X.A (call (.builtin id) (v::us)) (EP X pins σ Q) X.xe s
section
variable {X:Cx}{a b:Expr}{ta tb:TE}{pos:Pos}
theorem jn {r:R2}(hr:IxR X r) (ha:PE X a ta) (hb:PE X b tb) (hs:Vn b):PE X (.Subscript a b pos) (tOp r ta tb):=by
 intro pins s σ H Q I h
 exact Subscript_ (UT ha hb I h fun v u s2 x y H2 I2 rx ry q=>hr a b pins s2 σ H2 x y v u Q I2 rx ry q (hs _ _))
def Uj (K:PySem.W.Frag):R2:=fun x y H Q=>∃ p xs i v,x = .ref p/\y = .int i/\SqL K H p xs/\atI xs i=some v/\Q v H
def UX (K:PySem.W.Frag):R2:=fun x y H Q=>∃ p xs i v,x = .ref p/\y = .int i/\SqT K H p xs/\atI xs i=some v/\Q v H
theorem VQ:IxR X (Uj X.K):=by
 intro value slice pins s σ H x y v u Q I rx ry h hs
 obtain ⟨p,xs,i,z,rfl,rfl,hq,he,q⟩:=h
 cases rx
 obtain ⟨t,rfl⟩:=ry
 obtain ⟨its,r,pl,hz⟩:=I.list hq
 obtain ⟨j,h1,h2,h3,h4,h5⟩:=Z5 he
 obtain ⟨w,ew,rw'⟩:=r.get h2
 have hl:=r.length
 have hn:=Jm
 have fin:EP X pins σ Q w s:=⟨z,H,I,rw',q⟩
 by_cases h0:0<=i
 ·have hj:i.toNat=j:=by
   rw [seqIndex_of h0 h5] at h1
   exact Option.some.inj h1
  exact item_listR pl.isList h0 (by omega) (by rw [hj];simpa using ew) fin hs
 ·have hj:(i+(its.toArray.size:Int)).toNat=j:=by
   rw [seqIndex_neg (by omega) h4] at h1
   rw [List.size_toArray,<- hl]
   exact Option.some.inj h1
  exact subscriptTail_builtinR (x:=w) pl.isList.typeIs slot_list_getitem.lookup
   (wpAny_getItem_list_neg (Q:=fun r s'=>r=w/\EP X pins σ Q r s') pl.isList (by omega) (by rw [List.size_toArray] <;> omega) (by omega) (by rw [hj];simpa using ew) ⟨rfl,fin⟩) hs
theorem Wd:IxR X (UX X.K):=by
 intro value slice pins s σ H x y v u Q I rx ry h hs
 obtain ⟨p,xs,i,z,rfl,rfl,hq,he,q⟩:=h
 cases rx
 obtain ⟨t,rfl⟩:=ry
 obtain ⟨its,r,pl,hz⟩:=I.tuple hq
 obtain ⟨j,h1,h2,h3,h4,h5⟩:=Z5 he
 obtain ⟨w,ew,rw'⟩:=r.get h2
 have hl:=r.length
 have hn:=Jm
 have fin:EP X pins σ Q w s:=⟨z,H,I,rw',q⟩
 exact subscriptTail_builtinR (x:=w) pl.typeIs slot_tuple_getitem.lookup
  (getItem_tuple (j:=j) (Q:=fun r s'=>r=w/\EP X pins σ Q r s') pl (by omega) (by omega) (by rw [List.size_toArray,<- hl];exact h1) (by simpa using ew) ⟨rfl,fin⟩) hs
theorem QD (its:List Value) (n j:Nat) (u:Value):Obj.mapSeq (·.setIfInBounds j u) { cls:=.type "list",data:=.seq its.toArray n }={ cls:=.type "list",data:=.seq (its.set j u).toArray n }:=by
 simp [Obj.mapSeq]
theorem Inv.lst {pins:List (Addr×Obj)}{σ:St}{H:Hp}{s:Shared}{p:Addr}{xs:List V}(I:Inv X pins σ H s) (h:H p=some (.lst xs)) :
  ∃ (its:List Value) (n:Nat),jC xs its/\s.heap.get? p=some { cls:=.type "list",data:=.seq its.toArray n }/\xs.length<=sizeLine:=by
 obtain ⟨z,its,n,r,e⟩:=I.hok p _ h
 exact ⟨its,n,r,e,z⟩
theorem Inv.lstUpd {pins:List (Addr×Obj)}{σ:St}{H:Hp}{s:Shared}{p:Addr}{xs ys:List V}{its its':List Value}{n n':Nat}{f:Obj->Obj}(I:Inv X pins σ H s) (h:H p=some (.lst xs))
  (ho:s.heap.get? p=some { cls:=.type "list",data:=.seq its.toArray n }) (hf:f { cls:=.type "list",data:=.seq its.toArray n }={ cls:=.type "list",data:=.seq its'.toArray n' }) (r:jC ys its') (hz:ys.length<=sizeLine) (t:Nat) :
  Inv X pins σ (upd H p (.lst ys)) { s with heap:=s.heap.update p f,toks:=t }:=by
 have e:(s.heap.update p f).get? p=some { cls:=.type "list",data:=.seq its'.toArray n' }:=by
  rw [Heap.get?_update_self f ho (by rw [hf] <;> rfl),hf]
 refine I.write (x:=p) (e:=p) (by rw [h];trivial) (.inl rfl) (fun b u hb q=>(Heap.get?_update_other _ _ (Ne.symm hb)).trans q) ⟨_,e⟩ ?_
 exact ⟨hz,its',n',r,e⟩
def WW:V->V->V->Hp->(Hp->Prop)->Prop:=fun o i v H Q=>∃ p xs k j,o = .ref p/\i = .int k/\H p=some (.lst xs)/\ixN xs.length k=some j/\Q (upd H p (.lst (xs.set j v)))
theorem vB:Wt X WW:=by
 intro pins s σ H o i v ov iv u Q I ro ri rv h
 obtain ⟨p,xs,k,j,rfl,rfl,hp,hj,q⟩:=h
 cases ro
 obtain ⟨t,rfl⟩:=ri
 obtain ⟨its,n,r,ho,hz⟩:=I.lst hp
 obtain ⟨h1,h2,h3,h4⟩:=Z3 hj
 have hl:=r.length
 have hn:=Jm
 have I':Inv X pins σ (upd H p (.lst (xs.set j v))) { s with heap:=s.heap.update p (Obj.mapSeq (·.setIfInBounds j u)) } :=
  I.lstUpd hp ho (QD its n j u) (r.set rv j) (by rw [List.length_set];exact hz) s.toks
 by_cases h0:0<=k
 ·have hk:k.toNat=j:=by
   rw [seqIndex_of h0 h4] at h1
   exact Option.some.inj h1
  exact PySem.W.ki_setAt ho h0 (by omega) (by rw [List.size_toArray,<- hl];exact h4) (by rw [hk];exact ⟨_,I',q⟩)
 ·have hk:(k+(its.toArray.size:Int)).toNat=j:=by
   rw [seqIndex_neg (by omega) h3] at h1
   rw [List.size_toArray,<- hl]
   exact Option.some.inj h1
  exact PySem.W.ki_setBack ho (by omega) (by rw [List.size_toArray,<- hl];exact h3) (by omega) (by rw [hk];exact ⟨_,I',q⟩)
theorem J7 (lo hi:Option Int) (n:Nat):(sliceBounds lo hi none n).1=((HT.sIx n 0 lo:Nat):Int)/\(sliceBounds lo hi none n).2.1=((HT.sIx n n hi:Nat):Int)/\(sliceBounds lo hi none n).2.2=1:=by
 refine ⟨?_,?_,rfl⟩
 ·cases lo with
  | none=>simp [sliceBounds,HT.sIx]
  | some i =>
   simp only [sliceBounds,HT.sIx,Option.getD_none,show (1:Int) > 0 by decide,if_true]
   by_cases h:i<0
   ·simp only [h,if_true] <;> omega
   ·simp only [h,if_false] <;> omega
 ·cases hi with
  | none=>simp [sliceBounds,HT.sIx]
  | some i =>
   simp only [sliceBounds,HT.sIx,Option.getD_none,show (1:Int) > 0 by decide,if_true]
   by_cases h:i<0
   ·simp only [h,if_true] <;> omega
   ·simp only [h,if_false] <;> omega
theorem kM (its:List Value) (lo hi:Option Int):slicePick its.toArray lo hi none=((its.drop (HT.sIx its.length 0 lo)).take (HT.sIx its.length its.length hi-HT.sIx its.length 0 lo)).toArray:=by
 obtain ⟨h1,h2,h3⟩:=J7 lo hi its.toArray.size
 unfold slicePick
 rw [h1,h2,h3]
 simp only [sliceRange_one,pick_run,List.size_toArray] <;> rfl
def rSlL (K:PySem.W.Frag):V->Option Int->Option Int->Hp->VK->Prop:=fun x lo hi H Q=>∃ a xs,x = .ref a/\SqL K H a xs/\∀ p,H p=none->Q (.ref p) (upd H p (.lst (uQ xs lo hi)))
theorem V8:SlR X (rSlL X.K):=by
 intro pins s σ H x v vl vu lo hi sl Q I rx hs pl pu h
 obtain ⟨a,xs,rfl,hx,q⟩:=h
 cases rx
 obtain ⟨its,r,ht,hz⟩:=I.list hx
 have hlen:=r.length
 refine ⟨"list",_,slot_list_getitem.lookup,ht.isList.typeIs,?_⟩
 refine wpAny_getItem_list_slice ht.isList hs pl pu .none (by simp) ?_ (by rw [List.size_toArray] <;> omega)
 rw [kM,<- hlen]
 refine ⟨.ref s.heap.objs.size,_,I.laid (t':=s.toks) (o:=.lst (uQ xs lo hi)) (fun b ob q=>Heap.get?_push_of_some _ q) (Nat.le_refl _) ?_,rfl,q _ (I.hok.fresh (Nat.le_refl _))⟩
 exact ⟨Nat.le_trans (uL xs lo hi) hz,_,0,(r.drop (HT.sIx xs.length 0 lo)).take (HT.sIx xs.length xs.length hi-HT.sIx xs.length 0 lo),Heap.get?_push_size _ rfl⟩
def vG:V->Bool
 | .non=>true
 | .bl _=>true
 | .int _=>true
 | .str _=>true
 | _=>false
def eqV:V->V->Bool
 | .non,.non=>true
 | .bl a,.bl b=>a == b
 | .bl a,.int b=>(if a then 1 else 0) == b
 | .int a,.bl b=>a == (if b then 1 else 0)
 | .int a,.int b=>a == b
 | .str a,.str b=>a == b
 | _,_=>false
theorem Ui {A:Around}{s:Shared}{y x:V}{u v:Value}(ry:jB y u) (rx:jB x v) (fy:vG y=true) (fx:vG x=true):SeqAt.EqAt A s u v (eqV y x):=by
 cases y with
 | non =>
  cases ry
  cases x with
  | non=>cases rx;exact SeqAt.EqAt.same _
  | bl b=>cases rx;exact SeqAt.EqAt.none_bool b
  | int b=>obtain ⟨t,rfl⟩:=rx;exact SeqAt.EqAt.none_int b t
  | str b=>obtain ⟨t,rfl⟩:=rx;exact SeqAt.EqAt.none_str b t
  | _=>exact absurd (show false=true from fx) Bool.false_ne_true
 | bl a =>
  cases ry
  cases x with
  | non=>cases rx;exact SeqAt.EqAt.bool_none a
  | bl b=>cases rx;exact SeqAt.EqAt.bool_bool a b
  | int b=>obtain ⟨t,rfl⟩:=rx;exact SeqAt.EqAt.bool_int a b t
  | str b=>obtain ⟨t,rfl⟩:=rx;exact SeqAt.EqAt.bool_str a b t
  | _=>exact absurd (show false=true from fx) Bool.false_ne_true
 | int a =>
  obtain ⟨t',rfl⟩:=ry
  cases x with
  | non=>cases rx;exact SeqAt.EqAt.int_none a t'
  | bl b=>cases rx;exact SeqAt.EqAt.int_bool a t' b
  | int b=>obtain ⟨t,rfl⟩:=rx;exact SeqAt.EqAt.int_int a t' b t
  | str b=>obtain ⟨t,rfl⟩:=rx;exact SeqAt.EqAt.int_str a t' b t
  | _=>exact absurd (show false=true from fx) Bool.false_ne_true
 | str a =>
  obtain ⟨t',rfl⟩:=ry
  cases x with
  | non=>cases rx;exact SeqAt.EqAt.str_none a t'
  | bl b=>cases rx;exact SeqAt.EqAt.str_bool a t' b
  | int b=>obtain ⟨t,rfl⟩:=rx;exact SeqAt.EqAt.str_int a t' b t
  | str b=>obtain ⟨t,rfl⟩:=rx;exact SeqAt.EqAt.str_str a t' b t
  | _=>exact absurd (show false=true from fx) Bool.false_ne_true
 | _=>exact absurd (show false=true from fy) Bool.false_ne_true
def eqU (x:V) (u:Value):Bool:=match u with
 | .none=>eqV .non x
 | .bool b=>eqV (.bl b) x
 | .int i _=>eqV (.int i) x
 | .str z _=>eqV (.str z) x
 | _=>false
theorem Y4 {x y:V}{u:Value}(r:jB y u) (f:vG y=true):eqU x u=eqV y x:=by
 cases y with
 | non=>cases r;rfl
 | bl b=>cases r;rfl
 | int i=>obtain ⟨t,rfl⟩:=r;rfl
 | str z=>obtain ⟨t,rfl⟩:=r;rfl
 | _=>exact absurd (show false=true from f) Bool.false_ne_true
theorem vw {x:V}:∀ {xs:List V}{us:List Value},jC xs us->xs.all vG=true->us.any (eqU x)=xs.any fun y=>eqV y x
 | _,_,.nil,_=>rfl
 | y::xs,u::us,.cons r t,f=>by
  rw [List.all_cons,Bool.and_eq_true] at f
  rw [List.any_cons,List.any_cons,Y4 r f.1,vw t f.2]
theorem yl {A:Around}{s:Shared}{x:V}{v:Value}(rx:jB x v) (fx:vG x=true):∀ {xs:List V}{us:List Value},jC xs us->xs.all vG=true->∀ u∈us,SeqAt.EqAt A s u v (eqU x u)
 | _,_,.nil,_=>fun u hu=>by cases hu
 | y::xs,u::us,.cons r t,f=>fun u' hu=>by
  rw [List.all_cons,Bool.and_eq_true] at f
  rcases List.mem_cons.mp hu with rfl | hu
  ·rw [Y4 r f.1];exact Ui r rx f.1 fx
  ·exact yl rx fx t f.2 u' hu
def inV (x:V) (xs:List V):Bool:=xs.any fun y=>eqV y x
def rIn (K:PySem.W.Frag) (neg:Bool):R2:=fun x y H Q=>∃ p xs,y = .ref p/\(SqL K H p xs\/SqT K H p xs)/\vG x=true/\xs.all vG=true/\Q (.bl (if neg then !inV x xs else inV x xs)) H
theorem ZD:OpR X (compareOp .In) (rIn X.K false):=by
 intro pins s σ H x y v u Q I rx ry h
 obtain ⟨p,xs,rfl,hq,fx,fs,q⟩:=h
 cases ry
 rcases hq with hq | hq
 ·obtain ⟨its,r,pl,hz⟩:=I.list hq
  refine SeqAt.in_listAt (eqU x) pl.isList (fun w hw=>yl rx fx r fs w (by simpa using hw)) ⟨.bl _,H,I,rfl,?_⟩
  rw [show its.toArray.any (eqU x)=its.any (eqU x) by simp,vw r fs]
  exact q
 ·obtain ⟨its,r,pl,hz⟩:=I.tuple hq
  refine SeqAt.in_tupleAt (eqU x) pl (fun w hw=>yl rx fx r fs w (by simpa using hw)) ⟨.bl _,H,I,rfl,?_⟩
  rw [show its.toArray.any (eqU x)=its.any (eqU x) by simp,vw r fs]
  exact q
theorem Jt:OpR X (compareOp .NotIn) (rIn X.K true):=by
 intro pins s σ H x y v u Q I rx ry h
 obtain ⟨p,xs,rfl,hq,fx,fs,q⟩:=h
 cases ry
 rcases hq with hq | hq
 ·obtain ⟨its,r,pl,hz⟩:=I.list hq
  refine SeqAt.notIn_listAt (eqU x) pl.isList (fun w hw=>yl rx fx r fs w (by simpa using hw)) ⟨.bl _,H,I,rfl,?_⟩
  rw [show its.toArray.any (eqU x)=its.any (eqU x) by simp,vw r fs]
  exact q
 ·obtain ⟨its,r,pl,hz⟩:=I.tuple hq
  refine SeqAt.notIn_tupleAt (eqU x) pl (fun w hw=>yl rx fx r fs w (by simpa using hw)) ⟨.bl _,H,I,rfl,?_⟩
  rw [show its.toArray.any (eqU x)=its.any (eqU x) by simp,vw r fs]
  exact q
theorem Jf:x5 X (.builtin "len") (fun xs H Q=>∃ p ys,xs=[.ref p]/\(SqL X.K H p ys\/SqT X.K H p ys)/\Q (.int ys.length) H):=by
 intro pins s σ H xs us Q I r h
 obtain ⟨p,ys,rfl,hq,q⟩:=h
 obtain ⟨u,rfl,rx⟩:=yo r
 cases rx
 have hn:=Jm
 rcases hq with hq | hq
 ·obtain ⟨its,r',pl,hz⟩:=I.list hq
  have hlen:=r'.length
  exact Calls.call_len_list pl.isList (by simp only [List.size_toArray] <;> omega) ⟨.int ys.length,H,I.tok _,⟨s.toks+1,by rw [List.size_toArray,hlen]⟩,q⟩
 ·obtain ⟨its,r',pl,hz⟩:=I.tuple hq
  have hlen:=r'.length
  exact len_tuple pl (by simp only [List.size_toArray] <;> omega) ⟨.int ys.length,H,I.tok _,⟨s.toks+1,by rw [List.size_toArray,hlen]⟩,q⟩
theorem Jw:x5 X (.type "list") (fun xs H Q=>∃ p ys,xs=[.ref p]/\(SqL X.K H p ys\/SqT X.K H p ys)/\∀ l,H l=none->Q (.ref l) (upd H l (.lst ys))):=by
 intro pins s σ H xs us Q I r h
 obtain ⟨p,ys,rfl,hq,q⟩:=h
 obtain ⟨u,rfl,rx⟩:=yo r
 cases rx
 have fin:∀ (its:List Value),jC ys its->ys.length<=sizeLine->∀ (h':Heap) (c':Nat),(∀ b o',s.heap.get? b=some o'->h'.get? b=some o') ->
   h'.get? s.heap.objs.size=some { cls:=.type "list",dict:=none,data:=.seq its.toArray c',slots:=#[] }->EP X pins σ Q (.ref s.heap.objs.size) { s with heap:=h' }:=fun its r' hz h' c' kp e =>
  ⟨.ref s.heap.objs.size,_,I.laid (t':=s.toks) kp (Nat.le_refl _) (show qB X.prog X.w _ h' _ (.lst ys) from ⟨hz,its,c',r',e⟩),rfl,q _ (I.hok.fresh (Nat.le_refl _))⟩
 rcases hq with hq | hq
 ·obtain ⟨its,r',pl,hz⟩:=I.list hq
  have hlen:=r'.length
  obtain ⟨o,ho,hc,n,hd⟩:=pl.isList
  exact call_list_seq p (.inl rfl) ho hc hd (fun h' c' kp e=>fin its r' hz h' c' kp e) (by simp only [List.size_toArray] <;> omega)
 ·obtain ⟨its,r',pl,hz⟩:=I.tuple hq
  have hlen:=r'.length
  obtain ⟨o,ho,hc,n,hd⟩:=pl
  exact call_list_seq p (.inr rfl) ho hc hd (fun h' c' kp e=>fin its r' hz h' c' kp e) (by simp only [List.size_toArray] <;> omega)
theorem kK:x5 X (.type "tuple") (fun xs H Q=>∃ p ys,xs=[.ref p]/\((SqL X.K H p ys/\∀ l,H l=none->Q (.ref l) (upd H l (.tup ys)))\/(SqT X.K H p ys/\Q (.ref p) H))):=by
 intro pins s σ H xs us Q I r h
 obtain ⟨p,ys,rfl,h⟩:=h
 obtain ⟨u,rfl,rx⟩:=yo r
 cases rx
 rcases h with ⟨hq,q⟩ | ⟨hq,q⟩
 ·obtain ⟨its,r',pl,hz⟩:=I.list hq
  have hlen:=r'.length
  refine call_tuple_list pl.isList (fun h' kp=>?_) (by simp only [List.size_toArray] <;> omega)
  have I1:Inv X pins σ H { s with heap:=h' }:=I.kept (t':=s.toks) kp
  have I2:Inv X pins σ (upd H h'.objs.size (.tup ys)) { s with heap:=h'.push { cls:=.type "tuple",data:=.seq its.toArray } } :=
   I1.laid (t':=s.toks) (fun b o e=>Heap.get?_push_of_some _ e) (Nat.le_refl _) (show qB X.prog X.w _ _ _ (.tup ys) from ⟨hz,its,r',IsTup.new _ _⟩)
  exact ⟨.ref h'.objs.size,_,I2,rfl,q _ (I1.hok.fresh (Nat.le_refl _))⟩
 ·obtain ⟨its,r',pl,hz⟩:=I.tuple hq
  exact call_tuple_same pl ⟨.ref p,H,I,rfl,q⟩
def tyV (K:PySem.W.Frag) (T:String) (x:V) (H:Hp):Prop:=match x with
 | .str _=>T = "str"
 | .int _=>T = "int"
 | .ref p=>(T = "list" /\ ∃ xs,SqL K H p xs)\/(T = "tuple" /\ ∃ o,K.lookup p=some o/\o.cls = .type "tuple" /\ o.dict=none) \/
   (T = "dict" /\ ((∃ kvs,H p=some (.dK kvs))\/∃ kvs,H p=some (.dT kvs)))\/(T = "set" /\ ∃ S n,H p=some (.set S n))
 | _=>False
theorem UO {pins:List (Addr×Obj)}{σ:St}{H:Hp}{s:Shared}{T:String}{x:V}{v:Value}(I:Inv X pins σ H s) (r:jB x v) (ty:tyV X.K T x H) :
  s.TypeIs v T/\∀ a,v = .ref a->∃ ob,s.heap.get? a=some ob/\ob.dict=none:=by
 cases x with
 | str z =>
  obtain ⟨t,rfl⟩:=r
  cases (show T = "str" from ty)
  exact ⟨typeIs_str s z t,fun _ e=>nomatch e⟩
 | int i =>
  obtain ⟨t,rfl⟩:=r
  cases (show T = "int" from ty)
  exact ⟨typeIs_int s i t,fun _ e=>nomatch e⟩
 | ref p =>
  cases r
  rcases ty with ⟨rfl,xs,hq⟩ | ⟨rfl,o,hk,hc,hd⟩ | ⟨rfl,hk⟩ | ⟨rfl,S,n,hk⟩
  ·obtain ⟨its,_,pl,_⟩:=I.list hq
   refine ⟨pl.isList.typeIs,fun a e=>?_⟩
   cases e
   obtain ⟨o,n,e,c,hd,_⟩:=pl
   exact ⟨o,e,hd⟩
  ·refine ⟨⟨o,I.kIn p o hk,hc⟩,fun a e=>?_⟩
   cases e
   exact ⟨o,I.kIn _ o hk,hd⟩
  ·have z:∃ o,s.heap.get? p=some o/\o.ExactDict:=by
    rcases hk with ⟨kvs,hk⟩ | ⟨kvs,hk⟩
    ·obtain ⟨_,_,_,_,o,_,_,e,ex,_⟩:=I.hok p _ hk
     exact ⟨o,e,ex⟩
    ·obtain ⟨_,_,_,_,o,_,_,e,ex,_⟩:=I.hok p _ hk
     exact ⟨o,e,ex⟩
   obtain ⟨o,e,ex⟩:=z
   refine ⟨⟨o,e,ex.1⟩,fun a e2=>?_⟩
   cases e2
   exact ⟨o,e,ex.2.1⟩
  ·obtain ⟨o,_,_,_,e,ex,_⟩:=I.hok p _ hk
   refine ⟨⟨o,e,ex.1⟩,fun a e2=>?_⟩
   cases e2
   exact ⟨o,e,ex.2.1⟩
 | _=>exact False.elim ty
def tBM (K:PySem.W.Frag) (T:String) (r:V->List V->Hp->VK->Prop) (to:TE) (t:TA):TE:=fun σ H Q=>to σ H fun x H1=>tyV K T x H1/\t σ H1 fun xs H2=>r x xs H2 Q
variable {o e:Expr}{es:List Expr}{to:TE}{t:TA}{name:Str}{apos cpos:Pos}{T id:String}{r:V->List V->Hp->VK->Prop}
theorem WM (pa:PlainAttrs T) (slot:Slot T name id) (hty:typeOf (.builtin id)=pure (.type "method_descriptor")) (hm:MtR X id r) (ho:PE X o to) (ha:PA X (e::es) t)
  (hbase:attributeBase o name X.env (eval o X.env)=eval o X.env:=by rfl)
  (hfew:((backTo cpos (starEach (e::es) X.env)).all (fun x=>!x.1) && (backToKw cpos (keywordEach [] X.env)).all (fun x=>x.1.isSome)
   && decide ((e::es).length+([]:List Keyword).length+(if ([]:List Keyword).isEmpty then 0 else 1)<30))=true:=by rfl)
  (hline:(apos.endLine == cpos.line)=true:=by rfl) (hs:starEach (e::es) X.env=(false,eval e X.env)::starEach es X.env:=by rfl) (hplain:(backTo cpos (starEach es X.env)).any (·.1)=false:=by rfl) :
  PE X (.Call (.Attribute o name apos) (e::es) [] cpos) (tBM X.K T r to t):=by
 intro pins s σ H Q I h
 refine wpAny_Call_method_late hbase hfew hline rfl (thn (ho pins s σ H _ I h) fun v s1 ⟨x,H1,I1,r1,ty,q1⟩=>?_)
 obtain ⟨h1,h2⟩:=UO I1 r1 ty
 refine ⟨T,id,pa,slot,hty,h1,h2,?_⟩
 have hA:=ha cpos pins s1 σ H1 _ I1 q1
 rw [hs] at hA ⊢
 refine Calls.callWith_builtin (by show (false || (backTo cpos (starEach es X.env)).any (·.1))=false;rw [hplain] <;> rfl) (Calls.evalArgs_plain ?_)
 exact thn hA fun us s2 ⟨vs,H2,I2,r2,q2⟩=>hm pins s2 σ H2 x vs v us Q I2 r1 r2 q2
end
end L2
namespace L2
open PySem PySem.Spec PyProof.Rows
def MtM (X:Cx) (id:String) (r:V->List V->Hp->VK->Prop):Prop :=
 ∀ (pins:List (Addr×Obj)) (s:Shared) (σ:St) (H:Hp) (x:V) (xs:List V) (v:Value) (us:List Value) (Q:VK),Inv X pins σ H s->jB x v->jC xs us->r x xs H Q ->
  wpAny (model X.prog X.w) X.A (call (.builtin id) (v::us)) (EP X pins σ Q) X.xe s
theorem jC.one:∀ {x:V}{us:List Value},jC [x] us->∃ u,us=[u]/\jB x u
 | _,_,.cons r .nil=>⟨_,rfl,r⟩
theorem jC.dropLast {xs:List V}{us:List Value}(h:jC xs us):jC xs.dropLast us.dropLast:=by
 induction h with
 | nil=>exact .nil
 | cons r t ih =>
  cases t with
  | nil=>exact .nil
  | cons q t'=>exact .cons r ih
theorem jC.reverse {xs:List V}{us:List Value}(h:jC xs us):jC xs.reverse us.reverse:=by
 induction h with
 | nil=>exact .nil
 | cons r t ih=>rw [List.reverse_cons,List.reverse_cons];exact jC.append ih (.cons r .nil)
section
variable {X:Cx}{pins:List (Addr×Obj)}{σ:St}{H:Hp}{s:Shared}{l b:Addr}{xs ys zs:List V}
theorem Inv.lset {its its':List Value}{n:Nat}{f:Array Value->Array Value}{t':Nat}(I:Inv X pins σ H s) (hH:H l=some (.lst xs))
  (e:s.heap.get? l=some { cls:=.type "list",data:=.seq its.toArray n }) (hf:f its.toArray=its'.toArray) (hv:jC ys its') (hz:ys.length<=sizeLine) :
  Inv X pins σ (upd H l (.lst ys)) { s with heap:=s.heap.update l (Obj.mapSeq f),toks:=t' }:=by
 have q:=PySem.IsL.update e f
 rw [hf] at q
 refine I.write (x:=l) (e:=l) (by rw [hH];exact trivial) (.inl rfl) (fun b' u hb hu=>(Heap.get?_update_other s.heap (Obj.mapSeq f) (Ne.symm hb)).trans hu) ⟨_,q⟩ ?_
 exact ⟨hz,its',_,hv,q⟩
theorem Inv.lnew {its:List Value}{t':Nat}(I:Inv X pins σ H s) (hv:jC ys its) (hz:ys.length<=sizeLine) :
  Inv X pins σ (upd H s.heap.objs.size (.lst ys)) { s with heap:=s.heap.push { cls:=.type "list",data:=.seq its.toArray },toks:=t' } :=
 I.laid (fun _ _ q=>Heap.get?_push_of_some _ q) (Nat.le_refl _) ⟨hz,its,0,hv,Heap.get?_push_size _ rfl⟩
theorem Inv.fresh (I:Inv X pins σ H s):H s.heap.objs.size=none:=I.hok.fresh (Nat.le_refl _)
theorem Inv.lstM (I:Inv X pins σ H s) (hH:H l=some (.lst xs)):xs.length<=sizeLine/\∃ (its:List Value) (n:Nat),jC xs its/\xs.length=its.length/\s.heap.get? l=some { cls:=.type "list",data:=.seq its.toArray n }:=by
 obtain ⟨z,its,n,r,e⟩:=I.hok l _ hH
 exact ⟨z,its,n,r,r.length,e⟩
theorem YF {n:Nat}(h:n<=sizeLine):Builtin.List.listTooLong n=false:=by
 unfold Builtin.List.listTooLong
 exact decide_eq_false (by omega)
end
section
variable {X:Cx}
def Vs:V->List V->Hp->VK->Prop:=fun x vs H Q=>∃ l xs y,x = .ref l/\vs=[y]/\H l=some (.lst xs)/\xs.length<sizeLine/\Q .non (upd H l (.lst (xs++[y])))
theorem qz:MtM X "list.append" Vs:=by
 intro pins s σ H x vs v us Q I rx rv h
 obtain ⟨l,xs,y,rfl,rfl,hH,hz,q⟩:=h
 cases rx
 obtain ⟨u,rfl,ru⟩:=rv.one
 obtain ⟨z,its,n,r,hl,e⟩:=I.lstM hH
 refine call_meets F.slot_list_append ⟨_,e,rfl⟩ F.entry_list_append (F.args_list_append_2 _ _) (PySem.list_append l its.toArray n u (by rw [List.size_toArray];omega)) ⟨e,?_⟩
 refine ⟨.non,_,I.lset (its':=its++[u]) hH e (by simp) (r.append (.cons ru .nil)) ?_,rfl,q⟩
 rw [List.length_append,List.length_singleton]
 omega
def Vy:V->List V->Hp->VK->Prop:=fun x vs H Q=>∃ l b xs zs,x = .ref l/\vs=[.ref b]/\H l=some (.lst xs)/\H b=some (.lst zs)/\xs.length+zs.length<=sizeLine/\Q .non (upd H l (.lst (xs++zs)))
theorem Wn:MtM X "list.extend" Vy:=by
 intro pins s σ H x vs v us Q I rx rv h
 obtain ⟨l,b,xs,zs,rfl,rfl,hH,hB,hz,q⟩:=h
 cases rx
 obtain ⟨u,rfl,ru⟩:=rv.one
 cases ru
 obtain ⟨z,its,n,r,hl,e⟩:=I.lstM hH
 obtain ⟨z2,its2,n2,r2,hl2,e2⟩:=I.lstM hB
 have hsz:its.toArray.size+its2.toArray.size<=sizeLine:=by rw [List.size_toArray,List.size_toArray];omega
 have hlong:¬ (!its.toArray.isEmpty && Builtin.List.listTooLong (its.toArray.size+its2.toArray.size))=true:=by
  rw [YF hsz,Bool.and_false]
  exact Bool.false_ne_true
 refine call_meets F.slot_list_extend ⟨_,e,rfl⟩ F.entry_list_extend (F.args_list_extend_2 _ _)
  (AutoSeq1.list_extend_list_list_0 l its.toArray n b its2.toArray n2 hlong (by rw [List.size_toArray];omega) (by omega)) ⟨e,e2,?_⟩
 refine ⟨.non,_,I.lset (its':=its++its2) hH e (by simp) (r.append r2) ?_,rfl,q⟩
 rw [List.length_append]
 omega
def rCat:R2:=fun x y H Q=>∃ l b xs zs,x = .ref l/\y = .ref b/\H l=some (.lst xs)/\H b=some (.lst zs)/\xs.length+zs.length<=sizeLine/\∀ p,H p=none->Q (.ref p) (upd H p (.lst (xs++zs)))
theorem UY:OpR X (binaryOp .Add) rCat:=by
 intro pins s σ H x y v u Q I rx ry h
 obtain ⟨l,b,xs,zs,rfl,rfl,hH,hB,hz,q⟩:=h
 cases rx
 cases ry
 obtain ⟨z,its,n,r,hl,e⟩:=I.lstM hH
 obtain ⟨z2,its2,n2,r2,hl2,e2⟩:=I.lstM hB
 refine PySem.P.add_list e e2 ?_ (by rw [List.size_toArray,List.size_toArray];omega)
 have ea:its.toArray++its2.toArray=(its++its2).toArray:=by simp
 rw [ea]
 exact ⟨.ref _,_,I.lnew (t':=s.toks) (r.append r2) (by rw [List.length_append];omega),rfl,q _ I.fresh⟩
end
section
variable {prog:Program}{w:World}{A:Around}{E:Value->Shared->Prop}{s:Shared}
set_option maxRecDepth 100000 in
end
section
variable {X:Cx}
end
end L2
namespace Att
open PySem PySem.W PySem.Calls PyProof.Rows
theorem uY {P:Params}{h:Heap}:∀ (ns:List Int) (vs:List Value),WellAll P h vs (ns.map WData.int)->IntsAre vs ns:=by
 intro ns
 induction ns with
 | nil =>
  intro vs w
  rw [List.map_nil] at w
  cases w
  exact .nil
 | cons n ns ih =>
  intro vs w
  rw [List.map_cons] at w
  cases w with
  | cons a b =>
   cases a
   exact .cons _ _ (ih _ b)
theorem ZE {l:OpenLaw}{n:Nat}(hn:l.most=some n) {P:Params}{h:Heap}{args:List WData}{vals:List Value}
  (hpre:l.row.toRowW.claim.pre args=true) (hwl:WellAll P h vals args) :
  ∃ a vs ns,vals=[Value.ref a]/\args=[WData.list (ns.map WData.int)]/\h.get? a=some { cls:=.type "list",data:=.seq vs.toArray }/\IntsAre vs ns/\ns.length<=n:=by
 have hsh:WShape.hasAll [] args [.list .int]=true:=(pre_splitW hpre).1
 have hc:l.pre.holds [] { args:=args }=true:=(pre_splitW hpre).2
 obtain ⟨d,r,rfl,h1,h2⟩:=hasAllW_cons hsh
 obtain rfl:=hasAllW_nil h2
 obtain ⟨xs,rfl,h3⟩:=hasW_list h1
 obtain ⟨ns,rfl⟩:=items_int h3
 have hlen:ns.length<=n:=by
  unfold OpenLaw.pre at hc
  have h4:(WTm.not (.lt (.lit (.int (n:Int))) (.len (.arg 0)))).holds [] { args:=[.list (ns.map .int)] }=true:=by
   have h4:=(holds_andW hc).1
   rw [hn] at h4
   exact h4
  have h5:=condW_of h4 (w_not (w_lt w_lit (w_len_list (w_arg rfl))))
  rw [List.length_map] at h5
  refine Nat.le_of_not_lt fun q=>?_
  have q':(n:Int)<((ns.length:Nat):Int):=by omega
  first
   | (rw [decide_eq_true q'] at h5;exact absurd h5 (by decide))
   | (simp at h5;omega)
 cases hwl with
 | cons w1 w2 =>
  cases w2
  cases w1 with
  | list ho hall=>exact ⟨_,_,ns,rfl,rfl,ho,uY ns _ hall,hlen⟩
theorem Zi (l:OpenLaw) (args:List WData):l.row.toRowW.claim.post args (.bool true) args=true :=
 postW_of (r:=l.row.toRowW) (X:=(true == true))
  (show WShape.has [] (.bool true) .bool=true by first | rfl | decide | simp [WShape.has,WShape.arms,WShape.armsAll])
  (show (WTm.eq .res (.lit (.bool true))).value [] { args:=args,res:=some (.bool true),after:=args }=some (.bool (true == true)) from w_eq_bool (w_res rfl) w_lit) rfl
theorem attach_call {l:OpenLaw}{n:Nat}{q:Program}{loose:List Str}{XP:(Str->Option Value)->Heap->Prop}{YP:World->Heap->Prop}{d:DefRec}
  (hn:l.most=some n) (hdf:d.params.defaults=[])
  (call:∀ (w:World) (s₀ s₁:Shared) (mg mb:Str->Option Value) (fa:Addr) (o:Obj) (pm cd doc:Value) (a:Addr) (vs:List Value) (ns:List Int),
   Ground q loose [] XP w s₀ mg mb s₁.heap->YP w s₁.heap ->
   s₁.heap.get? fa=some o->o.data = .func (docDef d.name d.params d.body d.scope pm cd doc)->s₁.heap.CodeRec cd d.name->mg d.name=some (.ref fa) ->
   s₁.heap.get? a=some { cls:=.type "list",data:=.seq vs.toArray }->IntsAre vs ns->ns.length<=n->s₁.gens = #[] ->
   codeAny (model l.prog w) callerA (.call (.ref fa) ⟨[.ref a],[]⟩) (fun r s'=>r = .ok (.ret (.bool true))/\OldK s₁.heap s'.heap/\s'.os=s₁.os/\AllBare s'.gens) s₁) :
  WalkO q loose XP YP l.row.toRowW d [] (fun f vs=>PySem.call f vs):=by
 intro w s₀ s₁ mg mb G Y fa o pm cd doc dV kV ho hd hcd hD hmg hg args vals as hpre hlay hrd hwl hlo
 obtain rfl:dV = .none:=Dflts.none hD hdf
 obtain rfl:kV = .none:=Dflts.noKw hD
 obtain ⟨a,vs,ns,rfl,rfl,hobj,hints,hlen⟩:=ZE hn hpre hwl
 refine enter_call (codeAny_mono (call w s₀ s₁ mg mb fa o pm cd doc a vs ns G Y ho (fd_plain hd) hcd hmg hobj hints hlen hg) fun r s' hq=>?_)
 obtain ⟨rfl,h2,h3,h4⟩:=hq
 exact ⟨.inl ⟨.bool true,.bool true,[],rfl,fun _=>rfl,.bool true,Zi l _,fun _=>⟨List.Pairwise.nil,fun _ hm=>(nomatch hm)⟩⟩,h2,h3,h4⟩
section
variable {prog:Program}{w:World}{A:Around}{E:Value->Shared->Prop}{s:Shared}{K:Frag}
def ledger (h:Heap) (L d:Addr):List (Addr×Obj):=(List.range h.objs.size).filterMap fun a=>if a=L\/a=d then none else (h.get? a).map fun o=>(a,o)
end
end Att
namespace L2
open PySem PySem.Spec PyProof.Rows
theorem uw:∀ {vs:List Value}{ns:List Int},IntsAre vs ns->jC (ns.map V.int) vs
 | _,_,.nil=>.nil
 | _,_,.cons n t h=>.cons ⟨t,rfl⟩ (uw h)
end L2
namespace L2
open PySem PySem.Spec PyProof.Rows
end L2
namespace L2
open PySem PySem.Spec PyProof.Rows
def xZ (s:Stmt) (j:Nat):Stmt:=match s with
 | .ClassDef _ _ _ body _ _ _ _ _ _ _=>body.getD j (.Pass ⟨0,0,0,0⟩)
 | _=>.Pass ⟨0,0,0,0⟩
def jR (s:Stmt):Arguments:=match s with
 | .FunctionDef _ a _ _ _ _ _ _ _ _=>a
 | _=>{ posonlyargs:=[],args:=[],vararg:=none,kwonlyargs:=[],kw_defaults:=[],kwarg:=none,defaults:=[] }
def jJ (s:Stmt):List Stmt:=match s with
 | .FunctionDef _ _ b _ _ _ _ _ _ _=>b
 | _=>[]
def j6 (s:Stmt):Scope:=match s with
 | .FunctionDef _ _ _ _ _ _ sc _ _ _=>sc
 | _=>{ kind:=.function,names:=[],isGenerator:=false,isCoroutine:=false }
abbrev CX0:CXT:=fun _ _ _ _ _ _=>False
abbrev E0:XK:=fun _ _ _=>False
theorem U8 {X:Cx}:Je CX0 X E0:=fun _ _ _ _ _ _ _ h=>h.elim
structure Fun (K:PySem.W.Frag) (x qual:Str) (st:Stmt) (f:Addr) (fd:FuncData):Prop where
 ex:∃ (oc:Value) (od:Option Addr) (kV doc pm:Value) (an:Option Addr) (cdv ct:Value) (osl:Array (Option Value)),
  fd=PySem.W.fnOf x qual (jR st) (jJ st) (j6 st) .none kV doc pm an cdv ct/\K.lookup f=some ⟨oc,od,.func fd,osl⟩/\PySem.W.codeIn K cdv qual=true
 kp:PySem.W.keepIn K (.ref f)=true
section
variable {P:Program}{w:World}{K:PySem.W.Frag}{mg:Str->Option Value}{base:Heap}
theorem Fun.ok {x qual:Str}{st:Stmt}{f:Addr}{fd:FuncData}{N ps:List Str}{k:Nat}{sp:Sp}(F:Fun K x qual st f fd) (S:FnScope N ps (j6 st)) (len:∀ vs H Q E,sp vs H Q E->vs.length=ps.length)
  (hbody:∀ (cdv:Value) (A:Around) (outer:List Env) (s:Shared) (H:Hp) (vs:List V) (Q:VK) (E:XK),Room k (A.deeper (envOfC qual (j6 st) s.heap.objs.size f cdv))->sp vs H Q E ->
   ∃ t,PSs (yO CX0 P w K mg base N qual (j6 st) f cdv A outer s H E).nox (jJ st) t/\t { nx:=fun _ H'=>Q .non H',rt:=Q } (start N vs) H):FnOk P w K mg base CX0 (k+1) f fd ps sp:=by
 obtain ⟨oc,od,kV,doc,pm,an,cdv,ct,osl,rfl,lk,hcd⟩:=F.ex
 refine Ys lk hcd S len fun A outer s H vs Q E hr hsp=>?_
 obtain ⟨t,h,q⟩:=hbody cdv A outer s H vs Q E hr hsp
 exact ⟨t,h.nox,q⟩
theorem Fun.binds {x qual:Str}{st:Stmt}{f:Addr}{fd:FuncData}{ps:List Str}(F:Fun K x qual st f fd)
  (h:∀ (kV doc pm:Value) (an:Option Addr) (cdv ct:Value) (us:List Value),us.length=ps.length->bindArgs (PySem.W.fnOf x qual (jR st) (jJ st) (j6 st) .none kV doc pm an cdv ct) ⟨us,[]⟩=pure (ps.zip us)):zN K fd ps []:=by
 obtain ⟨oc,od,kV,doc,pm,an,cdv,ct,osl,rfl,lk,hcd⟩:=F.ex
 exact .all (h kV doc pm an cdv ct)
theorem yp {x qual:Str}{st:Stmt}{f:Addr}{oc:Value}{od an:Option Addr}{osl:Array (Option Value)}{kV doc pm cdv ct:Value}(l:K.lookup f=some ⟨oc,od,.func (PySem.W.fnOf x qual (jR st) (jJ st) (j6 st) .none kV doc pm an cdv ct),osl⟩)
  (c:PySem.W.codeIn K cdv qual=true) (k:PySem.W.keepIn K (.ref f)=true):Fun K x qual st f (PySem.W.fnOf x qual (jR st) (jJ st) (j6 st) .none kV doc pm an cdv ct):=⟨⟨oc,od,kV,doc,pm,an,cdv,ct,osl,rfl,l,c⟩,k⟩
end
theorem jY {A:Around}{k:Nat}(hr:Room k A):A.units+1<cLine:=Nat.lt_of_le_of_lt (Nat.add_le_add_left (by decide:1<=64) _) hr.units
theorem jm {n:Nat}(h:n<=1000):n<sizeLine:=Nat.lt_of_le_of_lt h (by decide)
section
variable {X:Cx}
theorem pv (i:Nat) {x:Str}{pos:Pos}(hN:X.N[i]? = some x:=by rfl) (hv:Vis X.env.scope x:=by first | exact Or.inl rfl | exact Or.inr (Or.inl rfl) | exact Or.inr (Or.inr rfl)) (hd:(x == ("__debug__" : Str))=false:=by decide)
  (hcd:(x == ("__classdict__" : Str))=false:=by decide):PE X (.Name x pos) (vo i):=Wj hN hv hd hcd
end
theorem Ug {A B:Prop}(h:B):if false=true then A else B:=by
 rw [if_neg Bool.false_ne_true]
 exact h
theorem uS {A B:Prop}(h:A):if true=true then A else B:=by
 rw [if_pos rfl]
 exact h
def ji (H H':Hp):Prop:=∀ b o,H b=some o->H' b=some o
theorem ji.refl (H:Hp):ji H H:=fun _ _ h=>h
theorem ji.trans {H H1 H2:Hp}(a:ji H H1) (b:ji H1 H2):ji H H2:=fun c o h=>b c o (a c o h)
theorem ji.free {H H':Hp}(e:ji H H') {l:Addr}(h:H' l=Option.none):H l=Option.none:=by
 cases q:H l with
 | none=>rfl
 | some o =>
  rw [e l o q] at h
  cases h
end L2
section
namespace L2
open PySem PySem.Spec PyProof.Rows
theorem Qz (env:Env) (f:Str×NameKind->List (Str×Addr)->Sem (ForInStep (List (Str×Addr))))
  (hf:∀ n k r,f (n,k) r=if (k == NameKind.free)=true then (cellOf env n >>= fun a=>pure (ForInStep.yield ((n,a)::r))) else pure (ForInStep.yield r)) :
  ∀ (names:List (Str×NameKind)) (acc:List (Str×Addr)),(∀ x∈names,x.2 = .free->∃ c,env.cells.lookup x.1=some c) ->
  ∃ cl,forIn names acc f=pure cl/\∀ x,cl.lookup x=if (x,NameKind.free)∈names then env.cells.lookup x else acc.lookup x:=by
 intro names
 induction names with
 | nil=>intro acc _;exact ⟨acc,rfl,fun x=>by rw [if_neg (by simp)]⟩
 | cons y r ih =>
  intro acc h
  obtain ⟨n,k⟩:=y
  have hr:∀ x∈r,x.2 = .free->∃ c,env.cells.lookup x.1=some c:=fun x hx=>h x (List.mem_cons_of_mem _ hx)
  by_cases hk:k = .free
  ·subst hk
   obtain ⟨c,hc⟩:=h (n,.free) List.mem_cons_self rfl
   obtain ⟨cl,e,p⟩:=ih ((n,c)::acc) hr
   refine ⟨cl,?_,fun x=>?_⟩
   ·rw [List.forIn_cons,hf,if_pos (by rfl)]
    have e1:cellOf env n=pure c:=by unfold cellOf;rw [hc]
    rw [e1]
    exact e
   ·rw [p x]
    by_cases hx:x=n
    ·subst hx
     rw [if_pos (List.mem_cons_self),List.lookup_cons,beq_self_eq_true]
     by_cases hm:(x,NameKind.free)∈r
     ·rw [if_pos hm]
     ·rw [if_neg hm];exact hc.symm
    ·have hb:(x == n)=false:=beq_eq_false_iff_ne.mpr hx
     rw [List.lookup_cons,hb]
     by_cases hm:(x,NameKind.free)∈r
     ·rw [if_pos hm,if_pos (List.mem_cons_of_mem _ hm)]
     ·rw [if_neg hm,if_neg (by
       intro z
       rcases List.mem_cons.mp z with z | z
       ·exact hx (congrArg Prod.fst z)
       ·exact hm z)]
  ·obtain ⟨cl,e,p⟩:=ih acc hr
   have hb:(k == NameKind.free)=false:=by simpa using hk
   refine ⟨cl,?_,fun x=>?_⟩
   ·rw [List.forIn_cons,hf,hb,if_neg Bool.false_ne_true]
    exact e
   ·rw [p x]
    by_cases hm:(x,NameKind.free)∈r
    ·rw [if_pos hm,if_pos (List.mem_cons_of_mem _ hm)]
    ·rw [if_neg hm,if_neg (by
      intro z
      rcases List.mem_cons.mp z with z | z
      ·exact hk (congrArg Prod.snd z).symm
      ·exact hm z)]
theorem y6 {scope:Scope}{env:Env}(h:∀ x∈scope.names,x.2 = .free->∃ c,env.cells.lookup x.1=some c) :
  ∃ cl,closureFor scope env=pure cl/\∀ x,cl.lookup x=if (x,NameKind.free)∈scope.names then env.cells.lookup x else none:=by
 have hh:=Qz env (fun (x:Str×NameKind) r=>match x with | (n,k)=>if (k == NameKind.free)=true then (cellOf env n >>= fun a=>pure (ForInStep.yield ((n,a)::r))) else pure (ForInStep.yield r)) (fun _ _ _=>rfl) scope.names [] h
 obtain ⟨cl,e,p⟩:=hh
 refine ⟨cl,?_,fun x=>by rw [p x];rfl⟩
 unfold closureFor
 have e':forIn scope.names ([]:List (Str×Addr)) (fun (x:Str×NameKind) r=>match x with | (n,k)=>if (k == NameKind.free)=true then (cellOf env n >>= fun a=>pure (ForInStep.yield ((n,a)::r))) else pure (ForInStep.yield r))=(pure cl:Sem _):=e
 show (forIn scope.names ([]:List (Str×Addr)) _ >>= fun cs=>pure cs)=_
 first
  | (rw [e'];rfl)
  | (simp only [bind_pure];exact e')
structure CompSc (osc:Scope) (ON:List Str) (scope:Scope) (own:Nat) (N:List Str) (caps:List Nat):Prop where
 kind:scope.kind = .function
 nocell:∀ y∈scope.names,y.2≠.cell
 loc:∀ y∈scope.names,y.2 = .local->scope.names.lookup y.1=some .local
 fre:∀ y∈scope.names,y.2 = .free->scope.names.lookup y.1=some .free/\(osc.names.lookup y.1=some .cell\/osc.names.lookup y.1=some .free)
 len:N.length=own+caps.length
 cap:∀ p∈(N.drop own).zip caps,ON[p.2]? = some p.1/\(p.1,NameKind.free)∈scope.names
def yd (own:Nat) (caps:List Nat) (σ:St):St:=List.replicate own none++caps.map fun j=>(σ[j]?).getD none
def Cx.block (X:Cx) (scope:Scope) (cl:List (Str×Addr)) (C:Addr) (N:List Str) (s:Shared) (H:Hp) (ex:List Addr):Cx :=
 { X with N:=N,s₀:=s,H₀:=H,env:=compEnvC scope cl C X.env,outer:=X.stack,ex:=ex,fn:=fun x=>decide (scope.names.lookup x=some .local),pn:=[],xe:=fun _ _=>False }
theorem zY {env:Env}:∀ {names:List (Str×NameKind)}{x:Str}{k:NameKind},
  (names.map fun (n,k)=>if (k == NameKind.free && env.scope.kind == .function && env.kindOf n == some .cell) then (n,NameKind.cell) else (n,k)).lookup x=some k ->
  ∃ k',names.lookup x=some k'/\(k'=k\/(k' = .free/\k = .cell))
 | [],_,_,h=>by simp at h
 | (n,k0)::r,x,k,h=>by
  have ih:=@zY env r x k
  have h':List.lookup x ((if (k0 == NameKind.free && env.scope.kind == .function && env.kindOf n == some .cell)=true then (n,NameKind.cell) else (n,k0))::r.map fun (n,k)=>if (k == NameKind.free && env.scope.kind == .function && env.kindOf n == some .cell) then (n,NameKind.cell) else (n,k))=some k:=h
  cases hx:x == n with
  | true =>
   by_cases hc:(k0 == NameKind.free && env.scope.kind == .function && env.kindOf n == some .cell)=true
   ·rw [if_pos hc,List.lookup_cons,hx] at h'
    cases h'
    refine ⟨k0,by rw [List.lookup_cons,hx],.inr ⟨?_,rfl⟩⟩
    rw [Bool.and_eq_true,Bool.and_eq_true] at hc
    exact eq_of_beq hc.1.1
   ·rw [if_neg hc,List.lookup_cons,hx] at h'
    cases h'
    exact ⟨k0,by rw [List.lookup_cons,hx],.inl rfl⟩
  | false =>
   have h2:List.lookup x (r.map fun (n,k)=>if (k == NameKind.free && env.scope.kind == .function && env.kindOf n == some .cell) then (n,NameKind.cell) else (n,k))=some k:=by
    by_cases hc:(k0 == NameKind.free && env.scope.kind == .function && env.kindOf n == some .cell)=true
    ·rw [if_pos hc,List.lookup_cons,hx] at h';exact h'
    ·rw [if_neg hc,List.lookup_cons,hx] at h';exact h'
   obtain ⟨k',e,d⟩:=ih h2
   exact ⟨k',by rw [List.lookup_cons,hx];exact e,d⟩
def kG (X:Cx) (ifs:List Expr) (t:TT):Prop :=
 ∀ (pins:List (Addr×Obj)) (s:Shared) (σ:St) (H:Hp) (Q:Bool->Hp->Prop),Inv X pins σ H s->t σ H Q ->
  wpAny (model X.prog X.w) X.A (forIn ifs true fun c r=>if r=true then do let ok <- isTrue c X.env (eval c X.env);pure (ForInStep.yield ok) else pure (ForInStep.yield r)) (TP X pins σ Q) X.xe s
def WR:TT:=fun _ H Q=>Q true H
theorem jQ {X:Cx}:kG X [] WR:=fun _ _ _ H _ I h=>wpAny_tests_nil ⟨H,I,h⟩
theorem zk {X:Cx}{c:Expr}{t:TT}(h:PT X c t):kG X [c] t:=fun pins s σ H Q I hw=>wpAny_tests_one (h pins s σ H Q I hw)
section
variable {prog:Program}{w:World}{A:Around}{R:Result->Shared->Prop}{s:Shared}
theorem uB {elt target iter:Expr}{ifs:List Expr}{scope:Scope}{pos:Pos}{it acc:Value}{env:Env}(I:Nat->Shared->Prop)
  (turn:∀ n s,I n s->wpAny (model prog w) A (pyNext it) (fun r s₁=>match r with
   | none=>R (.ok .next) s₁
   | some v=>wpAny (model prog w) A (letOwnedTupleGo target it v) (fun _ s₂=>wpAny (model prog w) A (assign target env v) (fun _ s₃ =>
     wpAny (model prog w) A (forIn ifs true fun c r=>if r=true then do let ok <- isTrue c env (eval c env);pure (ForInStep.yield ok) else pure (ForInStep.yield r)) (fun ok s₄ =>
      if ok=true then wpAny (model prog w) A (eval elt env) (fun x s₅ =>
       wpAny (model prog w) A (call (.builtin "list.append") [acc,x]) (fun _ s₆=>∃ m,m<n/\I m s₆) (fun _ _=>False) s₅) (fun _ _=>False) s₄
      else ∃ m,m<n/\I m s₄) (fun _ _=>False) s₃) (fun _ _=>False) s₂) (fun _ _=>False) s₁) (fun _ _=>False) s)
  (n:Nat) (h:I n s) :
  codeAny (model prog w) A (.compLoop (.ListComp elt [⟨target,iter,ifs,0⟩] scope pos) 0 it acc env) R s:=by
 refine codeAny_loop rfl I (fun n s hI=>?_) n h
 show wpAny _ A ((compTurn (.ListComp elt [⟨target,iter,ifs,0⟩] scope pos) 0 it acc env).onRaise (fun x=>do noteFrame x env;theTreesLotGoes x)) _ _ s
 refine wpAny_noted ?_
 rw [compTurn_list]
 refine wpAny_bind (wpAny_standAt (wpAny_bind (wpAny_mono (turn n s hI) (fun r s₁ h₁=>?_) fun _ _ h'=>h'.elim)))
 cases r with
 | none=>exact wpAny_pure h₁
 | some v =>
  refine wpAny_bind (wpAny_mono h₁ (fun _ s₂ h₂=>?_) fun _ _ h'=>h'.elim)
  refine wpAny_bind (wpAny_mono h₂ (fun _ s₃ h₃=>wpAny_bind (wpAny_mono h₃ (fun ok s₄ h₄=>?_) fun _ _ h'=>h'.elim)) fun _ _ h'=>h'.elim)
  cases ok with
  | false=>exact wpAny_pure ⟨rfl,h₄⟩
  | true =>
   exact wpAny_bind (wpAny_bind (wpAny_mono h₄ (fun x s₅ h₅=>wpAny_bind (wpAny_mono h₅ (fun _ s₆ h₆=>wpAny_pure (wpAny_pure ⟨rfl,h₆⟩)) fun _ _ h'=>h'.elim)) fun _ _ h'=>h'.elim))
end
section
variable {X:Cx}{pos:Pos}
def Y7 (own:Nat) (caps:List Nat) (wi:TI) (g:TG) (ti:TT) (te:TE):TE:=fun σ H Q=>wi σ H fun J H1=>∀ acc,H1 acc=none ->
 ∃ W:Nat->Nat->St->Hp->Prop,(∃ m,W 0 m (yd own caps σ) (upd H1 acc (.lst [])))/\∀ i m σ' H',W i m σ' H' ->
  (J.stop i H'/\Q (.ref acc) H') \/
  (J.go i H'/\∃ NX:St->Hp->Prop,(∀ σ2 H2,NX σ2 H2->∃ m',m'<m/\W (i+1) m' σ2 H2) /\
   ∀ x H2,J.yld i H' x H2->g x σ' H2 fun σ3 H3=>ti σ3 H3 fun ok H4=>if ok=true then te σ3 H4 fun v H5=>∃ ys,H5 acc=some (.lst ys)/\ys.length<sizeLine/\NX σ3 (upd H5 acc (.lst (ys++[v]))) else NX σ3 H4)
theorem YS {osc:Scope}{ON N:List Str}{scope:Scope}{own:Nat}{caps:List Nat}{cl:List (Str×Addr)}{C:Addr}{pins:List (Addr×Obj)}{σ:St}{H:Hp}{s:Shared}{fp:List Addr}
  (S:CompSc osc ON scope own N caps) (hsc:X.env.scope=osc) (hcl:∀ x,cl.lookup x=if (x,NameKind.free)∈scope.names then X.env.cells.lookup x else none)
  (I:Inv X pins σ H s) (hC:s.heap.objs.size<=C) (hf:∀ b∈fp,zT X pins H b) (hfs:∀ b∈fp,b<s.heap.objs.size):(X.block scope cl C N s H fp).Ok:=by
 have fromX:∀ x c,cl.lookup x=some c->X.env.cells.lookup x=some c/\(x,NameKind.free)∈scope.names:=fun x c e=>by
  rw [hcl x] at e
  by_cases hm:(x,NameKind.free)∈scope.names
  ·rw [if_pos hm] at e;exact ⟨e,hm⟩
  ·rw [if_neg hm] at e;cases e
 refine ⟨I.ok.mod,S.kind,I.ok.glob,I.ok.blt,hC,fun x y c h1 h2=>I.ok.inj x y c (fromX x c h1).1 (fromX y c h2).1,fun x hx=>?_,fun x c h1 h2=>?_,I.ok.hd,I.ok.frames,.inl rfl,fun b hb=>?_,I.bs,Nat.le_trans I.ok.bsz I.sz,fun b o e hb=>?_,fun b hb hb2=>?_,I.stack,I.stkFree⟩
 ·-- has
  have key:∀ k,(k=NameKind.cell\/k=NameKind.free)->(relabel scope X.env).names.lookup x=some k->∃ c,cl.lookup x=some c:=fun k hk e=>by
   obtain ⟨k',e',d⟩:=zY (env:=X.env) e
   have hmem:=PySem.mem_of_lookup e'
   have hfree:k' = .free:=by
    rcases d with d | d
    ·subst d
     rcases hk with z | z
     ·exact absurd z (S.nocell _ hmem)
     ·exact z
    ·exact d.1
   subst hfree
   obtain ⟨_,hk2⟩:=S.fre _ hmem rfl
   obtain ⟨c,hc⟩:=I.ok.has x (by unfold Env.kindOf;rw [hsc];exact hk2)
   exact ⟨c,by rw [hcl x,if_pos hmem];exact hc⟩
  rcases hx with z | z
  ·exact key _ (.inl rfl) z
  ·exact key _ (.inr rfl) z
 ·-- cab
  have h1':scope.names.lookup x=some .local:=of_decide_eq_true h1
  have hm:=(fromX x c h2).2
  have:=(S.fre _ hm rfl).1
  rw [h1'] at this
  cases this
 ·refine ⟨Nat.ne_of_lt (Nat.lt_of_lt_of_le (hfs b hb) hC),fun x c e=>(hf b hb).2.2.2.2.1 x c (fromX x c e).1⟩
 ·rcases (hf b hb).2.2.2.1 with z | z
  ·exact I.ok.noex b o e z
  ·exact absurd (Nat.lt_of_lt_of_le (Heap.lt_size e) (Nat.le_trans I.ok.bsz z)) (Nat.lt_irrefl _)
 ·rcases List.mem_cons.mp (I.stkSub b hb2) with z | z
  ·exact (hf b hb).2.1 z
  ·exact (hf b hb).2.2.1 z
theorem yj {osc:Scope}{ON N:List Str}{scope:Scope}{own:Nat}{caps:List Nat}{cl:List (Str×Addr)}{C D:Addr}{pins:List (Addr×Obj)}{σ:St}{H:Hp}{s:Shared}{h1:Heap}{fp:List Addr}
  (S:CompSc osc ON scope own N caps) (hsc:X.env.scope=osc) (hN:X.N=ON) (hcl:∀ x,cl.lookup x=if (x,NameKind.free)∈scope.names then X.env.cells.lookup x else none)
  (I:Inv X pins σ H s) (hf:∀ b∈fp,zT X pins H b) (hfs:∀ b∈fp,b<s.heap.objs.size) (hD:D=s.heap.objs.size) (hC:C=s.heap.objs.size+1)
  (k:∀ b o,s.heap.get? b=some o->h1.get? b=some o) (eD:h1.get? D=some { cls:=.type "list",data:=.seq #[] }) (hn:h1.Ns C fun _=>none) (t':Nat) :
  Inv (X.block scope cl C N s H fp) [] (yd own caps σ) (upd H D (.lst [])) { s with heap:=h1,toks:=t' }:=by
 subst hD
 subst hC
 have hCs:s.heap.objs.size<=s.heap.objs.size+1:=Nat.le_succ _
 have ok:=YS (C:=s.heap.objs.size+1) S hsc hcl I hCs hf hfs
 have fromX:∀ x c,cl.lookup x=some c->X.env.cells.lookup x=some c/\(x,NameKind.free)∈scope.names:=fun x c e=>by
  rw [hcl x] at e
  by_cases hm:(x,NameKind.free)∈scope.names
  ·rw [if_pos hm] at e;exact ⟨e,hm⟩
  ·rw [if_neg hm] at e;cases e
 have fr:∀ a,s.heap.objs.size<=a->H a=none:=fun a ha=>I.hok.fresh ha
 have newD:qB X.prog X.w (upd H s.heap.objs.size (.lst [])) h1 s.heap.objs.size (.lst []):=⟨Nat.zero_le _,[],0,.nil,eD⟩
 have cellK:∀ x c,X.env.cells.lookup x=some c->∀ v,s.heap.IsCell c v->h1.IsCell c v:=fun x c _ v ⟨o,ho,hd⟩=>⟨o,k c o ho,hd⟩
 refine ⟨ok,rfl,I.bare,Un.laid k (Nat.le_refl _) (fr _ (Nat.le_refl _)),⟨_,hn,fun i x v e1 e2 e3=>?_⟩,fun x c e=>?_,?_,fun x c e=>?_,fun p hp=>absurd (show p∈([]:List (Addr×Obj)) from hp) (by simp),I.hok.laid k (Nat.le_refl _) newD,?_⟩
 ·-- the captured names
  have e1':N[i]? = some x:=e1
  have hi:own<=i:=by
   by_cases hi:own<=i
   ·exact hi
   ·unfold yd at e2
    rw [List.getElem?_append_left (by simp;omega),List.getElem?_replicate] at e2
    split at e2 <;> cases e2
  obtain ⟨j',rfl⟩:∃ j',i=own+j':=⟨i-own,by omega⟩
  have e2':(caps.map fun j=>(σ[j]?).getD none)[j']? = some (some v):=by
   unfold yd at e2
   rw [List.getElem?_append_right (by simp)] at e2
   simpa using e2
  rw [List.getElem?_map] at e2'
  cases hj:caps[j']? with
  | none=>rw [hj] at e2';cases e2'
  | some j =>
   rw [hj] at e2'
   have e3':(σ[j]?).getD none=some v:=Option.some.inj e2'
   have e4:σ[j]? = some (some v):=by
    cases q:σ[j]? with
    | none=>rw [q] at e3';cases e3'
    | some z=>rw [q] at e3';exact congrArg some e3'
   have hz:(x,j)∈(N.drop own).zip caps:=by
    refine List.mem_of_getElem? (i:=j') ?_
    rw [List.getElem?_zip_eq_some]
    exact ⟨by rw [List.getElem?_drop];exact e1',hj⟩
   obtain ⟨c1,c2⟩:=S.cap _ hz
   obtain ⟨_,hk⟩:=S.fre _ c2 rfl
   have hkX:X.env.kindOf x=some .cell\/X.env.kindOf x=some .free:=by unfold Env.kindOf;rw [hsc];exact hk
   obtain ⟨m,hm,hl⟩:=I.loc
   obtain ⟨u,ru,l⟩:=hl j x v (by rw [hN];exact c1) e4 (by
    rcases hkX with z | z
    ·exact .inr (.inl z)
    ·exact .inr (.inr z))
   refine ⟨u,ru,?_⟩
   rcases l with ⟨l1,_⟩ | ⟨_,c,lc,lv⟩
   ·rcases hkX with z | z
    ·rw [z] at l1;cases l1
    ·rw [z] at l1;cases l1
   ·refine .inr ⟨?_,c,by show cl.lookup x=some c;rw [hcl x,if_pos c2];exact lc,cellK x c lc _ lv⟩
    rcases e3 with z | z
    ·obtain ⟨k',e',d⟩:=zY (env:=X.env) z
     have:=(S.fre _ c2 rfl).1
     rw [e'] at this
     cases this
     rcases d with d | d
     ·cases d
     ·cases d.2
    ·exact z
 ·obtain ⟨v,z⟩:=I.cell x c (fromX x c e).1
  exact ⟨v,cellK x c (fromX x c e).1 v z⟩
 ·show upd H s.heap.objs.size (.lst []) (s.heap.objs.size+1)=none
  rw [j8 (Nat.ne_of_gt (Nat.lt_succ_self _))]
  exact fr _ hCs
 ·have e':=(fromX x c e).1
  obtain ⟨v,z⟩:=I.cell x c e'
  rw [j8 (Nat.ne_of_lt z.lt)]
  exact I.freeC x c e'
 ·unfold yd
  show _=N.length
  rw [List.length_append,List.length_replicate,List.length_map,S.len]
structure BlockAt (X:Cx) (pins:List (Addr×Obj)) (H:Hp) (C:Addr):Prop where
 free:H C=none
 loc:C≠X.env.locals
 new:X.s₀.heap.objs.size<=C
 cell:∀ x c,X.env.cells.lookup x=some c->c≠C
 pin:∀ p∈X.pn++pins,p.1≠C
theorem BlockAt.gone {pins:List (Addr×Obj)}{σ:St}{H:Hp}{C:Addr}{s:Shared}{h':Heap}(B:BlockAt X pins H C) (I:Inv X pins σ H s) (hs:Heap.SameBut C s.heap h'):Inv X pins σ H { s with heap:=h' } :=
 I.turned (t':=s.toks) (fun b o hb e=>(hs.2 b hb).trans e) B.free B.loc (.inr B.new) B.cell B.pin
theorem JW {osc:Scope}{ON N:List Str}{scope:Scope}{own:Nat}{caps:List Nat}{cl:List (Str×Addr)}{tg elt iter:Expr}{ifs:List Expr}{g:TG}{ti:TT}{te:TE}{pins:List (Addr×Obj)}{σ:St}{H:Hp}{s:Shared}{fp:List Addr}{it:Addr}
  {tn:Nat->Heap->Prop} {J:It} {Q:VK} {RR:Value->Addr->Result->Shared->Prop} {E:Value->Shared->Prop}
  (hc:X.calm=true) (S:CompSc osc ON scope own N caps) (hsc:X.env.scope=osc) (hN:X.N=ON) (hcl:∀ x,cl.lookup x=if (x,NameKind.free)∈scope.names then X.env.cells.lookup x else none)
  (hg:∀ cl C s H ex,PG (X.block scope cl C N s H ex) tg g) (hif:∀ cl C s H ex,kG (X.block scope cl C N s H ex) ifs ti) (he:∀ cl C s H ex,PE (X.block scope cl C N s H ex) elt te)
  (I:Inv X pins σ H s) (T:Turn X.prog X.w X.K tg J fp it tn) (st:tn 0 s.heap) (hf:∀ b∈fp,zT X pins H b)
  (hw:∀ acc,H acc=none->∃ W:Nat->Nat->St->Hp->Prop,(∃ m,W 0 m (yd own caps σ) (upd H acc (.lst [])))/\∀ i m σ' H',W i m σ' H' ->
   (J.stop i H'/\Q (.ref acc) H')\/(J.go i H'/\∃ NX:St->Hp->Prop,(∀ σ2 H2,NX σ2 H2->∃ m',m'<m/\W (i+1) m' σ2 H2) /\
    ∀ x H2,J.yld i H' x H2->g x σ' H2 fun σ3 H3=>ti σ3 H3 fun ok H4=>if ok=true then te σ3 H4 fun v H5=>∃ ys,H5 acc=some (.lst ys)/\ys.length<sizeLine/\NX σ3 (upd H5 acc (.lst (ys++[v]))) else NX σ3 H4))
  (fin:∀ (D C:Addr) (H':Hp) (s':Shared),Inv X pins σ H' s'->BlockAt X pins H' C->(∃ m,s'.heap.Ns C m)->Q (.ref D) H'->RR (.ref D) C (.ok .next) s') :
  wpAny (model X.prog X.w) X.A (newList []) (fun acc s₃=>wpAny (model X.prog X.w) X.A (newFunctionEnv scope X.env.globals cl [] X.env.qual none .none (some X.env)) (fun cenv s₄ =>
   codeAny (model X.prog X.w) X.A (.compStart (.ListComp elt [⟨tg,iter,ifs,0⟩] scope pos) 0 (.ref it) acc { cenv with scope:=relabel scope X.env }) (RR acc cenv.locals) s₄) E s₃) E s:=by
 have hfs:∀ b∈fp,b<s.heap.objs.size:=fun b hb=>by
  obtain ⟨o,e,_⟩:=T.obj _ _ st b hb
  exact Heap.lt_size e
 refine wpAny_newObj_type (wpAny_newFunctionEnv S.nocell (by intro y hy;simp at hy) (fun h₁ hns₁ hsb₁=>?_) S.kind)
 dsimp only at hns₁ hsb₁ ⊢
 generalize hH2:s.heap.push { cls:=.type "list",dict:=none,data:=.seq ([]:List Value).toArray }=H2 at hns₁ hsb₁ ⊢
 have hCsz:H2.objs.size=s.heap.objs.size+1:=by rw [<- hH2,Heap.size_push]
 have old:∀ b o,s.heap.get? b=some o->h₁.get? b=some o:=fun b o e=>hsb₁.extBut b o (Nat.ne_of_lt (by rw [hCsz];exact Nat.lt_succ_of_lt (Heap.lt_size e))) (Heap.get?_push_of_some _ (hH2 ▸ Heap.get?_push_of_some _ e))
 have eD:h₁.get? s.heap.objs.size=some { cls:=.type "list",data:=.seq #[] }:=hsb₁.extBut _ _ (Nat.ne_of_lt (by omega)) (Heap.get?_push_of_some _ (hH2 ▸ Heap.get?_push_size _ rfl))
 have hDn:H s.heap.objs.size=none:=I.hok.fresh (Nat.le_refl _)
 obtain ⟨W,⟨m0,w0⟩,turn⟩:=hw s.heap.objs.size hDn
 have hns:h₁.Ns H2.objs.size fun _=>none:=hns₁
 have I1:Inv (X.block scope cl H2.objs.size N s H fp) [] (yd own caps σ) (upd H s.heap.objs.size (.lst [])) { s with heap:=h₁,toks:=s.toks+([]:List (Str×Value)).length } :=
  yj S hsc hN hcl I hf hfs rfl hCsz old eD hns _
 have st1:tn 0 h₁:=T.keep 0 _ _ st fun b _ o e=>old b o e
 have fpB:∀ {H':Hp},(∀ b∈fp,H' b=none)->∀ b∈fp,zT (X.block scope cl H2.objs.size N s H fp) [] H' b:=fun {H'} hn b hb=>by
  have ok:=I1.ok
  exact ⟨hn b hb,(ok.exf b hb).1,ok.exfs b hb,.inl hb,(ok.exf b hb).2,fun p hp=>absurd (show p∈([]:List (Addr×Obj)) from hp) (by simp)⟩
 have back:∀ {σ':St} {H':Hp} {s':Shared},Inv (X.block scope cl H2.objs.size N s H fp) [] σ' H' s'->Q (.ref s.heap.objs.size) H'->RR (.ref s.heap.objs.size) H2.objs.size (.ok .next) s':=fun {σ' H' s'} J1 q=>by
  have J2:Inv X pins σ H' s':=I.call' (ch:=fp) J1.os J1.base J1.hok J1.bare fun b hb=>⟨(hf b hb).2.2.2.1,(hf b hb).2.1,(hf b hb).2.2.2.2.1,(hf b hb).2.2.2.2.2⟩
  obtain ⟨m,hm,_⟩:=J1.loc
  refine fin _ _ H' s' J2 ⟨J1.free,Nat.ne_of_gt (Nat.lt_of_lt_of_le I.lt (by omega)),Nat.le_trans I.sz (by omega),fun x c e z=>?_,fun p hp z=>?_⟩ ⟨m,hm⟩ q
  ·obtain ⟨v,y⟩:=I.cell x c e
   have h1:H2.objs.size<s.heap.objs.size:=z ▸ y.lt
   exact absurd h1 (by omega)
  ·have h1:H2.objs.size<s.heap.objs.size:=z ▸ Heap.lt_size (I.pin p hp).1
   exact absurd h1 (by omega)
 have loop:∀ s₃:Shared,s₃={ s with heap:=h₁,toks:=s.toks+([]:List (Str×Value)).length } ->
   codeAny (model X.prog X.w) X.A (.compLoop (.ListComp elt [⟨tg,iter,ifs,0⟩] scope pos) 0 (.ref it) (.ref s.heap.objs.size) (compEnvC scope cl H2.objs.size X.env)) (RR (.ref s.heap.objs.size) H2.objs.size) s₃:=by
  rintro s₃ rfl
  refine uB (fun n s'=>∃ i σ' H',Inv (X.block scope cl H2.objs.size N s H fp) [] σ' H' s'/\tn i s'.heap/\(∀ b∈fp,H' b=none)/\W i n σ' H') ?_ m0
   ⟨0,_,_,I1,st1,fun b hb=>by rw [j8 (Nat.ne_of_lt (hfs b hb))];exact (hf b hb).1,w0⟩
  rintro n s3 ⟨i,σ3,H3,I3,st3,fr3,w3⟩
  rcases turn i n σ3 H3 w3 with ⟨stop,qn⟩ | ⟨go,NX,hNX,step⟩
  ·refine thn (T.done (X.block scope cl H2.objs.size N s H fp) rfl rfl rfl hc i [] s3 σ3 H3 _ I3 (fpB fr3) st3 stop) fun r s4 ⟨hr,I4⟩=>?_
   subst hr
   exact back I4 qn
  ·refine thn (T.item (X.block scope cl H2.objs.size N s H fp) rfl rfl rfl hc i [] s3 σ3 H3 _ I3 (fpB fr3) st3 go) fun r s4 ⟨u,hr,h4⟩=>?_
   subst hr
   refine thn h4 fun _ s5 ⟨x,H5,I5,r5,y5,st5,fr5⟩=>?_
   have I5':=I5.pinned (fpB fr5) (T.obj _ _ st5)
   refine thn (hg cl H2.objs.size s H fp _ s5 σ3 H5 x u _ I5' r5 (step x H5 y5)) fun _ s6 ⟨σ6,H6,I6,q6⟩=>?_
   refine thn (hif cl H2.objs.size s H fp _ s6 σ6 H6 _ I6 q6) fun ok s7 ⟨H7,I7,q7⟩=>?_
   have again:∀ {s8:Shared} {σ8:St} {H8:Hp},Inv (X.block scope cl H2.objs.size N s H fp) ([]++xU fp s5.heap) σ8 H8 s8->NX σ8 H8->∃ m,m<n/\∃ i σ' H',Inv (X.block scope cl H2.objs.size N s H fp) [] σ' H' s8/\tn i s8.heap/\(∀ b∈fp,H' b=none)/\W i m σ' H':=fun {s8 σ8 H8} I8 n8=>by
    obtain ⟨m',hm,w8⟩:=hNX σ8 H8 n8
    refine ⟨m',hm,i+1,σ8,H8,I8.unpinned,T.keep _ _ _ st5 fun b hb o e=>(I8.pin (b,o) (List.mem_append_right _ (List.mem_append_right _ (qt hb e)))).1,fun b hb=>?_,w8⟩
    obtain ⟨o,e,d⟩:=T.obj _ _ st5 b hb
    exact (I8.pin (b,o) (List.mem_append_right _ (List.mem_append_right _ (qt hb e)))).2.1
   cases ok with
   | false =>
    rw [if_neg Bool.false_ne_true] at q7 ⊢
    exact again I7 q7
   | true =>
    rw [if_pos rfl] at q7 ⊢
    refine thn (he cl H2.objs.size s H fp _ s7 σ6 H7 _ I7 q7) fun v s8 ⟨y,H8,I8,r8,ys,e8,z8,q8⟩=>?_
    refine thn (qz _ s8 σ6 H8 (.ref s.heap.objs.size) [y] _ [v] (fun _ H9=>NX σ6 H9) I8 rfl (.cons r8 .nil) ⟨_,ys,y,rfl,rfl,e8,z8,q8⟩) fun _ s9 ⟨_,H9,I9,_,q9⟩=>?_
    exact again I9 q9
 exact codeAny_compStart_list (loop _ rfl) (T.self _ 0 _ _ _ st1 (loop _ rfl))
theorem Jc {osc:Scope}{ON N:List Str}{scope:Scope}{own:Nat}{caps:List Nat}{pins:List (Addr×Obj)}{σ:St}{H:Hp}{s:Shared}(S:CompSc osc ON scope own N caps) (hsc:X.env.scope=osc) (I:Inv X pins σ H s) :
  ∀ x∈scope.names,x.2 = .free->∃ c,X.env.cells.lookup x.1=some c:=fun x hx hk=>I.ok.has x.1 (by unfold Env.kindOf;rw [hsc];exact (S.fre x hx hk).2)
theorem jZ {osc:Scope}{ON N:List Str}{scope:Scope}{own:Nat}{caps:List Nat}{tg elt iter:Expr}{ifs:List Expr}{wi:TI}{g:TG}{ti:TT}{te:TE}(S:CompSc osc ON scope own N caps)
  (hc:X.calm=true) (hsc:X.env.scope=osc) (hN:X.N=ON) (hi:PI X tg iter wi)
  (hg:∀ cl C s H ex,PG (X.block scope cl C N s H ex) tg g) (hif:∀ cl C s H ex,kG (X.block scope cl C N s H ex) ifs ti) (he:∀ cl C s H ex,PE (X.block scope cl C N s H ex) elt te)
  (hs:∀ x,foldedSetIterable iter X.env x=pure x:=by intro _;rfl):PE X (.ListComp elt [⟨tg,iter,ifs,0⟩] scope pos) (Y7 own caps wi g ti te):=by
 intro pins s σ H Q I h
 obtain ⟨cl,hclos,hcl⟩:=y6 (Jc S hsc I)
 rw [eval_ListComp]
 refine wpAny_comprehension_free (use:=none) rfl hs hclos S.kind S.loc (thn (hi pins s σ H _ I h) fun v s1 h1=>thn h1 fun itv s2 h2=>?_)
 obtain ⟨it,fp,tn,J,H2,e,I2,T,st2,f2,hw⟩:=h2
 subst e
 refine JW (RR:=fun acc C=>compPost (model X.prog X.w) X.A X.xe none (EP X pins σ Q) acc C) hc S hsc hN hcl hg hif he I2 T st2 f2 hw fun D C H' s' J1 B ⟨m,hm⟩ q=>?_
 exact ⟨m,hm,fun h' hs'=>⟨.ref D,H',B.gone J1 hs',rfl,q⟩⟩
theorem XU {osc:Scope}{ON N:List Str}{scope:Scope}{own:Nat}{caps:List Nat}{tg elt iter:Expr}{ifs:List Expr}{wi:TI}{g:TG}{ti:TT}{te:TE}{j:Nat}{y:Str}{py spos:Pos}(S:CompSc osc ON scope own N caps)
  (hnd:X.N.Nodup) (hj:X.N[j]? = some y) (hy:Loc X.env.scope y)
  (hc:X.calm=true) (hsc:X.env.scope=osc) (hN:X.N=ON) (hi:PI X tg iter wi)
  (hg:∀ cl C s H ex,PG (X.block scope cl C N s H ex) tg g) (hif:∀ cl C s H ex,kG (X.block scope cl C N s H ex) ifs ti) (he:∀ cl C s H ex,PE (X.block scope cl C N s H ex) elt te)
  (hsw:swapsWith (.ListComp elt [⟨tg,iter,ifs,0⟩] scope pos) (some (.Name y py)) spos.line X.env=pure true:=by rfl)
  (hf:X.fn y=true\/X.env.scope.names.lookup y=some .local:=by first | exact .inl rfl | exact .inr rfl | assumption)
  (hs:∀ x,foldedSetIterable iter X.env x=pure x:=by intro _;rfl):PS X (.Assign [.Name y py] (.ListComp elt [⟨tg,iter,ifs,0⟩] scope pos) spos) (Up (Y7 own caps wi g ti te) (wZ j)):=by
 intro pins s σ H D0 I h
 obtain ⟨cl,hclos,hcl⟩:=y6 (Jc S hsc I)
 rw [exec_Assign_Name_used _ _ _ _ hsw]
 refine wpAny_bind (wpAny_standAt (wpAny_bind ?_))
 show wpAny _ X.A (do let _ <- comprehension (.ListComp elt [⟨tg,iter,ifs,0⟩] scope pos) scope X.env _ (newList []) false (eval iter X.env) (some (assign (.Name y py) X.env))) _ _ s
 refine wpAny_bind (wpAny_mono (wpAny_comprehension_free (use:=some (assign (.Name y py) X.env)) (Q:=fun _ s'=>SP X pins D0 .next s') rfl hs hclos S.kind S.loc
  (thn (hi pins s σ H _ I h) fun v s1 h1=>thn h1 fun itv s2 h2=>?_)) (fun _ s' hq=>wpAny_pure (wpAny_pure hq)) fun _ _ e=>e)
 obtain ⟨it,fp,tn,J,H2,e,I2,T,st2,f2,hw⟩:=h2
 subst e
 refine JW (Q:=fun v H'=>D0.nx (σ.set j (some v)) H') (RR:=fun acc C=>compPost (model X.prog X.w) X.A X.xe (some (assign (.Name y py) X.env)) (fun _ s'=>SP X pins D0 .next s') acc C) hc S hsc hN hcl hg hif he I2 T st2 f2 hw fun D C H' s' J1 B ⟨m,hm⟩ q=>?_
 show wpAny _ X.A (assign (.Name y py) X.env (.ref D)) _ _ s'
 refine wpAny_assign_Name (gv (v:=V.ref D) J1 hnd hj hy rfl (fun s2 J2 ⟨a,hsame,ha⟩=>?_) hf)
 have hCa:C≠a:=by
  rcases ha with z | z
  ·rw [z];exact B.loc
  ·exact fun z2=>B.cell y a z z2.symm
 exact ⟨m,hm.sameBut hsame hCa,fun h' hs'=>⟨_,H',B.gone J2 hs',q⟩⟩
end
theorem qf {K:PySem.W.Frag}{a acc:Addr}{xs:List V}{g:TG}{ti:TT}{te:TE}{R:Hp->Prop}{σ:St}{H:Hp}(Pv:Nat->St->Hp->Prop) (h0:Pv 0 σ H) (hl:∀ i σ H,i<=xs.length->Pv i σ H->SqL K H a xs)
  (hs:∀ i x σ H,xs[i]? = some x->Pv i σ H->g x σ H fun σ3 H3=>ti σ3 H3 fun ok H4=>if ok=true then te σ3 H4 fun v H5=>∃ ys,H5 acc=some (.lst ys)/\ys.length<sizeLine/\Pv (i+1) σ3 (upd H5 acc (.lst (ys++[v]))) else Pv (i+1) σ3 H4)
  (hd:∀ σ H,Pv xs.length σ H->R H) :
  ∃ W:Nat->Nat->St->Hp->Prop,(∃ m,W 0 m σ H)/\∀ i m σ' H',W i m σ' H' ->
   ((Itl K a).stop i H'/\R H')\/((Itl K a).go i H'/\∃ NX:St->Hp->Prop,(∀ σ2 H2,NX σ2 H2->∃ m',m'<m/\W (i+1) m' σ2 H2) /\
    ∀ x H2,(Itl K a).yld i H' x H2->g x σ' H2 fun σ3 H3=>ti σ3 H3 fun ok H4=>if ok=true then te σ3 H4 fun v H5=>∃ ys,H5 acc=some (.lst ys)/\ys.length<sizeLine/\NX σ3 (upd H5 acc (.lst (ys++[v]))) else NX σ3 H4):=by
 refine ⟨fun i m σ H=>m=xs.length-i/\i<=xs.length/\Pv i σ H,⟨xs.length,by simp,Nat.zero_le _,h0⟩,?_⟩
 rintro i m σ H ⟨rfl,hi,p⟩
 have q:=hl i σ H hi p
 by_cases hlt:i<xs.length
 ·refine .inr ⟨⟨xs,xs[i],q,by simp [hlt]⟩,Pv (i+1),fun σ' H' p'=>⟨xs.length-(i+1),by omega,rfl,hlt,p'⟩,fun x H' y=>?_⟩
  obtain ⟨e,y⟩:=y
  subst e
  exact hs i x σ _ (y xs q) p
 ·have e:i=xs.length:=by omega
  subst e
  exact .inl ⟨⟨xs,q,Nat.le_refl _⟩,hd σ H p⟩
theorem Q5 {K:PySem.W.Frag}{a acc:Addr}{xs:List V}{g:TG}{ti:TT}{te:TE}{R:Hp->Prop}{σ:St}{H:Hp}(Pv:Nat->St->Hp->Prop) (h0:Pv 0 σ H) (hl:∀ i σ H,i<=xs.length->Pv i σ H->SqT K H a xs)
  (hs:∀ i x σ H,xs[i]? = some x->Pv i σ H->g x σ H fun σ3 H3=>ti σ3 H3 fun ok H4=>if ok=true then te σ3 H4 fun v H5=>∃ ys,H5 acc=some (.lst ys)/\ys.length<sizeLine/\Pv (i+1) σ3 (upd H5 acc (.lst (ys++[v]))) else Pv (i+1) σ3 H4)
  (hd:∀ σ H,Pv xs.length σ H->R H) :
  ∃ W:Nat->Nat->St->Hp->Prop,(∃ m,W 0 m σ H)/\∀ i m σ' H',W i m σ' H' ->
   ((Itt K a).stop i H'/\R H')\/((Itt K a).go i H'/\∃ NX:St->Hp->Prop,(∀ σ2 H2,NX σ2 H2->∃ m',m'<m/\W (i+1) m' σ2 H2) /\
    ∀ x H2,(Itt K a).yld i H' x H2->g x σ' H2 fun σ3 H3=>ti σ3 H3 fun ok H4=>if ok=true then te σ3 H4 fun v H5=>∃ ys,H5 acc=some (.lst ys)/\ys.length<sizeLine/\NX σ3 (upd H5 acc (.lst (ys++[v]))) else NX σ3 H4):=by
 refine ⟨fun i m σ H=>m=xs.length-i/\i<=xs.length/\Pv i σ H,⟨xs.length,by simp,Nat.zero_le _,h0⟩,?_⟩
 rintro i m σ H ⟨rfl,hi,p⟩
 have q:=hl i σ H hi p
 by_cases hlt:i<xs.length
 ·refine .inr ⟨⟨xs,xs[i],q,by simp [hlt]⟩,Pv (i+1),fun σ' H' p'=>⟨xs.length-(i+1),by omega,rfl,hlt,p'⟩,fun x H' y=>?_⟩
  obtain ⟨e,y⟩:=y
  subst e
  exact hs i x σ _ (y xs q) p
 ·have e:i=xs.length:=by omega
  subst e
  exact .inl ⟨⟨xs,q,Nat.le_refl _⟩,hd σ H p⟩
theorem xC {lo:Int}{n:Nat}{acc:Addr}{g:TG}{ti:TT}{te:TE}{R:Hp->Prop}{σ:St}{H:Hp}(Pv:Nat->St->Hp->Prop) (h0:Pv 0 σ H)
  (hs:∀ i σ H,i<n->Pv i σ H->g (.int (lo+i)) σ H fun σ3 H3=>ti σ3 H3 fun ok H4=>if ok=true then te σ3 H4 fun v H5=>∃ ys,H5 acc=some (.lst ys)/\ys.length<sizeLine/\Pv (i+1) σ3 (upd H5 acc (.lst (ys++[v]))) else Pv (i+1) σ3 H4)
  (hd:∀ σ H,Pv n σ H->R H) :
  ∃ W:Nat->Nat->St->Hp->Prop,(∃ m,W 0 m σ H)/\∀ i m σ' H',W i m σ' H' ->
   ((Itr lo n).stop i H'/\R H')\/((Itr lo n).go i H'/\∃ NX:St->Hp->Prop,(∀ σ2 H2,NX σ2 H2->∃ m',m'<m/\W (i+1) m' σ2 H2) /\
    ∀ x H2,(Itr lo n).yld i H' x H2->g x σ' H2 fun σ3 H3=>ti σ3 H3 fun ok H4=>if ok=true then te σ3 H4 fun v H5=>∃ ys,H5 acc=some (.lst ys)/\ys.length<sizeLine/\NX σ3 (upd H5 acc (.lst (ys++[v]))) else NX σ3 H4):=by
 refine ⟨fun i m σ H=>m=n-i/\i<=n/\Pv i σ H,⟨n,by simp,Nat.zero_le _,h0⟩,?_⟩
 rintro i m σ H ⟨rfl,hi,p⟩
 by_cases hlt:i<n
 ·refine .inr ⟨hlt,Pv (i+1),fun σ' H' p'=>⟨n-(i+1),by omega,rfl,hlt,p'⟩,fun x H' y=>?_⟩
  obtain ⟨e,y⟩:=y
  subst e y
  exact hs i σ _ hlt p
 ·have e:i=n:=by omega
  subst e
  exact .inl ⟨Nat.le_refl _,hd σ H p⟩
end L2
end
section
namespace L2
open PySem PySem.Spec PyProof.Rows
structure Cal (P:Program) (w:World) (K:PySem.W.Frag) (mg:Str->Option Value) (base:Heap) (k:Nat) (x:Str) (ps:List Str) (sp:Sp):Prop where
 ex:∃ f fd,FnOk P w K mg base CX0 k f fd ps sp/\zN K fd ps []/\mg x=some (.ref f)/\PySem.W.keepIn K (.ref f)=true
theorem jd {X:Cx}{k:Nat}{x:Str}{ps:List Str}{sp:Sp}{e:Expr}{es:List Expr}{t:TA}{p pos:Pos}(c:Cal X.prog X.w X.K X.mg X.base k x ps sp) (hr:Room k X.A) (hg:Gl X x) (ha:PA X (e::es) t)
  (hdb:(x == ("__debug__" : Str))=false:=by decide) (he:starEach (e::es) X.env=(false,eval e X.env)::starEach es X.env:=by rfl) (hpl:(backTo pos (starEach es X.env)).any (·.1)=false:=by rfl) :
  PE X (.Call (.Name x p) (e::es) [] pos) (U1 sp [] E0 t):=by
 obtain ⟨f,fd,F,hb,hm,hk⟩:=c.ex
 exact Vx F hr hg hm hk hb .nil U8 ha hdb he hpl
theorem Cal.mk' {P:Program}{w:World}{K:PySem.W.Frag}{mg:Str->Option Value}{base:Heap}{k:Nat}{x:Str}{ps:List Str}{sp:Sp}{st:Stmt}{h:Heap}{f:Addr}{oc:Value}{od an:Option Addr}{osl:Array (Option Value)}{kV doc pm cdv ct:Value}
  (X:K.In h) (G:h.Ns mainGlobals mg) (a:PySem.W.nsIn K mainGlobals x=some (some (.ref f)))
  (l:K.lookup f=some ⟨oc,od,.func (PySem.W.fnOf x x (jR st) (jJ st) (j6 st) .none kV doc pm an cdv ct),osl⟩) (c:PySem.W.codeIn K cdv x=true) (k':PySem.W.keepIn K (.ref f)=true)
  (hb:∀ (kV doc pm:Value) (an:Option Addr) (cdv ct:Value) (us:List Value),us.length=ps.length->bindArgs (PySem.W.fnOf x x (jR st) (jJ st) (j6 st) .none kV doc pm an cdv ct) ⟨us,[]⟩=pure (ps.zip us))
  (ok:∀ {f:Addr} {fd:FuncData},Fun K x x st f fd->FnOk P w K mg base CX0 k f fd ps sp):Cal P w K mg base k x ps sp:=by
 have F:=yp (st:=st) l c k'
 exact ⟨f,_,ok F,F.binds hb,PySem.W.mg_of X G a,k'⟩
section
variable {X:Cx}
def Z7 (i j:Int):Prop:=0<j/\j<2 ^ 200
theorem vN:OpR X (binaryOp .FloorDiv) (rI Z7 fun i j=>.int (i / j)):=opI fun i j _ _ _ _ _ hc q=>by
 have h1:(0:Int)<j:=hc.1
 have h2:j<2 ^ 200:=hc.2
 refine floordiv_int (by omega) (by rw [Int.fdiv_eq_ediv_of_nonneg i (by omega)];exact q) (.inl (PyProof.noPylong_of_log2 ?_))
 have h3:j.natAbs<2 ^ 200:=by omega
 have h4:j.natAbs≠0:=by omega
 have:=(Nat.log2_lt h4).mpr h3
 omega
theorem Yn (hc:X.calm=true):x5 X (.builtin "all") (fun xs H Q=>∃ (p:Addr) (bs:List Bool),xs=[.ref p]/\SqL X.K H p (bs.map V.bl)/\Q (.bl (bs.all fun b=>b)) H):=by
 intro pins s σ H xs us Q I r h
 obtain ⟨p,bs,rfl,hq,q⟩:=h
 obtain ⟨u,rfl,ru⟩:=yo r
 cases ru
 obtain ⟨its,rv,pl,hz⟩:=I.list hq
 have hne:p≠s.heap.objs.size:=by
  obtain ⟨o,n,e,_⟩:=id pl
  exact Nat.ne_of_lt (Heap.lt_size e)
 have hlen:its.length=bs.length:=by rw [<- rv.length,List.length_map]
 have itsAt:∀ i v,its[i]? = some v->∃ b,bs[i]? = some b/\v=Value.bool b:=fun i v e=>by
  have hi:i<its.length:=(List.getElem?_eq_some_iff.mp e).1
  have hb:(bs.map V.bl)[i]? = some (V.bl (bs[i]'(by omega))):=by rw [List.getElem?_map,List.getElem?_eq_getElem (by omega)];rfl
  obtain ⟨u,h1,h2⟩:=rv.get hb
  rw [e] at h1
  cases h1
  exact ⟨bs[i]'(by omega),List.getElem?_eq_getElem (by omega),h2⟩
 refine call_all_walk (wpAny_pyIter_list pl.isList ?_)
 refine ⟨s.heap.objs.size,_,_,_,_,_,fun i=>bs.getD i true,rfl,Walks.list (show (X.A.in1).handled=none from I.ok.hd hc) s.heap.objs.size p hne its.toArray,⟨⟨_,Heap.get?_push_size _ rfl,rfl,rfl⟩,pl.isList.at fun o e=>Heap.get?_push_of_some _ e⟩,?_,?_⟩
 ·intro i v s' Q' E' hP hQ
  obtain ⟨b,hb,rfl⟩:=itsAt i v (by simpa using hP)
  have e:bs.getD i true=b:=by rw [List.getD_eq_getElem?_getD,hb];rfl
  have hQ:Q' (bs.getD i true) s':=hQ
  rw [e] at hQ
  exact wpAny_truthy_bool hQ
 ·intro h' tk hk
  have e:((List.range its.toArray.size).all fun i=>bs.getD i true)=bs.all fun b=>b:=by
   rw [List.size_toArray,hlen,Bool.eq_iff_iff,List.all_eq_true,List.all_eq_true]
   constructor
   ·intro z b hb
    obtain ⟨i,hi,rfl⟩:=List.mem_iff_getElem.mp hb
    have:=z i (List.mem_range.mpr hi)
    rw [List.getD_eq_getElem?_getD,List.getElem?_eq_getElem hi] at this
    exact this
   ·intro z i hi
    have hi':=List.mem_range.mp hi
    rw [List.getD_eq_getElem?_getD,List.getElem?_eq_getElem hi']
    exact z _ (List.getElem_mem hi')
  rw [e]
  refine ⟨.bl _,H,I.kept (t':=tk) fun b o eo=>hk b o (by
   intro z
   have:=List.mem_singleton.mp z
   subst this
   exact absurd (Heap.lt_size eo) (Nat.lt_irrefl _)) (Heap.get?_push_of_some _ eo),rfl,q⟩
end
def Ext (b:Addr) (H H':Hp):Prop:=∀ c o,H c=some o->c≠b->H' c=some o
theorem Ext.refl {b:Addr}{H:Hp}:Ext b H H:=fun _ _ h _=>h
theorem Ext.trans {b:Addr}{H H1 H2:Hp}(x:Ext b H H1) (y:Ext b H1 H2):Ext b H H2:=fun c o h n=>y c o (x c o h n) n
theorem Ext.of_same {b:Addr}{H H':Hp}(x:ji H H'):Ext b H H':=fun c o h _=>x c o h
theorem Ext.put {b:Addr}{H:Hp}{o:HO}:Ext b H (upd H b o):=fun c _ h n=>by rw [j8 n];exact h
theorem ji.new {H:Hp}{p:Addr}{o:HO}(n:H p=none):ji H (upd H p o):=fun c u h=>by rw [j8 (j1 h n)];exact h
theorem Ext.new {b:Addr}{H:Hp}{p:Addr}{o:HO}(n:H p=none):Ext b H (upd H p o):=Ext.of_same (ji.new n)
theorem Ext.free {b:Addr}{H H':Hp}(x:Ext b H H') {p:Addr}(h:H' p=none) (n:p≠b):H p=none:=by
 cases q:H p with
 | none=>rfl
 | some o=>rw [x p o q n] at h;cases h
end L2
end
section
namespace L2
open PySem PySem.Spec PyProof.Rows
section
variable {X:Cx}
theorem jb (K:PySem.W.Frag) (h:X.K=K:=by rfl):IxR X (Uj K):=by subst h;exact VQ
theorem qe (K:PySem.W.Frag) (h:X.K=K:=by rfl):IxR X (UX K):=by subst h;exact Wd
theorem jg (K:PySem.W.Frag) (h:X.K=K:=by rfl):x5 X (.builtin "len") (fun xs H Q=>∃ p ys,xs=[.ref p]/\(SqL K H p ys\/SqT K H p ys)/\Q (.int ys.length) H):=by subst h;exact Jf
theorem Xd (K:PySem.W.Frag) (h:X.K=K:=by rfl):OpR X (compareOp .In) (rIn K false):=by subst h;exact ZD
theorem zA (K:PySem.W.Frag) (h:X.K=K:=by rfl):OpR X (compareOp .NotIn) (rIn K true):=by subst h;exact Jt
theorem yG (K:PySem.W.Frag) (hc:X.calm=true) (h:X.K=K:=by rfl):x5 X (.builtin "all") (fun xs H Q=>∃ (p:Addr) (bs:List Bool),xs=[.ref p]/\SqL K H p (bs.map V.bl)/\Q (.bl (bs.all fun b=>b)) H):=by subst h;exact Yn hc
theorem qc {tg l:Expr}{tl:TE}(K:PySem.W.Frag) (hl:PE X l tl) (h:X.K=K:=by rfl):PI X tg l (XN K tl):=by subst h;exact Vo hl
theorem zQ {tg l:Expr}{tl:TE}(K:PySem.W.Frag) (hl:PE X l tl) (h:X.K=K:=by rfl):PI X tg l (WE K tl):=by subst h;exact Uh hl
theorem qq {es:List Expr}{k:Nat}{t:TGs}{n:Nat}{pos:Pos}(K:PySem.W.Frag) (hc:X.calm=true) (h:PGs X es t)
  (hn:(assignEach es X.env).length=n:=by rfl) (hst:(assignEach es X.env).findIdx? (·.1)=none:=by rfl) (hK:X.K=K:=by rfl):PG X (.Tuple es k pos) (W1 K n t):=by subst hK;exact UM hc h hn hst
theorem yq {T id:String}{name:Str}{r:V->List V->Hp->VK->Prop}{o e:Expr}{es:List Expr}{to:TE}{t:TA}{apos cpos:Pos}(K:PySem.W.Frag) (pa:PlainAttrs T) (slot:Slot T name id) (hty:typeOf (.builtin id)=pure (.type "method_descriptor")) (hm:MtR X id r) (ho:PE X o to) (ha:PA X (e::es) t)
  (hbase:attributeBase o name X.env (eval o X.env)=eval o X.env:=by rfl)
  (hfew:((backTo cpos (starEach (e::es) X.env)).all (fun x=>!x.1) && (backToKw cpos (keywordEach [] X.env)).all (fun x=>x.1.isSome)
   && decide ((e::es).length+([]:List Keyword).length+(if ([]:List Keyword).isEmpty then 0 else 1)<30))=true:=by rfl)
  (hline:(apos.endLine == cpos.line)=true:=by rfl) (hs:starEach (e::es) X.env=(false,eval e X.env)::starEach es X.env:=by rfl) (hplain:(backTo cpos (starEach es X.env)).any (·.1)=false:=by rfl) (hK:X.K=K:=by rfl) :
  PE X (.Call (.Attribute o name apos) (e::es) [] cpos) (tBM K T r to t):=by subst hK;exact WM pa slot hty hm ho ha hbase hfew hline hs hplain
end
def New (H:Hp) (o:HO) (Q:VK):Prop:=∀ p H',H p=none->H' p=some o->ji H H'->Q (.ref p) H'
theorem New.at {H:Hp}{o:HO}{Q:VK}(h:New H o Q):∀ p,H p=none->Q (.ref p) (upd H p o):=fun p n=>h p _ n j7 (ji.new n)
section
variable {X:Cx}{es:List Expr}{t:TA}{pos:Pos}
def WV (t:TA):TE:=fun σ H Q=>t σ H fun xs H1=>xs.length<=sizeLine/\New H1 (.tup xs) Q
def WT (t:TA):TE:=fun σ H Q=>t σ H fun xs H1=>xs.length<=sizeLine/\New H1 (.lst xs) Q
theorem jI {x1}(h:PA X es t):PE X (.Tuple es x1 pos) (WV t):=by
 intro pins s σ H Q I hq
 refine wpAny_Tuple_spliced (thn (h pos pins s σ H _ I hq) fun us s1 ⟨xs,H1,I1,r,z,q⟩=>⟨by rw [<- r.length];exact z,?_⟩)
 have hf:H1 s1.heap.objs.size=none:=I1.hok.fresh (Nat.le_refl _)
 refine ⟨.ref s1.heap.objs.size,upd H1 s1.heap.objs.size (.tup xs),I1.laid (t':=s1.toks) (fun b u e=>Heap.get?_push_of_some _ e) (Nat.le_refl _) ?_,rfl,q.at _ hf⟩
 exact ⟨z,us,r,⟨_,Heap.get?_push_size _ rfl,rfl,_,rfl⟩⟩
theorem jK (h:PA X es t):PE X (.List es pos) (WT t):=by
 intro pins s σ H Q I hq
 refine wpAny_List_spliced (thn (h pos pins s σ H _ I hq) fun us s1 ⟨xs,H1,I1,r,z,q⟩=>⟨by rw [<- r.length];exact z,?_⟩)
 have hf:H1 s1.heap.objs.size=none:=I1.hok.fresh (Nat.le_refl _)
 refine ⟨.ref s1.heap.objs.size,upd H1 s1.heap.objs.size (.lst xs),I1.laid (t':=s1.toks) (fun b u e=>Heap.get?_push_of_some _ e) (Nat.le_refl _) ?_,rfl,q.at _ hf⟩
 exact ⟨z,us,0,r,Heap.get?_push_size _ rfl⟩
theorem OpR.weak {f:Value->Value->Sem Value}{r r':R2}(h:OpR X f r) (w:∀ x y H Q,r' x y H Q->r x y H Q):OpR X f r':=fun pins s σ H x y v u Q I rx ry q=>h pins s σ H x y v u Q I rx ry (w _ _ _ _ q)
theorem x5.weak {f:Value}{r r':List V->Hp->VK->Prop}(h:x5 X f r) (w:∀ x H Q,r' x H Q->r x H Q):x5 X f r':=fun pins s σ H xs us Q I rx q=>h pins s σ H xs us Q I rx (w _ _ _ q)
theorem SlR.weak {r r':V->Option Int->Option Int->Hp->VK->Prop}(h:SlR X r) (w:∀ x lo hi H Q,r' x lo hi H Q->r x lo hi H Q):SlR X r':=fun pins s σ H x v vl vu lo hi sl Q I rx hs pl pu q=>h pins s σ H x v vl vu lo hi sl Q I rx hs pl pu (w _ _ _ _ _ q)
def WK:R2:=fun x y H Q=>∃ l b xs zs,x = .ref l/\y = .ref b/\H l=some (.lst xs)/\H b=some (.lst zs)/\xs.length+zs.length<=sizeLine/\New H (.lst (xs++zs)) Q
theorem Jb:OpR X (binaryOp .Add) WK:=UY.weak fun _ _ _ _ ⟨l,b,xs,zs,h1,h2,h3,h4,h5,q⟩=>⟨l,b,xs,zs,h1,h2,h3,h4,h5,q.at⟩
theorem qP (K:PySem.W.Frag) (h:X.K=K:=by rfl):x5 X (.type "list") (fun xs H Q=>∃ p ys,xs=[.ref p]/\(SqL K H p ys\/SqT K H p ys)/\New H (.lst ys) Q):=by
 subst h
 exact Jw.weak fun _ _ _ ⟨p,ys,h1,h2,q⟩=>⟨p,ys,h1,h2,q.at⟩
theorem gz (K:PySem.W.Frag) (h:X.K=K:=by rfl):SlR X (fun x lo hi H Q=>∃ a xs,x = .ref a/\SqL K H a xs/\New H (.lst (uQ xs lo hi)) Q):=by
 subst h
 exact V8.weak fun _ _ _ _ _ ⟨a,xs,h1,h2,q⟩=>⟨a,xs,h1,h2,q.at⟩
theorem Qu (K:PySem.W.Frag) (h:X.K=K:=by rfl):SlR X (fun x lo hi H Q=>∃ a xs,x = .ref a/\SqT K H a xs/\¬ (HT.sIx xs.length 0 lo=0/\HT.sIx xs.length xs.length hi=xs.length)/\New H (.tup (uQ xs lo hi)) Q):=by
 subst h
 exact UF.weak fun _ _ _ _ _ ⟨a,xs,h1,h2,h3,q⟩=>⟨a,xs,h1,h2,h3,q.at⟩
end
theorem jV {p A B:Prop} [Decidable p] (h1:p->A) (h2:¬ p->B):if decide p=true then A else B:=by
 by_cases h:p
 ·rw [if_pos (decide_eq_true h)];exact h1 h
 ·rw [if_neg (by rw [decide_eq_false h];exact Bool.false_ne_true)];exact h2 h
theorem x8 {p A B:Prop} [Decidable p] (h1:¬ p->A) (h2:p->B):if (!decide p)=true then A else B:=by
 by_cases h:p
 ·rw [if_neg (by rw [decide_eq_true h];exact Bool.false_ne_true)];exact h2 h
 ·rw [if_pos (by rw [decide_eq_false h];rfl)];exact h1 h
theorem qo {α:Type}{xs:List α}{i:Int}{v:α}(h0:0<=i) (h:xs[i.toNat]? = some v):atI xs i=some v:=by
 obtain ⟨n,rfl⟩:=Int.eq_ofNat_of_zero_le h0
 exact zt (by simpa using h)
theorem ux {ns:List Int}{i:Int}(h0:0<=i) (h:i<ns.length):∃ z,atI (ns.map V.int) i=some (.int z):=by
 refine ⟨ns[i.toNat]'(by omega),qo h0 ?_⟩
 rw [List.getElem?_map,List.getElem?_eq_getElem (by omega)]
 rfl
theorem yv {ns:List Int}{i:Nat}{y:V}(h:(ns.map V.int)[i]? = some y):∃ z,y=V.int z:=by
 rw [List.getElem?_map] at h
 cases e:ns[i]? with
 | none=>rw [e] at h;cases h
 | some z=>rw [e] at h;exact ⟨z,(Option.some.inj h).symm⟩
def XR:Sp:=fun vs H Q _=>∃ a b:Int,vs=[.int a,.int b]/\∀ r:Int,Q (.int r) H
structure Nb (mg:Str->Option Value):Prop where
 b_len:mg "len" = none
 b_range:mg "range" = none
 b_isinstance:mg "isinstance" = none
 b_int:mg "int" = none
 b_bool:mg "bool" = none
 b_str:mg "str" = none
 b_list:mg "list" = none
 b_tuple:mg "tuple" = none
 b_min:mg "min" = none
 b_max:mg "max" = none
 b_all:mg "all" = none
 b_zip:mg "zip" = none
end L2
end
section
namespace L2
open PySem PySem.Spec PyProof.Rows
mutual
inductive Rep (M:Addr->Prop) (K:PySem.W.Frag) (H:Hp):V->PyData->Prop
 | non:Rep M K H .non .none
 | bl (b:Bool):Rep M K H (.bl b) (.bool b)
 | int (i:Int):Rep M K H (.int i) (.int i)
 | str (x:Str):Rep M K H (.str x) (.str x)
 | tup {p:Addr} {vs:List V} {ds:List PyData}:¬ M p->SqT K H p vs->RepL M K H vs ds->Rep M K H (.ref p) (.tuple ds)
 | lst {p:Addr} {vs:List V} {ds:List PyData}:¬ M p->SqL K H p vs->RepL M K H vs ds->Rep M K H (.ref p) (.list ds)
inductive RepL (M:Addr->Prop) (K:PySem.W.Frag) (H:Hp):List V->List PyData->Prop
 | nil:RepL M K H [] []
 | cons {v:V} {vs:List V} {d:PyData} {ds:List PyData}:Rep M K H v d->RepL M K H vs ds->RepL M K H (v::vs) (d::ds)
end
def Wu (M:Addr->Prop) (H H':Hp):Prop:=∀ c o,H c=some o->¬ M c->H' c=some o
theorem Rep.reads_all {X:Cx}{pins:List (Addr×Obj)}{σ:St}{H:Hp}{s:Shared}{M:Addr->Prop}(I:Inv X pins σ H s) {vs:List V}{ds:List PyData}(h:RepL M X.K H vs ds) :
  ∀ {us:List Value},jC vs us->∃ as,ReadsAll s.heap us ds as:=by
 refine RepL.rec (M:=M) (K:=X.K) (H:=H) (motive_1:=fun v d _=>∀ u,jB v u->∃ as,Reads s.heap u d as) (motive_2:=fun vs ds _=>∀ {us:List Value},jC vs us->∃ as,ReadsAll s.heap us ds as)
  ?_ ?_ ?_ ?_ ?_ ?_ ?_ ?_ h
 ·intro u r;cases r;exact ⟨_,Reads.none⟩
 ·intro b u r;cases r;exact ⟨_,Reads.bool b⟩
 ·intro i u r;obtain ⟨t,rfl⟩:=r;exact ⟨_,Reads.int i t⟩
 ·intro x u r;obtain ⟨t,rfl⟩:=r;exact ⟨_,Reads.str x t⟩
 ·intro p vs ds n hq _ ih u r
  cases r
  obtain ⟨its,rv,⟨o,e,c,k,d⟩,_⟩:=I.tuple hq
  obtain ⟨as,q⟩:=ih rv
  exact ⟨as,reads_tuple_at e c d (by simpa using q)⟩
 ·intro p vs ds n hq _ ih u r
  cases r
  obtain ⟨its,rv,⟨o,k,e,c,_,d⟩,_⟩:=I.list hq
  obtain ⟨as,q⟩:=ih rv
  exact ⟨_,reads_list_at e c d (by simpa using q)⟩
 ·intro us r;cases r;exact ⟨_,ReadsAll.nil⟩
 ·intro v vs d ds _ _ ih1 ih2 us r
  cases r with
  | cons r1 r2 =>
   obtain ⟨as,q⟩:=ih1 _ r1
   obtain ⟨bs,q2⟩:=ih2 r2
   exact ⟨_,ReadsAll.cons q q2⟩
theorem Rep.reads {X:Cx}{pins:List (Addr×Obj)}{σ:St}{H:Hp}{s:Shared}{M:Addr->Prop}(I:Inv X pins σ H s) {v:V}{d:PyData}{u:Value}(h:Rep M X.K H v d) (r:jB v u):∃ as,Reads s.heap u d as:=by
 obtain ⟨as,q⟩:=Rep.reads_all I (RepL.cons h .nil) (Paired.cons r .nil)
 cases q with
 | cons q1 q2=>exact ⟨_,q1⟩
section
variable {X:Cx}
def Wz (K:PySem.W.Frag):R2:=fun x y H Q=>∃ (M M':Addr->Prop) (d e:PyData),Rep M K H x d/\Rep M' K H y e/\SeqAt.shaped d=true/\SeqAt.shaped e=true/\Q (.bl (!PyData.eqv d e)) H
theorem Uz (hu:X.A.units+64<cLine):OpR X (compareOp .NotEq) (Wz X.K):=by
 intro pins s σ H x y v u Q I rx ry h
 obtain ⟨M,M',d,e,h1,h2,s1,s2,q⟩:=h
 obtain ⟨as,r1⟩:=h1.reads I rx
 obtain ⟨bs,r2⟩:=h2.reads I ry
 exact ne_dataH r1 r2 s1 s2 hu ⟨.bl _,H,I,rfl,q⟩
end
end L2
end
section
namespace L2
open PySem PySem.Spec PyProof.Rows
def tCut (t u:TS):TS:=fun D σ H=>∃ P:St->Hp->Prop,t { D with nx:=P } σ H/\∀ σ' H',P σ' H'->u D σ' H'
theorem xc {X:Cx}{st:Stmt}{vb:List Stmt}{t u:TS}(h1:PS X st t) (h2:PSs X vb u):PSs X (st::vb) (tCut t u):=by
 intro pins s σ H D I h
 obtain ⟨P,h,hP⟩:=h
 refine wpAny_execs_cons (thn (h1 pins s σ H { D with nx:=P } I h) fun f s1 q=>?_)
 cases f with
 | next =>
  obtain ⟨σ',H',I',q⟩:=q
  exact h2 pins s1 σ' H' D I' (hP _ _ q)
 | ret v=>exact q
 | brk=>exact q
 | cont=>exact q
section
variable {X:Cx}
def Uf:R2:=fun x y H Q=>∃ a b xs ys,x = .ref a/\y = .ref b/\H a=some (.tup xs)/\H b=some (.tup ys)/\xs.length+ys.length<=sizeLine /\
 ∀ p H',ji H H'->H' p=some (.tup (xs++ys))->Q (.ref p) H'
theorem YH:OpR X (binaryOp .Add) Uf:=by
 intro pins s σ H x y v u Q I rx ry h
 obtain ⟨a,b,xs,ys,rfl,rfl,ha,hb,hz,q⟩:=h
 by_cases hx:xs=[]
 ·subst hx
  cases rx
  cases ry
  obtain ⟨its,r1,p1,_⟩:=I.tuple (SqT.of ha)
  obtain ⟨its2,r2,p2,_⟩:=I.tuple (SqT.of hb)
  have hi:its=[]:=r1.nil_iff.mpr rfl
  subst hi
  obtain ⟨⟨cls,dd,data,sl⟩,ho,hc,n,hd⟩:=id p1
  obtain ⟨⟨cls2,dd2,data2,sl2⟩,ho2,hc2,n2,hd2⟩:=id p2
  simp only at hc hd hc2 hd2
  subst hc hd hc2 hd2
  exact concat_meets ⟨_,ho,rfl⟩ ⟨_,ho2,rfl⟩ noFill_tuple_add seq_tuple_add PySem.F.slot_tuple_add PySem.F.entry_tuple_add (PySem.F.args_tuple_add_2 _ _)
   (tuple_addW0 a b #[] its2.toArray n n2 dd dd2 sl sl2 (by simp)) ⟨ho,ho2,⟨.ref b,H,I,rfl,q b H (ji.refl H) hb⟩⟩
 ·refine VZ pins s σ H (.ref a) (.ref b) v u Q I rx ry ⟨a,b,xs,ys,rfl,rfl,SqT.of ha,SqT.of hb,hx,hz,fun z=>?_,fun _ p n=>q p _ (ji.new n) j7⟩
  subst z
  exact q a H (ji.refl H) (by rw [List.append_nil];exact ha)
end
theorem XA {X:Cx}(K:PySem.W.Frag) (hu:X.A.units+64<cLine) (h:X.K=K:=by rfl):OpR X (compareOp .NotEq) (Wz K):=by subst h;exact Uz hu
theorem U9 {c:Bool}{A B:Prop}(h:c=true) (k:B):if (!c)=true then A else B:=by
 subst h
 exact Ug k
def jS (L:Addr) (H:Hp) (b:Addr):Prop:=∃ (ns:List Int) (a r c d:Int),H b=some (.lst [.ref L,.int a,.int r,.int c,.int d])/\L≠b/\H L=some (.lst (ns.map V.int))/\0<=a
theorem jS.same {L:Addr}{H H':Hp}{b:Addr}(B:jS L H b) (s:ji H H'):jS L H' b:=by
 obtain ⟨ns,a,r,c,d,h1,h2,h3,h4⟩:=B
 exact ⟨ns,a,r,c,d,s _ _ h1,h2,s _ _ h3,h4⟩
theorem jS.ext {L:Addr}{H H':Hp}{b acc:Addr}(B:jS L H b) (n:acc≠b) (m:acc≠L) (e:Ext acc H H'):jS L H' b:=by
 obtain ⟨ns,a,r,c,d,h1,h2,h3,h4⟩:=B
 exact ⟨ns,a,r,c,d,e _ _ h1 n.symm,h2,e _ _ h3 m.symm,h4⟩
theorem jS.put {L:Addr}{H:Hp}{b acc:Addr}{o:HO}(B:jS L H b) (n:acc≠b) (m:acc≠L):jS L (upd H acc o) b:=B.ext n m Ext.put
theorem jS.ne {L:Addr}{H:Hp}{b p:Addr}(B:jS L H b) (n:H p=none):p≠b:=by
 obtain ⟨ns,a,r,c,d,h1,h2,h3,h4⟩:=B
 exact (j1 h1 n).symm
theorem jS.neL {L:Addr}{H:Hp}{b p:Addr}(B:jS L H b) (n:H p=none):p≠L:=by
 obtain ⟨ns,a,r,c,d,h1,h2,h3,h4⟩:=B
 exact (j1 h3 n).symm
theorem jS.ne_tup {L:Addr}{H:Hp}{b p:Addr}{xs:List V}(B:jS L H b) (n:H p=some (.tup xs)):p≠b:=by
 obtain ⟨ns,a,r,c,d,h1,h2,h3,h4⟩:=B
 exact jr n h1 (by intro z;cases z)
def xJ:Sp:=fun vs H Q _=>∃ (L b:Addr) (n:Int),vs=[.ref b,.int n]/\jS L H b/\(0<n/\n<2 ^ 200)/\∀ (v:Int) (H':Hp),0<=v->v<n->jS L H' b->Ext b H H'->Q (.int v) H'
def V5 (K:PySem.W.Frag):Sp:=fun vs H Q _=>∃ (a:Addr) (ns:List Int),vs=[.ref a]/\SqL K H a (ns.map V.int)/\∀ (L b:Addr) (H':Hp),H b=none->jS L H' b->ji H H'->Q (.ref b) H'
abbrev T3:=Int×Int×Int
abbrev yM (t:T3):HO:=.tup [.int t.1,.int t.2.1,.int t.2.2]
def Uy (H:Hp) (v:V) (t:T3):Prop:=∃ p,v = .ref p/\H p=some (yM t)
def qM (H:Hp) (vs:List V) (ts:List T3):Prop:=Paired (Uy H) vs ts
theorem qM.length {H:Hp}{vs:List V}{ts:List T3}(r:qM H vs ts):vs.length=ts.length:=Paired.length r
theorem qM.get {H:Hp}:∀ {vs:List V}{ts:List T3}{i:Nat}{v:V},qM H vs ts->vs[i]? = some v->∃ t,ts[i]? = some t/\Uy H v t
 | _,_,_,_,.nil,e=>by simp at e
 | _,_,0,_,.cons r _,e=>by simp at e;subst e;exact ⟨_,rfl,r⟩
 | _,_,i+1,v,.cons _ t,e=>by
  obtain ⟨d,h1,h2⟩:=qM.get (i:=i) (v:=v) t (by simpa using e)
  exact ⟨d,by simpa using h1,h2⟩
theorem qM.imp {H H':Hp}{vs:List V}{ts:List T3}(r:qM H vs ts) (h:∀ p t,H p=some (yM t)->H' p=some (yM t)):qM H' vs ts :=
 Paired.mapP r fun _ t ⟨p,e,q⟩=>⟨p,e,h p t q⟩
theorem qM.snoc {H:Hp}{vs:List V}{ts:List T3}{v:V}{t:T3}(r:qM H vs ts) (h:Uy H v t):qM H (vs++[v]) (ts++[t]):=Paired.snoc r h
theorem qx {α β:Type}(f:α->β) (l:List α) (i:Nat) (v:α) (h:l[i]? = some v):(l.take (i+1)).map f=(l.take i).map f++[f v]:=by
 rw [List.take_add_one,h,List.map_append]
 rfl
end L2
end
section
namespace L2
open PySem PySem.W PyProof.Rows
def qX {α:Type}(lt:Nat->Nat->Bool) (n:Nat):KasT α->(α->Prop)->Prop
 | .ret a,G=>G a
 | .ask i j k,G=>i<n/\j<n/\qX lt n (k (lt i j)) G
theorem qX.bind {α β:Type}{lt:Nat->Nat->Bool}{n:Nat}{f:α->KasT β}{G:β->Prop}:∀ {t:KasT α},qX lt n t (fun a=>qX lt n (f a) G)->qX lt n (t.bind f) G
 | .ret _,h=>h
 | .ask _ _ k,h=>⟨h.1,h.2.1,qX.bind (t:=k _) h.2.2⟩
theorem qX.wp {α:Type}{lt:Nat->Nat->Bool}{n:Nat}{cmp:Nat->Nat->(Bool->Shared->Prop)->Shared->Prop}{I:Shared->Prop}(hc:∀ i j C s,i<n->j<n->I s->(∀ s',I s'->C (lt i j) s')->cmp i j C s)
  {G:α->Prop} {Q:α->Shared->Prop} (hq:∀ a s,G a->I s->Q a s):∀ {t:KasT α} {s:Shared},qX lt n t G->I s->t.kasWp cmp Q s
 | .ret a,s,h,hs=>hq a s h hs
 | .ask i j k,s,h,hs=>hc i j _ s h.1 h.2.1 hs fun s' hs'=>qX.wp hc hq (t:=k _) h.2.2 hs'
section
variable {O:KeyOrd}{key:Nat->O.α}{n:Nat}{p:Array Nat}
abbrev ltK (O:KeyOrd) (key:Nat->O.α):Nat->Nat->Bool:=fun i j=>O.blt (key i) (key j)
abbrev kp (key:Nat->O.α) (p:Array Nat) (i:Nat):O.α:=key (p.getD i 0)
def zf (key:Nat->O.α) (p:Array Nat) (k:Nat):Prop:=∀ i j,i<=j->j<k->O.kle (kp key p i) (kp key p j)
def k9 (key:Nat->O.α) (p:Array Nat) (k:Nat):Prop:=∀ i j,i<=j->j<k->O.kle (kp key p j) (kp key p i)
def qk (n:Nat) (p:Array Nat):Prop:=p.Perm (List.range n).toArray
theorem qk.size (h:qk n p):p.size=n:=by have:=h.size_eq;simpa using this
theorem qk.lt (h:qk n p) (hn:0<n) (i:Nat):p.getD i 0<n:=by
 by_cases hi:i<p.size
 ·have e:p.getD i 0=p[i]:=by simp [Array.getD,hi]
  rw [e]
  have hm:p[i]∈(List.range n).toArray.toList:=(Array.perm_iff_toList_perm.mp h).mem_iff.mp (by simp)
  simpa using hm
 ·have e:p.getD i 0=0:=by simp [Array.getD,hi]
  rw [e];exact hn
theorem za {p q:Array Nat}{i j:Nat}(h:p[i]? = q[j]?):p.getD i 0=q.getD j 0:=by
 rw [Array.getD_eq_getD_getElem?,Array.getD_eq_getD_getElem?,h]
theorem kX {src d:Nat}(hs:src<p.size) (hd:d<=src) (k:Nat) :
  kp (O:=O) key (bubble p src d) k=if k=src-d then kp key p src else if src-d<k/\k<=src then kp key p (k-1) else kp key p k:=by
 have e:=getElem?_bubble hs d hd k
 unfold kp
 by_cases h1:k=src-d
 ·rw [if_pos h1] at e ⊢;rw [za e]
 ·rw [if_neg h1] at e ⊢
  by_cases h2:src-d<k/\k<=src
  ·rw [if_pos h2] at e ⊢;rw [za e]
  ·rw [if_neg h2] at e ⊢;rw [za e]
theorem QA {i j:Nat}(hj:j<=p.size) (k:Nat):kp (O:=O) key (kas_rev p i j) k=if i<=k/\k<j then kp key p (i+j-1-k) else kp key p k:=by
 have e:=getElem?_mirror_all (i:=i) hj k
 unfold kp kas_rev
 by_cases h1:i<=k/\k<j
 ·rw [if_pos h1] at e ⊢;rw [za e]
 ·rw [if_neg h1] at e ⊢;rw [za e]
theorem xw {i j:Nat}(hj:j<=p.size) (heq:∀ k,i<=k->k<j->kp (O:=O) key p k=kp key p (j-1)) (k:Nat):kp (O:=O) key (kas_rev p i j) k=kp key p k:=by
 rw [QA hj]
 split
 ·rw [heq _ (by omega) (by omega),heq k (by omega) (by omega)]
 ·rfl
theorem qk.rev (h:qk n p) (i j:Nat):qk n (kas_rev p i j):=(mirror_perm _ _ _ _).trans h
theorem qk.bub (h:qk n p) (i j:Nat):qk n (bubble p i j):=(bubble_perm _ _ _).trans h
theorem JA (hP:qk n p) (hn:0<n) {G:Nat->Prop}:∀ (f a:Nat),1<=a->zf (O:=O) key p a ->
  (∀ m,a<=m->m<=a+f->zf (O:=O) key p m->(m=a+f\/O.klt (kp key p m) (kp key p (m-1)))->G m)->qX (ltK O key) n (kas_asc p f a) G
 | 0,a,_,hs,h=>h a (Nat.le_refl _) (Nat.le_refl _) hs (.inl rfl)
 | f+1,a,h1,hs,h=>by
  refine ⟨hP.lt hn _,hP.lt hn _,?_⟩
  show qX _ _ (if O.blt (kp key p a) (kp key p (a-1))=true then _ else _) _
  cases hless:O.blt (kp key p a) (kp key p (a-1)) with
  | true=>rw [if_pos rfl];exact h a (Nat.le_refl _) (by omega) hs (.inr hless)
  | false =>
   rw [if_neg Bool.false_ne_true]
   refine JA hP hn f (a+1) (by omega) (fun i j hij hj=>?_) fun m hm1 hm2 hsm ho=>h m (by omega) (by omega) hsm (ho.imp (fun z=>(by omega)) id)
   by_cases hja:j<a
   ·exact hs i j hij hja
   ·have hj':j=a:=by omega
    subst hj'
    by_cases hi':i=j
    ·subst hi';exact KeyOrd.kle_refl _
    ·exact KeyOrd.kle_trans (hs i (j-1) (by omega) (by omega)) hless
theorem gL (hP:qk n p) {m nrem:Nat}{G:Nat×Array Nat->Prop}(h1:1<=m) (hm:m<=nrem) (hn:nrem<=n) (hs:k9 (O:=O) key p m)
  (h:∀ k p',qk n p'->1<=k->k<=nrem->zf (O:=O) key p' k->G (k,p')):qX (ltK O key) n (kas_tail3 m nrem p) G:=by
 have hsz:m<=p.size:=by rw [hP.size];omega
 refine qX.bind (JA (hP.rev _ _) (by omega) _ m h1 (fun i j hij hj=>?_) fun k hk1 hk2 hk3 _=>h k _ (hP.rev _ _) (by omega) (by omega) hk3)
 rw [QA hsz,QA hsz,if_pos (by omega),if_pos (by omega)]
 exact hs _ _ (by omega) (by omega)
theorem vI {nrem:Nat}(hn:nrem<=n) {G:Array Nat×Nat×Nat->Prop}:∀ (f:Nat) (p:Array Nat) (x q:Nat),qk n p->1<=x->x+f=nrem->k9 (O:=O) key p x->q+1<=x ->
  (∀ i,x-(q+1)<=i->i<x->kp (O:=O) key p i=kp key p (x-1)) ->
  (∀ p' m q',qk n p'->x<=m->m<=nrem->k9 (O:=O) key p' m->q'+1<=m->(∀ i,m-(q'+1)<=i->i<m->kp (O:=O) key p' i=kp key p' (m-1))->G (p',m,q')) ->
  qX (ltK O key) n (kas_desc f p x q) G
 | 0,p,x,q,hP,h1,hx,hs,hq,he,h=>h p x q hP (Nat.le_refl _) (by omega) hs hq he
 | f+1,p,x,q,hP,h1,hx,hs,hq,he,h=>by
  have hsz:x<=p.size:=by rw [hP.size];omega
  refine ⟨hP.lt (by omega) _,hP.lt (by omega) _,?_⟩
  show qX _ _ (if O.blt (kp key p x) (kp key p (x-1))=true then _ else _) _
  cases hless:O.blt (kp key p x) (kp key p (x-1)) with
  | true =>
   rw [if_pos rfl]
   have step1:∀ p':Array Nat,(∀ k,kp (O:=O) key p' k=kp key p k)->k9 (O:=O) key p' (x+1):=by
    intro p' hk i j hij hj
    rw [hk,hk]
    by_cases hjx:j<x
    ·exact hs i j hij hjx
    ·have hj':j=x:=by omega
     subst hj'
     by_cases hi':i=j
     ·subst hi';exact KeyOrd.kle_refl _
     ·exact KeyOrd.kle_trans (KeyOrd.kle_of_klt hless) (hs i (j-1) (by omega) (by omega))
   by_cases hneq:q > 0
   ·rw [if_pos hneq]
    exact vI hn f _ (x+1) 0 (hP.rev _ _) (by omega) (by omega) (step1 _ (xw hsz he)) (by omega) (fun i h1 h2=>by congr 1;omega) fun p' m q' a b=>h p' m q' a (by omega)
   ·rw [if_neg hneq]
    exact vI hn f _ (x+1) 0 hP (by omega) (by omega) (step1 _ fun _=>rfl) (by omega) (fun i h1 h2=>by congr 1;omega) fun p' m q' a b=>h p' m q' a (by omega)
  | false =>
   rw [if_neg Bool.false_ne_true]
   refine ⟨hP.lt (by omega) _,hP.lt (by omega) _,?_⟩
   show qX _ _ (if O.blt (kp key p (x-1)) (kp key p x)=true then _ else _) _
   cases hlarger:O.blt (kp key p (x-1)) (kp key p x) with
   | true=>rw [if_pos rfl];exact h p x q hP (Nat.le_refl _) (by omega) hs hq he
   | false =>
    rw [if_neg Bool.false_ne_true]
    have heqx:kp (O:=O) key p x=kp key p (x-1):=KeyOrd.kle_antisymm hlarger hless
    refine vI hn f p (x+1) (q+1) hP (by omega) (by omega) (fun i j hij hj=>?_) (by omega) (fun i h1 h2=>?_) fun p' m q' a b=>h p' m q' a (by omega)
    ·by_cases hjx:j<x
     ·exact hs i j hij hjx
     ·have hj':j=x:=by omega
      subst hj'
      by_cases hi':i=j
      ·subst hi';exact KeyOrd.kle_refl _
      ·rw [heqx];exact hs i (j-1) (by omega) (by omega)
    ·rw [show x+1-1=x by omega]
     by_cases hix:i=x
     ·subst hix;rfl
     ·rw [heqx];exact he i (by omega) (by omega)
theorem vZ (hP:qk n p) {m nrem:Nat}{G:Nat×Array Nat->Prop}(hm:m+1<=nrem) (hn:nrem<=n) (hs:k9 (O:=O) key p (m+1))
  (h:∀ k p',qk n p'->1<=k->k<=nrem->zf (O:=O) key p' k->G (k,p')):qX (ltK O key) n (kas_descPart m nrem p) G:=by
 refine qX.bind (vI hn _ p (m+1) 0 hP (by omega) (by omega) hs (by omega) (fun i h1 h2=>by congr 1;omega) fun p' k q hP' hk1 hk2 hs' hq he=>?_)
 have hsz:k<=p'.size:=by rw [hP'.size];omega
 show qX _ _ (if q > 0 then kas_tail3 k nrem (kas_rev p' (k-(q+1)) k) else kas_tail3 k nrem p') _
 by_cases hneq:q > 0
 ·rw [if_pos hneq]
  refine gL (hP'.rev _ _) (by omega) hk2 hn (fun i j hij hj=>?_) h
  rw [xw hsz he,xw hsz he]
  exact hs' i j hij hj
 ·rw [if_neg hneq]
  exact gL hP' (by omega) hk2 hn hs' h
theorem Zb (hP:qk n p) (hn:0<n) {G:Nat×Array Nat->Prop}(h:∀ k p',qk n p'->1<=k->k<=n->zf (O:=O) key p' k->G (k,p')):qX (ltK O key) n (kas_count n p) G:=by
 refine qX.bind (JA hP hn _ 1 (Nat.le_refl 1) (fun i j hij hj=>by have:i=j:=(by omega);subst this;exact KeyOrd.kle_refl _) fun m hm1 hm2 hsm hor=>?_)
 by_cases hnn:m=n
 ·rw [if_pos (by simpa using hnn)]
  exact h m p hP hm1 (by omega) hsm
 ·rw [if_neg (by simpa using hnn)]
  have hlt:O.klt (kp key p m) (kp key p (m-1)):=by
   rcases hor with z | z
   ·omega
   ·exact z
  by_cases hgt:m > 1
  ·rw [if_pos hgt]
   refine ⟨hP.lt hn _,hP.lt hn _,?_⟩
   show qX _ _ (if O.blt (kp key p 0) (kp key p (m-1))=true then _ else _) _
   cases hrose:O.blt (kp key p 0) (kp key p (m-1)) with
   | true=>rw [if_pos rfl];exact h m p hP hm1 (by omega) hsm
   | false =>
    rw [if_neg Bool.false_ne_true]
    have hsz:m<=p.size:=by rw [hP.size];omega
    have hall:∀ k,0<=k->k<m->kp (O:=O) key p k=kp key p (m-1):=by
     intro k _ hk
     have a1:=hsm 0 k (by omega) hk
     have a2:=hsm k (m-1) (by omega) (by omega)
     exact KeyOrd.kle_antisymm a2 (KeyOrd.kle_trans hrose a1)
    refine vZ (hP.rev _ _) (by omega) (Nat.le_refl _) (fun i j hij hj=>?_) h
    rw [xw hsz hall,xw hsz hall]
    by_cases hjn:j<m
    ·rw [hall i (by omega) (by omega),hall j (by omega) hjn];exact KeyOrd.kle_refl _
    ·have hj':j=m:=by omega
     subst hj'
     by_cases hi':i=j
     ·subst hi';exact KeyOrd.kle_refl _
     ·rw [hall i (by omega) (by omega)];exact KeyOrd.kle_of_klt hlt
  ·rw [if_neg hgt]
   have hm1':m=1:=by omega
   subst hm1'
   refine vZ hP (by omega) (Nat.le_refl _) (fun i j hij hj=>?_) h
   by_cases hi':i=j
   ·subst hi';exact KeyOrd.kle_refl _
   ·have hi0:i=0:=by omega
    have hj1:j=1:=by omega
    subst hi0;subst hj1
    exact KeyOrd.kle_of_klt hlt
theorem uj (hP:qk n p) (hn:0<n) {k:Nat}(hs:zf (O:=O) key p k) {G:Nat->Prop}:∀ (f l r:Nat),l<=r->r<=k->r-l<=f ->
  (∀ i,i<l->O.kle (kp key p i) (kp key p k))->(∀ i,r<=i->i<k->O.klt (kp key p k) (kp key p i)) ->
  (∀ l,l<=k->(∀ i,i<l->O.kle (kp key p i) (kp key p k))->(∀ i,l<=i->i<k->O.klt (kp key p k) (kp key p i))->G l)->qX (ltK O key) n (kas_place p k f l r) G
 | 0,l,r,hlr,hrk,hm,hlo,hhi,h=>by
  have:l=r:=by omega
  subst this
  exact h l hrk hlo hhi
 | f+1,l,r,hlr,hrk,hm,hlo,hhi,h=>by
  unfold kas_place
  by_cases hge:l>=r
  ·rw [if_pos hge]
   have:l=r:=by omega
   subst this
   exact h l hrk hlo hhi
  ·rw [if_neg hge]
   refine ⟨hP.lt hn _,hP.lt hn _,?_⟩
   show qX _ _ (if O.blt (kp key p k) (kp key p ((l+r) / 2))=true then _ else _) _
   cases hless:O.blt (kp key p k) (kp key p ((l+r) / 2)) with
   | true =>
    rw [if_pos rfl]
    exact uj hP hn hs f l _ (by omega) (by omega) (by omega) hlo (fun i h1 h2=>KeyOrd.klt_of_klt_of_kle hless (hs _ _ h1 h2)) h
   | false =>
    rw [if_neg Bool.false_ne_true]
    exact uj hP hn hs f _ r (by omega) (by omega) (by omega) (fun i h1=>KeyOrd.kle_trans (hs i ((l+r) / 2) (by omega) (by omega)) (show O.kle _ _ from hless)) hhi h
theorem XO (hn:0<n) {G:Array Nat->Prop}:∀ (f:Nat) (p:Array Nat) (k:Nat),qk n p->k+f=n->zf (O:=O) key p k ->
  (∀ p',qk n p'->zf (O:=O) key p' n->G p')->qX (ltK O key) n (kas_bin f p k) G
 | 0,p,k,hP,hk,hs,h=>h p hP (by rw [<- hk];exact hs)
 | f+1,p,k,hP,hk,hs,h=>by
  refine qX.bind (uj hP hn hs k 0 k (Nat.zero_le _) (Nat.le_refl _) (by omega) (fun i hi=>by omega) (fun i h1 h2=>by omega) fun l hlk hlo hhi=>?_)
  refine XO hn f _ (k+1) (hP.bub _ _) (by omega) (fun i j hij hj=>?_) h
  have hks:k<p.size:=by rw [hP.size];omega
  rw [kX hks (by omega),kX hks (by omega),show k-(k-l)=l by omega]
  repeat' split
  all_goals first
   | (exfalso;omega)
   | exact KeyOrd.kle_refl _
   | exact hlo _ (by omega)
   | exact KeyOrd.kle_of_klt (hhi _ (by omega) (by omega))
   | exact hs _ _ (by omega) (by omega)
theorem wM (hn:0<n) {G:Array Nat->Prop}(h:∀ p',qk n p'->zf (O:=O) key p' n->G p'):qX (ltK O key) n (kas_sort n) G:=by
 refine qX.bind (Zb (Array.Perm.refl _) hn fun k p' hP h1 hk hs=>?_)
 show qX _ _ (if k<n then kas_bin (n-max k 1) p' (max k 1) else .ret p') _
 by_cases hkn:k<n
 ·rw [if_pos hkn,show max k 1=k by omega]
  exact XO hn _ p' k hP (by omega) hs h
 ·rw [if_neg hkn]
  have e:k=n:=by omega
  subst e
  exact h p' hP hs
end
def ze:List Int->List Int->Bool
 | [],[]=>false
 | [],_::_=>true
 | _::_,[]=>false
 | a::x,b::y=>if a=b then ze x y else decide (a<b)
theorem uF:∀ a,ze a a=false
 | []=>rfl
 | a::x=>by unfold ze;rw [if_pos rfl];exact uF x
theorem wG:∀ a b c,ze a b=true->ze b c=true->ze a c=true
 | [],[],_,h,_=>by cases h
 | [],_::_,[],_,h=>by cases h
 | [],_::_,_::_,_,_=>rfl
 | _::_,[],_,h,_=>by cases h
 | _::_,_::_,[],_,h=>by cases h
 | a::x,b::y,c::z,h1,h2=>by
  unfold ze at h1 h2 ⊢
  by_cases e1:a=b
  ·subst e1
   rw [if_pos rfl] at h1
   by_cases e2:a=c
   ·rw [if_pos e2] at h2 ⊢;exact wG x y z h1 h2
   ·rw [if_neg e2] at h2 ⊢;exact h2
  ·rw [if_neg e1] at h1
   have h1':=of_decide_eq_true h1
   by_cases e2:b=c
   ·subst e2;rw [if_neg e1];exact h1
   ·rw [if_neg e2] at h2
    have h2':=of_decide_eq_true h2
    rw [if_neg (by omega)]
    exact decide_eq_true (by omega)
theorem Qq:∀ a b c,ze a c=true->ze a b=true\/ze b c=true
 | [],[],[],h=>by cases h
 | [],[],_::_,_=>.inr rfl
 | [],_::_,_,_=>.inl rfl
 | _::_,_,[],h=>by cases h
 | _::_,[],_::_,_=>.inr rfl
 | a::x,b::y,c::z,h=>by
  unfold ze at h ⊢
  by_cases e1:a=b
  ·subst e1
   rw [if_pos rfl]
   by_cases e2:a=c
   ·rw [if_pos e2] at h ⊢;exact Qq x y z h
   ·rw [if_neg e2] at h ⊢;exact .inr h
  ·rw [if_neg e1]
   by_cases e2:b=c
   ·subst e2;rw [if_neg e1] at h;exact .inl h
   ·rw [if_neg e2]
    by_cases e3:a=c
    ·subst e3
     by_cases hab:a<b
     ·exact .inl (decide_eq_true hab)
     ·exact .inr (decide_eq_true (by omega))
    ·rw [if_neg e3] at h
     have h':=of_decide_eq_true h
     by_cases hab:a<b
     ·exact .inl (decide_eq_true hab)
     ·exact .inr (decide_eq_true (by omega))
theorem wt:∀ a b,ze a b=false->ze b a=false->a=b
 | [],[],_,_=>rfl
 | [],_::_,h,_=>by cases h
 | _::_,[],_,h=>by cases h
 | a::x,b::y,h1,h2=>by
  unfold ze at h1 h2
  by_cases e:a=b
  ·subst e
   rw [if_pos rfl] at h1 h2
   rw [wt x y h1 h2]
  ·rw [if_neg e] at h1
   rw [if_neg (fun z=>e z.symm)] at h2
   have:=of_decide_eq_false h1
   have:=of_decide_eq_false h2
   omega
def uX:KeyOrd:=⟨List Int,ze,uF,wG,Qq,wt⟩
def Vc:KeyOrd:=⟨Int,fun a b=>decide (a<b),fun a=>by simp,fun a b c h1 h2=>by
  have:=of_decide_eq_true h1;have:=of_decide_eq_true h2;exact decide_eq_true (by omega),fun a b c h=>by
  have:=of_decide_eq_true h
  by_cases hab:a<b
  ·exact .inl (decide_eq_true hab)
  ·exact .inr (decide_eq_true (by omega)),fun a b h1 h2=>by
  have:=of_decide_eq_false h1;have:=of_decide_eq_false h2;omega⟩
end L2
end
section
namespace L2
open PySem PySem.Spec PySem.W PyProof.Rows
open PySem.AutoSeq1 (wpAny_loadPart')
open PySem.MeetsSeq PySem.MeetsSeq2 PySem.MeetsSeq3 PySem.SeqRoads2
theorem J5 {its:List Value}{xs:List Int}(h:IntsAre its xs) {i:Nat}(hi:i<its.length):∃ t,its[i]? = some (.int (xs[i]'(by have:=h.length;omega)) t):=by
 have hx:i<xs.length:=by have:=h.length;omega
 obtain ⟨u,e1,t,e2⟩:=jC.get (uw h) (i:=i) (x:=V.int xs[i]) (by rw [List.getElem?_map,List.getElem?_eq_getElem hx];rfl)
 exact ⟨t,by rw [e1,e2]⟩
theorem Zv (l b:Addr) (items items2:List Value) (n n2:Nat) (dd dd2:Option Addr) (sl sl2:Array (Option Value)) {xs ys:List Int}(hx:IntsAre items xs) (hy:IntsAre items2 ys) (k:Nat) :
  ∀ i:Nat,items.length-i=k->i<=items.length->i<=items2.length->Meets (Builtin.«list.__eq__.loop» ⟨[.ref l,.ref b,rawInt i,rawInt 0],[]⟩)
   (fun A R s=>s.heap.get? l=some { cls:=.type "list",dict:=dd,data:=.seq items.toArray n,slots:=sl }/\s.heap.get? b=some { cls:=.type "list",dict:=dd2,data:=.seq items2.toArray n2,slots:=sl2 } /\
    R (.ok (.ret (.bool (ze (xs.drop i) (ys.drop i))))) s):=by
 have l1:=hx.length
 have l2:=hy.length
 induction k with
 | zero =>
  intro i hk hi hi2 prog w A R s h
  obtain ⟨hp,g,d,tk,os⟩:=s;obtain ⟨hl,hb,h⟩:=h
  wp_walk using wpAny_loadPart' hl,wpAny_loadPart' hb
  have e1:items.toArray[((i:Nat):Int).toNat]? = none:=by simp;omega
  have hd:xs.drop i=[]:=by simp;omega
  rw [hd] at h
  rw [e1]
  wp_walk using wpAny_loadPart' hl,wpAny_loadPart' hb
  show R (.ok (.ret (.bool (decide (items.toArray.size<items2.toArray.size))))) _
  have e2:decide (items.toArray.size<items2.toArray.size)=ze [] (ys.drop i):=by
   by_cases hlt:i<ys.length
   ·rw [List.drop_eq_getElem_cons hlt]
    exact decide_eq_true (by simp;omega)
   ·rw [List.drop_of_length_le (by omega)]
    exact decide_eq_false (by simp;omega)
  rw [e2]
  exact h
 | succ k ih =>
  intro i hk hi hi2 prog w A R s h
  obtain ⟨hp,g,d,tk,os⟩:=s;obtain ⟨hl,hb,h⟩:=h
  have hlt:i<items.length:=by omega
  obtain ⟨t,e1'⟩:=J5 hx hlt
  have e1:items.toArray[((i:Nat):Int).toNat]? = some (.int (xs[i]'(by omega)) t):=by simpa using e1'
  wp_walk using wpAny_loadPart' hl,wpAny_loadPart' hb
  rw [e1]
  by_cases hlt2:i<items2.length
  ·obtain ⟨u,e2'⟩:=J5 hy hlt2
   have e2:items2.toArray[((i:Nat):Int).toNat]? = some (.int (ys[i]'(by omega)) u):=by simpa using e2'
   rw [e2]
   rw [List.drop_eq_getElem_cons (show i<xs.length by omega),List.drop_eq_getElem_cons (show i<ys.length by omega)] at h
   unfold ze at h
   refine wpAny_bind (wpAny_eqBool_int ?_)
   have hc:((i:Int)+1)=((i+1:Nat):Int):=by push_cast;rfl
   by_cases e:xs[i]'(by omega)=ys[i]'(by omega)
   ·rw [if_pos e] at h
    rw [beq_iff_eq.mpr e]
    wp_walk
    rw [hc]
    exact ⟨plainId_quiet plain_eq_loop _,codeAny_builtin entry_eq_loop (by
     rw [Around.under_plainId plain_eq_loop _]
     exact ih (i+1) (by omega) (by omega) (by omega) prog w A R _ ⟨hl,hb,h⟩)⟩
   ·rw [if_neg e] at h
    rw [beq_eq_false_iff_ne.mpr e]
    wp_walk using wpAny_loadPart' hl,wpAny_loadPart' hb
    rw [e1,e2]
    refine wpAny_bind (show wpAny (model prog w) _ (richCompare .Lt _ _) _ _ _ from lt_int ?_)
    exact wpAny_pure h
  ·have e2:items2.toArray[((i:Nat):Int).toNat]? = none:=by simp;omega
   rw [e2]
   rw [List.drop_eq_getElem_cons (show i<xs.length by omega),List.drop_of_length_le (show ys.length<=i by omega)] at h
   wp_walk using wpAny_loadPart' hl,wpAny_loadPart' hb
   show R (.ok (.ret (.bool (decide (items.toArray.size<items2.toArray.size))))) _
   rw [decide_eq_false (by simp;omega)]
   exact h
theorem Y1 (l b:Addr) (items items2:List Value) (n n2:Nat) (dd dd2:Option Addr) (sl sl2:Array (Option Value)) {xs ys:List Int}(hx:IntsAre items xs) (hy:IntsAre items2 ys) :
  Meets (Builtin.«list.__lt__» ⟨[.ref l,.ref b],[]⟩)
   (fun A R s=>s.heap.get? l=some { cls:=.type "list",dict:=dd,data:=.seq items.toArray n,slots:=sl }/\s.heap.get? b=some { cls:=.type "list",dict:=dd2,data:=.seq items2.toArray n2,slots:=sl2 } /\
    R (.ok (.ret (.bool (ze xs ys)))) s):=by
 intro prog w A R s h
 obtain ⟨hp,g,d,tk,os⟩:=s;obtain ⟨hl,hb,h⟩:=h
 have f3:=AutoSeq1.sub_list_list
 wp_walk using wpAny_loadPart' hl,wpAny_loadPart' hb
 exact ⟨plainId_quiet plain_eq_loop _,codeAny_builtin entry_eq_loop (by
  rw [Around.under_plainId plain_eq_loop _]
  exact Zv l b items items2 n n2 dd dd2 sl sl2 hx hy _ 0 rfl (Nat.zero_le _) (Nat.zero_le _) prog w A R _ ⟨hl,hb,by simpa using h⟩)⟩
section
variable {prog:Program}{w:World}{A:Around}{E:Value->Shared->Prop}{s:Shared}
theorem JJ {l b:Addr}{items items2:List Value}{xs ys:List Int}{n n2:Nat}{dd dd2:Option Addr}{sl sl2:Array (Option Value)}{Q:Bool->Shared->Prop}(hu:A.units<cLine)
  (hl:s.heap.get? l=some { cls:=.type "list",dict:=dd,data:=.seq items.toArray n,slots:=sl }) (hb:s.heap.get? b=some { cls:=.type "list",dict:=dd2,data:=.seq items2.toArray n2,slots:=sl2 })
  (hx:IntsAre items xs) (hy:IntsAre items2 ys) (h:Q (ze xs ys) s):wpAny (model prog w) A (oneLt' true (.ref l) (.ref b)) Q E s:=by
 rw [oneLt'_eq]
 simp only [if_true]
 refine wpAny_bind (wpAny_cRoomFor hu ?_)
 refine wpAny_bind (wpAny_callSpecialIfBound?_slot ⟨_,hl,rfl⟩ PySem.F.slot_list_lt (call_meets PySem.F.slot_list_lt ⟨_,hl,rfl⟩ PySem.F.entry_list_lt (PySem.F.args_list_lt_2 _ _) (Y1 l b items items2 n n2 dd dd2 sl sl2 hx hy) ⟨hl,hb,?_⟩))
 exact wpAny_truthy_bool h
theorem Xq {x y:Addr}{ox oy:Obj}{items items2:List Value}{xs ys:List Int}{n k:Nat}{Q:Bool->Shared->Prop}(hx:s.heap.get? x=some ox) (dx:ox.data = .seq items.toArray n) (hy:s.heap.get? y=some oy) (dy:oy.data = .seq items2.toArray k)
  (ix:IntsAre items xs) (iy:IntsAre items2 ys) (h:Q (ze xs ys) s):wpAny (model prog w) A (keyLt' (tuples' true) (.ref x) (.ref y)) Q E s:=by
 refine kat_lt hx dx hy dy ?_
 have go:∀ (items items2:List Value) (xs ys:List Int) (i:Nat) (fin:Bool),IntsAre items xs->IntsAre items2 ys->(∀ m:Nat,xs.length=m+items.length-items.length->True) ->
   fin=decide (items.length<items2.length)->Q (ze xs ys) s->KatLex prog w A true fin Q (items.zip items2) i s:=by
  intro items items2 xs ys i fin a b
  induction a generalizing items2 ys i with
  | nil =>
   intro _ hf hq
   cases b with
   | nil=>subst hf;exact hq
   | cons m u r=>subst hf;exact hq
  | cons m u r ih =>
   intro _ hf hq
   cases b with
   | nil=>subst hf;exact hq
   | cons m' u' r' =>
    refine kat_cons (wpAny_eqBool_int ?_)
    unfold ze at hq
    by_cases e:m=m'
    ·rw [beq_iff_eq.mpr e]
     rw [if_pos e] at hq
     refine kat_yes (ih _ _ _ r' (fun _ _=>trivial) ?_ hq)
     rw [hf]
     simp
    ·rw [beq_eq_false_iff_ne.mpr e]
     rw [if_neg e] at hq
     refine kat_no ?_
     cases hb:(true && i == 0) with
     | true=>exact oneLt_int hq
     | false=>exact kat_one _ _ (lt_int hq)
 have e:(items.toArray.toList.zip items2.toArray.toList)=items.zip items2:=by simp
 rw [e]
 exact go items items2 xs ys 0 _ ix iy (fun _ _=>trivial) (by simp) h
end
end L2
end
section
namespace L2
open PySem PySem.Spec PySem.W PyProof.Rows
section
variable {prog:Program}{w:World}{A:Around}{E:Value->Shared->Prop}{s:Shared}
theorem vD (its:List Value):(its.toArray.zip its.toArray).map (·.2)=its.toArray:=by
 apply Array.toList_inj.mp
 rw [Array.toList_map,ksk_zip]
 show (its.zip its).map Prod.snd=its
 rw [List.map_snd_zip]
 exact Nat.le_refl _
theorem vv (its:List Value):((List.range its.length).map fun i=>its.getD i Value.none)=its:=by
 apply List.ext_getElem
 ·simp
 ·intro i h1 h2
  simp at h1
  simp [h1]
theorem Xh {l:Addr}{its:List Value}{κ:SortKind}{lt:Nat->Nat->Bool}{G:List Nat->Prop}{Q:Value->Shared->Prop}(hl:s.heap.IsList l its.toArray) (h64:its.length<64)
  (hk:2<=its.length->∀ h',(∀ b o,s.heap.get? b=some o->h'.get? b=some o)->∀ Q':SortKind->Shared->Prop,Q' κ { s with heap:=h' }->wpAny (model prog w) A.in1.in1 (keyKind' its.toArray) Q' (fun _ _=>False) { s with heap:=h' })
  (hc:∀ h',(∀ b o,s.heap.get? b=some o->h'.get? b=some o)->∀ i j,i<its.length->j<its.length->∀ Q':Bool->Shared->Prop,Q' (lt i j) { s with heap:=h' } ->
   wpAny (model prog w) A.in1.in1 (keyLt' κ (its.getD i Value.none) (its.getD j Value.none)) Q' (fun _ _=>False) { s with heap:=h' })
  (hs:2<=its.length->qX lt its.length (kas_sort its.length) fun p=>qk its.length p/\G p.toList) (h1:its.length<2->G (List.range its.length))
  (h:∀ (ix:List Nat) (h':Heap) (n:Nat),ix.Perm (List.range its.length)->G ix->(∀ b o,s.heap.get? b=some o->h'.get? b=some o) ->
   h'.get? (s.heap.objs.size+1)=some (seqObj "list" (ix.map fun i=>its.getD i Value.none).toArray n)->Q (.ref (s.heap.objs.size+1)) { s with heap:=h' }) :
  wpAny (model prog w) A (call (.builtin "sorted") [.ref l]) Q E s:=by
 refine Calls.call_function_entry kind_sorted plain_sorted entry_sorted (args_sorted1 _) ?_
 unfold Builtin.«sorted»
 refine wpAny_bind (m:=checkCount "sorted" 1 1 _) (wpAny_pure ?_)
 refine wpAny_bind (collect_list hl ?_ (by rw [sizeLine_eq];omega))
 refine wpAny_bind (wpAny_newList ?_ (by rw [sizeLine_eq];omega))
 have hsz:((s.heap.push (seqObj "list" #[] 0)).update s.heap.objs.size (Obj.mapSeq (· ++ its.toArray))).objs.size=s.heap.objs.size+1:=by
  rw [Heap.size_update,size_push']
 have ho:(((s.heap.push (seqObj "list" #[] 0)).update s.heap.objs.size (Obj.mapSeq (· ++ its.toArray))).push (seqObj "list" its.toArray 0)).get? (s.heap.objs.size+1)=some (seqObj "list" its.toArray 0):=by
  rw [<- hsz];exact Heap.get?_push_size _ rfl
 have keep:∀ b o,s.heap.get? b=some o->(((s.heap.push (seqObj "list" #[] 0)).update s.heap.objs.size (Obj.mapSeq (· ++ its.toArray))).push (seqObj "list" its.toArray 0)).get? b=some o:=fun b o q=>by
  have hlt:b<s.heap.objs.size:=Heap.lt_size q
  rw [Heap.get?_push_ne _ _ _ (by rw [hsz];exact Nat.ne_of_lt (Nat.lt_succ_of_lt hlt)),Heap.get?_update_ne _ _ _ _ (Nat.ne_of_lt hlt),Heap.get?_push_ne _ _ _ (Nat.ne_of_lt hlt)]
  exact q
 show wpAny _ _ _ _ _ { s with heap:=((s.heap.push (seqObj "list" #[] 0)).update s.heap.objs.size (Obj.mapSeq (· ++ its.toArray))).push (seqObj "list" its.toArray 0) }
 rw [hsz]
 refine wpAny_bind (wpAny_holding (wpAny_call_entry slot_list_sort ⟨_,ho,rfl⟩ entry_list_sort ?body (args_list_sort _)))
 case body =>
  generalize hh0:((s.heap.push (seqObj "list" #[] 0)).update s.heap.objs.size (Obj.mapSeq (· ++ its.toArray))).push (seqObj "list" its.toArray 0)=h0 at ho keep
  generalize ha:s.heap.objs.size+1=a at ho h
  have aNew:∀ b o,s.heap.get? b=some o->b≠a:=fun b o q=>by have:=Heap.lt_size q;rw [<- ha];exact Nat.ne_of_lt (Nat.lt_succ_of_lt this)
  show wpAny (model prog w) A.in1.in1 (Builtin.«list.sort» ⟨[.ref a],[]⟩) _ _ { s with heap:=h0 }
  rw [list_sort_plain]
  have hal:a<h0.objs.size:=Heap.lt_size ho
  refine wpAny_bind (listItems_at ho rfl ?_)
  refine wpAny_bind (listUpdate_at ho rfl ?_ (by rw [List.size_toArray,sizeLine_eq];omega) (Nat.zero_le _))
  obtain ⟨e1,ho1⟩:∃ e1,(h0.update a (Obj.mapSeq fun _=>(#[]:Array Value))).get? a=some (seqObj "list" #[] e1):=⟨_,get?_update_seq ho (fun _=>#[])⟩
  refine wpAny_bind (seqEpoch_at ho1 rfl ?_)
  refine wpAny_bind (wpAny_newTuple ?_ (by show its.length<=_;rw [sizeLine_eq];omega))
  refine wpAny_bind (wpAny_newList ?_ (Nat.zero_le _))
  refine wpAny_holding ?_
  have ho6:(((h0.update a (Obj.mapSeq fun _=>(#[]:Array Value))).push (seqObj "tuple" its.toArray 0)).push (seqObj "list" #[] 0)).get? a=some (seqObj "list" #[] e1):=by
   rw [Heap.get?_push_ne _ _ _ (by rw [size_push',Heap.size_update];exact Nat.ne_of_lt (Nat.lt_succ_of_lt hal)),Heap.get?_push_ne _ _ _ (by rw [Heap.size_update];exact Nat.ne_of_lt hal)]
   exact ho1
  have keep6:∀ b o,s.heap.get? b=some o->(((h0.update a (Obj.mapSeq fun _=>(#[]:Array Value))).push (seqObj "tuple" its.toArray 0)).push (seqObj "list" #[] 0)).get? b=some o:=fun b o q =>
   Heap.get?_push_of_some _ (Heap.get?_push_of_some _ ((Heap.get?_update_ne _ _ _ _ (aNew b o q)).trans (keep b o q)))
  show wpAny (model prog w) A.in1.in1 _ _ _ { s with heap:=((h0.update a (Obj.mapSeq fun _=>(#[]:Array Value))).push (seqObj "tuple" its.toArray 0)).push (seqObj "list" #[] 0) }
  generalize ((h0.update a (Obj.mapSeq fun _=>(#[]:Array Value))).push (seqObj "tuple" its.toArray 0)).push (seqObj "list" #[] 0)=h6 at ho6 keep6
  dsimp only
  have fin:∀ (ix:List Nat),ix.Perm (List.range its.length)->G ix->∀ out:Array Value,out=(ix.map fun i=>its.getD i Value.none).toArray ->
    ∃ v,PySem.Fin.done (Flow.ret Value.none) = .done (.ret v)/\wpAny (model prog w) A.in1 (do let _ <- pure v;ret (Value.ref a)) (fun fin s'=>∃ v,fin = .done (.ret v)/\Q v s') E { s with heap:=h6.update a (Obj.mapSeq fun _=>out) }:=fun ix hp hg out ho'=>by
   refine ⟨_,rfl,wpAny_bind (wpAny_pure (wpAny_pure ⟨_,rfl,?_⟩))⟩
   subst ho'
   exact h ix _ _ hp hg (fun b o q=>(Heap.get?_update_ne _ _ _ _ (aNew b o q)).trans (keep6 b o q)) (get?_update_seq ho6 fun _=>_)
  by_cases h2:its.toArray.size<2
  ·rw [if_pos h2,if_pos h2]
   refine wpAny_bind (wpAny_pure ?_)
   rw [StateT.run_pure]
   refine wpAny_bind (wpAny_pure ?_)
   dsimp only
   refine wpAny_bind (seqEpoch_at ho6 rfl ?_)
   rw [vD]
   refine wpAny_bind (listUpdate_at ho6 rfl ?_ (Nat.zero_le _) (by rw [List.size_toArray,sizeLine_eq];omega))
   simp only [bne_self_eq_false,Bool.false_eq_true,if_false]
   rw [List.size_toArray] at h2
   exact wpAny_pure (fin _ (List.Perm.refl _) (h1 h2) _ (by rw [vv]))
  ·rw [if_neg h2,if_neg h2]
   rw [List.size_toArray] at h2
   refine wpAny_bind (wpAny_mono (hk (by omega) h6 keep6 (fun κ' s'=>κ'=κ/\s'={ s with heap:=h6 }) ⟨rfl,rfl⟩) (fun κ' s' q=>?_) fun _ _ x=>x.elim)
   obtain ⟨rfl,rfl⟩:=q
   refine wpAny_bind (wpAny_mono (kat_run (ks:=its) (vs:=its) (κ:=κ') (G:=fun p s'=>(qk its.length p/\G p.toList)/\s'={ s with heap:=h6 }) (Q:=fun st' s'=>∃ p:Array Nat,arrOf st'=p.map (kas_item (its.toArray.zip its.toArray))/\failedOf st'=none/\(qk its.length p/\G p.toList)/\s'={ s with heap:=h6 })
    rfl (by omega) h64 (fun p st' s' a1 a2 a3 a4=>⟨p,a2,a3,a4⟩) (qX.wp (I:=fun s'=>s'={ s with heap:=h6 }) (fun i j C s' hi hj hI hC=>?_) (fun p s' hp hI=>⟨hp,hI⟩) (hs (by omega)) rfl)) ?_ fun _ _ e=>e)
   ·subst hI
    exact hc h6 keep6 i j hi hj C (hC _ rfl)
   ·rintro ⟨⟨⟩,st'⟩ s' ⟨p,har,hf,⟨hP,hG⟩,rfl⟩
    dsimp only
    have hout:=kat_snds (ks:=its) (vs:=its) rfl har
    have hz:(List.toArray (p.toList.map fun i=>its.getD i Value.none)).size=its.length:=by rw [List.size_toArray,List.length_map,Array.length_toList,hP.size]
    rw [hout]
    refine wpAny_bind (seqEpoch_at ho6 rfl ?_)
    refine wpAny_bind (listUpdate_at ho6 rfl ?_ (Nat.zero_le _) (by rw [hz,sizeLine_eq];omega))
    rw [hf]
    simp only [bne_self_eq_false,Bool.false_eq_true,if_false]
    exact wpAny_pure (fin p.toList (by have:=Array.perm_iff_toList_perm.mp hP;simpa using this) hG _ rfl)
end
end L2
end
section
namespace L2
open PySem PySem.Spec PySem.W PyProof.Rows
def vU (O:KeyOrd) (key:Nat->O.α) (vs out:List V):Prop:=∃ ix:List Nat,ix.Perm (List.range vs.length)/\out=(ix.map fun i=>vs.getD i V.non)/\(ix.map key).Pairwise O.kle
theorem zf.pairwise {O:KeyOrd}{key:Nat->O.α}{p:Array Nat}{n:Nat}(hs:zf (O:=O) key p n) (hz:p.size=n):(p.toList.map key).Pairwise O.kle:=by
 rw [List.pairwise_iff_getElem]
 intro i j hi hj hij
 simp at hi hj
 have q:=hs i j (Nat.le_of_lt hij) (by omega)
 unfold kp at q
 have e1:p.getD i 0=p[i]:=by simp [Array.getD,hi]
 have e2:p.getD j 0=p[j]:=by simp [Array.getD,hj]
 rw [e1,e2] at q
 simpa using q
theorem gj:∀ {vs:List V}{us:List Value},jC vs us->∀ i,jB (vs.getD i V.non) (us.getD i Value.none)
 | _,_,.nil,_=>rfl
 | _,_,.cons r _,0=>r
 | _,_,.cons _ t,i+1=>gj t i
theorem uq {vs:List V}{us:List Value}(r:jC vs us):∀ ix:List Nat,jC (ix.map fun i=>vs.getD i V.non) (ix.map fun i=>us.getD i Value.none)
 | []=>.nil
 | i::ix=>.cons (gj r i) (uq r ix)
theorem YQ {a b:Int}(h:Vc.kle a b):a<=b:=Int.not_lt.mp (of_decide_eq_false h)
def yf (H:Hp) (vs:List V) (rows:List (List Int)):Prop:=Paired (fun v (r:List Int)=>∃ a,v=V.ref a/\H a=some (.lst (r.map V.int))) vs rows
theorem Paired.get {α β:Type}{F:α->β->Prop}:∀ {l₁:List α}{l₂:List β}{i:Nat}{x:α},Paired F l₁ l₂->l₁[i]? = some x->∃ y,l₂[i]? = some y/\F x y
 | _,_,_,_,.nil,e=>by simp at e
 | _,_,0,_,.cons r _,e=>by simp at e;subst e;exact ⟨_,rfl,r⟩
 | _,_,i+1,v,.cons _ t,e=>by
  obtain ⟨d,h1,h2⟩:=Paired.get (i:=i) (x:=v) t (by simpa using e)
  exact ⟨d,by simpa using h1,h2⟩
theorem xY:∀ {ns:List Int}{us:List Value},jC (ns.map V.int) us->IntsAre us ns
 | [],_,.nil=>.nil
 | n::ns,_,.cons ⟨t,e⟩ r=>by subst e;exact .cons n t (xY r)
section
variable {X:Cx}
theorem kL (K:PySem.W.Frag) (hu:X.A.units+64<cLine) (hK:X.K=K:=by rfl):x5 X (.builtin "sorted") (fun xs H Q=>∃ p vs rows,xs=[.ref p]/\SqL K H p vs/\vs.length<64/\yf H vs rows /\
  ∀ l H' out,H l=none->H' l=some (.lst out)->ji H H'->vU uX (fun i=>rows.getD i []) vs out->Q (.ref l) H'):=by
 subst hK
 intro pins s σ H xs us Q I r h
 obtain ⟨p,vs,rows,rfl,hq,h64,hr,k⟩:=h
 obtain ⟨u,rfl,ru⟩:=yo r
 cases ru
 obtain ⟨its,rv,pl,hz⟩:=I.list hq
 have hlen:its.length=vs.length:=rv.length.symm
 have item:∀ i,i<its.length->∃ a its' n,its.getD i Value.none = .ref a/\s.heap.get? a=some { cls:=.type "list",data:=.seq its'.toArray n }/\IntsAre its' (rows.getD i []):=fun i hi=>by
  have e1:vs[i]? = some (vs[i]'(by omega)):=List.getElem?_eq_getElem (by omega)
  obtain ⟨y,e2,a,e3,e4⟩:=Paired.get hr e1
  obtain ⟨u,e5,ru⟩:=rv.get e1
  rw [e3] at ru
  cases ru
  obtain ⟨z,its',n,rv',e6⟩:=I.hok a _ e4
  refine ⟨a,its',n,by rw [List.getD_eq_getElem?_getD,e5];rfl,e6,?_⟩
  rw [List.getD_eq_getElem?_getD,e2]
  exact xY rv'
 have hun:X.A.in1.in1.units<cLine:=by
  show X.A.units+1+1<cLine
  omega
 refine Xh (κ:=oneType') (lt:=ltK uX fun i=>rows.getD i []) (G:=fun ix=>(ix.map fun i=>rows.getD i []).Pairwise uX.kle) pl.isList (by omega) (fun h2 h' hk' Q' q=>?_) (fun h' hk' i j hi hj Q' q=>?_) (fun h2=>?_) (fun h1=>?_) fun ix h' n hp hg hk' hn=>?_
 ·refine kas_kind (T:=.type "list") h2 (fun v hv=>?_) rfl rfl q
  obtain ⟨i,hi,rfl⟩:=List.mem_iff_getElem.mp hv
  obtain ⟨a,its',n,e1,e2,_⟩:=item i hi
  have e3:its[i] = .ref a:=by rw [<- e1];simp [hi]
  rw [e3]
  exact (show Looks _ h' (typeOf (.ref a)) _ from (Looks.ld (hk' _ _ e2)).andThen .now)
 ·obtain ⟨a,its',n,e1,e2,e3⟩:=item i hi
  obtain ⟨b,its2,n2,f1,f2,f3⟩:=item j hj
  rw [e1,f1,keyLt'_oneType]
  exact JJ hun (hk' _ _ e2) (hk' _ _ f2) e3 f3 q
 ·exact wM (by omega) fun p' hP hS=>⟨hP,hS.pairwise hP.size⟩
 ·have hcase:its.length=0\/its.length=1:=by omega
  rcases hcase with z | z
  ·rw [z];exact List.Pairwise.nil
  ·rw [z];exact List.pairwise_singleton _ _
 ·have hf:H (s.heap.objs.size+1)=none:=I.hok.fresh (Nat.le_succ _)
  refine ⟨.ref _,upd H (s.heap.objs.size+1) (.lst (ix.map fun i=>vs.getD i V.non)),I.laid (t':=s.toks) hk' (Nat.le_succ _) ⟨?_,_,n,uq rv ix,hn⟩,rfl,k _ _ _ hf j7 (ji.new hf) ⟨ix,by rw [<- hlen];exact hp,rfl,hg⟩⟩
  rw [List.length_map,hp.length_eq,List.length_range]
  exact Nat.le_trans (by omega:its.length<=1000) (by decide)
end
end L2
end
section
namespace L2
open PySem PySem.Spec PySem.W PyProof.Rows
abbrev vR (qual:Str) (params:Arguments) (body:Expr) (scope:Scope) (pm:Value) (c:Addr) (ctv:Value):FuncData:=kla_fn "<lambda>" qual params body scope [] pm (.ref c) ctv
def Zq (f:Addr) (fd:FuncData):HO:=.ext fun h=>h.get? f=some { cls:=.type "function",data:=.func fd }
def Xm (c:Addr) (qual:Str):HO:=.ext fun h=>h.CodeRec (.ref c) qual
def Tab (H:Hp) (Pt:Addr) (pos:Pos) (qual:Str):Prop:=H Pt=some (.tbl #[])\/∃ c',H Pt=some (.tbl #[rawInt pos.line,rawInt pos.col,.ref c'])/\H c'=some (Xm c' qual)
theorem Tab.ne {H:Hp}{Pt:Addr}{pos:Pos}{qual:Str}(T:Tab H Pt pos qual):∃ ps,H Pt=some (.tbl ps):=by
 rcases T with z | ⟨c',z,_⟩
 ·exact ⟨_,z⟩
 ·exact ⟨_,z⟩
theorem Tab.same {H H':Hp}{Pt:Addr}{pos:Pos}{qual:Str}(T:Tab H Pt pos qual) (s:ji H H'):Tab H' Pt pos qual:=by
 rcases T with z | ⟨c',z,y⟩
 ·exact .inl (s _ _ z)
 ·exact .inr ⟨c',s _ _ z,s _ _ y⟩
theorem Tab.ext {H H':Hp}{Pt b:Addr}{pos:Pos}{qual:Str}{xs:List V}(T:Tab H Pt pos qual) (hb:H b=some (.lst xs)) (e:Ext b H H'):Tab H' Pt pos qual:=by
 rcases T with z | ⟨c',z,y⟩
 ·exact .inl (e _ _ z (jr z hb (by intro q;cases q)))
 ·exact .inr ⟨c',e _ _ z (jr z hb (by intro q;cases q)),e _ _ y (jr y hb (by intro q;cases q))⟩
theorem Tab.extN {H H':Hp}{Pt b:Addr}{pos:Pos}{qual:Str}(T:Tab H Pt pos qual) (hb:H b=none) (e:Ext b H H'):Tab H' Pt pos qual:=T.same fun c o h=>e c o h (j1 h hb)
def Bm (mg:Str->Option Value) (base:Heap):Prop:=∃ bm ob,mg "__builtins__" = some (.ref bm)/\bm≠builtinsNs/\base.get? bm=some ob/\ob.cls = .type "module" /\ ob.dict=some builtinsNs/\ob.data = .plain
theorem VC {P:Program}{w:World}{K:PySem.W.Frag}{mg:Str->Option Value}{base:Heap}{k:Nat}{f c:Addr}{qual:Str}{params:Arguments}{body:Expr}{scope:Scope}{pm ctv:Value}{N:List Str}{x:Str}{A:Around}{outer:List Env}{s:Shared}{H:Hp}{u:Value}{v:V}{Q:VK}{t:TE}
  (ho:s.heap.get? f=some { cls:=.type "function",data:=.func (vR qual params body scope pm c ctv) }) (hcd:s.heap.CodeRec (.ref c) qual) (S:FnScope N [x] scope) (hr:Room (k+1) A) (e0:Env0 P w K mg base A outer s H)
  (hb:∀ pm c ctv u,bindArgs (vR qual params body scope pm c ctv) ⟨[u],[]⟩=pure [(x,u)]) (r:jB v u)
  (ht:PE (yO CX0 P w K mg base N qual scope f (.ref c) A outer s H E0).nox body t) (q:t (start N [v]) H Q) :
  codeAny (model P w) A (.call (.ref f) ⟨[u],[]⟩) (CR CX0 outer P w H s Q E0) s:=by
 have lim:s.heap.NoLimit:=e0.mod.nolimit.keeps fun b o e=>(e0.bs b o e).1
 have hkind:∀ y∈([x].zip [u]),scope.names.lookup y.1=some .local\/(scope.names.lookup y.1=some .cell/\((cellsFrom (s.heap.objs.size+1) scope.names []).lookup y.1).isSome=true):=fun ⟨n,v⟩ hy=>by
  rcases S.par n (List.of_mem_zip hy).1 with q | q
  ·exact .inl q
  ·exact .inr ⟨q,PySem.W.cellsFrom_some _ _ _ (.inl q)⟩
 refine kla_callFunE hr.depth ho rfl S.co S.gen rfl hcd ?_
 rw [hb]
 refine wpAny_pure (wpAny_newFunctionEnv_cells (binds:=[x].zip [u]) S.kind hkind fun env he s1 y=>?_)
 subst he
 refine ⟨lim.keeps y.toInCall.keep,kla_codeExpr ?_⟩
 have I:Inv (yO CX0 P w K mg base N qual scope f (.ref c) A outer s H E0) [] (start N [v]) H s1:=uv S hr.hd e0 rfl (Paired.cons r .nil) y
 refine wpAny_mono (ht.nox [] s1 (start N [v]) H _ I q) (fun u' s' hs=>?_) fun e s' hs=>hs
 obtain ⟨v',H',J,rv,q'⟩:=hs
 exact ⟨v',H',J.os,J.bare,J.base,J.hok,rv,q'⟩
section
variable {X:Cx}{pins:List (Addr×Obj)}{σ:St}{H:Hp}{s:Shared}
theorem V3 {E:Value->Shared->Prop}{c Pt:Addr}{params:Arguments}{body:Expr}{scope:Scope}{pos:Pos}{Q:Value->Shared->Prop}(I:Inv X pins σ H s) (hcode:X.env.code = .ref c) (CH:CodeHd X.base c Pt) (hB:Bm X.mg X.base)
  (hcl:closureFor scope X.env=pure []) (hdef:defaultsOf params X.env=([],[])) (T:Tab H Pt pos (X.env.qual ++ "<lambda>"))
  (k:∀ f H' s' pm c' ctv,Inv X pins σ H' s'->H f=none->H' f=some (Zq f (vR (X.env.qual ++ "<lambda>") params body scope pm c' ctv))->H' c'=some (Xm c' (X.env.qual ++ "<lambda>"))->Ext Pt H H'->Tab H' Pt pos (X.env.qual ++ "<lambda>")->Q (.ref f) s') :
  wpAny (model X.prog X.w) X.A (eval (.Lambda params body scope pos) X.env) Q E s:=by
 refine kla_eval hdef ?_
 obtain ⟨bm,ob,b1,b2,b3,b4,b5,b6⟩:=hB
 obtain ⟨ps0,hPt⟩:=T.ne
 have trk:∀ {b:Addr} {o:Obj},X.base.get? b=some o->b≠Pt:=fun {b o} e z=>by
  have:=(I.bs b o e).2
  rw [z,hPt] at this;cases this
 have hgN:s.heap.Ns mainGlobals X.mg:=I.ok.mod.glob.keeps I.bk
 have hgP:mainGlobals≠Pt:=by
  obtain ⟨o,es,ep,e,_⟩:=I.ok.mod.glob
  exact trk e
 have hbG:bm≠mainGlobals:=fun q=>by
  obtain ⟨o,es,ep,e,hd,_⟩:=I.ok.mod.glob
  rw [q,e] at b3;cases b3;rw [hd] at b6;cases b6
 have hBA:s.heap.BuiltinsAt X.mg Pt:=⟨bm,ob,b1,b2,hbG,trk b3,I.bk _ _ b3,b4,b5,b6⟩
 have LS:∀ (f:Addr) (fd:FuncData) (h1 h2:Heap),h1.get? f=some { cls:=.type "function",data:=.func fd }->(∀ o,h1.get? f=some o->h2.get? f=some o)->h2.get? f=some { cls:=.type "function",data:=.func fd }:=fun f fd h1 h2 e m=>m _ e
 have CS:∀ (c:Addr) (q:Str) (h1 h2:Heap),h1.CodeRec (.ref c) q->(∀ o,h1.get? c=some o->h2.get? c=some o)->h2.CodeRec (.ref c) q:=fun c q h1 h2 ⟨c',o,vs,t,e,g,r⟩ m=>by
  cases e
  exact ⟨c,o,vs,t,rfl,m _ g,r⟩
 rcases T with hT | ⟨c',hT,hC⟩
 ·have eT:s.heap.get? Pt=some (tabObj #[]):=I.hok Pt _ hT
  refine kla_makeFunction (mg:=X.mg) hcl I.ok.glob hgN hcode (CH.keeps I.bk) eT trivial rfl hgP hBA fun c' ctv h' tk hx hge hlt hrec htb=>?_
  have hcN:H c'=none:=I.hok.fresh hge
  have hsz:s.heap.objs.size<=h'.objs.size:=Nat.le_of_lt (Nat.lt_of_le_of_lt hge hlt)
  have hfN:H h'.objs.size=none:=I.hok.fresh hsz
  have neC:∀ {b:Addr} {o:Obj},s.heap.get? b=some o->b≠c':=fun {b o} e=>Nat.ne_of_lt (Nat.lt_of_lt_of_le (Heap.lt_size e) hge)
  have neF:∀ {b:Addr} {o:Obj},s.heap.get? b=some o->b≠h'.objs.size:=fun {b o} e=>Nat.ne_of_lt (Nat.lt_of_lt_of_le (Heap.lt_size e) hsz)
  have hPc:Pt≠c':=neC eT
  have hPf:Pt≠h'.objs.size:=neF eT
  have hcf:c'≠h'.objs.size:=Nat.ne_of_lt hlt
  have e':h'.get? Pt=some (tabObj #[rawInt pos.line,rawInt pos.col,.ref c']):=by simpa using htb
  have getF:∀ {b:Addr} {o:HO},H b=some o->b≠Pt->upd (upd (upd H Pt (.tbl #[rawInt pos.line,rawInt pos.col,.ref c'])) c' (Xm c' (X.env.qual ++ "<lambda>"))) h'.objs.size (Zq h'.objs.size (vR (X.env.qual ++ "<lambda>") params body scope ((X.mg "__name__").getD .none) c' ctv)) b=some o:=fun {b o} e n=>by
   rw [j8 (j1 e hfN),j8 (j1 e hcN),j8 n];exact e
  have atP:upd (upd (upd H Pt (.tbl #[rawInt pos.line,rawInt pos.col,.ref c'])) c' (Xm c' (X.env.qual ++ "<lambda>"))) h'.objs.size (Zq h'.objs.size (vR (X.env.qual ++ "<lambda>") params body scope ((X.mg "__name__").getD .none) c' ctv)) Pt=some (.tbl #[rawInt pos.line,rawInt pos.col,.ref c']):=by
   rw [j8 hPf,j8 hPc,j7]
  have atC:upd (upd (upd H Pt (.tbl #[rawInt pos.line,rawInt pos.col,.ref c'])) c' (Xm c' (X.env.qual ++ "<lambda>"))) h'.objs.size (Zq h'.objs.size (vR (X.env.qual ++ "<lambda>") params body scope ((X.mg "__name__").getD .none) c' ctv)) c'=some (Xm c' (X.env.qual ++ "<lambda>")):=by
   rw [j8 hcf,j7]
  refine k h'.objs.size (upd (upd (upd H Pt (.tbl #[rawInt pos.line,rawInt pos.col,.ref c'])) c' (Xm c' (X.env.qual ++ "<lambda>"))) h'.objs.size (Zq h'.objs.size (vR (X.env.qual ++ "<lambda>") params body scope ((X.mg "__name__").getD .none) c' ctv))) _ ((X.mg "__name__").getD .none) c' ctv ?_ hfN j7 atC (fun b o e n=>getF e n) (.inr ⟨c',atP,atC⟩)
  have kp1:∀ b o,b≠Pt->s.heap.get? b=some o->(h'.push (kla_obj "<lambda>" (X.env.qual ++ "<lambda>") params body scope [] ((X.mg "__name__").getD .none) c' ctv)).get? b=some o:=fun b o n e=>Heap.get?_push_of_some _ (hx b o n e)
  have nP:∀ {b:Addr},H b=none->b≠Pt:=fun {b} e z=>by rw [z,hT] at e;cases e
  refine I.step (g':=s.gens) (d':=s.drawn) (ch:=[]) (fun _ z=>nomatch z) (fun b o _ _ _ e n=>kp1 b o (nP n) e) (fun b o _ _ _ e n=>⟨o.slots,kp1 b o (nP n) e⟩) (fun b o _ e n=>?_) (fun b o _ e=>?_) (fun b xs e=>?_) (fun b o u e=>?_) (fun b ps e=>?_) (fun m hm=>?_) (fun b u e=>?_) I.bare
  ·rw [j8 (neF e),j8 (neC e),j8 (nP n)];exact n
  ·by_cases hb:b=Pt
   ·subst hb;exact ⟨_,Heap.get?_push_of_some _ e'⟩
   ·exact ⟨o,kp1 b o hb e⟩
  ·exact getF e (jr e hT (by intro z;cases z))
  ·exact getF e (jr e hT (by intro z;cases z))
  ·by_cases hb:b=Pt
   ·subst hb
    rw [hT] at e;cases e
    exact ⟨#[rawInt pos.line,rawInt pos.col,.ref c'],by rw [atP];simp⟩
   ·exact ⟨#[],by rw [getF e hb];simp⟩
  ·obtain ⟨o,es,ep,ho,r⟩:=hm
   exact ⟨o,es,ep,kp1 _ o (nP I.free) ho,r⟩
  ·by_cases h1:b=h'.objs.size
   ·subst h1
    rw [j7] at e;cases e
    exact ⟨Heap.get?_push_size _ rfl,⟨_,Heap.get?_push_size _ rfl⟩,fun h1 h2 e m=>LS _ _ h1 h2 e m⟩
   ·by_cases h2:b=c'
    ·subst h2
     rw [atC] at e;cases e
     obtain ⟨c2,oc,vs,t,e2,hoc,r⟩:=id hrec
     cases e2
     exact ⟨hrec.keeps fun b o e=>Heap.get?_push_of_some _ e,⟨_,Heap.get?_push_of_some _ hoc⟩,fun h1 h2 e m=>CS _ _ h1 h2 e m⟩
    ·by_cases h3:b=Pt
     ·subst h3
      rw [atP] at e;cases e
      exact Heap.get?_push_of_some _ e'
     ·rw [j8 h1,j8 h2,j8 h3] at e
      refine (I.hok b u e).stay (fun b' v hc q=>kp1 b' v ?_ q) (fun b' q=>getF q (jr q hT (by intro z;cases z))) fun b' xs q=>getF q (jr q hT (by intro z;cases z))
      rcases hc with z | z
      ·rw [z];exact h3
      ·exact jr z hT (by intro z;cases z)
 ·have eT:s.heap.get? Pt=some (tabObj #[rawInt pos.line,rawInt pos.col,.ref c']):=I.hok Pt _ hT
  have tri:TriplesOk (#[rawInt pos.line,rawInt pos.col,Value.ref c']:Array Value).toList:=TriplesOk_snoc pos.line pos.col (.ref c') [] trivial
  have hit:codeAmong pos (#[rawInt pos.line,rawInt pos.col,Value.ref c']:Array Value).toList=some (.ref c'):=codeAmong_snoc (c:=.ref c') [] trivial rfl
  refine kla_makeFunctionHit (mg:=X.mg) hcl I.ok.glob hgN hcode (CH.keeps I.bk) eT tri hit hBA fun ctv h' tk hk hsz=>?_
  have hfN:H h'.objs.size=none:=I.hok.fresh hsz
  refine k h'.objs.size (upd H h'.objs.size (Zq h'.objs.size (vR (X.env.qual ++ "<lambda>") params body scope ((X.mg "__name__").getD .none) c' ctv))) _ ((X.mg "__name__").getD .none) c' ctv ?_ hfN j7 (by rw [j8 (j1 hC hfN)];exact hC) (Ext.new hfN) (.inr ⟨c',by rw [j8 (j1 hT hfN)];exact hT,by rw [j8 (j1 hC hfN)];exact hC⟩)
  exact I.laid (fun b o e=>Heap.get?_push_of_some _ (hk b o e)) hsz ⟨Heap.get?_push_size _ rfl,⟨_,Heap.get?_push_size _ rfl⟩,fun h1 h2 e m=>LS _ _ h1 h2 e m⟩
theorem Inv.adopt {D:Addr}{ob:Obj}{o:HO}{h':Heap}{t':Nat}(I:Inv X ((D,ob)::pins) σ H s) (h1:X.s₀.heap.objs.size<=D) (h2:∀ x c,X.env.cells.lookup x=some c->c≠D) (h3:∀ p∈X.pn++pins,p.1≠D)
  (k:∀ b u,b≠D->s.heap.get? b=some u->h'.get? b=some u) (new:qB X.prog X.w (upd H D o) h' D o):Inv X pins σ (upd H D o) { s with heap:=h',toks:=t' }:=by
 obtain ⟨eD,nD,lD,_,_⟩:=I.pin (D,ob) (List.mem_append_right _ List.mem_cons_self)
 have I':Inv X pins σ H s:=I.pins_of fun p hp=>I.pin p (List.mem_append_right _ (List.mem_cons_of_mem _ hp))
 have nit:∀ b u,H b=some u->b≠D:=fun b u e z=>by rw [z,nD] at e;cases e
 have getF:∀ {b:Addr} {u:HO},H b=some u->upd H D o b=some u:=fun {b u} e=>by rw [j8 (nit b u e)];exact e
 refine I'.step (g':=s.gens) (d':=s.drawn) (ch:=[D]) (fun b hb=>?_) (fun b o _ _ hc e _=>k b o (fun z=>hc (by simp [z])) e) (fun b o _ _ hc e _=>⟨o.slots,k b o (fun z=>hc (by simp [z])) e⟩) (fun b o hc _ n=>by rw [j8 (fun z=>hc (by simp [z]))];exact n)
  (fun b o hc e=>⟨o,k b o (fun z=>hc (by simp [z])) e⟩) (fun _ _ e=>getF e) (fun _ _ _ e=>getF e) (fun b ps e=>⟨#[],by rw [getF e];simp⟩) (fun m hm=>?_) (fun b u e=>?_) I'.bare
 ·have e:b=D:=by simpa using hb
  subst e
  exact ⟨.inr h1,lD,h2,h3⟩
 ·obtain ⟨o,es,ep,ho,r⟩:=hm
  exact ⟨o,es,ep,k _ o (Ne.symm lD) ho,r⟩
 ·by_cases hb:b=D
  ·subst hb
   rw [j7] at e;cases e
   exact new
  ·rw [j8 hb] at e
   refine (I'.hok b u e).stay (fun c v hc q=>k c v ?_ q) (fun _ q=>getF q) fun _ _ q=>getF q
   rcases hc with z | z
   ·rw [z];exact hb
   ·exact nit c _ z
end
end L2
end
section
namespace L2
open PySem PySem.Spec PySem.W PyProof.Rows
def UL (H:Hp) (ks:List V) (keyf:Nat->List Int) (j:Nat):Prop:=ks.length=j/\∀ i,i<j->∃ q,ks[i]? = some (V.ref q)/\H q=some (.tup ((keyf i).map V.int))
theorem Qd {a b:List Value}(h:a.length=b.length):(a.toArray.zip b.toArray).map (·.2)=b.toArray:=by
 apply Array.toList_inj.mp
 rw [Array.toList_map,ksk_zip]
 show (a.zip b).map Prod.snd=b
 rw [List.map_snd_zip]
 omega
section
variable {X:Cx}{pins:List (Addr×Obj)}{σ:St}{H:Hp}{s:Shared}
theorem JI {E:Value->Shared->Prop}{p f:Addr}{vs:List V}{keyf:Nat->List Int}{Q:Value->Shared->Prop}(I:Inv X pins σ H s) (hq:SqL X.K H p vs) (h64:vs.length<64) (hne:∀ i,i<vs.length->keyf i≠[])
  (hcall:∀ i v,vs[i]? = some v->∀ pins' s' H' u,Inv X pins' σ H' s'->ji H H'->jB v u->wpAny (model X.prog X.w) X.A.in1.in1 (call (.ref f) [u]) (EP X pins' σ fun kv H''=>ji H' H''/\∃ q,kv = .ref q/\H'' q=some (.tup ((keyf i).map V.int))) (fun _ _=>False) s')
  (k:∀ l H' out s',Inv X pins σ H' s'->H l=none->H' l=some (.lst out)->ji H H'->vU uX keyf vs out->Q (.ref l) s') :
  wpAny (model X.prog X.w) X.A (call (.builtin "sorted") [.ref p] [(Str.ofString "key",.ref f)]) Q E s:=by
 obtain ⟨its,rv,pl,hz⟩:=I.list hq
 have hlen:its.length=vs.length:=rv.length.symm
 refine call_function_entry_kw kind_sorted plain_sorted entry_sorted (ksk_s1 _ _) ?_
 unfold Builtin.«sorted»
 refine wpAny_bind (m:=checkCount "sorted" 1 1 _) (wpAny_pure ?_)
 refine wpAny_bind (collect_list pl.isList ?_ (by rw [sizeLine_eq];omega))
 refine wpAny_bind (wpAny_newList ?_ (by rw [sizeLine_eq];omega))
 have hsz:((s.heap.push (seqObj "list" #[] 0)).update s.heap.objs.size (Obj.mapSeq (· ++ its.toArray))).objs.size=s.heap.objs.size+1:=by
  rw [Heap.size_update,size_push']
 have ho:(((s.heap.push (seqObj "list" #[] 0)).update s.heap.objs.size (Obj.mapSeq (· ++ its.toArray))).push (seqObj "list" its.toArray 0)).get? (s.heap.objs.size+1)=some (seqObj "list" its.toArray 0):=by
  rw [<- hsz];exact Heap.get?_push_size _ rfl
 have keep:∀ b o,s.heap.get? b=some o->(((s.heap.push (seqObj "list" #[] 0)).update s.heap.objs.size (Obj.mapSeq (· ++ its.toArray))).push (seqObj "list" its.toArray 0)).get? b=some o:=fun b o q=>by
  have hlt:b<s.heap.objs.size:=Heap.lt_size q
  rw [Heap.get?_push_ne _ _ _ (by rw [hsz];exact Nat.ne_of_lt (Nat.lt_succ_of_lt hlt)),Heap.get?_update_ne _ _ _ _ (Nat.ne_of_lt hlt),Heap.get?_push_ne _ _ _ (Nat.ne_of_lt hlt)]
  exact q
 show wpAny _ _ _ _ _ { s with heap:=((s.heap.push (seqObj "list" #[] 0)).update s.heap.objs.size (Obj.mapSeq (· ++ its.toArray))).push (seqObj "list" its.toArray 0) }
 rw [hsz]
 refine wpAny_bind (wpAny_holding (wpAny_call_entry_kw slot_list_sort ⟨_,ho,rfl⟩ entry_list_sort ?body (ksk_l1 _ _)))
 case body =>
  generalize ((s.heap.push (seqObj "list" #[] 0)).update s.heap.objs.size (Obj.mapSeq (· ++ its.toArray))).push (seqObj "list" its.toArray 0)=h0 at ho keep
  generalize ha:s.heap.objs.size+1=a at ho
  have hDs:s.heap.objs.size<=a:=by rw [<- ha];exact Nat.le_succ _
  have aNew:∀ b o,s.heap.get? b=some o->b≠a:=fun b o q=>by have:=Heap.lt_size q;rw [<- ha];exact Nat.ne_of_lt (Nat.lt_succ_of_lt this)
  show wpAny (model X.prog X.w) X.A.in1.in1 (Builtin.«list.sort» ⟨[.ref a],[(Str.ofString "key",.ref f)]⟩) _ _ { s with heap:=h0 }
  rw [ksk_t1]
  unfold ksk_tree
  have hal:a<h0.objs.size:=Heap.lt_size ho
  refine wpAny_bind (listItems_at ho rfl ?_)
  refine wpAny_bind (listUpdate_at ho rfl ?_ (by rw [List.size_toArray,sizeLine_eq];omega) (Nat.zero_le _))
  obtain ⟨e1,ho1⟩:∃ e1,(h0.update a (Obj.mapSeq fun _=>(#[]:Array Value))).get? a=some (seqObj "list" #[] e1):=⟨_,get?_update_seq ho (fun _=>#[])⟩
  refine wpAny_bind (seqEpoch_at ho1 rfl ?_)
  refine wpAny_bind (wpAny_newTuple ?_ (by show its.length<=_;rw [sizeLine_eq];omega))
  refine wpAny_bind (wpAny_newList ?_ (Nat.zero_le _))
  refine wpAny_holding ?_
  have ho5:((h0.update a (Obj.mapSeq fun _=>(#[]:Array Value))).push (seqObj "tuple" its.toArray 0)).get? a=some (seqObj "list" #[] e1):=Heap.get?_push_of_some _ ho1
  have keep5:∀ b o,s.heap.get? b=some o->((h0.update a (Obj.mapSeq fun _=>(#[]:Array Value))).push (seqObj "tuple" its.toArray 0)).get? b=some o:=fun b o q =>
   Heap.get?_push_of_some _ ((Heap.get?_update_ne _ _ _ _ (aNew b o q)).trans (keep b o q))
  show wpAny (model X.prog X.w) X.A.in1.in1 (ksk_rest a (.ref f) false its.toArray e1 (.ref ((h0.update a (Obj.mapSeq fun _=>(#[]:Array Value))).push (seqObj "tuple" its.toArray 0)).objs.size)) _ _
   { s with heap:=((h0.update a (Obj.mapSeq fun _=>(#[]:Array Value))).push (seqObj "tuple" its.toArray 0)).push (seqObj "list" #[] 0) }
  generalize (h0.update a (Obj.mapSeq fun _=>(#[]:Array Value))).push (seqObj "tuple" its.toArray 0)=h5 at ho5 keep5
  have I5:Inv X pins σ H { s with heap:=h5,toks:=s.toks }:=I.kept keep5
  have hHa:H a=none:=I.hok.fresh hDs
  have hHk:H h5.objs.size=none:=I5.hok.fresh (Nat.le_refl _)
  have hLoc:a≠X.env.locals:=fun z=>by
   obtain ⟨m,⟨o,es,ep,e,_⟩,_⟩:=I.loc
   exact aNew _ _ e z.symm
  have hFs:a∉X.fs:=I.nofs hDs
  have hCell:∀ x c,X.env.cells.lookup x=some c->c≠a:=fun x c e=>by
   obtain ⟨v,o,e2,_⟩:=I.cell x c e
   exact aNew c o e2
  have hPins:∀ q∈X.pn++pins,q.1≠a:=fun q hq=>aNew _ _ (I.pin q hq).1
  have I6:Inv X ((a,seqObj "list" #[] e1)::pins) σ (upd H h5.objs.size (.lst [])) { s with heap:=h5.push (seqObj "list" #[] 0),toks:=s.toks }:=by
   refine Inv.pins_of (I5.lnew (its:=[]) (ys:=[]) .nil (Nat.zero_le _)) fun q hq=>?_
   rcases List.mem_cons.mp hq with rfl | hq
   ·refine ⟨Heap.get?_push_of_some _ ho5,?_,hLoc,hFs,fun v=>by intro z;cases z⟩
    rw [j8 (Nat.ne_of_lt (Heap.lt_size ho5))]
    exact hHa
   ·have J:=(I5.lnew (its:=[]) (ys:=[]) (t':=s.toks) .nil (Nat.zero_le _)).pin q (List.mem_append_right _ hq)
    exact J
  unfold ksk_rest
  refine wpAny_bind (wpAny_rule ?_)
  first
   | rw [List.forIn_toArray]
   | (rw [<- Array.forIn_toList];simp only [List.toList_toArray])
   | rw [<- Array.forIn_toList]
  refine wpAny_bind (ksk_fold (fun j s'=>∃ H' ks,Inv X ((a,seqObj "list" #[] e1)::pins) σ H' s'/\ji H H'/\H' h5.objs.size=some (.lst ks)/\UL H' ks keyf j) its 0 _
   ⟨_,[],I6,ji.new hHk,j7,rfl,fun i hi=>absurd hi (Nat.not_lt_zero _)⟩ (fun j x s' hx hJ=>?_) fun s' hJ=>?_)
  ·-- a key
   rw [Nat.zero_add] at hJ ⊢
   obtain ⟨H',ks,J,sm,hk,hl,hks⟩:=hJ
   have hj:j<its.length:=(List.getElem?_eq_some_iff.mp hx).1
   have hv:vs[j]? = some (vs[j]'(by omega)):=List.getElem?_eq_getElem (by omega)
   obtain ⟨u,e5,ru⟩:=rv.get hv
   rw [hx] at e5
   cases e5
   refine wpAny_bind (wpAny_attempt (wpAny_mono (hcall j _ hv _ s' H' x J sm ru) (fun kv s'' hk2=>?_) fun _ _ hF=>hF.elim))
   obtain ⟨kv',H'',J2,rk,sm2,q,rfl,hqq⟩:=hk2
   dsimp only
   have hk':=sm2 _ _ hk
   obtain ⟨z,itk,n,rvk,hlk,ek⟩:=J2.lstM hk'
   refine wpAny_bind (listUpdate_at ek rfl ?_ (by rw [List.size_toArray,<- hlk,hl,sizeLine_eq];omega) (Nat.le_trans (Nat.le_of_eq (Array.size_push ..)) (by rw [List.size_toArray,<- hlk,hl,sizeLine_eq];omega)))
   refine wpAny_pure ⟨rfl,_,ks++[.ref q],J2.lset (t':=s''.toks) (its':=itk++[kv]) hk' ek (by simp) (rvk.append (.cons rk .nil)) (by rw [List.length_append,List.length_singleton,hl];exact Nat.le_trans (by omega:j+1<=1000) (by decide)),fun b o e=>?_,j7,?_,fun i hi=>?_⟩
   ·rw [j8 (j1 e hHk)]
    exact sm2 _ _ (sm _ _ e)
   ·rw [List.length_append,List.length_singleton,hl]
   ·by_cases hij:i<j
    ·obtain ⟨q',e6,e7⟩:=hks i hij
     refine ⟨q',by rw [List.getElem?_append_left (by omega)];exact e6,?_⟩
     have e8:=sm2 _ _ e7
     rw [j8 (jr e8 hk' (by intro z;cases z))]
     exact e8
    ·have:i=j:=by omega
     subst this
     refine ⟨q,by rw [List.getElem?_append_right (by omega),hl];simp,?_⟩
     rw [j8 (jr hqq hk' (by intro z;cases z))]
     exact hqq
  ·-- behind the keys
   rw [Nat.zero_add] at hJ
   obtain ⟨H',ks,J,sm,hk,hl,hks⟩:=hJ
   obtain ⟨z,itk,n,rvk,hlk,ek⟩:=J.lstM hk
   have hlk':itk.length=its.length:=by omega
   refine wpAny_bind (listItems_at ek rfl ?_)
   obtain ⟨eD,nD,_⟩:=J.pin (a,seqObj "list" #[] e1) (List.mem_append_right _ List.mem_cons_self)
   have hak:a≠h5.objs.size:=fun z=>by rw [z,hk] at nD;cases nD
   have keyAt:∀ i,i<its.length->∃ q itq o m,itk.getD i Value.none = .ref q/\s'.heap.get? q=some o/\o.cls = .type "tuple" /\ o.data = .seq itq.toArray m/\IntsAre itq (keyf i):=fun i hi=>by
    obtain ⟨q,e6,e7⟩:=hks i hi
    obtain ⟨u,e8,ru⟩:=rvk.get e6
    cases ru
    obtain ⟨zz,itq,rq,o,e9,ec,m,ed⟩:=J.hok q _ e7
    exact ⟨q,itq,o,m,by rw [List.getD_eq_getElem?_getD,e8];rfl,e9,ec,ed,xY rq⟩
   have fin:∀ (ix:List Nat) (st':SortSt),ix.Perm (List.range its.length)->(ix.map keyf).Pairwise uX.kle->failedOf st'=none->(arrOf st').map (·.2)=(ix.map fun i=>its.getD i Value.none).toArray ->
     wpAny (model X.prog X.w) X.A.in1.in1 (ksk_tail a false e1 (.ref h5.objs.size) st') (fun fin s'=>∃ v,fin = .done (.ret v)/\wpAny (model X.prog X.w) X.A.in1 (do let _ <- pure v;ret (Value.ref a)) (fun fin s'=>∃ v,fin = .done (.ret v)/\Q v s') E s') E s':=by
    intro ix st' hp hg hf hout
    unfold ksk_tail
    dsimp only
    rw [hout]
    have hol:(ix.map fun i=>its.getD i Value.none).length<64:=by rw [List.length_map,hp.length_eq,List.length_range];omega
    refine wpAny_bind (listUpdate_at ek rfl ?_ (by rw [List.size_toArray,hlk',sizeLine_eq];omega) (Nat.zero_le _))
    refine wpAny_bind (wpAny_letGo ?_)
    have J2:Inv X ((a,seqObj "list" #[] e1)::pins) σ (upd H' h5.objs.size (.lst [])) { s' with heap:=s'.heap.update h5.objs.size (Obj.mapSeq fun _=>(#[]:Array Value)),toks:=s'.toks }:=J.lset (its':=[]) (ys:=[]) hk ek rfl .nil (Nat.zero_le _)
    have eD2:(s'.heap.update h5.objs.size (Obj.mapSeq fun _=>(#[]:Array Value))).get? a=some (seqObj "list" #[] e1):=(Heap.get?_update_ne _ _ _ _ hak).trans eD
    refine wpAny_bind (seqEpoch_at eD2 rfl ?_)
    refine wpAny_bind (listUpdate_at eD2 rfl ?_ (Nat.zero_le _) (by simp only [Bool.false_eq_true,if_false];rw [List.size_toArray,sizeLine_eq];omega))
    rw [hf]
    simp only [bne_self_eq_false,Bool.false_eq_true,if_false]
    refine wpAny_pure ⟨_,rfl,wpAny_bind (wpAny_pure (wpAny_pure ⟨_,rfl,?_⟩))⟩
    have eo:∃ n,((s'.heap.update h5.objs.size (Obj.mapSeq fun _=>(#[]:Array Value))).update a (Obj.mapSeq fun _=>(ix.map fun i=>its.getD i Value.none).toArray)).get? a=some (seqObj "list" (ix.map fun i=>its.getD i Value.none).toArray n):=⟨_,get?_update_seq eD2 fun _=>_⟩
    obtain ⟨n',eo⟩:=eo
    have J3:=J2.adopt (o:=.lst (ix.map fun i=>vs.getD i V.non)) (t':=s'.toks) (Nat.le_trans I.sz hDs) hCell hPins
     (h':=(s'.heap.update h5.objs.size (Obj.mapSeq fun _=>(#[]:Array Value))).update a (Obj.mapSeq fun _=>(ix.map fun i=>its.getD i Value.none).toArray)) (fun b u n e=>(Heap.get?_update_ne _ _ _ _ n).trans e) ⟨by rw [List.length_map,hp.length_eq,List.length_range];exact Nat.le_trans (by omega:its.length<=1000) (by decide),_,n',uq rv ix,eo⟩
    refine k a _ _ _ J3 hHa j7 (fun b o e=>?_) ⟨ix,by rw [<- hlen];exact hp,rfl,hg⟩
    rw [j8 (j1 e hHa),j8 (j1 e hHk)]
    exact sm _ _ e
   unfold ksk_end
   dsimp only
   simp only [Bool.false_eq_true,if_false]
   by_cases h2:its.toArray.size<2
   ·rw [if_pos h2,if_pos h2]
    refine wpAny_bind (wpAny_pure ?_)
    rw [StateT.run_pure]
    refine wpAny_bind (wpAny_pure ?_)
    dsimp only
    rw [List.size_toArray] at h2
    refine fin (List.range its.length) _ (List.Perm.refl _) ?_ rfl ?_
    ·have hcase:its.length=0\/its.length=1:=by omega
     rcases hcase with z | z
     ·rw [z];exact List.Pairwise.nil
     ·rw [z];exact List.pairwise_singleton _ _
    ·rw [vv]
     exact Qd hlk'
   ·rw [if_neg h2,if_neg h2]
    rw [List.size_toArray] at h2
    have tups:∃ fs,KatTups s'.heap itk fs/\0<fs.length/\∀ v∈fs,Looks (model X.prog X.w) s'.heap (typeOf v) (.type "int"):=by
     have go:∀ (l:List Value),(∀ i,i<l.length->∃ q itq o m ns,l.getD i Value.none = .ref q/\s'.heap.get? q=some o/\o.cls = .type "tuple" /\ o.data = .seq (List.toArray itq) m/\IntsAre itq ns/\ns≠[]) ->
       ∃ fs,KatTups s'.heap l fs/\fs.length=l.length/\∀ v∈fs,Looks (model X.prog X.w) s'.heap (typeOf v) (.type "int"):=by
      intro l
      induction l with
      | nil=>intro _;exact ⟨[],.nil,rfl,fun _ h=>nomatch h⟩
      | cons v l ih =>
       intro h
       obtain ⟨fs,t,e,lk⟩:=ih fun i hi=>h (i+1) (by rw [List.length_cons];omega)
       obtain ⟨q,itq,o,m,ns,e1,e2,e3,e4,e5,e6⟩:=h 0 (by rw [List.length_cons];omega)
       have e1':v = .ref q:=e1
       subst e1'
       cases e5 with
       | nil=>exact absurd rfl e6
       | cons n t' r =>
        refine ⟨.int n t'::fs,KatTups.cons e2 e3 e4 (by simp) t,by rw [List.length_cons,List.length_cons,e],fun v hv=>?_⟩
        rcases List.mem_cons.mp hv with rfl | hv
        ·exact Looks.of_pure rfl
        ·exact lk v hv
     obtain ⟨fs,t,e,lk⟩:=go itk fun i hi=>by
      obtain ⟨q,itq,o,m,a1,a2,a3,a4,a5⟩:=keyAt i (by omega)
      exact ⟨q,itq,o,m,keyf i,a1,a2,a3,a4,a5,hne i (by omega)⟩
     exact ⟨fs,t,by omega,lk⟩
    obtain ⟨fs,t,hfs,lk⟩:=tups
    refine wpAny_bind (kat_kind (T:=.type "int") t hfs lk rfl ?_)
    rw [show (Value.type "int" != Value.type "tuple")=true from rfl]
    refine wpAny_bind (wpAny_mono (kat_run (ks:=itk) (vs:=its) (κ:=tuples' true) (G:=fun p s2=>(qk its.length p/\(p.toList.map keyf).Pairwise uX.kle)/\s2=s') (Q:=fun st' s2=>∃ p:Array Nat,arrOf st'=p.map (kas_item (itk.toArray.zip its.toArray))/\failedOf st'=none/\(qk its.length p/\(p.toList.map keyf).Pairwise uX.kle)/\s2=s')
     hlk' (by omega) (by omega) (fun p st' s' a1 a2 a3 a4=>⟨p,a2,a3,a4⟩) (qX.wp (lt:=ltK uX keyf) (n:=its.length) (I:=fun s2=>s2=s') (fun i j C s2 hi hj hI hC=>?_) (fun p s2 hp hI=>⟨hp,hI⟩) (wM (by omega) fun p' hP hS=>⟨hP,hS.pairwise hP.size⟩) rfl)) ?_ fun _ _ e=>e)
    ·subst hI
     obtain ⟨q,itq,o,m,a1,a2,a3,a4,a5⟩:=keyAt i hi
     obtain ⟨q',itq',o',m',b1,b2,b3,b4,b5⟩:=keyAt j hj
     unfold kas_ask
     rw [a1,b1]
     exact Xq a2 a4 b2 b4 a5 b5 (hC _ rfl)
    ·rintro ⟨⟨⟩,st'⟩ s2 ⟨p,har,hf,⟨hP,hG⟩,rfl⟩
     dsimp only
     exact fin p.toList st' (by have:=Array.perm_iff_toList_perm.mp hP;simpa using this) hG hf (kat_snds hlk' har)
end
end L2
end
section
namespace L2
open PySem PySem.Spec PySem.W PyProof.Rows
section
variable {prog:Program}{w:World}{A:Around}{E:Value->Shared->Prop}{s:Shared}
theorem QZ (n:Nat):Builtin.Slice.sliceAdjust none none (-1) (n:Int)=((n:Int)-1,-1):=by
 unfold Builtin.Slice.sliceAdjust
 simp
theorem QK (n:Nat):Builtin.Slice.slicePlaces ((n:Int)-1) (-1) (-1)=n:=by
 unfold Builtin.Slice.slicePlaces
 have h1:¬ ((-1:Int) > 0):=by decide
 simp only [h1,if_false]
 by_cases h:n=0
 ·subst h;simp
 ·rw [show (- -1:Int)=1 by decide]
  simp only [Int.ediv_one]
  split <;> omega
theorem ur {sl:Addr}{v3:Value}{n:Nat}{Q:Int×Int×Nat->Shared->Prop}(hs:s.heap.IsSliceOf sl .none .none v3) (pk:IsPart v3 (some (-1)))
  (h:Q ((n:Int)-1,-1,n) s):wpAny (model prog w) A (Builtin.Slice.sliceApplied (.ref sl) (pure (n:Int))) Q E s:=by
 obtain ⟨os,hos,hcs,hds⟩:=id hs
 unfold Builtin.Slice.sliceApplied Builtin.Slice.sliceFields
 refine wpAny_bind (wpAny_bind (wpAny_field hos hds (x:=.none) rfl (wpAny_bind (wpAny_field hos hds (x:=.none) rfl (wpAny_bind (wpAny_field hos hds (x:=v3) rfl (wpAny_pure ?_)))))))
 refine wpAny_bind (HT.slicePart_ pk ?_)
 show wpAny _ _ (if ((-1:Int) == 0)=true then _ else _) _ _ s
 rw [if_neg (by decide)]
 refine wpAny_bind (HT.slicePart_ .none (wpAny_bind (HT.slicePart_ .none (wpAny_bind (wpAny_pure ?_)))))
 show wpAny _ _ (match Builtin.Slice.sliceAdjust none none (-1) (n:Int) with | (lo,hi)=>pure (lo,(-1:Int),Builtin.Slice.slicePlaces lo hi (-1))) _ _ s
 rw [QZ n]
 show wpAny _ _ (pure ((n:Int)-1,(-1:Int),Builtin.Slice.slicePlaces ((n:Int)-1) (-1) (-1))) _ _ s
 rw [QK]
 exact wpAny_pure h
theorem V4 (xs:Array Value):((List.range xs.size).filterMap fun (m:Nat)=>xs[(((xs.size:Int)-1)+(m:Int) * -1).toNat]?).toArray=xs.toList.reverse.toArray:=by
 have e:((List.range xs.size).filterMap fun (m:Nat)=>xs[(((xs.size:Int)-1)+(m:Int) * -1).toNat]?)=((List.range xs.size).map fun k=>xs.size-1-k).filterMap (xs[·]?):=by
  rw [List.filterMap_map]
  congr 1
  funext m
  show xs[(((xs.size:Int)-1)+(m:Int) * -1).toNat]? = xs[xs.size-1-m]?
  congr 1
  omega
 rw [e,krv_range,List.filterMap_reverse,krv_all]
theorem vE {t sl:Addr}{items:Array Value}{v3:Value}{Q:Value->Shared->Prop}(ht:IsTup s.heap t items) (hs:s.heap.IsSliceOf sl .none .none v3) (pk:IsPart v3 (some (-1)))
  (h:Q (.ref s.heap.objs.size) { s with heap:=s.heap.push { cls:=.type "tuple",data:=.seq items.toList.reverse.toArray } }) (hsz:items.size<=sizeLine):wpAny (model prog w) A (getItem (.ref t) (.ref sl)) Q E s:=by
 have htake:sizeOk (.seq items.toList.reverse.toArray):=by
  show items.toList.reverse.toArray.size<=sizeLine
  rw [List.size_toArray,List.length_reverse,Array.length_toList]
  exact hsz
 obtain ⟨os,hos,hcs,hds⟩:=id hs
 have hTs:s.TypeIs (.ref sl) "slice":=⟨os,hos,hcs⟩
 unfold getItem
 try with_reducible refine wpAny_holding ?_
 first | refine wpAny_bind (wpAny_pure ?_) | skip
 refine wpAny_bind (wpAny_sequenceKey ht.typeIs (by decide) ?_)
 refine wpAny_bind (wpAny_callSpecial?_slot (name:=Str.ofString "__getitem__") ht.typeIs PyProof.Rows.slot_tuple_getitem
  (wpAny_call_entry PyProof.Rows.slot_tuple_getitem ht.typeIs entry_tuple_getitem ?_ (args_tuple_getitem _ _)))
 show wpAny _ _ (Builtin.Tuple.tupleItemsOf (.ref t) >>= _) _ _ s
 refine wpAny_bind (tupleItemsOf_ ht ?_)
 refine wpAny_bind (wpAny_typeOf hTs ?_)
 rw [if_pos (by decide)]
 refine wpAny_bind (ur hs pk ?_)
 show wpAny _ _ (if (((items.size:Int)-1) == 0 && (-1:Int) == 1 && items.size == items.size)=true then _ else _) _ _ s
 rw [if_neg (by simp),V4]
 first
  | exact wpAny_bind (m:=Builtin.Tuple.tupleExact _) (wpAny_newObj_type (wpAny_pure ⟨_,rfl,wpAny_pure h⟩) htake)
  | exact wpAny_bind (m:=Builtin.Tuple.tupleExact _) (wpAny_newObj_type (wpAny_bind (wpAny_pure (wpAny_pure ⟨_,rfl,wpAny_pure h⟩))) htake)
  | exact wpAny_bind (wpAny_bind (m:=Builtin.Tuple.tupleExact _) (wpAny_newObj_type (wpAny_pure (wpAny_pure ⟨_,rfl,wpAny_pure h⟩)) htake))
  | exact wpAny_bind (wpAny_bind (m:=Builtin.Tuple.tupleExact _) (wpAny_newObj_type (wpAny_pure ⟨_,rfl,wpAny_pure h⟩) htake))
end
section
variable {X:Cx}{e:Expr}{te:TE}{pos p2 p3 p4:Pos}{j3:Nat}
def WN (K:PySem.W.Frag) (te:TE):TE:=fun σ H Q=>te σ H fun x H2=>∃ a xs,x = .ref a/\SqT K H2 a xs/\New H2 (.tup xs.reverse) Q
def Wy (K:PySem.W.Frag) (te:TE):TE:=fun σ H Q=>te σ H fun x H2=>∃ a xs,x = .ref a/\SqL K H2 a xs/\New H2 (.lst xs.reverse) Q
theorem VF (K:PySem.W.Frag) (he:PE X e te) (hK:X.K=K:=by rfl):PE X (.Subscript e (.Slice none none (some (.UnaryOp .USub (.Constant (.int 1) j3 p3) p4)) p2) pos) (WN K te):=by
 subst hK
 intro pins s σ H Q I h
 refine Subscript_ (thn (he pins s σ H _ I h) fun v s1 ⟨x,H1,I1,r1,q1⟩=>?_)
 refine wpAny_Slice ?_
 rw [evalPart_none]
 refine wpAny_pure ?_
 refine wpAny_pure ?_
 rw [evalPart_some]
 obtain ⟨a,xs,rfl,hx,q⟩:=q1
 refine thn (vz zR j4 pins s1 σ H1 (fun y H2=>y = .int (-1)/\H2=H1) I1 ⟨_,rfl,rfl,rfl⟩) fun u s3 ⟨y,H3,I3,ry,ey,eH⟩=>?_
 subst ey eH
 obtain ⟨tk,rfl⟩:=ry
 cases r1
 have I4:Inv X pins σ H3 { s3 with heap:=s3.heap.push { cls:=.type "slice",data:=.fields #[.none,.none,.int (-1) tk] } }:=I3.kept (t':=s3.toks) fun b ob q=>Heap.get?_push_of_some _ q
 obtain ⟨its,r,ht,hz⟩:=I4.tuple hx
 have hlen:its.toArray.size=xs.length:=by rw [List.size_toArray];exact r.length.symm
 show wpAny (model X.prog X.w) X.A (subscriptTail e (.Slice none none (some (.UnaryOp .USub (.Constant (.int 1) j3 p3) p4)) p2) (.ref a) (.ref s3.heap.objs.size)) (EP X pins σ Q) X.xe { s3 with heap:=s3.heap.push { cls:=.type "slice",data:=.fields #[.none,.none,.int (-1) tk] } }
 refine tail_any (ops:=[.ref a,.ref s3.heap.objs.size]) ht.typeIs PyProof.Rows.slot_tuple_getitem.lookup ?_ (by with_unfolding_all rfl)
 refine vE ht (Heap.IsSliceOf.new ..) (.int _ _) ?_ (by rw [hlen];exact hz)
 have hf:=I4.hok.fresh (Nat.le_refl _)
 refine ⟨.ref _,_,I4.laid (t':=s3.toks) (o:=.tup xs.reverse) (fun b ob q=>Heap.get?_push_of_some _ q) (Nat.le_refl _) ?_,rfl,q.at _ hf⟩
 exact ⟨by rw [List.length_reverse];exact hz,_,r.reverse,IsTup.new _ _⟩
theorem VN (K:PySem.W.Frag) (he:PE X e te) (hK:X.K=K:=by rfl):PE X (.Subscript e (.Slice none none (some (.UnaryOp .USub (.Constant (.int 1) j3 p3) p4)) p2) pos) (Wy K te):=by
 subst hK
 intro pins s σ H Q I h
 refine Subscript_ (thn (he pins s σ H _ I h) fun v s1 ⟨x,H1,I1,r1,q1⟩=>?_)
 refine wpAny_Slice ?_
 rw [evalPart_none]
 refine wpAny_pure ?_
 refine wpAny_pure ?_
 rw [evalPart_some]
 obtain ⟨a,xs,rfl,hx,q⟩:=q1
 refine thn (vz zR j4 pins s1 σ H1 (fun y H2=>y = .int (-1)/\H2=H1) I1 ⟨_,rfl,rfl,rfl⟩) fun u s3 ⟨y,H3,I3,ry,ey,eH⟩=>?_
 subst ey eH
 obtain ⟨tk,rfl⟩:=ry
 cases r1
 have I4:Inv X pins σ H3 { s3 with heap:=s3.heap.push { cls:=.type "slice",data:=.fields #[.none,.none,.int (-1) tk] } }:=I3.kept (t':=s3.toks) fun b ob q=>Heap.get?_push_of_some _ q
 obtain ⟨its,r,ht,hz⟩:=I4.list hx
 have hlen:its.length=xs.length:=r.length.symm
 show wpAny (model X.prog X.w) X.A (subscriptTail e (.Slice none none (some (.UnaryOp .USub (.Constant (.int 1) j3 p3) p4)) p2) (.ref a) (.ref s3.heap.objs.size)) (EP X pins σ Q) X.xe { s3 with heap:=s3.heap.push { cls:=.type "slice",data:=.fields #[.none,.none,.int (-1) tk] } }
 refine tail_any (ops:=[.ref a,.ref s3.heap.objs.size]) ht.isList.typeIs slot_list_getitem.lookup ?_ (by with_unfolding_all rfl)
 refine wpAny_getItem_list_slice ht.isList (Heap.IsSliceOf.new ..) .none .none (.int _ _) (by decide) ?_ (by rw [List.size_toArray];omega)
 rw [krv_pick]
 have hf:=I4.hok.fresh (Nat.le_refl _)
 refine ⟨.ref _,_,I4.laid (t':=s3.toks) (o:=.lst xs.reverse) (fun b ob q=>Heap.get?_push_of_some _ q) (Nat.le_refl _) ?_,rfl,q.at _ hf⟩
 exact ⟨by rw [List.length_reverse];exact hz,_,0,r.reverse,Heap.get?_push_size _ rfl⟩
end
theorem SqL.extT {K:PySem.W.Frag}{Pt a:Addr}{H H':Hp}{xs:List V}{ps:Array Value}(hp:H Pt=some (.tbl ps)) (x:Ext Pt H H') (h:SqL K H a xs):SqL K H' a xs:=by
 rcases h with (h | ⟨o,h⟩) | h
 ·exact .inl (.inl (x _ _ h (jr h hp (by intro z;cases z))))
 ·exact .inl (.inr ⟨o,x _ _ h (jr h hp (by intro z;cases z))⟩)
 ·exact .inr h
section
variable {X:Cx}{e body:Expr}{ta:TA}{tb:TE}{params:Arguments}{scope:Scope}{lpos kpos p pos:Pos}{N:List Str}{x:Str}{c Pt:Addr}{k:Nat}
def UI (K:PySem.W.Frag) (Pt:Addr) (lpos:Pos) (qual:Str) (N:List Str) (ta:TA) (tb:TE):TE:=fun σ H Q=>ta σ H fun xs H1=>Tab H1 Pt lpos qual/\∃ (p:Addr) (vs:List V) (keyf:Nat->List Int),xs=[.ref p]/\SqL K H1 p vs/\vs.length<64/\(∀ i,i<vs.length->keyf i≠[]) /\
 (∀ H2,Ext Pt H1 H2->∀ i v,vs[i]? = some v->tb (start N [v]) H2 fun kv H3=>ji H2 H3/\∃ q,kv = .ref q/\H3 q=some (.tup ((keyf i).map V.int))) /\
 ∀ l H2 out,H1 l=none->H2 l=some (.lst out)->Ext Pt H1 H2->Tab H2 Pt lpos qual->vU uX keyf vs out->Q (.ref l) H2
theorem Xe (hg:Gl X "sorted") (hm:X.mg "sorted" = none) (ha:PA X [e] ta) (hcode:X.env.code = .ref c) (CH:CodeHd X.base c Pt) (hB:Bm X.mg X.base) (hr:Room (k+3) X.A) (S:FnScope N [x] scope)
  (hb:∀ pm c ctv u,bindArgs (vR (X.env.qual ++ "<lambda>") params body scope pm c ctv) ⟨[u],[]⟩=pure [(x,u)])
  (hbody:∀ f c' s H,PE (yO CX0 X.prog X.w X.K X.mg X.base N (X.env.qual ++ "<lambda>") scope f (.ref c') X.A.in1.in1 X.stack s H E0).nox body tb)
  (hcl:closureFor scope X.env=pure []:=by rfl) (hdef:defaultsOf params X.env=([],[]):=by rfl)
  (he:backTo pos (starEach [e] X.env)=(false,eval e X.env)::backTo pos (starEach [] X.env):=by rfl) (hplain:(backTo pos (starEach [e] X.env)).any (·.1)=false:=by rfl) :
  PE X (.Call (.Name "sorted" p) [e] [⟨some (Str.ofString "key"),.Lambda params body scope lpos,kpos⟩] pos) (UI X.K Pt lpos (X.env.qual ++ "<lambda>") N ta tb):=by
 intro pins s σ H Q I h
 refine wpAny_Call_Name_kw (yu I hg hm boot_sorted ?_ (by decide) (by decide))
 refine callWith_kw (thn (ha pos pins s σ H _ I h) fun us s1 ⟨vs,H1,I1,r,q⟩=>?_) he hplain
 show wpAny _ _ (evalAll ((do let v <- eval (.Lambda params body scope lpos) X.env;standAt pos;pure v)::[])) _ _ s1
 obtain ⟨T,a,xs,keyf,e1,hx,h64,hne,hkey,hq⟩:=q
 subst e1
 obtain ⟨u0,rfl,ru⟩:=yo r
 cases ru
 obtain ⟨ps0,hPt⟩:=T.ne
 refine wpAny_evalAll_cons (wpAny_bind (V3 I1 hcode CH hB hcl hdef T fun f H2 s2 pm c' ctv I2 hf hf2 hc2 X2 T2=>wpAny_bind (wpAny_standAt (wpAny_pure (wpAny_evalAll_nil ?_)))))
 show wpAny _ _ (call (.builtin "sorted") [.ref a] [(Str.ofString "key",.ref f)]) _ _ s2
 refine JI I2 (SqL.extT hPt X2 hx) h64 hne (fun i v hv pins' s' H' u I' sm ru=>?_) fun l H3 out s' I3 hl hl3 sm hs=>?_
 ·have X3:Ext Pt H1 H':=X2.trans (Ext.of_same sm)
  obtain ⟨ho,_⟩:=I'.hok f _ (sm _ _ hf2)
  obtain ⟨hcd,_⟩:=I'.hok c' _ (sm _ _ hc2)
  refine wpAny_call (codeAny_mono (VC (k:=k) ho hcd S (hr.in1.in1) I'.env0.in1.in1 hb ru (hbody f c' s' H') (hkey H' X3 i v hv)) fun r s'' hq=>?_)
  cases r with
  | error e=>exact False.elim hq
  | ok fl =>
   cases fl with
   | ret u=>exact I'.after hq
   | next=>exact False.elim hq
   | brk=>exact False.elim hq
   | cont=>exact False.elim hq
 ·exact ⟨.ref l,H3,I3,rfl,hq l H3 out (X2.free hl (fun z=>by rw [z] at hl;obtain ⟨p2,z2⟩:=T2.ne;rw [z2] at hl;cases hl)) hl3 (X2.trans (Ext.of_same sm)) (T2.same sm) hs⟩
end
end L2
end
section
namespace L2
open PySem PySem.Spec PySem.W PyProof.Rows
theorem Zc {P:Program}{w:World}{K:PySem.W.Frag}{mg mb:Str->Option Value}{k:Nat}{fa a c Pt:Addr}{fd:FuncData}{x:Str}{sp:Sp}{s₁:Shared}{vs:List Value}{ns:List Int}
  (KX:K.In s₁.heap) (hns:s₁.heap.Ns mainGlobals mg) (hb:s₁.heap.Ns builtinsNs mb) (hbb:∀ x:Str,x ≠ "__name__" -> mb x=bootBuiltins x) (hlim:s₁.heap.NoLimit) (hg:s₁.gens = #[])
  (ha:s₁.heap.get? a=some { cls:=.type "list",data:=.seq vs.toArray }) (hi:IntsAre vs ns) (hl:ns.length<=sizeLine) (hr:Room k callerA)
  (hPt:s₁.heap.get? Pt=some (tabObj #[])) (hKP:K.lookup Pt=none) (CH:CodeHd s₁.heap c Pt) (hB:Bm mg s₁.heap)
  (F:∀ base:Heap,K.In base->base.Ns mainGlobals mg->Bm mg base->FnOk P w K mg base CX0 k fa fd [x] sp) (hbind:∀ (s:Shared) (u:Value),BindsTo s fd ⟨[u],[]⟩ [(x,u)])
  (hsp:∀ H:Hp,SqL K H a (ns.map V.int)->H Pt=some (.tbl #[])->sp [.ref a] H (fun v _=>v = .bl true) fun _ _ _=>False) :
  codeAny (model P w) callerA (.call (.ref fa) ⟨[.ref a],[]⟩) (fun r s'=>r = .ok (.ret (.bool true))/\OldK s₁.heap s'.heap/\s'.os=s₁.os/\AllBare s'.gens) s₁:=by
 have rv:=uw hi
 have lenV:=hi.length
 have core:∀ H:Hp,H Pt=some (.tbl #[])->(∀ b,b≠Pt->H b=none\/∃ o xs,H b=some (.frz o (.lst xs)))->SqL K H a (ns.map V.int)->HOk P w H s₁.heap->(∀ b,H b≠none->b=a\/b=Pt)->(H a≠none->K.lookup a=none) ->
   codeAny (model P w) callerA (.call (.ref fa) ⟨[.ref a],[]⟩) (fun r s'=>r = .ok (.ret (.bool true))/\OldK s₁.heap s'.heap/\s'.os=s₁.os/\AllBare s'.gens) s₁:=by
  intro H hP hO hS hok hA hK
  have base_of:∀ {b:Addr} {o:Obj},s₁.heap.get? b=some o->H b=none->(kI s₁.heap H).get? b=some o:=fun e n=>YG e n
  have noA:∀ {b:Addr} {o:Obj},s₁.heap.get? b=some o->(∀ xs n,o.data≠.seq xs n)->(∀ vs,o.data = .fields vs->o.cls≠.none)->H b=none:=fun {b o} e d1 d2=>by
   cases q:H b with
   | none=>rfl
   | some u =>
    rcases hA b (by rw [q];simp) with e' | e'
    ·subst e'
     rw [ha] at e;cases e
     exact absurd rfl (d1 _ _)
    ·subst e'
     rw [hPt] at e;cases e
     exact absurd rfl (d2 _ rfl)
  have noD:∀ {b:Addr} {o:Obj} {es:Array DictEntry} {ep:Nat},s₁.heap.get? b=some o->o.data = .dict es ep->H b=none:=fun {b o es ep} e d =>
   noA e (fun xs n z=>by rw [d] at z;cases z) (fun vs z=>by rw [d] at z;cases z)
  have nsK:∀ {b:Addr} {m:Str->Option Value},s₁.heap.Ns b m->(kI s₁.heap H).Ns b m:=fun {b m} ⟨o,es,ep,e,d,r⟩=>⟨o,es,ep,base_of e (noD e d),d,r⟩
  have hKb:K.In (kI s₁.heap H):=fun b o e=>base_of (KX b o e) (by
   cases q:H b with
   | none=>rfl
   | some u =>
    rcases hA b (by rw [q];simp) with e' | e'
    ·subst e'
     rw [hK (by rw [q];simp)] at e;cases e
    ·subst e'
     rw [hKP] at e;cases e)
  have hBb:Bm mg (kI s₁.heap H):=by
   obtain ⟨bm,ob,b1,b2,b3,b4,b5,b6⟩:=hB
   exact ⟨bm,ob,b1,b2,base_of b3 (noA b3 (fun xs n z=>by rw [b6] at z;cases z) fun vs z=>by rw [b6] at z;cases z),b4,b5,b6⟩
  have hM:Mod K mg (kI s₁.heap H):=⟨hKb,nsK hns,⟨mb,nsK hb,hbb⟩,let ⟨mc,h1,h2⟩:=hlim;⟨mc,nsK h1,h2⟩⟩
  have e0:Env0 P w K mg (kI s₁.heap H) callerA [] s₁ H:=⟨rfl,hM,fun b o e=>VE e,Nat.le_of_eq (ZK _ _),trivial,fun b hb=>absurd (show b∈([]:List Addr) from hb) (by simp),hok,.of_eq hg⟩
  refine codeAny_mono ((F _ hKb (nsK hns) hBb).run callerA [] s₁ H ⟨[.ref a],[]⟩ [.ref a] [.ref a] _ _ hr e0 (hbind s₁ (.ref a)) (.cons rfl .nil) (hsp H hS hP)) fun r s' h=>?_
  cases r with
  | error e=>exact False.elim h
  | ok fl =>
   cases fl with
   | next=>exact False.elim h
   | brk=>exact False.elim h
   | cont=>exact False.elim h
   | ret u =>
    obtain ⟨v,H',os,bare,un,hok',r',q⟩:=h
    have q':v = .bl true:=q
    subst q'
    obtain rfl:u=Value.bool true:=r'
    have kp:∀ b o,b≠Pt->s₁.heap.get? b=some o->s'.heap.get? b=some o:=fun b o hb e=>by
     cases q:H b with
     | none=>exact un.keep b o e q (by intro z;exact absurd (show b∈([]:List Addr) from z) (by simp)) (by simp)
     | some u =>
      rcases hO b hb with z | ⟨ob,xs,z⟩
      ·rw [q] at z;cases z
      ·have z2:=un.frzs b ob _ z
       obtain ⟨e1,_⟩:=hok b _ z
       obtain ⟨e2,_⟩:=hok' b _ z2
       rw [e] at e1;cases e1
       exact e2
    obtain ⟨more,hm⟩:=un.tbls Pt _ hP
    have hm':s'.heap.get? Pt=some { cls:=.none,data:=.fields (#[]++more) }:=hok' Pt _ hm
    refine ⟨rfl,⟨fun b o e=>?_,fun b o e=>?_⟩,os,bare⟩
    ·by_cases hb:b=Pt
     ·subst hb
      rw [hPt] at e;cases e
      exact .inr (.inl ⟨(CH.tab hPt).isCodeTable,rfl,#[],more,rfl,hm'⟩)
     ·exact .inl (kp b o hb e)
    ·by_cases hb:b=Pt
     ·subst hb;exact ⟨_,hm'⟩
     ·exact ⟨o,kp b o hb e⟩
 have haP:a≠Pt:=fun z=>by rw [z,hPt] at ha;cases ha
 cases hk:K.lookup a with
 | some o =>
  have e:=KX a o hk
  rw [ha] at e
  cases e
  refine core (fun b=>if b=Pt then some (.tbl #[]) else none) (if_pos rfl) (fun b hb=>.inl (if_neg hb)) (.inr ⟨_,vs.toArray,_,hk,rfl,rfl,rfl,by rw [List.size_toArray,lenV];exact hl,by simpa using rv⟩) (fun b u z=>?_) (fun b z=>?_) fun z=>absurd (if_neg haP) z
  ·by_cases hb:b=Pt
   ·have z':=(if_pos hb).symm.trans z
    cases z'
    subst hb
    exact hPt
   ·have z':=(if_neg hb).symm.trans z
    cases z'
  ·by_cases hb:b=Pt
   ·exact .inr hb
   ·exact absurd (if_neg hb) z
 | none =>
  refine core (fun b=>if b=Pt then some (.tbl #[]) else if b=a then some (.frz { cls:=.type "list",data:=.seq vs.toArray } (.lst (ns.map V.int))) else none) (if_pos rfl) (fun b hb=>?_)
   (.inl (.inr ⟨{ cls:=.type "list",data:=.seq vs.toArray },(if_neg haP).trans (if_pos rfl)⟩)) (fun b u z=>?_) (fun b z=>?_) fun _=>hk
  ·by_cases hb2:b=a
   ·exact .inr ⟨_,_,(if_neg hb).trans (if_pos hb2)⟩
   ·exact .inl ((if_neg hb).trans (if_neg hb2))
  ·by_cases hb:b=Pt
   ·have z':=(if_pos hb).symm.trans z
    cases z'
    subst hb
    exact hPt
   ·by_cases hb2:b=a
    ·have z':=((if_neg hb).trans (if_pos hb2)).symm.trans z
     cases z'
     subst hb2
     exact ⟨ha,by rw [List.length_map];exact hl,vs,_,rv,ha⟩
    ·have z':=((if_neg hb).trans (if_neg hb2)).symm.trans z
     cases z'
  ·by_cases hb:b=Pt
   ·exact .inr hb
   ·by_cases hb2:b=a
    ·exact .inl hb2
    ·exact absurd ((if_neg hb).trans (if_neg hb2)) z
def QW (K:PySem.W.Frag) (Pt:Addr):Sp:=fun vs H Q _=>∃ (a:Addr) (ns:List Int),vs=[.ref a]/\SqL K H a (ns.map V.int)/\ns.length<=63/\H Pt=some (.tbl #[])/\∀ H',Q (.bl true) H'
theorem VW {l:PySem.W.OpenLaw}{q:Program}{loose:List Str}{XP:(Str->Option Value)->Heap->Prop}{YP:World->Heap->Prop}{d:DefRec}{K:Params->PySem.W.Frag}(k:Nat) (c Pt:Addr) (hr:Room k callerA) (hn:l.most=some 63) (hdf:d.params.defaults=[])
  (hY:∀ (w:World) (h:Heap),YP w h->(K w.params).In h/\h.get? Pt=some (tabObj #[])) (hKP:∀ p:Params,(K p).lookup Pt=none) (hC:∀ p:Params,codeHdIn (K p) c Pt=true)
  (F:∀ (w:World) (mg:Str->Option Value) (fa:Addr) (h:Heap),(K w.params).In h->h.Ns mainGlobals mg->mg d.name=some (.ref fa) ->
   ∃ fd:FuncData,(∀ (s:Shared) (u:Value),BindsTo s fd ⟨[u],[]⟩ [("_law_script",u)])/\∀ base:Heap,(K w.params).In base->base.Ns mainGlobals mg->Bm mg base->FnOk l.prog w (K w.params) mg base CX0 k fa fd ["_law_script"] (QW (K w.params) Pt)) :
  PySem.W.WalkO q loose XP YP l.row.toRowW d [] (fun f vs=>PySem.call f vs):=by
 refine Att.attach_call hn hdf fun w s₀ s₁ mg mb fa o pm cd doc a vs ns G Y ho hd hcd hmg hobj hints hlen hg=>?_
 obtain ⟨KX,hT⟩:=hY w _ Y
 obtain ⟨fd,hb,hF⟩:=F w mg fa _ KX G.T.g hmg
 exact Zc (c:=c) KX G.T.g G.T.b G.T.builtins G.T.nolimit hg hobj hints (Nat.le_trans hlen (by decide)) hr hT (hKP w.params) (codeHd_of_K KX (hC w.params)) G.T.bmain hF hb fun H hS hP=>⟨a,ns,rfl,hS,hlen,hP,fun _=>rfl⟩
theorem Fun.okC {P:Program}{w:World}{K:PySem.W.Frag}{mg:Str->Option Value}{base:Heap}{x qual:Str}{st:Stmt}{f c:Addr}{oc:Value}{od an:Option Addr}{osl:Array (Option Value)}{kV doc pm ct:Value}{N ps:List Str}{k:Nat}{sp:Sp}
  (l:K.lookup f=some ⟨oc,od,.func (PySem.W.fnOf x qual (jR st) (jJ st) (j6 st) .none kV doc pm an (.ref c) ct),osl⟩) (cd:PySem.W.codeIn K (.ref c) qual=true) (S:FnScope N ps (j6 st)) (len:∀ vs H Q E,sp vs H Q E->vs.length=ps.length)
  (hbody:∀ (A:Around) (outer:List Env) (s:Shared) (H:Hp) (vs:List V) (Q:VK) (E:XK),Room k (A.deeper (envOfC qual (j6 st) s.heap.objs.size f (.ref c)))->sp vs H Q E ->
   ∃ t,PSs (yO CX0 P w K mg base N qual (j6 st) f (.ref c) A outer s H E).nox (jJ st) t/\t { nx:=fun _ H'=>Q .non H',rt:=Q } (start N vs) H) :
  FnOk P w K mg base CX0 (k+1) f (PySem.W.fnOf x qual (jR st) (jJ st) (j6 st) .none kV doc pm an (.ref c) ct) ps sp:=by
 refine Ys l cd S len fun A outer s H vs Q E hr hsp=>?_
 obtain ⟨t,h,q⟩:=hbody A outer s H vs Q E hr hsp
 exact ⟨t,h.nox,q⟩
theorem Cal.mkC {P:Program}{w:World}{K:PySem.W.Frag}{mg:Str->Option Value}{base:Heap}{k:Nat}{x:Str}{ps:List Str}{sp:Sp}{st:Stmt}{h:Heap}{f c:Addr}{oc:Value}{od an:Option Addr}{osl:Array (Option Value)}{kV doc pm ct:Value}
  (X:K.In h) (G:h.Ns mainGlobals mg) (a:PySem.W.nsIn K mainGlobals x=some (some (.ref f)))
  (l:K.lookup f=some ⟨oc,od,.func (PySem.W.fnOf x x (jR st) (jJ st) (j6 st) .none kV doc pm an (.ref c) ct),osl⟩) (cd:PySem.W.codeIn K (.ref c) x=true) (k':PySem.W.keepIn K (.ref f)=true)
  (hb:∀ (kV doc pm:Value) (an:Option Addr) (cdv ct:Value) (us:List Value),us.length=ps.length->bindArgs (PySem.W.fnOf x x (jR st) (jJ st) (j6 st) .none kV doc pm an cdv ct) ⟨us,[]⟩=pure (ps.zip us))
  (ok:FnOk P w K mg base CX0 k f (PySem.W.fnOf x x (jR st) (jJ st) (j6 st) .none kV doc pm an (.ref c) ct) ps sp):Cal P w K mg base k x ps sp:=by
 have F:=yp (st:=st) l cd k'
 exact ⟨f,_,ok,F.binds hb,PySem.W.mg_of X G a,k'⟩
end L2
end
section
namespace L2
open PySem PySem.Spec PySem.W PyProof.Rows
def Ite (K:PySem.W.Frag) (a:Addr):It :=
 ⟨fun i H=>∃ xs x,SqL K H a xs/\xs[i]? = some x,fun i H v H'=>∃ t x,v = .ref t/\H t=none/\H'=upd H t (.tup [.int i,x])/\∀ xs,SqL K H a xs->xs[i]? = some x,fun i H=>∃ xs,SqL K H a xs/\xs.length<=i⟩
theorem Zy {P:Program}{w:World}{K:PySem.W.Frag}{es:List Expr}{x1:Nat}{pos:Pos}(a e it:Addr) (hne:e≠it):Turn P w K (.Tuple es x1 pos) (Ite K a) [e,it] e (fun i h=>∃ old,IsEnum h e it i old/\h.IsListIter it a i) where
 mem:=by simp
 obj:=fun i h ⟨old,st1,st2⟩ b hb=>by
  rcases List.mem_cons.mp hb with rfl | hb
  ·exact ⟨_,st1,fun v z=>by
    have z':Data.fields _=Data.cell v:=z
    cases z'⟩
  ·have e:b=it:=by simpa using hb
   subst e
   obtain ⟨o,e,c,d⟩:=st2
   exact ⟨o,e,fun v z=>by rw [d] at z;cases z⟩
 keep:=fun i h h' ⟨old,st1,st2⟩ k=>⟨old,k e (by simp) _ st1,st2.at fun o z=>k it (by simp) o z⟩
 item:=by
  intro X hP hw hK hc i pins s σ H E I hf st hg
  subst hP hw hK
  obtain ⟨old,st1,st2⟩:=st
  obtain ⟨xs,x,hq,hx⟩:=hg
  obtain ⟨its,rv,p,hz⟩:=I.list hq
  obtain ⟨u,hu,ru⟩:=rv.get hx
  obtain ⟨f0,f1,f2,f3,f4,f5⟩:=hf e (by simp)
  obtain ⟨g0,g1,g2,g3,g4,g5⟩:=hf it (by simp)
  have hn:H s.heap.objs.size=none:=I.hok.fresh (Nat.le_refl _)
  refine wpAny_pyNext_enum_item st1 st2 p.isList (x:=u) (by simpa using hu) hne fun h' o1 o2 o3 o4 o5=>⟨_,rfl,?_⟩
  refine wpAny_letOwnedTupleGo_enum o1 fun h2 q1 sb=>?_
  have hel:e<s.heap.objs.size:=Heap.lt_size st1
  have kk:∀ b o,b≠e->b≠it->s.heap.get? b=some o->h2.get? b=some o:=fun b o n1 n2 z=>(sb.2 b n1).trans (o5 b o n1 n2 z)
  have et:h2.get? s.heap.objs.size=some { cls:=.type "tuple",data:=.seq #[.int i s.toks,u] }:=(sb.2 _ (Nat.ne_of_gt hel)).trans o3
  have tne:∀ b o,H b=some o->b≠e/\b≠it/\b≠s.heap.objs.size:=fun b o q=>⟨fun z=>(by rw [z,f0] at q;cases q),fun z=>(by rw [z,g0] at q;cases q),fun z=>(by rw [z,hn] at q;cases q)⟩
  have getF:∀ {b:Addr} {o:HO},H b=some o->upd H s.heap.objs.size (.tup [.int i,x]) b=some o:=fun {b o} q=>by rw [j8 (tne b o q).2.2];exact q
  have I1:Inv X pins σ (upd H s.heap.objs.size (.tup [.int i,x])) { s with heap:=h2,toks:=s.toks+1 }:=by
   refine I.step (g':=s.gens) (d':=s.drawn) (ch:=[e,it]) (fun b hb=>?_) (fun b o _ _ hc z _=>kk b o (fun y=>hc (by simp [y])) (fun y=>hc (by simp [y])) z) (fun b o _ _ hc z _=>⟨o.slots,kk b o (fun y=>hc (by simp [y])) (fun y=>hc (by simp [y])) z⟩)
    (fun b o hc z n=>by rw [j8 (Nat.ne_of_lt (Heap.lt_size z))];exact n) (fun b o hc z=>⟨o,kk b o (fun y=>hc (by simp [y])) (fun y=>hc (by simp [y])) z⟩) (fun _ _ q=>getF q) (fun _ _ _ q=>getF q) (fun b ps q=>⟨#[],by rw [getF q];simp⟩) (fun m hm=>?_) (fun b v q=>?_) I.bare
   ·rcases List.mem_cons.mp hb with rfl | hb
    ·exact ⟨f3,f1,f4,f5⟩
    ·have e:b=it:=by simpa using hb
     subst e
     exact ⟨g3,g1,g4,g5⟩
   ·obtain ⟨o,es,ep,ho,r⟩:=hm
    exact ⟨o,es,ep,kk _ o (Ne.symm f1) (Ne.symm g1) ho,r⟩
   ·by_cases hb:b=s.heap.objs.size
    ·subst hb
     rw [j7] at q;cases q
     exact ⟨by show 2<=sizeLine;decide,[.int i s.toks,u],.cons ⟨_,rfl⟩ (.cons ru .nil),⟨_,et,rfl,0,rfl⟩⟩
    ·rw [j8 hb] at q
     refine (I.hok b v q).stay (fun c o hc z=>kk c o ?_ ?_ z) (fun _ z=>getF z) fun _ _ z=>getF z
     ·rcases hc with z | z
      ·rw [z];exact (tne b v q).1
      ·exact (tne c _ z).1
     ·rcases hc with z | z
      ·rw [z];exact (tne b v q).2.1
      ·exact (tne c _ z).2.1
  have st2':h2.IsListIter it a (i+1):=o2.at fun o z=>(sb.2 it (Ne.symm hne)).trans z
  refine ⟨.ref s.heap.objs.size,_,I1,rfl,⟨_,x,rfl,hn,rfl,fun ys hy=>by rw [I.list_inj hy hq];exact hx⟩,⟨u,?_,st2'⟩,fun b hb=>?_⟩
  ·have:((i+1:Nat):Int)=(i:Int)+1:=by push_cast;rfl
   rw [this]
   exact q1
  ·rcases List.mem_cons.mp hb with rfl | hb
   ·rw [j8 (Nat.ne_of_lt hel)];exact f0
   ·have e:b=it:=by simpa using hb
    subst e
    obtain ⟨o,z,_⟩:=st2
    rw [j8 (Nat.ne_of_lt (Heap.lt_size z))];exact g0
 done:=by
  intro X hP hw hK hc i pins s σ H E I hf st hg
  subst hP hw hK
  obtain ⟨old,st1,st2⟩:=st
  obtain ⟨xs,hq,hx⟩:=hg
  obtain ⟨its,rv,p,hz⟩:=I.list hq
  obtain ⟨g0,g1,g2,g3,g4,g5⟩:=hf it (by simp)
  have hl:=rv.length
  exact wpAny_pyNext_enum_end (I.ok.hd hc) st1 st2 p.isList (by simp;omega) fun h' eb=>⟨rfl,I.turned (t':=s.toks) (fun b o hb e=>eb b o hb e) g0 g1 g3 g4 g5⟩
 self:=fun _ _ _ _ _ ⟨old,st1,_⟩ h=>wpAny_pyIter_enum st1 h
section
variable {X:Cx}
def WI (K:PySem.W.Frag) (ta:TA):TI:=fun σ H R=>ta σ H fun vs H1=>∃ a,vs=[.ref a]/\(∃ xs,SqL K H1 a xs)/\R (Ite K a) H1
theorem Z1 {es:List Expr}{x1:Nat}{tpos:Pos}{l:Expr}{ta:TA}{p pos:Pos}(K:PySem.W.Frag) (hg:Gl X "enumerate") (hm:X.mg "enumerate" = none) (ha:PA X [l] ta) (hs:starEach [l] X.env=[(false,eval l X.env)]:=by rfl) (hK:X.K=K:=by rfl) :
  PI X (.Tuple es x1 tpos) (.Call (.Name "enumerate" p) [l] [] pos) (WI K ta):=by
 subst hK
 intro pins s σ H R I h
 refine Call_ (yu I hg hm boot_enumerate (PyProof.Rows.callWith_type1 (thn (ha pos pins s σ H _ I h) fun us s1 ⟨vs,H1,I1,r1,q1⟩=>?_) hs rfl))
 obtain ⟨a,e,⟨xs,hq⟩,q⟩:=q1
 subst e
 obtain ⟨u,rfl,ru⟩:=yo r1
 cases ru
 obtain ⟨its,rv,pl,hz⟩:=I1.list hq
 refine call_enumerate_list pl.isList fun h' i1 i2 i3 kk=>?_
 refine wpAny_pyIter_enum i1 ?_
 have I2:Inv X pins σ H1 { s1 with heap:=h',toks:=s1.toks }:=I1.kept kk
 refine ⟨_,[s1.heap.objs.size+1,s1.heap.objs.size],_,_,H1,rfl,I2,Zy a _ _ (by exact Nat.succ_ne_self _),⟨.none,i1,i2⟩,fun b hb=>?_,q⟩
 rcases List.mem_cons.mp hb with rfl | hb
 ·exact I1.fpOk (Nat.le_succ _) (I1.hok.fresh (Nat.le_succ _))
 ·have e:b=s1.heap.objs.size:=by simpa using hb
  subst e
  exact I1.fpOk (Nat.le_refl _) (I1.hok.fresh (Nat.le_refl _))
end
theorem ZJ {K:PySem.W.Frag}{a acc:Addr}{xs:List V}{g:TG}{ti:TT}{te:TE}{R:Hp->Prop}{σ:St}{H:Hp}(Pv:Nat->St->Hp->Prop) (h0:Pv 0 σ H) (hl:∀ i σ H,i<=xs.length->Pv i σ H->SqL K H a xs)
  (hs:∀ i x σ H t,xs[i]? = some x->Pv i σ H->H t=none->g (.ref t) σ (upd H t (.tup [.int i,x])) fun σ3 H3=>ti σ3 H3 fun ok H4=>if ok=true then te σ3 H4 fun v H5=>∃ ys,H5 acc=some (.lst ys)/\ys.length<sizeLine/\Pv (i+1) σ3 (upd H5 acc (.lst (ys++[v]))) else Pv (i+1) σ3 H4)
  (hd:∀ σ H,Pv xs.length σ H->R H) :
  ∃ W:Nat->Nat->St->Hp->Prop,(∃ m,W 0 m σ H)/\∀ i m σ' H',W i m σ' H' ->
   ((Ite K a).stop i H'/\R H')\/((Ite K a).go i H'/\∃ NX:St->Hp->Prop,(∀ σ2 H2,NX σ2 H2->∃ m',m'<m/\W (i+1) m' σ2 H2) /\
    ∀ x H2,(Ite K a).yld i H' x H2->g x σ' H2 fun σ3 H3=>ti σ3 H3 fun ok H4=>if ok=true then te σ3 H4 fun v H5=>∃ ys,H5 acc=some (.lst ys)/\ys.length<sizeLine/\NX σ3 (upd H5 acc (.lst (ys++[v]))) else NX σ3 H4):=by
 refine ⟨fun i m σ H=>m=xs.length-i/\i<=xs.length/\Pv i σ H,⟨xs.length,by simp,Nat.zero_le _,h0⟩,?_⟩
 rintro i m σ H ⟨rfl,hi,p⟩
 have q:=hl i σ H hi p
 by_cases hlt:i<xs.length
 ·refine .inr ⟨⟨xs,xs[i],q,by simp [hlt]⟩,Pv (i+1),fun σ' H' p'=>⟨xs.length-(i+1),by omega,rfl,hlt,p'⟩,fun v H' y=>?_⟩
  obtain ⟨t,x,rfl,hn,rfl,y⟩:=y
  exact hs i x σ H t (y xs q) p hn
 ·have e:i=xs.length:=by omega
  subst e
  exact .inl ⟨⟨xs,q,Nat.le_refl _⟩,hd σ H p⟩
theorem Yx {K:PySem.W.Frag}{a:Addr}{xs:List V}{g:TG}{tb:TS}{D:Ends}{σ:St}{H:Hp}(Pv:Nat->St->Hp->Prop) (h0:Pv 0 σ H) (hl:∀ i σ H,i<=xs.length->Pv i σ H->SqL K H a xs)
  (hs:∀ i x σ H t,xs[i]? = some x->Pv i σ H->H t=none->g (.ref t) σ (upd H t (.tup [.int i,x])) fun σ2 H2=>tb { D with nx:=Pv (i+1),ct:=Pv (i+1),bk:=D.nx } σ2 H2) (hd:∀ σ H,Pv xs.length σ H->D.nx σ H) :
  ∃ W:Nat->Nat->St->Hp->Prop,(∃ m,W 0 m σ H)/\∀ i m σ H,W i m σ H ->
   ((Ite K a).stop i H/\D.nx σ H)\/((Ite K a).go i H/\∃ N:St->Hp->Prop,(∀ σ' H',N σ' H'->∃ m',m'<m/\W (i+1) m' σ' H')/\∀ x H',(Ite K a).yld i H x H'->g x σ H' fun σ2 H2=>tb { D with nx:=N,ct:=N,bk:=D.nx } σ2 H2):=by
 refine ⟨fun i m σ H=>m=xs.length-i/\i<=xs.length/\Pv i σ H,⟨xs.length,by simp,Nat.zero_le _,h0⟩,?_⟩
 rintro i m σ H ⟨rfl,hi,p⟩
 have q:=hl i σ H hi p
 by_cases hlt:i<xs.length
 ·refine .inr ⟨⟨xs,xs[i],q,by simp [hlt]⟩,Pv (i+1),fun σ' H' p'=>⟨xs.length-(i+1),by omega,rfl,hlt,p'⟩,fun v H' y=>?_⟩
  obtain ⟨t,x,rfl,hn,rfl,y⟩:=y
  exact hs i x σ H t (y xs q) p hn
 ·have e:i=xs.length:=by omega
  subst e
  exact .inl ⟨⟨xs,q,Nat.le_refl _⟩,hd σ H p⟩
end L2
end
section
namespace L2
open PySem PySem.Spec PySem.W PyProof.Rows
theorem gU:∀ (l:List Int),(∀ n∈l,0<=n/\n<=2 ^ 20)->0<=l.sum/\l.sum<=2 ^ 20*l.length
 | [],_=>by simp
 | n::l,h=>by
  have ih:=gU l fun m hm=>h m (List.mem_cons_of_mem _ hm)
  have h0:=h n List.mem_cons_self
  rw [List.sum_cons,List.length_cons]
  constructor
  ·omega
  ·push_cast
   omega
section
variable {X:Cx}
theorem wn (K:PySem.W.Frag) (hc:X.calm=true) (hK:X.K=K:=by rfl):x5 X (.builtin "sum") (fun xs H Q=>∃ (p:Addr) (ns:List Int),xs=[.ref p]/\SqL K H p (ns.map V.int)/\ns.length<=1000/\(∀ n∈ns,0<=n/\n<=2 ^ 20)/\Q (.int ns.sum) H):=by
 subst hK
 intro pins s σ H xs us Q I r h
 obtain ⟨p,ns,rfl,hq,hl,hb,q⟩:=h
 obtain ⟨u,rfl,ru⟩:=yo r
 cases ru
 obtain ⟨its,rv,pl,hz⟩:=I.list hq
 have hI:=xY rv
 have hlen:=hI.length
 have hne:p≠s.heap.objs.size:=by
  obtain ⟨o,n,e,_⟩:=id pl
  exact Nat.ne_of_lt (Heap.lt_size e)
 refine call_sum_walk (wpAny_pyIter_list pl.isList ?_)
 refine ⟨s.heap.objs.size,_,_,_,_,_,fun i=>ns.getD i 0,rfl,Walks.list (show (X.A.in1).handled=none from I.ok.hd hc) s.heap.objs.size p hne its.toArray,⟨⟨_,Heap.get?_push_size _ rfl,rfl,rfl⟩,pl.isList.at fun o e=>Heap.get?_push_of_some _ e⟩,?_,?_,?_,?_⟩
 ·intro b hb'
  have hps:p<s.heap.objs.size:=by
   obtain ⟨o,n,e,_⟩:=id pl
   exact Heap.lt_size e
  show b<(s.heap.push _).objs.size
  rw [Heap.size_push]
  rcases List.mem_cons.mp hb' with rfl | hb'
  ·exact Nat.lt_succ_self _
  ·have e:b=p:=by simpa using hb'
   subst e
   exact Nat.lt_succ_of_lt hps
 ·intro i v hP
  have hP':its[i]? = some v:=by simpa using hP
  have hi:i<its.length:=(List.getElem?_eq_some_iff.mp hP').1
  obtain ⟨t,e⟩:=J5 hI hi
  rw [e] at hP'
  refine ⟨t,?_⟩
  show v=Value.int (ns.getD i 0) t
  rw [List.getD_eq_getElem?_getD,List.getElem?_eq_getElem (by omega)]
  exact (Option.some.inj hP').symm
 ·intro j hj
  have hj':j<ns.length:=by
   have:its.toArray.size=its.length:=by simp
   omega
  constructor
  ·show InLong (ns.getD j 0)
   rw [List.getD_eq_getElem?_getD,List.getElem?_eq_getElem hj']
   have:=hb _ (List.getElem_mem hj')
   show -(2 ^ 63)<=ns[j]/\ns[j]<2 ^ 63
   omega
  ·rw [preSum_getD]
   have:=gU (ns.take (j+1)) fun n hn=>hb n (List.mem_of_mem_take hn)
   have hl2:(ns.take (j+1)).length<=1000:=by rw [List.length_take];omega
   show -(2 ^ 63)<=_/\_<2 ^ 63
   omega
 ·intro h' tk t' hk
  rw [preSum_getD,List.take_of_length_le (by simp;omega)]
  refine ⟨.int ns.sum,H,I.kept (t':=tk) fun b o eo=>hk b o (by
   intro z
   have:=List.mem_singleton.mp z
   subst this
   exact absurd (Heap.lt_size eo) (Nat.lt_irrefl _)) (Heap.get?_push_of_some _ eo),⟨t',rfl⟩,q⟩
theorem xn (K:PySem.W.Frag) (h:X.K=K:=by rfl):x5 X (.type "tuple") (fun xs H Q=>∃ p ys,xs=[.ref p]/\SqL K H p ys/\New H (.tup ys) Q):=by
 subst h
 exact kK.weak fun _ _ _ ⟨p,ys,h1,h2,q⟩=>⟨p,ys,h1,.inl ⟨h2,q.at⟩⟩
end
end L2
end
section
namespace L2
open PySem PySem.Spec PySem.W PyProof.Rows
structure Nb2 (mg:Str->Option Value):Prop extends Nb mg where
 b_enumerate:mg "enumerate" = none
 b_sorted:mg "sorted" = none
 b_sum:mg "sum" = none
abbrev Rch:=Int×List Int
def tos (rs:List Rch):List Int:=rs.map (·.1)
def xM (rs:List Rch) (r:Nat):Int:=(rs.getD r (-1,[])).1
def zG (rs:List Rch) (r:Nat):List Int:=(rs.getD r (-1,[])).2
def xE (i:Nat) (t:Int):Bool:=if i=0 then decide (t = -1) else decide (0<=t/\t<i)
def okR (i:Nat) (r:Rch):Bool:=xE i r.1 && decide (1<=(r.2.length:Int)/\(r.2.length:Int)<=12) && r.2.all fun x=>decide (0<=x/\x<=99)
def ui (rs:List Rch):Bool:=(List.range rs.length).all fun i=>okR i (rs.getD i (-1,[]))
def xl (rs:List Rch):Prop:=∀ i,i<rs.length->xE i (xM rs i)=true
def jO (rs:List Rch) (h:Nat):Bool:=!decide ((h:Int)∈tos rs)
def jt (rs:List Rch):List Nat:=(List.range rs.length).filter (jO rs)
def yR (rs:List Rch):Nat->Nat->List Int
 | 0,_=>[]
 | f+1,r=>(r:Int)::(if xM rs r<0 then [] else yR rs f (xM rs r).toNat)
def qu (rs:List Rch) (r:Nat):List Int:=yR rs (r+1) r
def jA (rs:List Rch) (way:List Int):Int:=(way.map fun r=>((zG rs r.toNat).length:Int)).sum
def zn (rs:List Rch):Bool:=decide (1<=(rs.length:Int)/\(rs.length:Int)<=8) && (ui rs && (decide (((jt rs).length:Int)<=6) && (jt rs).all fun h=>decide (jA rs (qu rs h)<=30)))
theorem wY {i:Nat}{t:Int}(h:xE i t=true):t<i/\(-1<=t)/\(t<0->i=0):=by
 unfold xE at h
 by_cases hi:i=0
 ·rw [if_pos hi] at h
  have:=of_decide_eq_true h
  omega
 ·rw [if_neg hi] at h
  have:=of_decide_eq_true h
  omega
theorem Zl {i:Nat}{r:Rch}(h:okR i r=true):xE i r.1=true:=by
 unfold okR at h
 rw [Bool.and_eq_true,Bool.and_eq_true] at h
 exact h.1.1
theorem Jp {rs:List Rch}(h:ui rs=true) {i:Nat}{r:Rch}(hr:rs[i]? = some r):okR i r=true:=by
 unfold ui at h
 rw [List.all_eq_true] at h
 have hi:=(List.getElem?_eq_some_iff.mp hr).1
 have:=h i (List.mem_range.mpr hi)
 rw [List.getD_eq_getElem?_getD,hr] at this
 exact this
theorem qg {rs:List Rch}(h:ui rs=true):xl rs:=fun i hi=>by
 have:=Zl (Jp h (List.getElem?_eq_getElem hi))
 unfold xM
 rw [List.getD_eq_getElem?_getD,List.getElem?_eq_getElem hi]
 exact this
theorem gW {rs:List Rch}{i:Nat}{r:Rch}(h:rs[i]? = some r):xM rs i=r.1:=by
 unfold xM
 rw [List.getD_eq_getElem?_getD,h]
 rfl
theorem Jn {rs:List Rch}{i:Nat}{r:Rch}(h:rs[i]? = some r):zG rs i=r.2:=by
 unfold zG
 rw [List.getD_eq_getElem?_getD,h]
 rfl
theorem xl.lt {rs:List Rch}(L:xl rs) {r:Nat}(hr:r<rs.length):xM rs r<r:=(wY (L r hr)).1
theorem gG {rs:List Rch}(L:xl rs):∀ (f g r:Nat),r<rs.length->r<f->r<g->yR rs f r=yR rs g r
 | 0,_,_,_,h,_=>by omega
 | _+1,0,_,_,_,h=>by omega
 | f+1,g+1,r,hr,h1,h2=>by
  unfold yR
  by_cases ht:xM rs r<0
  ·rw [if_pos ht,if_pos ht]
  ·rw [if_neg ht,if_neg ht]
   have hl:=L.lt hr
   rw [gG L f g (xM rs r).toNat (by omega) (by omega) (by omega)]
theorem zr {rs:List Rch}(L:xl rs) {r:Nat}(hr:r<rs.length):qu rs r=(r:Int)::(if xM rs r<0 then [] else qu rs (xM rs r).toNat):=by
 unfold qu
 rw [yR]
 by_cases ht:xM rs r<0
 ·rw [if_pos ht,if_pos ht]
 ·rw [if_neg ht,if_neg ht]
  have hl:=L.lt hr
  rw [gG L r ((xM rs r).toNat+1) (xM rs r).toNat (by omega) (by omega) (by omega)]
theorem VD {rs:List Rch}(r:Nat):qu rs r≠[]:=by unfold qu yR;exact fun z=>nomatch z
theorem vy {rs:List Rch}(L:xl rs):∀ (r:Nat),r<rs.length->(qu rs r).length<=r+1
 | r,hr=>by
  rw [zr L hr]
  by_cases ht:xM rs r<0
  ·rw [if_pos ht];simp
  ·rw [if_neg ht]
   have hl:=L.lt hr
   have:=vy L (xM rs r).toNat (by omega)
   rw [List.length_cons]
   omega
 termination_by r=>r
 decreasing_by omega
theorem xS {rs:List Rch}(L:xl rs):∀ (r:Nat),r<rs.length->∀ x∈qu rs r,0<=x/\x<rs.length
 | r,hr,x,hx=>by
  rw [zr L hr] at hx
  rcases List.mem_cons.mp hx with rfl | hx
  ·omega
  ·by_cases ht:xM rs r<0
   ·rw [if_pos ht] at hx;cases hx
   ·rw [if_neg ht] at hx
    have hl:=L.lt hr
    exact xS L (xM rs r).toNat (by omega) x hx
 termination_by r=>r
 decreasing_by omega
theorem xA {rs:List Rch}{h:Nat}(hh:h∈jt rs):h<rs.length:=by
 have:=(List.mem_filter.mp hh).1
 exact List.mem_range.mp this
theorem x6 (rs:List Rch) (r:Int) (way:List Int):jA rs (r::way)=((zG rs r.toNat).length:Int)+jA rs way:=by
 unfold jA
 rw [List.map_cons,List.sum_cons]
theorem Yk {α:Type}{p:α->Bool}{l l':List α}(h:l.Perm l'):l.all p=l'.all p:=by
 rw [Bool.eq_iff_iff,List.all_eq_true,List.all_eq_true]
 exact ⟨fun z x hx=>z x (h.mem_iff.mpr hx),fun z x hx=>z x (h.mem_iff.mp hx)⟩
def qa (rs:List Rch) (ws:List (List Int)):Prop:=ws.Perm ((jt rs).map (qu rs))/\(ws.map List.reverse).Pairwise uX.kle
theorem qa.length {rs:List Rch}{ws:List (List Int)}(h:qa rs ws):ws.length=(jt rs).length:=by rw [h.1.length_eq,List.length_map]
theorem qa.mem {rs:List Rch}{ws:List (List Int)}(h:qa rs ws) {w:List Int}(hw:w∈ws):∃ x∈jt rs,w=qu rs x:=by
 obtain ⟨x,hx,e⟩:=List.mem_map.mp (h.1.mem_iff.mp hw)
 exact ⟨x,hx,e.symm⟩
theorem qa.all {rs:List Rch}{ws:List (List Int)}(h:qa rs ws):(ws.map fun w=>decide (jA rs w<=30)).all (fun b=>b)=(jt rs).all fun x=>decide (jA rs (qu rs x)<=30):=by
 rw [List.all_map,Yk h.1,List.all_map]
 rfl
theorem yg {O:KeyOrd}:∀ {l l':List O.α},l.Perm l'->l.Pairwise O.kle->l'.Pairwise O.kle->l=l'
 | [],l',h,_,_=>(List.nil_perm.mp h).symm
 | x::l,[],h,_,_=>by have:=h.length_eq;simp at this
 | x::l,y::l',h,h1,h2=>by
  have hx:=(List.pairwise_cons.mp h1)
  have hy:=(List.pairwise_cons.mp h2)
  have e:x=y:=by
   have m1:x∈y::l':=h.mem_iff.mp List.mem_cons_self
   have m2:y∈x::l:=h.mem_iff.mpr List.mem_cons_self
   rcases List.mem_cons.mp m1 with z | z
   ·exact z
   ·rcases List.mem_cons.mp m2 with z2 | z2
    ·exact z2.symm
    ·exact KeyOrd.kle_antisymm (hx.1 y z2) (hy.1 x z)
  subst e
  rw [yg (List.Perm.cons_inv h) hx.2 hy.2]
theorem qa.unique {rs:List Rch}{ws ws':List (List Int)}(h:qa rs ws) (h':qa rs ws'):ws=ws':=by
 have p:(ws.map List.reverse).Perm (ws'.map List.reverse):=(h.1.trans h'.1.symm).map _
 have e:=yg (O:=uX) p h.2 h'.2
 have e2:=congrArg (List.map List.reverse) e
 rw [List.map_map,List.map_map,show (List.reverse ∘ List.reverse:List Int->List Int)=id from funext fun x=>List.reverse_reverse x,List.map_id,List.map_id] at e2
 exact e2
theorem Qm (rs:List Rch) (t:Int) (hs:List Int):tos (rs++[(t,hs)])=tos rs++[t]:=by unfold tos;rw [List.map_append];rfl
theorem ug {rs:List Rch}{x d:Rch}{i:Nat}(h:i<rs.length):(rs++[x]).getD i d=rs.getD i d:=by
 rw [List.getD_eq_getElem?_getD,List.getD_eq_getElem?_getD,List.getElem?_append_left h]
theorem xz {rs:List Rch}{x d:Rch}:(rs++[x]).getD rs.length d=x:=by
 rw [List.getD_eq_getElem?_getD,List.getElem?_append_right (Nat.le_refl _),Nat.sub_self]
 rfl
theorem gH {rs:List Rch}{x:Rch}(h:ui rs=true) (hx:okR rs.length x=true):ui (rs++[x])=true:=by
 unfold ui at h ⊢
 rw [List.all_eq_true] at h ⊢
 intro i hi
 have hi':i<rs.length+1:=by have:=List.mem_range.mp hi;rw [List.length_append,List.length_singleton] at this;exact this
 by_cases hlt:i<rs.length
 ·rw [ug hlt];exact h i (List.mem_range.mpr hlt)
 ·have e:i=rs.length:=by omega
  subst e
  rw [xz];exact hx
theorem wo {rs:List Rch}{x:Rch}(L:xl rs):∀ (f r:Nat),r<rs.length->yR (rs++[x]) f r=yR rs f r
 | 0,_,_=>rfl
 | f+1,r,hr=>by
  have e:xM (rs++[x]) r=xM rs r:=by unfold xM;rw [ug hr]
  unfold yR
  rw [e]
  by_cases ht:xM rs r<0
  ·rw [if_pos ht,if_pos ht]
  ·rw [if_neg ht,if_neg ht,wo L f _ (by have:=L.lt hr;omega)]
theorem yJ {rs:List Rch}{x:Rch}(L:xl rs) {r:Nat}(hr:r<rs.length):qu (rs++[x]) r=qu rs r:=wo L _ r hr
theorem xN {rs:List Rch}{x:Rch}:∀ (way:List Int),(∀ r∈way,0<=r/\r<rs.length)->jA (rs++[x]) way=jA rs way
 | [],_=>rfl
 | r::way,h=>by
  have h0:=h r List.mem_cons_self
  rw [x6,x6,xN way fun y hy=>h y (List.mem_cons_of_mem _ hy)]
  congr 2
  unfold zG
  rw [ug (by omega)]
theorem QF {rs:List Rch}(L:xl rs) {t:Int}(h:t∈tos rs):t+1<rs.length:=by
 unfold tos at h
 obtain ⟨r,hr,rfl⟩:=List.mem_map.mp h
 obtain ⟨i,hi,e⟩:=List.mem_iff_getElem.mp hr
 have:=L.lt hi
 rw [gW (List.getElem?_eq_getElem hi),e] at this
 omega
theorem QL {rs:List Rch}{t:Int}{hs:List Int}(L:xl rs) (h0:0<=t) (h1:t<rs.length) :
  (jt (rs++[(t,hs)])).length=if t∈tos rs then (jt rs).length+1 else (jt rs).length:=by
 unfold jt
 rw [List.length_append,List.length_singleton,List.range_succ,List.filter_append,List.length_append]
 have e1:(List.filter (jO (rs++[(t,hs)])) [rs.length]).length=1:=by
  have:jO (rs++[(t,hs)]) rs.length=true:=by
   unfold jO
   rw [Qm,decide_eq_false]
   ·rfl
   ·intro z
    rcases List.mem_append.mp z with z | z
    ·have:=QF L z;omega
    ·have:(rs.length:Int)=t:=by simpa using z
     omega
  simp [this]
 rw [e1]
 have e2:∀ h,jO (rs++[(t,hs)]) h=(jO rs h && !decide ((h:Int)=t)):=fun h=>by
  unfold jO
  rw [Qm]
  by_cases a:(h:Int)∈tos rs
  ·rw [decide_eq_true (List.mem_append_left _ a),decide_eq_true a];rfl
  ·rw [decide_eq_false a]
   by_cases b:(h:Int)=t
   ·rw [decide_eq_true (List.mem_append_right _ (by simp [b])),decide_eq_true b];rfl
   ·rw [decide_eq_false (fun z=>(List.mem_append.mp z).elim a fun y=>b (by simpa using y)),decide_eq_false b];rfl
 have e3:List.filter (jO (rs++[(t,hs)])) (List.range rs.length)=List.filter (fun h:Nat=>!decide ((h:Int)=t)) (List.filter (jO rs) (List.range rs.length)):=by
  rw [List.filter_filter]
  congr 1
  funext h
  rw [e2,Bool.and_comm]
 rw [e3]
 have nd:(List.filter (jO rs) (List.range rs.length)).Nodup:=List.Nodup.sublist List.filter_sublist List.nodup_range
 generalize hl:List.filter (jO rs) (List.range rs.length)=l at nd
 have cnt:∀ (l:List Nat),l.Nodup->(List.filter (fun h:Nat=>!decide ((h:Int)=t)) l).length=if t.toNat∈l then l.length-1 else l.length:=by
  intro l
  induction l with
  | nil=>intro _;rfl
  | cons x l ih =>
   intro nd
   have nd':=List.nodup_cons.mp nd
   have ih:=ih nd'.2
   by_cases b:(x:Int)=t
   ·have hx:x=t.toNat:=by omega
    rw [List.filter_cons_of_neg (by simp [b]),ih,if_neg (by rw [<- hx];exact nd'.1),if_pos (by rw [hx];exact List.mem_cons_self)]
    simp
   ·have hx:t.toNat≠x:=by omega
    rw [List.filter_cons_of_pos (by simp [b]),List.length_cons,ih]
    by_cases m:t.toNat∈l
    ·rw [if_pos m,if_pos (List.mem_cons_of_mem _ m),List.length_cons]
     have:0<l.length:=List.length_pos_of_mem m
     omega
    ·rw [if_neg m,if_neg (fun z=>(List.mem_cons.mp z).elim hx m)]
     simp
 rw [cnt l nd]
 have hm:t.toNat∈l↔¬ t∈tos rs:=by
  rw [<- hl,List.mem_filter,List.mem_range]
  unfold jO
  have e:((t.toNat:Nat):Int)=t:=by omega
  rw [e]
  constructor
  ·rintro ⟨_,z⟩ y
   rw [decide_eq_true y] at z
   cases z
  ·intro z
   exact ⟨by omega,by rw [decide_eq_false z];rfl⟩
 by_cases m:t∈tos rs
 ·rw [if_pos m,if_neg (by rw [hm];exact fun z=>z m)]
 ·rw [if_neg m,if_pos (by rw [hm];exact m)]
  have:0<l.length:=List.length_pos_of_mem (hm.mpr m)
  omega
structure Grown (rs:List Rch):Prop where
 ok:ui rs=true
 heads:(jt rs).length<=6
 deep:∀ i,i<rs.length->jA rs (qu rs i)<=30
theorem Grown.snoc {rs:List Rch}{t:Int}{hs:List Int}(G:Grown rs) (h0:0<=t) (h1:t<rs.length) (hx:okR rs.length (t,hs)=true) (hh:t∈tos rs->(jt rs).length<6) (hd:jA rs (qu rs t.toNat)+hs.length<=30):Grown (rs++[(t,hs)]):=by
 have L:=qg G.ok
 have ok':=gH G.ok hx
 refine ⟨ok',?_,fun i hi=>?_⟩
 ·rw [QL L h0 h1]
  split
  ·rename_i m;have:=hh m;omega
  ·exact G.heads
 ·rw [List.length_append,List.length_singleton] at hi
  by_cases hlt:i<rs.length
  ·rw [yJ L hlt,xN _ (xS L i hlt)]
   exact G.deep i hlt
  ·have e:i=rs.length:=by omega
   subst e
   have L':=qg ok'
   have et:xM (rs++[(t,hs)]) rs.length=t:=by unfold xM;rw [xz]
   have eh:zG (rs++[(t,hs)]) rs.length=hs:=by unfold zG;rw [xz]
   rw [zr L' (by rw [List.length_append,List.length_singleton];omega),x6,Int.toNat_natCast,eh,et,if_neg (by omega),yJ L (by omega),xN _ (xS L _ (by omega))]
   omega
theorem Grown.good {rs:List Rch}(G:Grown rs) (h1:1<=rs.length) (h8:rs.length<=8):zn rs=true:=by
 unfold zn
 rw [decide_eq_true (show 1<=(rs.length:Int)/\(rs.length:Int)<=8 by omega),G.ok,decide_eq_true (show ((jt rs).length:Int)<=6 by have:=G.heads;omega),Bool.true_and,Bool.true_and,Bool.true_and,List.all_eq_true]
 intro h hh
 exact decide_eq_true (G.deep h (xA hh))
theorem Grown.deep_snoc {rs:List Rch}{t:Int}{hs:List Int}(G:Grown rs) (h0:0<=t) (h1:t<rs.length) (hx:okR rs.length (t,hs)=true):jA (rs++[(t,hs)]) (qu (rs++[(t,hs)]) rs.length)=jA rs (qu rs t.toNat)+hs.length:=by
 have L:=qg G.ok
 have L':=qg (gH G.ok hx)
 have et:xM (rs++[(t,hs)]) rs.length=t:=by unfold xM;rw [xz]
 have eh:zG (rs++[(t,hs)]) rs.length=hs:=by unfold zG;rw [xz]
 rw [zr L' (by rw [List.length_append,List.length_singleton];omega),x6,Int.toNat_natCast,eh,et,if_neg (by omega),yJ L (by omega),xN _ (xS L _ (by omega))]
 omega
def jp (H H':Hp):Prop:=∀ p xs,H p=some (.tup xs)->H' p=some (.tup xs)
theorem jp.same {H H':Hp}(s:ji H H'):jp H H':=fun _ _ h=>s _ _ h
theorem jp.trans {H H1 H2:Hp}(a:jp H H1) (b:jp H1 H2):jp H H2:=fun p xs h=>b p xs (a p xs h)
theorem jp.ext {b:Addr}{H H':Hp}(e:Ext b H H') (h:∀ xs,H b≠some (.tup xs)):jp H H':=fun p xs q=>e _ _ q fun z=>h xs (z ▸ q)
theorem jp.lst {b:Addr}{H H':Hp}{xs:List V}(e:Ext b H H') (h:H b=some (.lst xs)):jp H H':=.ext e fun ys z=>by rw [h] at z;cases z
theorem jp.new {b:Addr}{H H':Hp}(e:Ext b H H') (h:H b=none):jp H H':=.ext e fun ys z=>by rw [h] at z;cases z
theorem jp.tbl {b:Addr}{H H':Hp}{ps:Array Value}(e:Ext b H H') (h:H b=some (.tbl ps)):jp H H':=.ext e fun ys z=>by rw [h] at z;cases z
def gZ (H:Hp) (v:V) (r:Rch):Prop:=∃ p g,v=V.ref p/\H p=some (.tup [.int r.1,.ref g])/\H g=some (.tup (r.2.map V.int))
def jU (H:Hp) (vs:List V) (rs:List Rch):Prop:=Paired (gZ H) vs rs
theorem gZ.keep {H H':Hp}{v:V}{r:Rch}(k:jp H H') (h:gZ H v r):gZ H' v r:=by
 obtain ⟨p,g,e,h1,h2⟩:=h
 exact ⟨p,g,e,k _ _ h1,k _ _ h2⟩
theorem jU.keep {H H':Hp}{vs:List V}{rs:List Rch}(k:jp H H') (h:jU H vs rs):jU H' vs rs:=Paired.mapP h fun _ _ z=>z.keep k
theorem jU.length {H:Hp}{vs:List V}{rs:List Rch}(h:jU H vs rs):vs.length=rs.length:=Paired.length h
theorem jU.get {H:Hp}{vs:List V}{rs:List Rch}{i:Nat}{v:V}(h:jU H vs rs) (e:vs[i]? = some v):∃ r,rs[i]? = some r/\gZ H v r:=Paired.get h e
theorem jU.at {H:Hp}{vs:List V}{rs:List Rch}{i:Nat}{r:Rch}(h:jU H vs rs) (e:rs[i]? = some r):∃ v,vs[i]? = some v/\gZ H v r:=by
 have hi:i<vs.length:=by rw [h.length];exact (List.getElem?_eq_some_iff.mp e).1
 obtain ⟨r',e2,q⟩:=h.get (List.getElem?_eq_getElem hi)
 rw [e] at e2
 cases e2
 exact ⟨_,List.getElem?_eq_getElem hi,q⟩
theorem jU.snoc {H:Hp}{vs:List V}{rs:List Rch}{v:V}{r:Rch}(h:jU H vs rs) (q:gZ H v r):jU H (vs++[v]) (rs++[r]):=Paired.snoc h q
def zL (H:Hp) (vs:List V) (ws:List (List Int)):Prop:=Paired (fun v (w:List Int)=>∃ a,v=V.ref a/\H a=some (.tup (w.map V.int))) vs ws
theorem zL.keep {H H':Hp}{vs:List V}{ws:List (List Int)}(k:jp H H') (h:zL H vs ws):zL H' vs ws:=Paired.mapP h fun _ _ ⟨a,e,q⟩=>⟨a,e,k _ _ q⟩
theorem zL.length {H:Hp}{vs:List V}{ws:List (List Int)}(h:zL H vs ws):vs.length=ws.length:=Paired.length h
theorem vP (x:Int) (l:List Int):inV (.int x) (l.map V.int)=decide (x∈l):=by
 unfold inV
 induction l with
 | nil=>rfl
 | cons y l ih =>
  rw [List.map_cons,List.any_cons,ih]
  by_cases e:x=y
  ·subst e
   rw [decide_eq_true (List.mem_cons_self (a:=x))]
   simp [eqV]
  ·by_cases m:x∈l
   ·rw [decide_eq_true m,decide_eq_true (List.mem_cons_of_mem _ m),Bool.or_true]
   ·rw [decide_eq_false m,decide_eq_false (fun z=>(List.mem_cons.mp z).elim e m),Bool.or_false]
    simp [eqV]
    exact fun z=>e z.symm
theorem yL (l:List Int):(l.map V.int).all vG=true:=by
 rw [List.all_map,List.all_eq_true]
 intro x _
 rfl
end L2
end
section
namespace L2
open PySem PySem.Spec PySem.W PyProof.Rows
section
variable {prog:Program}{w:World}{A:Around}{E:Value->Shared->Prop}{s:Shared}
end
end L2
end
section
namespace L2
open PySem PySem.Spec PySem.W PyProof.Rows
section
variable {X:Cx}
end
end L2
end
section
namespace L2
open PySem PySem.Spec PySem.W PyProof.Rows
end L2
end
section
namespace L2
open PySem PySem.Spec PySem.W PyProof.Rows
section
variable {s:Shared}{A:Around}{prog:Program}{w:World}{E:Value->Shared->Prop}
end
section
variable {X:Cx}{s:Shared}{σ:St}{H:Hp}{pins:List (Addr×Obj)}
end
section
variable {X:Cx}
end
end L2
end
section
namespace L2
open PySem PySem.Spec PySem.W PyProof.Rows
mutual
inductive Dat (H:Hp):V->PyData->Prop
 | non:Dat H .non .none
 | bl (b:Bool):Dat H (.bl b) (.bool b)
 | int (i:Int):Dat H (.int i) (.int i)
 | str (x:Str):Dat H (.str x) (.str x)
 | tup {p:Addr} {vs:List V} {ds:List PyData}:H p=some (.tup vs)->DatL H vs ds->Dat H (.ref p) (.tuple ds)
 | lst {p:Addr} {vs:List V} {ds:List PyData}:H p=some (.lst vs)->DatL H vs ds->Dat H (.ref p) (.list ds)
inductive DatL (H:Hp):List V->List PyData->Prop
 | nil:DatL H [] []
 | cons {v:V} {vs:List V} {d:PyData} {ds:List PyData}:Dat H v d->DatL H vs ds->DatL H (v::vs) (d::ds)
end
mutual
theorem Dat.ext {M:Addr->Prop}{H H':Hp}(x:Wu M H H') (hM:∀ c,M c->∀ vs,H c≠some (.lst vs)/\H c≠some (.tup vs)):∀ {v:V}{d:PyData},Dat H v d->Dat H' v d
 | _,_,.non=>.non
 | _,_,.bl b=>.bl b
 | _,_,.int i=>.int i
 | _,_,.str y=>.str y
 | _,_,.tup h r=>.tup (x _ _ h fun z=>(hM _ z _).2 h) (DatL.ext x hM r)
 | _,_,.lst h r=>.lst (x _ _ h fun z=>(hM _ z _).1 h) (DatL.ext x hM r)
theorem DatL.ext {M:Addr->Prop}{H H':Hp}(x:Wu M H H') (hM:∀ c,M c->∀ vs,H c≠some (.lst vs)/\H c≠some (.tup vs)):∀ {vs:List V}{ds:List PyData},DatL H vs ds->DatL H' vs ds
 | _,_,.nil=>.nil
 | _,_,.cons h r=>.cons (Dat.ext x hM h) (DatL.ext x hM r)
end
mutual
theorem Dat.rep {M:Addr->Prop}(hM:∀ p,¬ M p) {K:PySem.W.Frag}{H:Hp}:∀ {v:V}{d:PyData},Dat H v d->Rep M K H v d
 | _,_,.non=>.non
 | _,_,.bl b=>.bl b
 | _,_,.int i=>.int i
 | _,_,.str y=>.str y
 | _,_,.tup h r=>.tup (hM _) (SqT.of h) (DatL.rep hM r)
 | _,_,.lst h r=>.lst (hM _) (SqL.of h) (DatL.rep hM r)
theorem DatL.rep {M:Addr->Prop}(hM:∀ p,¬ M p) {K:PySem.W.Frag}{H:Hp}:∀ {vs:List V}{ds:List PyData},DatL H vs ds->RepL M K H vs ds
 | _,_,.nil=>.nil
 | _,_,.cons h r=>.cons (Dat.rep hM h) (DatL.rep hM r)
end
end L2
end
section
namespace L2
open PySem PySem.Spec PySem.W PyProof.Rows
def Two (vs:Array Value) (a0:Value):Prop:=vs[0]? = some a0/\vs[2]? = some .none
theorem Two.put {vs:Array Value}{a0:Value}(t:Two vs a0) (x:Value):Two (vs.setIfInBounds 1 x) a0 :=
 ⟨by rw [Array.getElem?_setIfInBounds_ne (by decide)];exact t.1,by rw [Array.getElem?_setIfInBounds_ne (by decide)];exact t.2⟩
theorem YN (o:Obj) (f:Array Value->Array Value):(o.mapFields f).dict=o.dict:=by
 obtain ⟨c,d,dt,sl⟩:=o
 cases dt <;> rfl
def OnT (h B:Heap) (e:Addr) (cls a0 fl:Value):Prop :=
 ∃ oe vs T oT ts,h.get? e=some oe/\(oe.cls=cls/\Two vs a0/\oe.dict=none)/\oe.data = .fields vs/\vs[1]? = some (.ref T)/\B.get? T=none/\T≠e/\h.get? T=some oT/\oT.data = .fields ts/\ts[3]? = some fl
section
variable {M:Model}{A:Around}{E:Value->Shared->Prop}{s:Shared}{B:Heap}{env:Env}{outer l:List Env}{L e:Addr}{cls a0 fl:Value}{Q:Unit->Shared->Prop}
theorem y8 (st:B.StaysIn s.heap) (fu:s.heap.FunFrames B l) (on:OnT s.heap B e cls a0 fl)
  (k:∀ g,B.StaysIn g->g.FunFrames B l->OnT g B e cls a0 .none->(∀ b o,s.heap.get? b=some o->(∀ vs,o.data≠.fields vs)->g.get? b=some o)->Q () { s with heap:=g }):wpAny M A (setFlight (.ref e) none) Q E s:=by
 obtain ⟨oe,vs,T,oT,ts,ge,gc,gd,g1,gB,gn,gT,gD,g3⟩:=on
 have z3:3<ts.size:=(Array.getElem?_eq_some_iff.mp g3).1
 have ot:∀ b,b≠T->(s.heap.update T (Obj.mapFields (·.setIfInBounds 3 ((none:Option Addr).elim Value.none fun f=>rawInt f)))).get? b=s.heap.get? b:=fun b hb =>
  Heap.get?_update_other _ _ hb.symm
 have nr:∀ {b o},s.heap.get? b=some o->(∀ vs,o.data≠.fields vs)->b≠T:=fun hb hn q=>by
  rw [q,gT] at hb
  cases hb
  exact hn ts gD
 unfold setFlight
 refine wpAny_bind (wpAny_field ge gd g1 ?_)
 rw [if_pos (by simp)]
 refine wpAny_setField gT gD z3 (k _ (fun b o hb=>?_) (fu.of_keeps fun b o hb hn=>⟨o,?_,rfl⟩) ?_ fun b o hb hn=>?_)
 ·rw [ot b fun q=>by rw [q,gB] at hb;cases hb]
  exact st b o hb
 ·rw [ot b (nr hb hn)]
  exact hb
 ·refine ⟨oe,vs,T,_,_,?_,gc,gd,g1,gB,gn,Heap.get?_update_self _ gT (Obj.isFreed_of_fields (Obj.data_mapFields gD _)),Obj.data_mapFields gD _,by simp [z3]⟩
  rw [ot e gn.symm]
  exact ge
 ·rw [ot b (nr hb hn)]
  exact hb
theorem JY {oe:Obj}{vs:Array Value}{head:Value}{nx:Bool}(fr:A.frames=some (env::outer)) (fu:s.heap.FunFrames B (env::outer)) (hL:env.frame=some L) (ge:s.heap.get? e=some oe) (st:B.StaysIn s.heap) (ne:B.get? e=none) (gd:oe.data = .fields vs)
  (z1:1<vs.size) (tw:Two vs a0) (dn:oe.dict=none) (k:∀ g,B.StaysIn g->g.FunFrames B (env::outer)->OnT g B e oe.cls a0 (rawInt L)->s.heap.UpToSlots g->Q () { s with heap:=g }) :
  wpAny M A (do let a <- frameOf env;let pl <- entryPlaceOf L nx;let b <- EntryCells.newEntry head a .none (rawInt L) .none pl;setField (.ref e) 1 b) Q E s:=by
 have out:e∉(env::outer).filterMap (·.frame):=fun q=>by
  obtain ⟨_,o,ho,hn⟩:=fu.mem q
  rw [ge] at ho
  cases ho
  exact hn vs gd
 refine wpAny_bind (wpAny_frameOf_fun fr fu hL fun g1 so=>?_)
 refine wpAny_bind (wpAny_entryPlaceOf fun pl sh=>?_)
 unfold EntryCells.newEntry newFields
 refine wpAny_bind (wpAny_newObj_type ?_ (sh.sizeOk5 _ _ _ _ _))
 have e1:g1.get? e=some oe:=(so.2.1 e out).trans ge
 have s1:B.StaysIn g1:=fun b o hb=>(so.2.1 b fun q=>by rw [(fu.mem q).1] at hb;cases hb).trans (st b o hb)
 generalize hnew:({ cls:=.type "traceback",dict:=none,data:=.fields ([head,.ref L,.none,rawInt L,.none]++(if pl.isEmpty then List.replicate 6 Value.none else pl)).toArray }:Obj)=new
 have nd:new.data = .fields ([head,.ref L,.none,rawInt L,.none]++(if pl.isEmpty then List.replicate 6 Value.none else pl)).toArray:=by rw [<- hnew]
 have e2:=Heap.get?_push_of_some (h:=g1) new e1
 refine wpAny_setField e2 gd z1 ?_
 have Te:g1.objs.size≠e:=Nat.ne_of_gt (Heap.lt_size e1)
 have d3:=Obj.data_mapFields gd (·.setIfInBounds 1 (Value.ref g1.objs.size))
 have e3:=Heap.get?_update_self (Obj.mapFields (·.setIfInBounds 1 (Value.ref g1.objs.size))) e2 (Obj.isFreed_of_fields d3)
 have T3:((g1.push new).update e (Obj.mapFields (·.setIfInBounds 1 (Value.ref g1.objs.size)))).get? g1.objs.size=some new:=by
  rw [Heap.get?_update_other _ _ Te.symm]
  exact Heap.get?_push_size g1 (Obj.isFreed_of_fields nd)
 have kp:∀ {b o},b≠e->g1.get? b=some o->((g1.push new).update e (Obj.mapFields (·.setIfInBounds 1 (Value.ref g1.objs.size)))).get? b=some o:=fun hb q=>by
  rw [Heap.get?_update_other _ _ hb.symm]
  exact Heap.get?_push_of_some _ q
 have nr:∀ {b o},s.heap.get? b=some o->(∀ vs,o.data≠.fields vs)->b≠e:=fun hb hn q=>by
  rw [q,ge] at hb
  cases hb
  exact hn vs gd
 refine k _ (fun b o hb=>kp (fun q=>by rw [q,ne] at hb;cases hb) (s1 b o hb)) (fu.of_keeps fun b o hb hn=>?_) ?_ fun b o hb hn=>?_
 ·obtain ⟨sl,hs⟩:=so.2.2 b o hb
  exact ⟨_,kp (nr hb hn) hs,rfl⟩
 ·exact ⟨_,_,g1.objs.size,_,_,e3,⟨Obj.cls_mapFields _ _,tw.put _,(YN _ _).trans dn⟩,d3,by simp [z1],s1.fresh,Te,T3,nd,by first | (simp;done) | (rcases sh with rfl | ⟨_,_,_,_,_,_,_,rfl⟩ <;> simp)⟩
 ·obtain ⟨sl,hs⟩:=so.2.2 b o hb
  exact ⟨sl,kp (nr hb hn) hs⟩
theorem XY (fr:A.frames=some (env::outer)) (fu:s.heap.FunFrames B (env::outer)) (hL:env.frame=some L) (on:OnT s.heap B e cls a0 .none) (st:B.StaysIn s.heap) (ne:B.get? e=none)
  (k:∀ g,B.StaysIn g->g.FunFrames B (env::outer)->OnT g B e cls a0 (rawInt L)->s.heap.UpToSlots g->Q () { s with heap:=g }):wpAny M A (noteFrame (.ref e) env) Q E s:=by
 obtain ⟨oe,vs,T,oT,ts,ge,⟨rfl,tw,dn⟩,gd,g1,gB,gn,gT,gD,g3⟩:=on
 unfold noteFrame
 simp only [hL]
 refine wpAny_bind (wpAny_field ge gd g1 ?_)
 rw [if_pos (by simp)]
 refine wpAny_bind (wpAny_field gT gD g3 ?_)
 rw [if_neg (by simp [rawInt])]
 refine wpAny_bind (wpAny_setField gT gD (Array.getElem?_eq_some_iff.mp g3).1 ?_)
 have ot:∀ b,b≠T->(s.heap.update T (Obj.mapFields (·.setIfInBounds 3 Value.none))).get? b=s.heap.get? b:=fun b hb =>
  Heap.get?_update_other _ _ hb.symm
 have nr:∀ {b o},s.heap.get? b=some o->(∀ vs,o.data≠.fields vs)->b≠T:=fun hb hn q=>by
  rw [q,gT] at hb
  cases hb
  exact hn ts gD
 refine JY (oe:=oe) (vs:=vs) (a0:=a0) fr (fu.of_keeps fun b o hb hn=>⟨o,?_,rfl⟩) hL ?_ (fun b o hb=>?_) ne gd (Array.getElem?_eq_some_iff.mp g1).1 tw dn fun g k1 k2 k3 k4=>k g k1 k2 k3 fun b o hb hn=>?_
 ·exact (ot b (nr hb hn)).trans hb
 ·exact (ot e gn.symm).trans ge
 ·exact (ot b fun q=>by rw [q,gB] at hb;cases hb).trans (st b o hb)
 ·exact k4 b o ((ot b (nr hb hn)).trans hb) hn
theorem YU (fr:A.frames=some (env::outer)) (fu:s.heap.FunFrames B (env::outer)) (hL:env.frame=some L) (on:OnT s.heap B e cls a0 .none) (st:B.StaysIn s.heap) (ne:B.get? e=none)
  (k:∀ g,B.StaysIn g->g.FunFrames B (env::outer)->OnT g B e cls a0 .none->s.heap.UpToSlots g->Q () { s with heap:=g }):wpAny M A (leaving env (.ref e)) Q E s:=by
 unfold leaving
 refine wpAny_bind (XY fr fu hL on st ne fun g k1 k2 k3 k4=>?_)
 exact y8 (s:={ s with heap:=g }) k1 k2 k3 fun g' m1 m2 m3 m4=>k g' m1 m2 m3 (k4.trans fun b o hb hn=>⟨o.slots,m4 b o hb hn⟩)
theorem Qy {h:Heap}{args:List Value}(fr:A.frames=some (env::outer)) (hL:env.frame=some L) (st:B.StaysIn h) (fu:h.FunFrames B (env::outer)) (hx:Heap.MadeExcOf h s.heap e cls args)
  (k:∀ g t,B.StaysIn g->g.FunFrames B (env::outer)->OnT g B e cls (.ref t) .none->B.get? e=none->s.heap.UpToSlots g->Q () { s with heap:=g }):wpAny M A (leaving env (.ref e)) Q E s:=by
 obtain ⟨t,ge,tn,gt⟩:=hx.there
 have new:B.get? e=none:=by
  cases q:B.get? e with
  | none=>rfl
  | some o =>
   have:=st e o q
   rw [hx.new] at this
   cases this
 unfold leaving noteFrame
 simp only [hL]
 refine wpAny_bind (wpAny_bind (wpAny_field (x:=.none) ge rfl rfl ?_))
 rw [if_neg (by decide)]
 refine JY (a0:=.ref t) fr (fu.of_keeps fun b o hb _=>⟨o,hx.keeps b o hb,rfl⟩) hL ge (fun b o hb=>hx.keeps b o (st b o hb)) new rfl (by simp) ⟨rfl,rfl⟩ rfl fun g k1 k2 k3 k4=>?_
 exact y8 (s:={ s with heap:=g }) k1 k2 k3 fun g' m1 m2 m3 m4=>k g' t m1 m2 m3 new (k4.trans fun b o hb hn=>⟨o.slots,m4 b o hb hn⟩)
end
end L2
end
section
namespace L2
open PySem PySem.Spec PySem.W PyProof.Rows
structure Fly (g:Heap) (H:Hp) (h:Heap) (a:Addr) (cls fl:Value):Prop where
 na:g.get? a=none
 ha:H a=none
 ob:∃ oe vs T oT ts a0,h.get? a=some oe/\(oe.cls=cls/\Two vs a0/\oe.dict=none)/\oe.data = .fields vs/\vs[1]? = some (.ref T)/\g.get? T=none/\H T=none/\T≠a/\h.get? T=some oT/\oT.data = .fields ts/\ts[3]? = some fl
theorem Fly.mono {g g':Heap}{H:Hp}{h:Heap}{a:Addr}{cls fl:Value}(f:Fly g H h a cls fl) (l:∀ b o,g'.get? b=some o->∃ o',g.get? b=some o'):Fly g' H h a cls fl:=by
 have no:∀ {b},g.get? b=none->g'.get? b=none:=fun {b} e=>by
  cases q:g'.get? b with
  | none=>rfl
  | some o =>
   obtain ⟨o',e'⟩:=l b o q
   rw [e] at e'
   cases e'
 obtain ⟨oe,vs,T,oT,ts,a0,h1,h2,h3,h4,h5,h6⟩:=f.ob
 exact ⟨no f.na,f.ha,oe,vs,T,oT,ts,a0,h1,h2,h3,h4,no h5,h6⟩
def CX1 (P:Program) (w:World):CXT:=fun outer H s E e s' =>
 ∃ a cls H',e = .ref a/\s'.os=s.os/\AllBare s'.gens/\Un (frs outer) [] H H' s.heap s'.heap/\HOk P w H' s'.heap/\Fly s.heap H' s'.heap a cls .none/\E cls none H'
def xP (X:Cx) (pins:List (Addr×Obj)) (σ:St) (H':Hp) (s1:Shared) (a:Addr) (cls fl:Value):Prop :=
 ∃ s H,Inv X pins σ H s/\s1.os=s.os/\AllBare s1.gens/\Un (frs X.stack) [] H H' s.heap s1.heap/\HOk X.prog X.w H' s1.heap/\Fly s.heap H' s1.heap a cls fl
theorem kD {P:Program}{w:World}{H:Hp}{h:Heap}{a:Addr}{o:HO}(x:qB P w H h a o):∃ ob,h.get? a=some ob:=by
 cases o with
 | lst xs=>obtain ⟨_,_,_,_,e⟩:=x;exact ⟨_,e⟩
 | tup xs=>obtain ⟨_,_,_,ob,e,_⟩:=x;exact ⟨_,e⟩
 | dK kvs=>obtain ⟨_,_,_,_,ob,_,_,e,_⟩:=x;exact ⟨_,e⟩
 | dT kvs=>obtain ⟨_,_,_,_,ob,_,_,e,_⟩:=x;exact ⟨_,e⟩
 | set S n=>obtain ⟨ob,_,_,_,e,_⟩:=x;exact ⟨_,e⟩
 | ins C dx fs=>obtain ⟨_,_,_,e,_⟩:=x;exact ⟨_,e⟩
 | own y=>exact x
 | xd fs=>obtain ⟨_,⟨_,_,_,e,_⟩,_⟩:=x;exact ⟨_,e⟩
 | rng lo hi=>obtain ⟨_,_,_,e⟩:=x;exact ⟨_,e⟩
 | frz ob u=>obtain ⟨e,_⟩:=x;exact ⟨_,e⟩
 | tbl ps=>exact ⟨_,(show h.get? a=some _ from x)⟩
 | met f y=>exact ⟨_,(show h.get? a=some _ from x)⟩
 | ext φ=>obtain ⟨_,e,_⟩:=x;exact e
section
variable {X:Cx}{pins:List (Addr×Obj)}{σ:St}{H H':Hp}{s s1:Shared}{a:Addr}{cls fl:Value}
theorem xP.inv (f:xP X pins σ H' s1 a cls fl):Inv X pins σ H' s1:=by
 obtain ⟨s,H,I,os,b,u,ok,fy⟩:=f
 exact I.call' os u ok b (fun b z=>absurd z (by simp))
theorem xP.fly (hex:X.ex=[]) (f:xP X pins σ H' s1 a cls fl):Fly X.s₀.heap H' s1.heap a cls fl:=by
 obtain ⟨s,H,I,os,b,u,ok,fy⟩:=f
 exact fy.mono fun c o e=>I.base.there c o e (by rw [hex];exact fun z=>by cases z)
theorem xP.under (f:xP X pins σ H' s1 a cls .none):∃ B a0,(B.StaysIn s1.heap/\B.get? a=none/\s1.heap.FunFrames B X.stack/\OnT s1.heap B a cls a0 .none) /\
  ∀ h2 fl2,B.StaysIn h2->s1.heap.UpToSlots h2->OnT h2 B a cls a0 fl2->xP X pins σ H' { s1 with heap:=h2 } a cls fl2:=by
 have I1:=f.inv
 obtain ⟨s,H,I,os,b,u,ok,fy⟩:=f
 obtain ⟨oe,vs,T,oT,ts,a0,h1,h2,h3,h4,h5,h6,h7,h8,h9,h10⟩:=fy.ob
 have fr:=I1.stack
 have fs:∀ b∈frs X.stack,b≠a/\b≠T:=fun b hb=>by
  obtain ⟨_,o,ho,hn⟩:=fr.mem hb
  refine ⟨fun z=>?_,fun z=>?_⟩
  ·rw [z,h1] at ho;cases ho;exact hn _ h3
  ·rw [z,h8] at ho;cases ho;exact hn _ h9
 have in_:∀ env∈X.stack,∀ c,env.frame=some c->c∈a::T::frs X.stack:=fun env he c hc=>List.mem_cons_of_mem _ (List.mem_cons_of_mem _ (List.mem_filterMap.mpr ⟨env,he,hc⟩))
 have noB:∀ {c o},s1.heap.get? c=some o->c≠a->c≠T->c∉frs X.stack->(hideAll s1.heap (a::T::frs X.stack)).get? c=some o:=fun e n1 n2 n3 =>
  hideAll_get _ e (by simp only [List.mem_cons,not_or];exact ⟨n1,n2,n3⟩)
 refine ⟨hideAll s1.heap (a::T::frs X.stack),a0,⟨fun b o q=>of_hideAll _ q,hideAll_none _ (.head _),funFrames_hide fr in_,oe,vs,T,oT,ts,h1,h2,h3,h4,hideAll_none _ (.tail _ (.head _)),h7,h8,h9,h10⟩,fun hp fl2 st up tr=>?_⟩
 have lo:∀ {c o},s.heap.get? c=some o->c≠a/\c≠T:=fun {c o} e=>⟨fun z=>(by rw [z,fy.na] at e;cases e),fun z=>(by rw [z,h5] at e;cases e)⟩
 have frn:∀ {c o},s1.heap.get? c=some o->c∈frs X.stack->∀ vs,o.data≠.fields vs:=fun e hc=>by
  obtain ⟨_,o',ho,hn⟩:=fr.mem hc
  rw [e] at ho;cases ho;exact hn
 refine ⟨s,H,I,os,b,⟨fun c o e n nf nx=>?_,fun c o e n hf nx=>?_,fun c o e n nx=>u.free c o e n nx,fun c o e nx=>?_,u.tups,u.frzs,u.tbls⟩,fun c o hc=>?_,?_⟩
 ·exact st _ _ (noB (u.keep c o e n nf nx) (lo e).1 (lo e).2 nf)
 ·obtain ⟨sl,e1⟩:=u.slot c o e n hf nx
  obtain ⟨sl2,e2⟩:=up c _ e1 (frn e1 hf)
  exact ⟨sl2,e2⟩
 ·obtain ⟨o1,e1⟩:=u.there c o e nx
  by_cases hf:c∈frs X.stack
  ·obtain ⟨sl2,e2⟩:=up c _ e1 (frn e1 hf)
   exact ⟨_,e2⟩
  ·exact ⟨o1,st _ _ (noB e1 (lo e).1 (lo e).2 hf)⟩
 ·refine (ok c o hc).stay (fun c' o' hc' e=>?_) (fun _ e=>e) fun _ _ e=>e
  have hne:H' c'≠none:=by
   rcases hc' with z | z
   ·rw [z,hc];exact fun y=>by cases y
   ·rw [z];exact fun y=>by cases y
  exact st _ _ (noB e (fun z=>hne (by rw [z];exact fy.ha)) (fun z=>hne (by rw [z];exact h6)) fun z=>hne (I1.stkFree _ z))
 ·obtain ⟨oe2,vs2,T2,oT2,ts2,g1,g2,g3,g4,g5,g6,g7,g8,g9⟩:=tr
  have key:T2=T\/s1.heap.get? T2=none:=by
   cases q:s1.heap.get? T2 with
   | none=>exact .inr rfl
   | some o =>
    refine .inl ?_
    by_cases hT:T2=T
    ·exact hT
    ·by_cases hf:T2∈frs X.stack
     ·obtain ⟨sl2,e2⟩:=up T2 _ q (frn q hf)
      rw [e2] at g7
      cases g7
      exact absurd g8 (frn q hf _)
     ·have:=noB q g6 hT hf
      rw [g5] at this
      cases this
  refine ⟨fy.na,fy.ha,oe2,vs2,T2,oT2,ts2,a0,g1,g2,g3,g4,?_,?_,g6,g7,g8,g9⟩
  ·rcases key with z | z
   ·rw [z];exact h5
   ·cases q:s.heap.get? T2 with
    | none=>rfl
    | some o =>
     obtain ⟨o',e'⟩:=u.there T2 o q (by simp)
     rw [z] at e'
     cases e'
  ·rcases key with z | z
   ·rw [z];exact h6
   ·cases q:H' T2 with
    | none=>rfl
    | some o =>
     obtain ⟨o',e'⟩:=kD (ok T2 o q)
     rw [z] at e'
     cases e'
theorem xP.leave {Q:Unit->Shared->Prop}{E:Value->Shared->Prop}(f:xP X pins σ H' s1 a cls .none) (st:X.stack=X.env::X.outer) (hf:X.env.frame=some X.env.locals)
  (k:∀ h2,xP X pins σ H' { s1 with heap:=h2 } a cls .none->Q () { s1 with heap:=h2 }):wpAny (model X.prog X.w) X.A (leaving X.env (.ref a)) Q E s1:=by
 obtain ⟨B,a0,fw,up⟩:=f.under
 have fr:X.A.frames=some (X.env::X.outer):=by rw [<- st];exact f.inv.ok.frames
 rw [st] at fw
 obtain ⟨f1,f2,f3,f4⟩:=fw
 exact YU fr f3 hf f4 f1 f2 fun h2 k1 k2 k3 k4=>k h2 (up h2 .none k1 k4 k3)
theorem Xc {vs:List Value}{h1:Heap}{Q:Unit->Shared->Prop}{E:Value->Shared->Prop}(I:Inv X pins σ H s) (hx:Heap.MadeExcOf s.heap h1 a cls vs) (st:X.stack=X.env::X.outer) (hf:X.env.frame=some X.env.locals)
  (k:∀ h2,xP X pins σ H { s with heap:=h2 } a cls .none->Q () { s with heap:=h2 }):wpAny (model X.prog X.w) X.A (leaving X.env (.ref a)) Q E { s with heap:=h1 }:=by
 have fr:X.A.frames=some (X.env::X.outer):=by rw [<- st];exact I.ok.frames
 have fun0:=I.stack
 have in_:∀ env∈X.stack,∀ c,env.frame=some c->c∈frs X.stack:=fun env he c hc=>List.mem_filterMap.mpr ⟨env,he,hc⟩
 have fun1:=funFrames_hide fun0 in_
 have frn:∀ {c o},s.heap.get? c=some o->c∈frs X.stack->∀ vs,o.data≠.fields vs:=fun e hc=>by
  obtain ⟨_,o',ho,hn⟩:=fun0.mem hc
  rw [e] at ho;cases ho;exact hn
 rw [st] at fun1
 refine Qy (s:={ s with heap:=h1 }) (B:=hideAll s.heap (frs (X.env::X.outer))) (h:=s.heap) fr hf (fun b o q=>of_hideAll _ q) fun1 hx fun h2 t b1 b2 fw b3 up=>?_
 rw [<- st] at fw b1
 obtain ⟨oe,ws,T,oT,ts,g1,g2,g3,g4,g5,g6,g7,g8,g9⟩:=fw
 have keepB:∀ {c o},s.heap.get? c=some o->c∉frs X.stack->h2.get? c=some o:=fun e n=>b1 _ _ (hideAll_get _ e n)
 have slotB:∀ {c o},s.heap.get? c=some o->c∈frs X.stack->∃ sl,h2.get? c=some { o with slots:=sl }:=fun {c o} e hc=>up c o (hx.keeps _ _ e) (frn e hc)
 have nT:s.heap.get? T=none:=by
  cases q:s.heap.get? T with
  | none=>rfl
  | some o =>
   exfalso
   by_cases hc:T∈frs X.stack
   ·obtain ⟨sl,e⟩:=slotB q hc
    rw [e] at g7
    cases g7
    exact frn q hc _ g8
   ·rw [hideAll_get _ q hc] at g5
    cases g5
 have hn:∀ {c},s.heap.get? c=none->H c=none:=fun {c} e=>by
  cases q:H c with
  | none=>rfl
  | some o =>
   obtain ⟨o',e'⟩:=kD (I.hok c o q)
   rw [e] at e'
   cases e'
 refine k h2 ⟨s,H,I,rfl,I.bare,⟨fun c o e n nf nx=>keepB e nf,fun c o e n hf nx=>slotB e hf,fun c o e n nx=>n,fun c o e nx=>?_,fun _ _ e=>e,fun _ _ _ e=>e,fun c ps e=>⟨#[],by rw [e];simp⟩⟩,fun c o hc=>?_,hx.new,hn hx.new,oe,ws,T,oT,ts,.ref t,g1,g2,g3,g4,nT,hn nT,g6,g7,g8,g9⟩
 ·by_cases hc:c∈frs X.stack
  ·obtain ⟨sl,e2⟩:=slotB e hc
   exact ⟨_,e2⟩
  ·exact ⟨o,keepB e hc⟩
 ·refine (I.hok c o hc).stay (fun c' o' hc' e=>?_) (fun _ e=>e) fun _ _ e=>e
  refine keepB e fun z=>?_
  have:=I.stkFree _ z
  rcases hc' with y | y
  ·rw [y,hc] at this;cases this
  ·rw [y] at this;cases this
end
def Acc (X:Cx) (J:Value->St->Hp->Prop):Prop:=∀ (pins:List (Addr×Obj)) (σ:St) (H':Hp) (s1:Shared) (a:Addr) (cls:Value),xP X pins σ H' s1 a cls .none->J cls σ H'->X.xe (.ref a) s1
def Uu (sp:Sp) (J:Value->St->Hp->Prop) (t:TA):TE:=fun σ H Q=>t σ H fun vs H1=>sp vs H1 Q fun cls _ H'=>J cls σ H'
structure CalX (P:Program) (w:World) (K:PySem.W.Frag) (mg:Str->Option Value) (base:Heap) (k:Nat) (x:Str) (ps:List Str) (sp:Sp):Prop where
 ex:∃ f fd,FnOk P w K mg base (CX1 P w) k f fd ps sp/\zN K fd ps []/\mg x=some (.ref f)/\PySem.W.keepIn K (.ref f)=true
theorem xa {X:Cx}{k:Nat}{x:Str}{ps:List Str}{sp:Sp}{e:Expr}{es:List Expr}{t:TA}{p pos:Pos}{J:Value->St->Hp->Prop}(c:CalX X.prog X.w X.K X.mg X.base k x ps sp) (hr:Room k X.A) (ac:Acc X J) (hg:Gl X x) (ha:PA X (e::es) t)
  (hdb:(x == ("__debug__" : Str))=false:=by decide) (he:starEach (e::es) X.env=(false,eval e X.env)::starEach es X.env:=by rfl) (hpl:(backTo pos (starEach es X.env)).any (·.1)=false:=by rfl) :
  PE X (.Call (.Name x p) (e::es) [] pos) (Uu sp J t):=by
 obtain ⟨f,fd,F,hb,hm,hk⟩:=c.ex
 intro pins s σ H Q I h
 refine wpAny_Call_Name_kw (zV I hg hm ?_ hdb)
 refine PySem.W.callWith_K (h₀:=X.base) I.ok.mod.kin hk (thn (ha pos pins s σ H _ I h) fun us s1 ⟨vs,H1,I1,r,q⟩=>⟨I1.kIn,?_⟩) he hpl
 have hl:us.length=ps.length:=by rw [<- r.length];exact F.len _ _ _ _ q
 have hb':=hb s1 us I1.kIn (by rw [List.append_nil];exact hl)
 rw [List.append_nil] at hb'
 refine wpAny_call (codeAny_mono (F.run X.A X.stack s1 H1 ⟨us,[]⟩ us vs Q _ hr I1.env0 hb' r q) fun r s' hq=>?_)
 cases r with
 | error e =>
  obtain ⟨a,cls,H',rfl,os,b,u,ok,fy,j⟩:=hq
  exact ac pins σ H' s' a cls ⟨s1,H1,I1,os,b,u,ok,fy⟩ j
 | ok fl =>
  cases fl with
  | ret u=>exact I1.after hq
  | next=>exact False.elim hq
  | brk=>exact False.elim hq
  | cont=>exact False.elim hq
theorem CalX.cal {P:Program}{w:World}{K:PySem.W.Frag}{mg:Str->Option Value}{base:Heap}{k:Nat}{x:Str}{ps:List Str}{sp:Sp}(c:CalX P w K mg base k x ps sp):Cal P w K mg base k x ps (fun vs H Q _=>sp vs H Q E0):=by
 obtain ⟨f,fd,F,hb,hm,hk⟩:=c.ex
 refine ⟨f,fd,⟨fun vs H Q E h=>F.len vs H Q E0 h,fun A outer s H args us vs Q E hr he hb hv hs=>codeAny_mono (F.run A outer s H args us vs Q E0 hr he hb hv hs) fun r s' q=>?_⟩,hb,hm,hk⟩
 cases r with
 | error e =>
  obtain ⟨a,cls,H',_,_,_,_,_,_,j⟩:=q
  exact False.elim j
 | ok fl =>
  cases fl with
  | ret u=>exact q
  | next=>exact q
  | brk=>exact q
  | cont=>exact q
theorem qA {P:Program}{w:World}{K:PySem.W.Frag}{mg:Str->Option Value}{base:Heap}{N:List Str}{qual:Str}{scope:Scope}{f:Addr}{cd:Value}{A:Around}{outer:List Env}{s:Shared}{H:Hp}{E:XK} :
  Acc (yO (CX1 P w) P w K mg base N qual scope f cd A outer s H E) fun cls _ H'=>E cls none H':=by
 intro pins σ H' s1 a cls fl j
 refine xP.leave (X:=yO (CX1 P w) P w K mg base N qual scope f cd A outer s H E) fl rfl rfl fun h2 f2=>?_
 exact ⟨a,cls,H',rfl,f2.inv.os,f2.inv.bare,f2.inv.base,f2.inv.hok,f2.fly rfl,j⟩
def WC (X:Cx) (J:Value->St->Hp->Prop):Prop:=∀ (pins:List (Addr×Obj)) (σ:St) (H:Hp) (s:Shared) (h1:Heap) (a:Addr) (cls:Value) (vs:List Value),Inv X pins σ H s->Heap.MadeExcOf s.heap h1 a cls vs->J cls σ H->X.xe (.ref a) { s with heap:=h1 }
theorem xu {P:Program}{w:World}{K:PySem.W.Frag}{mg:Str->Option Value}{base:Heap}{N:List Str}{qual:Str}{scope:Scope}{f:Addr}{cd:Value}{A:Around}{outer:List Env}{s:Shared}{H:Hp}{E:XK} :
  WC (yO (CX1 P w) P w K mg base N qual scope f cd A outer s H E) fun cls _ H'=>E cls none H':=by
 intro pins σ H' s1 h1 a cls vs I hx j
 refine Xc (X:=yO (CX1 P w) P w K mg base N qual scope f cd A outer s H E) I hx rfl rfl fun h2 f2=>?_
 exact ⟨a,cls,H',rfl,f2.inv.os,f2.inv.bare,f2.inv.base,f2.inv.hok,f2.fly rfl,j⟩
theorem UP {K:PySem.W.Frag}{h:Heap}{C:Addr}{bmB:List Value}{newId:String}(X:K.In h) (q:excIn K C bmB newId=true) :
  ∃ bm N nm q bs hdct sn sub ab col dd k0 k1 k2 k3 k5 mN,h.get? C=some (excClassObj nm q C N bs bm hdct sn sub ab col dd k0 k1 k2 k3 k5 newId)/\h.Ns N mN/\mN "__init__" = none/\OwnTail h bmB bm:=by
 unfold excIn at q
 split at q
 ·rename_i dd cd sl ho
  split at q
  ·rename_i C' bm k0 k1 k2 k3 n k5 em es
   simp only [Bool.and_eq_true,beq_iff_eq,Bool.not_eq_true'] at q
   obtain ⟨⟨⟨⟨⟨rfl,rfl⟩,e1⟩,e2⟩,e3⟩,e4⟩:=q
   obtain ⟨nm,bs,mro,ns,qn,hd,sn,sub,ab,col,del⟩:=cd
   dsimp only at em e1 e3 e4
   subst em e1
   have e5:sl = #[k0,k1,k2,k3,some (.builtin n),k5]:=by obtain ⟨l⟩:=sl;simp only at es;rw [es]
   subst e5
   exact ⟨bm,ns,nm,qn,bs,hd,sn,sub,ab,col,dd,k0,k1,k2,k3,k5,_,X _ _ ho,.of_isNs (isNs_of_in X e3),nsMap_none_of_in X e3 e4,tail_of_in X e2⟩
  ·cases q
 ·cases q
theorem qQ {X:Cx}{x:Str}{np cpos pos:Pos}{e:Expr}{es:List Expr}{t:TA}{C:Addr}{B newId initId:String}{bmB:List Value}{J:Value->St->Hp->Prop}(FB:ExcBaseFacts B newId initId bmB) (O:excIn X.K C bmB newId=true) (hm:X.mg x=some (.ref C)) (hc:X.calm=true) (am:WC X J)
  (hg:Gl X x) (ha:PA X (e::es) t) (hdb:(x == ("__debug__" : Str))=false:=by decide) (he:starEach (e::es) X.env=(false,eval e X.env)::starEach es X.env:=by rfl) (hpl:(backTo cpos (starEach es X.env)).any (·.1)=false:=by rfl) :
  PS X (.Raise (some (.Call (.Name x np) (e::es) [] cpos)) none pos) (fun D σ H=>t σ H fun vs H1=>vs.length<=sizeLine/\J (.ref C) σ H1):=by
 intro pins s σ H D I h
 obtain ⟨bm,N,nm,q,bs,hdct,sn,sub,ab,col,dd,k0,k1,k2,k3,k5,mN,hC,hN,hni,T⟩:=UP I.ok.mod.kin O
 have h':=ha cpos pins s σ H _ I h
 rw [he] at h'
 refine wpAny_Raise_call_subT (C:=C) (nm:=nm) (q:=q) (N:=N) (bs:=bs) (bm:=bm) (hdct:=hdct) (sn:=sn) (sub:=sub) (ab:=ab) (col:=col) (dd:=dd) (k0:=k0) (k1:=k1) (k2:=k2) (k3:=k3) (k5:=k5)
  FB (mN:=mN) (T.hasType FB.hasBase) (I.ok.hd hc) (by rw [he];show (false || (backTo cpos (starEach es X.env)).any (·.1))=false;rw [hpl];rfl) hni (zV I hg hm ⟨rfl,?_⟩ hdb)
 rw [he]
 refine Calls.evalArgs_plain (thn h' fun us s2 ⟨vs,H2,I2,r,hl,j⟩=>⟨rfl,by rw [<- r.length];exact hl,I2.bk _ _ hC,hN.keeps I2.bk,T.keeps I2.bk,fun h1 a hx=>am pins σ H2 s2 h1 a (.ref C) _ I2 hx j⟩)
theorem Fun.okX {P:Program}{w:World}{K:PySem.W.Frag}{mg:Str->Option Value}{base:Heap}{x qual:Str}{st:Stmt}{f:Addr}{fd:FuncData}{N ps:List Str}{k:Nat}{sp:Sp}(F:Fun K x qual st f fd) (S:FnScope N ps (j6 st)) (len:∀ vs H Q E,sp vs H Q E->vs.length=ps.length)
  (hbody:∀ (cdv:Value) (A:Around) (outer:List Env) (s:Shared) (H:Hp) (vs:List V) (Q:VK) (E:XK),Room k (A.deeper (envOfC qual (j6 st) s.heap.objs.size f cdv))->sp vs H Q E ->
   ∃ t,PSs (yO (CX1 P w) P w K mg base N qual (j6 st) f cdv A outer s H E) (jJ st) t/\t { nx:=fun _ H'=>Q .non H',rt:=Q } (start N vs) H):FnOk P w K mg base (CX1 P w) (k+1) f fd ps sp:=by
 obtain ⟨oc,od,kV,doc,pm,an,cdv,ct,osl,rfl,lk,hcd⟩:=F.ex
 exact Ys lk hcd S len fun A outer s H vs Q E hr hsp=>hbody cdv A outer s H vs Q E hr hsp
theorem CalX.mk' {P:Program}{w:World}{K:PySem.W.Frag}{mg:Str->Option Value}{base:Heap}{k:Nat}{x:Str}{ps:List Str}{sp:Sp}{st:Stmt}{h:Heap}{f:Addr}{oc:Value}{od an:Option Addr}{osl:Array (Option Value)}{kV doc pm cdv ct:Value}
  (X:K.In h) (G:h.Ns mainGlobals mg) (a:PySem.W.nsIn K mainGlobals x=some (some (.ref f)))
  (l:K.lookup f=some ⟨oc,od,.func (PySem.W.fnOf x x (jR st) (jJ st) (j6 st) .none kV doc pm an cdv ct),osl⟩) (c:PySem.W.codeIn K cdv x=true) (k':PySem.W.keepIn K (.ref f)=true)
  (hb:∀ (kV doc pm:Value) (an:Option Addr) (cdv ct:Value) (us:List Value),us.length=ps.length->bindArgs (PySem.W.fnOf x x (jR st) (jJ st) (j6 st) .none kV doc pm an cdv ct) ⟨us,[]⟩=pure (ps.zip us))
  (ok:∀ {f:Addr} {fd:FuncData},Fun K x x st f fd->FnOk P w K mg base (CX1 P w) k f fd ps sp):CalX P w K mg base k x ps sp:=by
 have F:=yp (st:=st) l c k'
 exact ⟨f,_,ok F,F.binds hb,PySem.W.mg_of X G a,k'⟩
end L2
end
section
namespace L2
open PySem PySem.Spec PySem.W PyProof.Rows
abbrev Cx.atP (X:Cx) (pn:List (Addr×Obj)):Cx:={ X with pn:=pn }
abbrev Cx.tryX (X:Cx) (pn:List (Addr×Obj)) (J:Value->St->Hp->Prop):Cx:={ X with pn:=pn,xe:=fun e s1=>∃ a cls σ' H',e = .ref a/\xP (X.atP pn) [] σ' H' s1 a cls .none/\J cls σ' H' }
abbrev Cx.hand (X:Cx) (a:Addr):Cx:={ X with A:=X.A.mark (some (.ref a)),calm:=false,xe:=fun _ _=>False }
section
variable {X:Cx}{pins pn:List (Addr×Obj)}{σ:St}{H:Hp}{s:Shared}{J:Value->St->Hp->Prop}
theorem okP (ok:X.Ok) (Y:Cx) (h:Y={ X with pn:=Y.pn,xe:=Y.xe }):Y.Ok:=by
 rw [h]
 exact ⟨ok.mod,ok.kind,ok.glob,ok.blt,ok.above,ok.inj,ok.has,ok.cab,ok.hd,ok.frames,ok.stk,ok.exf,ok.bs,ok.bsz,ok.noex,ok.exfs,ok.funs,ok.frf⟩
theorem Inv.toTry (I:Inv X pins σ H s):Inv (X.tryX (X.pn++pins) J) [] σ H s :=
 ⟨okP I.ok _ rfl,I.os,I.bare,I.base,I.loc,I.cell,I.free,I.freeC,fun p hp=>I.pin p (by rw [List.append_nil] at hp;exact hp),I.hok,I.len⟩
theorem Inv.ofTry (I:Inv (X.tryX pn J) pins σ H s):Inv (X.atP pn) [] σ H s :=
 ⟨okP I.ok _ rfl,I.os,I.bare,I.base,I.loc,I.cell,I.free,I.freeC,fun p hp=>I.pin p (List.mem_append_left _ (by rw [List.append_nil] at hp;exact hp)),I.hok,I.len⟩
theorem Inv.ofP (I:Inv (X.atP (X.pn++pins)) [] σ H s):Inv X pins σ H s :=
 ⟨okP I.ok _ rfl,I.os,I.bare,I.base,I.loc,I.cell,I.free,I.freeC,fun p hp=>I.pin p (by rw [List.append_nil];exact hp),I.hok,I.len⟩
theorem Inv.ofTryP (I:Inv (X.tryX (X.pn++pins) J) [] σ H s):Inv X pins σ H s:=Inv.ofP (Inv.ofTry I)
theorem Inv.toHand (a:Addr) (I:Inv X pins σ H s):Inv (X.hand a) pins σ H s :=
 ⟨⟨I.ok.mod,I.ok.kind,I.ok.glob,I.ok.blt,I.ok.above,I.ok.inj,I.ok.has,I.ok.cab,(fun z=>(by cases z)),I.ok.frames,I.ok.stk,I.ok.exf,I.ok.bs,I.ok.bsz,I.ok.noex,I.ok.exfs,I.ok.funs,I.ok.frf⟩,I.os,I.bare,I.base,I.loc,I.cell,I.free,I.freeC,I.pin,I.hok,I.len⟩
theorem WG {Y:Cx}{pins':List (Addr×Obj)}{D:Ends}{f:Flow}{s':Shared}(g:∀ {σ H},Inv Y pins' σ H s'->Inv X pins σ H s') (h:SP Y pins' D f s'):SP X pins D f s':=by
 cases f with
 | next=>obtain ⟨σ',H',I,q⟩:=h;exact ⟨σ',H',g I,q⟩
 | brk=>obtain ⟨σ',H',I,q⟩:=h;exact ⟨σ',H',g I,q⟩
 | cont=>obtain ⟨σ',H',I,q⟩:=h;exact ⟨σ',H',g I,q⟩
 | ret u=>obtain ⟨v,σ',H',I,r,q⟩:=h;exact ⟨v,σ',H',g I,r,q⟩
theorem XH:Acc (X.tryX pn J) J:=by
 intro pins σ H' s1 a cls f j
 obtain ⟨s,H,I,os,b,u,ok,fy⟩:=f
 exact ⟨a,cls,σ,H',rfl,⟨s,H,Inv.ofTry I,os,b,u,ok,fy⟩,j⟩
end
end L2
end
section
namespace L2
open PySem PySem.Spec PySem.W PyProof.Rows
section
variable {s:Shared}{A:Around}{prog:Program}{w:World}{E:Value->Shared->Prop}
end
section
variable {X:Cx}
end
end L2
end
section
namespace L2
open PySem PySem.Spec PySem.W PyProof.Rows
end L2
end
section
namespace L2
open PySem PySem.Spec PySem.W PyProof.Rows
section
variable {X:Cx}{o e:Expr}{es:List Expr}{to:TE}{t:TA}{name:Str}{apos cpos:Pos}{id:String}{r:V->List V->Hp->VK->Prop}
end
end L2
end
section
namespace L2
open PySem PySem.Spec PySem.W PyProof.Rows
abbrev wa (ifs:List Expr) (env:Env):Sem Bool:=forIn ifs true fun c r=>if r=true then do let ok <- isTrue c env (eval c env);pure (ForInStep.yield ok) else pure (ForInStep.yield r)
abbrev xo (elt tg iter tg2 iter2:Expr) (ifs ifs2:List Expr) (scope:Scope) (pos:Pos):Expr:=.ListComp elt [⟨tg,iter,ifs,0⟩,⟨tg2,iter2,ifs2,0⟩] scope pos
theorem ZB (elt tg iter tg2 iter2:Expr) (ifs ifs2:List Expr) (scope:Scope) (pos:Pos) (it acc:Value) (env:Env) :
  compTurn (xo elt tg iter tg2 iter2 ifs ifs2 scope pos) 0 it acc env=(standAt iter.pos >>= fun _=>pyNext it >>= fun r=>match r with
   | none=>pure (.done .next)
   | some v=>letOwnedTupleGo tg it v >>= fun _=>assign tg env v >>= fun _=>wa ifs env >>= fun ok =>
    (if ok=true then (eval iter2 env >>= fun x=>standAt iter2.pos >>= fun _=>foldedSetIterable iter2 env x >>= fun x=>holding [x] (pyIter x) >>= fun i2=>runOwn (.compStart (xo elt tg iter tg2 iter2 ifs ifs2 scope pos) 1 i2 acc env) env >>= fun _=>again (.compLoop (xo elt tg iter tg2 iter2 ifs ifs2 scope pos) 0 it acc env))
     else again (.compLoop (xo elt tg iter tg2 iter2 ifs ifs2 scope pos) 0 it acc env))):=by
 rfl
theorem YB (elt tg iter tg2 iter2:Expr) (ifs ifs2:List Expr) (scope:Scope) (pos:Pos) (it acc:Value) (env:Env) :
  compTurn (xo elt tg iter tg2 iter2 ifs ifs2 scope pos) 1 it acc env=(standAt iter2.pos >>= fun _=>pyNext it >>= fun r=>match r with
   | none=>pure (.done .next)
   | some v=>letOwnedTupleGo tg2 it v >>= fun _=>assign tg2 env v >>= fun _=>wa ifs2 env >>= fun ok =>
    (if ok=true then ((eval elt env >>= fun x=>call (.builtin "list.append") [acc,x] >>= fun _=>pure ()) >>= fun _=>again (.compLoop (xo elt tg iter tg2 iter2 ifs ifs2 scope pos) 1 it acc env))
     else again (.compLoop (xo elt tg iter tg2 iter2 ifs ifs2 scope pos) 1 it acc env))):=by
 rfl
section
variable {s:Shared}{A:Around}{prog:Program}{w:World}{R:Result->Shared->Prop}{elt tg iter tg2 iter2:Expr}{ifs ifs2:List Expr}{scope:Scope}{pos:Pos}{it acc:Value}{env:Env}
theorem YZ (I:Nat->Shared->Prop)
  (turn:∀ n s,I n s->wpAny (model prog w) A (pyNext it) (fun r s₁=>match r with
   | none=>R (.ok .next) s₁
   | some v=>wpAny (model prog w) A (letOwnedTupleGo tg2 it v) (fun _ s₂=>wpAny (model prog w) A (assign tg2 env v) (fun _ s₃=>wpAny (model prog w) A (wa ifs2 env) (fun ok s₄ =>
      if ok=true then wpAny (model prog w) A (eval elt env) (fun x s₅=>wpAny (model prog w) A (call (.builtin "list.append") [acc,x]) (fun _ s₆=>∃ m,m<n/\I m s₆) (fun _ _=>False) s₅) (fun _ _=>False) s₄
      else ∃ m,m<n/\I m s₄) (fun _ _=>False) s₃) (fun _ _=>False) s₂) (fun _ _=>False) s₁) (fun _ _=>False) s)
  (n:Nat) (h:I n s):codeAny (model prog w) A (.compLoop (xo elt tg iter tg2 iter2 ifs ifs2 scope pos) 1 it acc env) R s:=by
 refine codeAny_loop rfl I (fun n s hI=>?_) n h
 show wpAny _ A ((compTurn (xo elt tg iter tg2 iter2 ifs ifs2 scope pos) 1 it acc env).onRaise (fun x=>do noteFrame x env;theTreesLotGoes x)) _ _ s
 refine wpAny_noted ?_;rw [YB]
 refine wpAny_bind (wpAny_standAt (wpAny_bind (wpAny_mono (turn n s hI) (fun r s₁ h₁=>?_) fun _ _ h'=>h'.elim)))
 cases r with
 | none=>exact wpAny_pure h₁
 | some v =>
  refine wpAny_bind (wpAny_mono h₁ (fun _ s₂ h₂=>?_) fun _ _ h'=>h'.elim)
  refine wpAny_bind (wpAny_mono h₂ (fun _ s₃ h₃=>wpAny_bind (wpAny_mono h₃ (fun ok s₄ h₄=>?_) fun _ _ h'=>h'.elim)) fun _ _ h'=>h'.elim)
  cases ok with
  | false=>exact wpAny_pure ⟨rfl,h₄⟩
  | true=>exact wpAny_bind (wpAny_bind (wpAny_mono h₄ (fun x s₅ h₅=>wpAny_bind (wpAny_mono h₅ (fun _ s₆ h₆=>wpAny_pure (wpAny_pure ⟨rfl,h₆⟩)) fun _ _ h'=>h'.elim)) fun _ _ h'=>h'.elim))
theorem Zd {R:Result->Shared->Prop}(h0:codeAny (model prog w) A (.compLoop (xo elt tg iter tg2 iter2 ifs ifs2 scope pos) 1 it acc env) R s)
  (h:wpAny (model prog w) A (pyIter it) (fun i2 s'=>codeAny (model prog w) A (.compLoop (xo elt tg iter tg2 iter2 ifs ifs2 scope pos) 1 i2 acc env) R s') (fun _ _=>False) s) :
  codeAny (model prog w) A (.compStart (xo elt tg iter tg2 iter2 ifs ifs2 scope pos) 1 it acc env) R s:=by
 refine codeAny_of_tree ?_
 show wpAny _ _ ((compStart (xo elt tg iter tg2 iter2 ifs ifs2 scope pos) 1 it acc env).onRaise (fun x=>do noteFrame x env;standAt theWindowsPlace)) _ _ s
 refine wpAny_notedAt ?_;unfold compStart;show wpAny _ _ (ask >>= _) _ _ s
 refine wpAny_bind (wpAny_askSetting (wpAny_ite ?_))
 split
 ·first | exact wpAny_bind (wpAny_pure (wpAny_pure (And.intro rfl h0))) | exact wpAny_pure (And.intro rfl h0)
 ·first
   | exact wpAny_bind (wpAny_rule (wpAny_bind (wpAny_standAt (wpAny_bind (wpAny_mono h (fun i2 s' h'=>wpAny_pure (And.intro rfl h')) fun _ _ x=>x.elim)))))
   | (refine wpAny_bind (wpAny_rule ?_);show wpAny _ _ (standAt iter2.pos >>= _) _ _ s;exact wpAny_bind (wpAny_standAt (wpAny_bind (wpAny_mono h (fun i2 s' h'=>wpAny_pure (And.intro rfl h')) fun _ _ x=>x.elim))))
theorem ZX (I:Nat->Shared->Prop) (hs2:∀ x,foldedSetIterable iter2 env x=pure x)
  (turn:∀ n s,I n s->wpAny (model prog w) A (pyNext it) (fun r s₁=>match r with
   | none=>R (.ok .next) s₁
   | some v=>wpAny (model prog w) A (letOwnedTupleGo tg it v) (fun _ s₂=>wpAny (model prog w) A (assign tg env v) (fun _ s₃=>wpAny (model prog w) A (wa ifs env) (fun ok s₄ =>
      if ok=true then wpAny (model prog w) A (eval iter2 env) (fun x s₅=>wpAny (model prog w) A (pyIter x) (fun i2 s₆=>codeAny (model prog w) A (.compStart (xo elt tg iter tg2 iter2 ifs ifs2 scope pos) 1 i2 acc env) (fun r s'=>match r with | .ok _=>∃ m,m<n/\I m s' | .error _=>False) s₆) (fun _ _=>False) s₅) (fun _ _=>False) s₄
      else ∃ m,m<n/\I m s₄) (fun _ _=>False) s₃) (fun _ _=>False) s₂) (fun _ _=>False) s₁) (fun _ _=>False) s)
  (n:Nat) (h:I n s):codeAny (model prog w) A (.compLoop (xo elt tg iter tg2 iter2 ifs ifs2 scope pos) 0 it acc env) R s:=by
 refine codeAny_loop rfl I (fun n s hI=>?_) n h
 show wpAny _ A ((compTurn (xo elt tg iter tg2 iter2 ifs ifs2 scope pos) 0 it acc env).onRaise (fun x=>do noteFrame x env;theTreesLotGoes x)) _ _ s
 refine wpAny_noted ?_;rw [ZB]
 refine wpAny_bind (wpAny_standAt (wpAny_bind (wpAny_mono (turn n s hI) (fun r s₁ h₁=>?_) fun _ _ h'=>h'.elim)))
 cases r with
 | none=>exact wpAny_pure h₁
 | some v =>
  refine wpAny_bind (wpAny_mono h₁ (fun _ s₂ h₂=>?_) fun _ _ h'=>h'.elim)
  refine wpAny_bind (wpAny_mono h₂ (fun _ s₃ h₃=>wpAny_bind (wpAny_mono h₃ (fun ok s₄ h₄=>?_) fun _ _ h'=>h'.elim)) fun _ _ h'=>h'.elim)
  cases ok with
  | false=>exact wpAny_pure ⟨rfl,h₄⟩
  | true =>
   refine wpAny_bind (wpAny_mono h₄ (fun x s₅ h₅=>wpAny_bind (wpAny_standAt (wpAny_bind (wpAny_of_eq (hs2 x) (wpAny_bind (wpAny_holding (wpAny_mono h₅ (fun i2 s₆ h₆=>wpAny_bind (wpAny_runOwn ?_)) fun _ _ h'=>h'.elim))))))) fun _ _ h'=>h'.elim)
   rw [Around.mark_none]
   refine codeAny_mono h₆ fun r s' q=>?_
   cases r with
   | ok f=>exact wpAny_pure ⟨rfl,q⟩
   | error e=>exact q.elim
end
def wm (acc:Addr) (g2:TG) (ti2:TT) (te:TE) (J2:It) (NX:St->Hp->Prop) (σ3:St) (H5:Hp):Prop :=
 ∃ W2:Nat->Nat->St->Hp->Prop,(∃ m,W2 0 m σ3 H5)/\∀ j m σ6 H6,W2 j m σ6 H6->(J2.stop j H6/\NX σ6 H6)\/(J2.go j H6/\∃ NX2:St->Hp->Prop,(∀ σ7 H7,NX2 σ7 H7->∃ m',m'<m/\W2 (j+1) m' σ7 H7) /\
  ∀ y H7,J2.yld j H6 y H7->g2 y σ6 H7 fun σ8 H8=>ti2 σ8 H8 fun ok2 H9=>if ok2=true then te σ8 H9 fun v H10=>∃ ys,H10 acc=some (.lst ys)/\ys.length<sizeLine/\NX2 σ8 (upd H10 acc (.lst (ys++[v]))) else NX2 σ8 H9)
section
variable {X:Cx}{pos:Pos}
def US (own:Nat) (caps:List Nat) (wi:TI) (g:TG) (ti:TT) (wi2:TI) (g2:TG) (ti2:TT) (te:TE):TE:=fun σ H Q=>wi σ H fun J H1=>∀ acc,H1 acc=none ->
 ∃ W:Nat->Nat->St->Hp->Prop,(∃ m,W 0 m (yd own caps σ) (upd H1 acc (.lst [])))/\∀ i m σ' H',W i m σ' H' ->
  (J.stop i H'/\Q (.ref acc) H') \/
  (J.go i H'/\∃ NX:St->Hp->Prop,(∀ σ2 H2,NX σ2 H2->∃ m',m'<m/\W (i+1) m' σ2 H2) /\
   ∀ x H2,J.yld i H' x H2->g x σ' H2 fun σ3 H3=>ti σ3 H3 fun ok H4=>if ok=true then wi2 σ3 H4 fun J2 H5=>wm acc g2 ti2 te J2 NX σ3 H5 else NX σ3 H4)
theorem ZI {osc:Scope}{ON N:List Str}{scope:Scope}{own:Nat}{caps:List Nat}{cl:List (Str×Addr)}{tg elt iter tg2 iter2:Expr}{ifs ifs2:List Expr}{g g2:TG}{ti ti2:TT}{wi2:TI}{te:TE}{pins:List (Addr×Obj)}{σ:St}{H:Hp}{s:Shared}{fp:List Addr}{it:Addr}
  {tn:Nat->Heap->Prop} {J:It} {Q:VK} {RR:Value->Addr->Result->Shared->Prop} {E:Value->Shared->Prop}
  (hc:X.calm=true) (S:CompSc osc ON scope own N caps) (hsc:X.env.scope=osc) (hN:X.N=ON) (hcl:∀ x,cl.lookup x=if (x,NameKind.free)∈scope.names then X.env.cells.lookup x else none)
  (hg:∀ cl C s H ex,PG (X.block scope cl C N s H ex) tg g) (hif:∀ cl C s H ex,kG (X.block scope cl C N s H ex) ifs ti) (hi2:∀ cl C s H ex,PI (X.block scope cl C N s H ex) tg2 iter2 wi2) (hg2:∀ cl C s H ex,PG (X.block scope cl C N s H ex) tg2 g2) (hif2:∀ cl C s H ex,kG (X.block scope cl C N s H ex) ifs2 ti2) (he:∀ cl C s H ex,PE (X.block scope cl C N s H ex) elt te) (hs2:∀ env x,foldedSetIterable iter2 env x=pure x)
  (I:Inv X pins σ H s) (T:Turn X.prog X.w X.K tg J fp it tn) (st:tn 0 s.heap) (hf:∀ b∈fp,zT X pins H b)
  (hw:∀ acc,H acc=none->∃ W:Nat->Nat->St->Hp->Prop,(∃ m,W 0 m (yd own caps σ) (upd H acc (.lst [])))/\∀ i m σ' H',W i m σ' H' ->
   (J.stop i H'/\Q (.ref acc) H')\/(J.go i H'/\∃ NX:St->Hp->Prop,(∀ σ2 H2,NX σ2 H2->∃ m',m'<m/\W (i+1) m' σ2 H2) /\
    ∀ x H2,J.yld i H' x H2->g x σ' H2 fun σ3 H3=>ti σ3 H3 fun ok H4=>if ok=true then wi2 σ3 H4 fun J2 H5=>wm acc g2 ti2 te J2 NX σ3 H5 else NX σ3 H4))
  (fin:∀ (D C:Addr) (H':Hp) (s':Shared),Inv X pins σ H' s'->BlockAt X pins H' C->(∃ m,s'.heap.Ns C m)->Q (.ref D) H'->RR (.ref D) C (.ok .next) s') :
  wpAny (model X.prog X.w) X.A (newList []) (fun acc s₃=>wpAny (model X.prog X.w) X.A (newFunctionEnv scope X.env.globals cl [] X.env.qual none .none (some X.env)) (fun cenv s₄ =>
   codeAny (model X.prog X.w) X.A (.compStart (xo elt tg iter tg2 iter2 ifs ifs2 scope pos) 0 (.ref it) acc { cenv with scope:=relabel scope X.env }) (RR acc cenv.locals) s₄) E s₃) E s:=by
 have hfs:∀ b∈fp,b<s.heap.objs.size:=fun b hb=>by
  obtain ⟨o,e,_⟩:=T.obj _ _ st b hb
  exact Heap.lt_size e
 refine wpAny_newObj_type (wpAny_newFunctionEnv S.nocell (by intro y hy;simp at hy) (fun h₁ hns₁ hsb₁=>?_) S.kind)
 dsimp only at hns₁ hsb₁ ⊢
 generalize hH2:s.heap.push { cls:=.type "list",dict:=none,data:=.seq ([]:List Value).toArray }=H2 at hns₁ hsb₁ ⊢
 have hCsz:H2.objs.size=s.heap.objs.size+1:=by rw [<- hH2,Heap.size_push]
 have old:∀ b o,s.heap.get? b=some o->h₁.get? b=some o:=fun b o e=>hsb₁.extBut b o (Nat.ne_of_lt (by rw [hCsz];exact Nat.lt_succ_of_lt (Heap.lt_size e))) (Heap.get?_push_of_some _ (hH2 ▸ Heap.get?_push_of_some _ e))
 have eD:h₁.get? s.heap.objs.size=some { cls:=.type "list",data:=.seq #[] }:=hsb₁.extBut _ _ (Nat.ne_of_lt (by omega)) (Heap.get?_push_of_some _ (hH2 ▸ Heap.get?_push_size _ rfl))
 have hDn:H s.heap.objs.size=none:=I.hok.fresh (Nat.le_refl _)
 obtain ⟨W,⟨m0,w0⟩,turn⟩:=hw s.heap.objs.size hDn
 have hns:h₁.Ns H2.objs.size fun _=>none:=hns₁
 have I1:Inv (X.block scope cl H2.objs.size N s H fp) [] (yd own caps σ) (upd H s.heap.objs.size (.lst [])) { s with heap:=h₁,toks:=s.toks+([]:List (Str×Value)).length } :=
  yj S hsc hN hcl I hf hfs rfl hCsz old eD hns _
 have st1:tn 0 h₁:=T.keep 0 _ _ st fun b _ o e=>old b o e
 have fpB:∀ {H':Hp},(∀ b∈fp,H' b=none)->∀ b∈fp,zT (X.block scope cl H2.objs.size N s H fp) [] H' b:=fun {H'} hn b hb=>by
  have ok:=I1.ok
  exact ⟨hn b hb,(ok.exf b hb).1,ok.exfs b hb,.inl hb,(ok.exf b hb).2,fun p hp=>absurd (show p∈([]:List (Addr×Obj)) from hp) (by simp)⟩
 have back:∀ {σ':St} {H':Hp} {s':Shared},Inv (X.block scope cl H2.objs.size N s H fp) [] σ' H' s'->Q (.ref s.heap.objs.size) H'->RR (.ref s.heap.objs.size) H2.objs.size (.ok .next) s':=fun {σ' H' s'} J1 q=>by
  have J2:Inv X pins σ H' s':=I.call' (ch:=fp) J1.os J1.base J1.hok J1.bare fun b hb=>⟨(hf b hb).2.2.2.1,(hf b hb).2.1,(hf b hb).2.2.2.2.1,(hf b hb).2.2.2.2.2⟩
  obtain ⟨m,hm,_⟩:=J1.loc
  refine fin _ _ H' s' J2 ⟨J1.free,Nat.ne_of_gt (Nat.lt_of_lt_of_le I.lt (by omega)),Nat.le_trans I.sz (by omega),fun x c e z=>?_,fun p hp z=>?_⟩ ⟨m,hm⟩ q
  ·obtain ⟨v,y⟩:=I.cell x c e
   have h1:H2.objs.size<s.heap.objs.size:=z ▸ y.lt
   exact absurd h1 (by omega)
  ·have h1:H2.objs.size<s.heap.objs.size:=z ▸ Heap.lt_size (I.pin p hp).1
   exact absurd h1 (by omega)
 have loop:∀ s₃:Shared,s₃={ s with heap:=h₁,toks:=s.toks+([]:List (Str×Value)).length } ->
   codeAny (model X.prog X.w) X.A (.compLoop (xo elt tg iter tg2 iter2 ifs ifs2 scope pos) 0 (.ref it) (.ref s.heap.objs.size) (compEnvC scope cl H2.objs.size X.env)) (RR (.ref s.heap.objs.size) H2.objs.size) s₃:=by
  rintro s₃ rfl
  refine ZX (fun n s'=>∃ i σ' H',Inv (X.block scope cl H2.objs.size N s H fp) [] σ' H' s'/\tn i s'.heap/\(∀ b∈fp,H' b=none)/\W i n σ' H') (hs2 _) ?_ m0
   ⟨0,_,_,I1,st1,fun b hb=>by rw [j8 (Nat.ne_of_lt (hfs b hb))];exact (hf b hb).1,w0⟩
  rintro n s3 ⟨i,σ3,H3,I3,st3,fr3,w3⟩
  rcases turn i n σ3 H3 w3 with ⟨stop,qn⟩ | ⟨go,NX,hNX,step⟩
  ·refine thn (T.done (X.block scope cl H2.objs.size N s H fp) rfl rfl rfl hc i [] s3 σ3 H3 _ I3 (fpB fr3) st3 stop) fun r s4 ⟨hr,I4⟩=>?_
   subst hr
   exact back I4 qn
  ·refine thn (T.item (X.block scope cl H2.objs.size N s H fp) rfl rfl rfl hc i [] s3 σ3 H3 _ I3 (fpB fr3) st3 go) fun r s4 ⟨u,hr,h4⟩=>?_
   subst hr
   refine thn h4 fun _ s5 ⟨x,H5,I5,r5,y5,st5,fr5⟩=>?_
   have I5':=I5.pinned (fpB fr5) (T.obj _ _ st5)
   refine thn (hg cl H2.objs.size s H fp _ s5 σ3 H5 x u _ I5' r5 (step x H5 y5)) fun _ s6 ⟨σ6,H6,I6,q6⟩=>?_
   refine thn (hif cl H2.objs.size s H fp _ s6 σ6 H6 _ I6 q6) fun ok s7 ⟨H7,I7,q7⟩=>?_
   have again:∀ {s8:Shared} {σ8:St} {H8:Hp},Inv (X.block scope cl H2.objs.size N s H fp) ([]++xU fp s5.heap) σ8 H8 s8->NX σ8 H8->∃ m,m<n/\∃ i σ' H',Inv (X.block scope cl H2.objs.size N s H fp) [] σ' H' s8/\tn i s8.heap/\(∀ b∈fp,H' b=none)/\W i m σ' H':=fun {s8 σ8 H8} I8 n8=>by
    obtain ⟨m',hm,w8⟩:=hNX σ8 H8 n8
    refine ⟨m',hm,i+1,σ8,H8,I8.unpinned,T.keep _ _ _ st5 fun b hb o e=>(I8.pin (b,o) (List.mem_append_right _ (List.mem_append_right _ (qt hb e)))).1,fun b hb=>?_,w8⟩
    obtain ⟨o,e,d⟩:=T.obj _ _ st5 b hb
    exact (I8.pin (b,o) (List.mem_append_right _ (List.mem_append_right _ (qt hb e)))).2.1
   cases ok with
   | false =>
    rw [if_neg Bool.false_ne_true] at q7 ⊢
    exact again I7 q7
   | true =>
    rw [if_pos rfl] at q7 ⊢
    refine thn (hi2 cl H2.objs.size s H fp _ s7 σ6 H7 _ I7 q7) fun v s8 h8=>thn h8 fun itv s9 h9=>?_
    obtain ⟨it2,fp2,tn2,J2,H9,e,I9,T2,st9,f9,W2,⟨m2,w2⟩,turn2⟩:=h9
    subst e
    have stat2:∀ {H':Hp},(∀ b∈fp2,H' b=none)->∀ b∈fp2,zT (X.block scope cl H2.objs.size N s H fp) ([]++xU fp s5.heap) H' b:=fun hn b hb=>⟨hn b hb,(f9 b hb).2⟩
    have inner:codeAny (model X.prog X.w) X.A (.compLoop (xo elt tg iter tg2 iter2 ifs ifs2 scope pos) 1 (.ref it2) (.ref s.heap.objs.size) (compEnvC scope cl H2.objs.size X.env)) (fun r s'=>match r with | .ok _=>∃ m,m<n/\∃ i σ' H',Inv (X.block scope cl H2.objs.size N s H fp) [] σ' H' s'/\tn i s'.heap/\(∀ b∈fp,H' b=none)/\W i m σ' H' | .error _=>False) s9:=by
     refine YZ (fun n2 s'=>∃ j σ' H',Inv (X.block scope cl H2.objs.size N s H fp) ([]++xU fp s5.heap) σ' H' s'/\tn2 j s'.heap/\(∀ b∈fp2,H' b=none)/\W2 j n2 σ' H') ?_ m2 ⟨0,_,_,I9,st9,fun b hb=>(f9 b hb).1,w2⟩
     rintro n2 s10 ⟨j,σ10,H10,I10,st10,fr10,w10⟩
     rcases turn2 j n2 σ10 H10 w10 with ⟨stop2,nx2⟩ | ⟨go2,NX2,hNX2,step2⟩
     ·refine thn (T2.done (X.block scope cl H2.objs.size N s H fp) rfl rfl rfl hc j _ s10 σ10 H10 _ I10 (stat2 fr10) st10 stop2) fun r s11 ⟨hr,I11⟩=>?_
      subst hr
      exact again I11 nx2
     ·refine thn (T2.item (X.block scope cl H2.objs.size N s H fp) rfl rfl rfl hc j _ s10 σ10 H10 _ I10 (stat2 fr10) st10 go2) fun r s11 ⟨u2,hr,h11⟩=>?_
      subst hr
      refine thn h11 fun _ s12 ⟨x2,H12,I12,r12,y12,st12,fr12⟩=>?_
      have I12':=I12.pinned (stat2 fr12) (T2.obj _ _ st12)
      refine thn (hg2 cl H2.objs.size s H fp _ s12 σ10 H12 x2 u2 _ I12' r12 (step2 x2 H12 y12)) fun _ s13 ⟨σ13,H13,I13,q13⟩=>?_
      refine thn (hif2 cl H2.objs.size s H fp _ s13 σ13 H13 _ I13 q13) fun ok2 s14 ⟨H14,I14,q14⟩=>?_
      have again2:∀ {s15:Shared} {σ15:St} {H15:Hp},Inv (X.block scope cl H2.objs.size N s H fp) (([]++xU fp s5.heap)++xU fp2 s12.heap) σ15 H15 s15->NX2 σ15 H15->∃ m,m<n2/\∃ j σ' H',Inv (X.block scope cl H2.objs.size N s H fp) ([]++xU fp s5.heap) σ' H' s15/\tn2 j s15.heap/\(∀ b∈fp2,H' b=none)/\W2 j m σ' H':=fun {s15 σ15 H15} I15 n15=>by
       obtain ⟨m',hm,w15⟩:=hNX2 σ15 H15 n15
       refine ⟨m',hm,j+1,σ15,H15,I15.unpinned,T2.keep _ _ _ st12 fun b hb o e=>(I15.pin (b,o) (List.mem_append_right _ (List.mem_append_right _ (qt hb e)))).1,fun b hb=>?_,w15⟩
       obtain ⟨o,e,d⟩:=T2.obj _ _ st12 b hb
       exact (I15.pin (b,o) (List.mem_append_right _ (List.mem_append_right _ (qt hb e)))).2.1
      cases ok2 with
      | false =>
       rw [if_neg Bool.false_ne_true] at q14 ⊢
       exact again2 I14 q14
      | true =>
       rw [if_pos rfl] at q14 ⊢
       refine thn (he cl H2.objs.size s H fp _ s14 σ13 H14 _ I14 q14) fun v15 s15 ⟨y15,H15,I15,r15,ys,e15,z15,q15⟩=>?_
       refine thn (qz _ s15 σ13 H15 (.ref s.heap.objs.size) [y15] _ [v15] (fun _ H16=>NX2 σ13 H16) I15 rfl (.cons r15 .nil) ⟨_,ys,y15,rfl,rfl,e15,z15,q15⟩) fun _ s16 ⟨_,H16,I16,_,q16⟩=>?_
       exact again2 I16 q16
    exact Zd inner (T2.self _ 0 _ _ _ st9 inner)
 exact codeAny_compStart_list (loop _ rfl) (T.self _ 0 _ _ _ st1 (loop _ rfl))
theorem YY {osc:Scope}{ON N:List Str}{scope:Scope}{own:Nat}{caps:List Nat}{tg elt iter tg2 iter2:Expr}{ifs ifs2:List Expr}{wi wi2:TI}{g g2:TG}{ti ti2:TT}{te:TE}(S:CompSc osc ON scope own N caps)
  (hc:X.calm=true) (hsc:X.env.scope=osc) (hN:X.N=ON) (hi:PI X tg iter wi)
  (hg:∀ cl C s H ex,PG (X.block scope cl C N s H ex) tg g) (hif:∀ cl C s H ex,kG (X.block scope cl C N s H ex) ifs ti) (hi2:∀ cl C s H ex,PI (X.block scope cl C N s H ex) tg2 iter2 wi2) (hg2:∀ cl C s H ex,PG (X.block scope cl C N s H ex) tg2 g2) (hif2:∀ cl C s H ex,kG (X.block scope cl C N s H ex) ifs2 ti2) (he:∀ cl C s H ex,PE (X.block scope cl C N s H ex) elt te)
  (hs:∀ x,foldedSetIterable iter X.env x=pure x:=by intro _;rfl) (hs2:∀ env x,foldedSetIterable iter2 env x=pure x:=by intro _ _;rfl):PE X (.ListComp elt [⟨tg,iter,ifs,0⟩,⟨tg2,iter2,ifs2,0⟩] scope pos) (US own caps wi g ti wi2 g2 ti2 te):=by
 intro pins s σ H Q I h
 obtain ⟨cl,hclos,hcl⟩:=y6 (Jc S hsc I)
 rw [eval_ListComp]
 refine wpAny_comprehension_free (use:=none) rfl hs hclos S.kind S.loc (thn (hi pins s σ H _ I h) fun v s1 h1=>thn h1 fun itv s2 h2=>?_)
 obtain ⟨it,fp,tn,J,H2,e,I2,T,st2,f2,hw⟩:=h2
 subst e
 refine ZI (RR:=fun acc C=>compPost (model X.prog X.w) X.A X.xe none (EP X pins σ Q) acc C) hc S hsc hN hcl hg hif hi2 hg2 hif2 he hs2 I2 T st2 f2 hw fun D C H' s' J1 B ⟨m,hm⟩ q=>?_
 exact ⟨m,hm,fun h' hs'=>⟨.ref D,H',B.gone J1 hs',rfl,q⟩⟩
end
end L2
end
section
namespace L2
open PySem PySem.Spec PySem.W PyProof.Rows
structure CalM (P:Program) (w:World) (K:PySem.W.Frag) (mg:Str->Option Value) (base:Heap) (k:Nat) (C:Addr) (m:Str) (ps:List Str) (sp:Sp):Prop where
 ex:∃ f fd,FnOk P w K mg base CX0 k f fd ps sp/\zN K fd ps []/\Meth K C m f
structure CalMX (P:Program) (w:World) (K:PySem.W.Frag) (mg:Str->Option Value) (base:Heap) (k:Nat) (C:Addr) (m:Str) (ps:List Str) (sp:Sp):Prop where
 ex:∃ f fd,FnOk P w K mg base (CX1 P w) k f fd ps sp/\zN K fd ps []/\Meth K C m f
section
variable {X:Cx}{k:Nat}{f C:Addr}{fd:FuncData}{ps:List Str}{sp:Sp}{x m:Str}{p pos apos:Pos}{e o:Expr}{es:List Expr}{ta:TE}{t:TA}{J:Value->St->Hp->Prop}
theorem Wp {pins:List (Addr×Obj)}{σ:St}{H:Hp}{s:Shared}{Q:VK}{us:List Value}{vs:List V}(F:FnOk X.prog X.w X.K X.mg X.base (CX1 X.prog X.w) k f fd ps sp) (hr:Room k X.A) (hb:zN X.K fd ps []) (ac:Acc X J)
  (I:Inv X pins σ H s) (r:jC vs us) (h:sp vs H Q fun cls _ H'=>J cls σ H'):wpAny (model X.prog X.w) X.A (call (.ref f) us) (EP X pins σ Q) X.xe s:=by
 have hl:us.length=ps.length:=by rw [<- r.length];exact F.len _ _ _ _ h
 have hb':=hb s us I.kIn (by rw [List.append_nil];exact hl)
 rw [List.append_nil] at hb'
 refine wpAny_call (codeAny_mono (F.run X.A X.stack s H ⟨us,[]⟩ us vs Q _ hr I.env0 hb' r h) fun r s' hq=>?_)
 cases r with
 | error e =>
  obtain ⟨a,cls,H',rfl,os,b,u,ok,fy,j⟩:=hq
  exact ac pins σ H' s' a cls ⟨s,H,I,os,b,u,ok,fy⟩ j
 | ok fl =>
  cases fl with
  | ret u=>exact I.after hq
  | next=>exact False.elim hq
  | brk=>exact False.elim hq
  | cont=>exact False.elim hq
theorem pe_m {pl:Sem Bool}(he:PE X o ta) (c:Cls X.K C) (cm:CalM X.prog X.w X.K X.mg X.base k C m ps sp) (hr:Room k X.A) (ha:PA X (e::es) t)
  (hst:starEach (e::es) X.env=(false,eval e X.env)::starEach es X.env:=by rfl) (hpl:(backTo pos (starEach es X.env)).any (·.1)=false:=by rfl)
  (ht:eval (.Call (.Attribute o m apos) (e::es) [] pos) X.env=(do let ov <- eval o X.env;standAt apos.atName;let (f,first) <- holding [ov] (getMethod ov m pl);callWith pos f first (backTo pos (starEach (e::es) X.env)) (backToKw pos (keywordEach [] X.env))):=by rfl) :
  PE X (.Call (.Attribute o m apos) (e::es) [] pos) (Ua C m sp [] E0 ta t):=by
 obtain ⟨f,fd,F,hb,hm⟩:=cm.ex
 exact Vd he c hm F hr hb .nil U8 ha hst hpl ht
def UW (C:Addr) (m:Str) (sp:Sp) (J:Value->St->Hp->Prop) (ta:TE) (t:TA):TE:=fun σ H Q=>ta σ H fun x H1=>∃ a dx fs,x = .ref a/\H1 a=some (.ins C dx fs)/\fs.lookup m=none/\t σ H1 fun vs H2=>sp (x::vs) H2 Q fun cls _ H'=>J cls σ H'
theorem zO {pl:Sem Bool}(he:PE X o ta) (c:Cls X.K C) (cm:CalMX X.prog X.w X.K X.mg X.base k C m ps sp) (hr:Room k X.A) (ac:Acc X J) (ha:PA X (e::es) t)
  (hst:starEach (e::es) X.env=(false,eval e X.env)::starEach es X.env:=by rfl) (hpl:(backTo pos (starEach es X.env)).any (·.1)=false:=by rfl)
  (ht:eval (.Call (.Attribute o m apos) (e::es) [] pos) X.env=(do let ov <- eval o X.env;standAt apos.atName;let (f,first) <- holding [ov] (getMethod ov m pl);callWith pos f first (backTo pos (starEach (e::es) X.env)) (backToKw pos (keywordEach [] X.env))):=by rfl) :
  PE X (.Call (.Attribute o m apos) (e::es) [] pos) (UW C m sp J ta t):=by
 obtain ⟨f,fd,F,hb,hm⟩:=cm.ex
 intro pins s σ H Q I h
 refine PySem.W.methodCall_KW (pl:=pl) (thn (he pins s σ H _ I h) fun u s1 ⟨x,H1,I1,rx,a,dx,fs,ex,ea,l,q⟩=>?_) ht
 subst ex
 obtain rfl:u=Value.ref a:=rx
 refine vp I1 ea c hm l ?_
 refine PySem.W.callWith_K (first:=[.ref a]) (h₀:=X.base) I.ok.mod.kin hm.kp (thn (ha pos pins s1 σ H1 _ I1 q) fun us s2 ⟨vs,H2,I2,r,q2⟩=>⟨I2.kIn,?_⟩) hst hpl
 exact Wp (us:=.ref a::us) (vs:=.ref a::vs) F hr hb ac I2 (.cons rfl r) q2
structure MakX (P:Program) (w:World) (K:PySem.W.Frag) (mg:Str->Option Value) (base:Heap) (k:Nat) (C:Addr) (x:Str) (ps:List Str) (sp:Sp):Prop where
 ex:∃ f fd,FnOk P w K mg base (CX1 P w) k f fd ps sp/\zN K fd ps []/\Mk K C f/\mg x=some (.ref C)
def UV (C:Addr) (sp:Sp) (J:Value->St->Hp->Prop) (t:TA):TE:=fun σ H Q=>t σ H fun vs H1=>∀ x dx,H1 x=none->H1 dx=none->dx≠x ->
 sp (.ref x::vs) (upd (upd H1 dx (.own x)) x (.ins C dx [])) (fun v H2=>v = .non/\Q (.ref x) H2) fun cls _ H'=>J cls σ H'
theorem Vt (c:MakX X.prog X.w X.K X.mg X.base k C x ps sp) (hr:Room (k+1) X.A) (ac:Acc X J) (hg:Gl X x) (ha:PA X (e::es) t) (hdb:(x == ("__debug__" : Str))=false:=by decide) (he:starEach (e::es) X.env=(false,eval e X.env)::starEach es X.env:=by rfl) (hpl:(backTo pos (starEach es X.env)).any (·.1)=false:=by rfl) :
  PE X (.Call (.Name x p) (e::es) [] pos) (UV C sp J t):=by
 obtain ⟨f,fd,F,hb,M,hm⟩:=c.ex
 intro pins s0 σ H0 Q I0 h0
 refine wpAny_Call_Name_kw (zV I0 hg hm ?_ hdb)
 refine PySem.W.callWith_K (h₀:=X.base) I0.ok.mod.kin M.kp (thn (ha pos pins s0 σ H0 _ I0 h0) fun us s ⟨vs,H,I,r,h⟩=>⟨I.kIn,?_⟩) he hpl
 have hq:=h (s.heap.objs.size+1) s.heap.objs.size (I.hok.fresh (Nat.le_succ _)) (I.hok.fresh (Nat.le_refl _)) (Nat.ne_of_lt (Nat.lt_succ_self _))
 have I2:=Inv.made (C:=C) I
 have r2:jC (V.ref (s.heap.objs.size+1)::vs) (Value.ref (s.heap.objs.size+1)::us):=.cons rfl r
 have hl:(Value.ref (s.heap.objs.size+1)::us).length=ps.length:=by rw [<- r2.length];exact F.len _ _ _ _ hq
 have hb':=hb { s with heap:=_ } (Value.ref (s.heap.objs.size+1)::us) I2.kIn (by rw [List.append_nil];exact hl)
 rw [List.append_nil] at hb'
 refine wpAny_call (Yh (f:=f) I.kIn M.makes M.init (beq_iff_eq.mp M.fn) (codeAny_mono (F.run _ X.stack _ _ ⟨Value.ref (s.heap.objs.size+1)::us,[]⟩ (Value.ref (s.heap.objs.size+1)::us) _ _ _ (hr.make C us []) (I2.env0.make C us []) hb' r2 hq) fun r s' hq'=>?_))
 cases r with
 | error e =>
  obtain ⟨a,cls,H',rfl,os,b,u,ok,fy,j⟩:=hq'
  exact ac pins σ H' s' a cls ⟨_,_,I2,os,b,u,ok,fy⟩ j
 | ok fl =>
  cases fl with
  | ret u =>
   obtain ⟨v,H',I3,rv,ev,q3⟩:=I2.after hq'
   subst ev
   exact ⟨rv,⟨V.ref (s.heap.objs.size+1),H',I3,rfl,q3⟩⟩
  | next=>exact False.elim hq'
  | brk=>exact False.elim hq'
  | cont=>exact False.elim hq'
theorem xb {f:Str}(K:PySem.W.Frag) (he:PE X e ta) (hb:attributeBase e f X.env (eval e X.env)=eval e X.env:=by rfl) (hK:X.K=K:=by rfl):PE X (.Attribute e f pos) (WF K ta f):=by subst hK;exact UG he hb
theorem vJ {f:Str}{value:Expr}{pos':Pos}{tv:TE}(K:PySem.W.Frag) (ha:PE X o ta) (hv:PE X value tv) (hs:swapsWith value (some (.Attribute o f pos')) pos.line X.env=pure false:=by rfl) (hK:X.K=K:=by rfl):PS X (.Assign [.Attribute o f pos'] value pos) (WO K ta tv f):=by subst hK;exact Wc ha hv hs
end
theorem UU {K:PySem.W.Frag}{a acc:Addr}{xs:List V}{g2:TG}{ti2:TT}{te:TE}{NX:St->Hp->Prop}{σ:St}{H:Hp}(Pv:Nat->St->Hp->Prop) (h0:Pv 0 σ H) (hl:∀ i σ H,i<=xs.length->Pv i σ H->SqT K H a xs)
  (hs:∀ i x σ H,xs[i]? = some x->Pv i σ H->g2 x σ H fun σ3 H3=>ti2 σ3 H3 fun ok H4=>if ok=true then te σ3 H4 fun v H5=>∃ ys,H5 acc=some (.lst ys)/\ys.length<sizeLine/\Pv (i+1) σ3 (upd H5 acc (.lst (ys++[v]))) else Pv (i+1) σ3 H4)
  (hd:∀ σ H,Pv xs.length σ H->NX σ H):wm acc g2 ti2 te (Itt K a) NX σ H:=by
 refine ⟨fun i m σ H=>m=xs.length-i/\i<=xs.length/\Pv i σ H,⟨xs.length,by simp,Nat.zero_le _,h0⟩,fun i m σ H z=>?_⟩
 obtain ⟨rfl,hi,p⟩:=z
 have q:=hl i σ H hi p
 by_cases hlt:i<xs.length
 ·refine .inr ⟨⟨xs,xs[i],q,by simp [hlt]⟩,Pv (i+1),fun σ' H' p'=>⟨xs.length-(i+1),by omega,rfl,hlt,p'⟩,fun x H' y=>?_⟩
  obtain ⟨e,y⟩:=y
  subst e
  exact hs i x σ _ (y xs q) p
 ·obtain rfl:i=xs.length:=by omega
  exact .inl ⟨⟨xs,q,Nat.le_refl _⟩,hd σ H p⟩
theorem ZP {K:PySem.W.Frag}{a acc:Addr}{xs:List V}{g g2:TG}{ti ti2:TT}{wi2:TI}{te:TE}{R:Hp->Prop}{σ:St}{H:Hp}(Pv:Nat->St->Hp->Prop) (h0:Pv 0 σ H) (hl:∀ i σ H,i<=xs.length->Pv i σ H->SqT K H a xs)
  (hs:∀ i x σ H,xs[i]? = some x->Pv i σ H->g x σ H fun σ3 H3=>ti σ3 H3 fun ok H4=>if ok=true then wi2 σ3 H4 fun J2 H5=>wm acc g2 ti2 te J2 (Pv (i+1)) σ3 H5 else Pv (i+1) σ3 H4)
  (hd:∀ σ H,Pv xs.length σ H->R H) :
  ∃ W:Nat->Nat->St->Hp->Prop,(∃ m,W 0 m σ H)/\∀ i m σ' H',W i m σ' H' ->
   ((Itt K a).stop i H'/\R H')\/((Itt K a).go i H'/\∃ NX:St->Hp->Prop,(∀ σ2 H2,NX σ2 H2->∃ m',m'<m/\W (i+1) m' σ2 H2) /\
    ∀ x H2,(Itt K a).yld i H' x H2->g x σ' H2 fun σ3 H3=>ti σ3 H3 fun ok H4=>if ok=true then wi2 σ3 H4 fun J2 H5=>wm acc g2 ti2 te J2 NX σ3 H5 else NX σ3 H4):=by
 refine ⟨fun i m σ H=>m=xs.length-i/\i<=xs.length/\Pv i σ H,⟨xs.length,by simp,Nat.zero_le _,h0⟩,fun i m σ H z=>?_⟩
 obtain ⟨rfl,hi,p⟩:=z
 have q:=hl i σ H hi p
 by_cases hlt:i<xs.length
 ·refine .inr ⟨⟨xs,xs[i],q,by simp [hlt]⟩,Pv (i+1),fun σ' H' p'=>⟨xs.length-(i+1),by omega,rfl,hlt,p'⟩,fun x H' y=>?_⟩
  obtain ⟨e,y⟩:=y
  subst e
  exact hs i x σ _ (y xs q) p
 ·obtain rfl:i=xs.length:=by omega
  exact .inl ⟨⟨xs,q,Nat.le_refl _⟩,hd σ H p⟩
theorem Jh {X:Cx}:Acc X fun _ _ _=>False:=fun _ _ _ _ _ _ _ z=>z.elim
end L2
end
section
namespace L2
open PySem PySem.Spec PySem.W PyProof.Rows
inductive gN (K:PySem.W.Frag) (n:Str) (s:Stmt):Prop
 | mk {f:Addr} {oc kV dc pm cd ct:Value} {od an:Option Addr} {sl:Array (Option Value)} (a:nsIn K mainGlobals n=some (some (.ref f))) (l:K.lookup f=some ⟨oc,od,.func (fnOf n n (jR s) (jJ s) (j6 s) .none kV dc pm an cd ct),sl⟩) (c:codeIn K cd n=true) (k:keepIn K (.ref f)=true)
inductive gM (K:PySem.W.Frag) (C:Addr) (m q:Str) (s:Stmt):Prop
 | mk {f:Addr} {oc kV dc pm cd ct:Value} {od an:Option Addr} {sl:Array (Option Value)} (a:findIn K (.ref C) m=some (some (.ref f))) (i:isFn K (.ref f)=true) (l:K.lookup f=some ⟨oc,od,.func (fnOf m q (jR s) (jJ s) (j6 s) .none kV dc pm an cd ct),sl⟩) (c:codeIn K cd q=true) (k:keepIn K (.ref f)=true)
structure gE (K:PySem.W.Frag) (n:Str) (C:Addr):Prop where
 e:nsIn K mainGlobals n=some (some (.ref C))
 x:excIn K C [.type "ValueError",.type "Exception",.type "BaseException",.type "object"] "ValueError.__new__" = true
 m:exmOne K (.ref C) (.ref C)=some true
abbrev gB (x q:Str) (st:Stmt) (ps:List Str):Prop:=∀ (kV doc pm:Value) (an:Option Addr) (cdv ct:Value) (us:List Value),us.length=ps.length->bindArgs (fnOf x q (jR st) (jJ st) (j6 st) .none kV doc pm an cdv ct) ⟨us,[]⟩=pure (ps.zip us)
inductive Zt (P:Program) (w:World) (K:PySem.W.Frag) (mg:Str->Option Value) (base:Heap):Prop
 | mk {h:Heap} (X:K.In h) (G:h.Ns mainGlobals mg)
section
variable {P:Program}{w:World}{K:PySem.W.Frag}{mg:Str->Option Value}{base:Heap}{k:Nat}{x q:Str}{ps:List Str}{sp:Sp}{st:Stmt}{C:Addr}
theorem gN.cal (a:gN K x st) (z:Zt P w K mg base) (hb:gB x x st ps)
  (ok:∀ {f:Addr} {fd:FuncData},Fun K x x st f fd->FnOk P w K mg base CX0 k f fd ps sp):Cal P w K mg base k x ps sp:=by
 obtain ⟨a,l,c,k'⟩:=a
 obtain ⟨X,G⟩:=z
 exact Cal.mk' X G a l c k' hb ok
theorem gN.calX (a:gN K x st) (z:Zt P w K mg base) (hb:gB x x st ps)
  (ok:∀ {f:Addr} {fd:FuncData},Fun K x x st f fd->FnOk P w K mg base (CX1 P w) k f fd ps sp):CalX P w K mg base k x ps sp:=by
 obtain ⟨a,l,c,k'⟩:=a
 obtain ⟨X,G⟩:=z
 exact CalX.mk' X G a l c k' hb ok
theorem gM.cal (a:gM K C x q st) (z:Zt P w K mg base) (hb:gB x q st ps)
  (ok:∀ {f:Addr} {fd:FuncData},Fun K x q st f fd->FnOk P w K mg base CX0 k f fd ps sp):CalM P w K mg base k C x ps sp:=by
 obtain ⟨a,i,l,c,k'⟩:=a
 have F:=yp (st:=st) l c k'
 exact ⟨_,_,ok F,F.binds hb,⟨a,i,k'⟩⟩
theorem gM.calX (a:gM K C x q st) (z:Zt P w K mg base) (hb:gB x q st ps)
  (ok:∀ {f:Addr} {fd:FuncData},Fun K x q st f fd->FnOk P w K mg base (CX1 P w) k f fd ps sp):CalMX P w K mg base k C x ps sp:=by
 obtain ⟨a,i,l,c,k'⟩:=a
 have F:=yp (st:=st) l c k'
 exact ⟨_,_,ok F,F.binds hb,⟨a,i,k'⟩⟩
theorem gM.mak {y:Str}(a:gM K C "__init__" q st) (z:Zt P w K mg base) (m:makesIn K C=true) (kc:keepIn K (.ref C)=true) (n:nsIn K mainGlobals y=some (some (.ref C))) (hb:gB "__init__" q st ps)
  (ok:∀ {f:Addr} {fd:FuncData},Fun K "__init__" q st f fd->FnOk P w K mg base (CX1 P w) k f fd ps sp):MakX P w K mg base k C y ps sp:=by
 obtain ⟨a,i,l,c,k'⟩:=a
 obtain ⟨X,G⟩:=z
 have F:=yp (st:=st) l c k'
 exact ⟨_,_,ok F,F.binds hb,⟨m,a,i,kc⟩,mg_of X G n⟩
end
theorem bnd1 {fd:FuncData}{ps:List Str}{us:List Value}(hl:us.length=1) (h:∀ a,bindArgs fd ⟨[a],[]⟩=pure (ps.zip [a])):bindArgs fd ⟨us,[]⟩=pure (ps.zip us):=match us,hl with | [a],_=>h a
theorem bnd2 {fd:FuncData}{ps:List Str}{us:List Value}(hl:us.length=2) (h:∀ a b,bindArgs fd ⟨[a,b],[]⟩=pure (ps.zip [a,b])):bindArgs fd ⟨us,[]⟩=pure (ps.zip us):=match us,hl with | [a,b],_=>h a b
theorem bnd3 {fd:FuncData}{ps:List Str}{us:List Value}(hl:us.length=3) (h:∀ a b c,bindArgs fd ⟨[a,b,c],[]⟩=pure (ps.zip [a,b,c])):bindArgs fd ⟨us,[]⟩=pure (ps.zip us):=match us,hl with | [a,b,c],_=>h a b c
theorem bnd4 {fd:FuncData}{ps:List Str}{us:List Value}(hl:us.length=4) (h:∀ a b c d,bindArgs fd ⟨[a,b,c,d],[]⟩=pure (ps.zip [a,b,c,d])):bindArgs fd ⟨us,[]⟩=pure (ps.zip us):=match us,hl with | [a,b,c,d],_=>h a b c d
theorem bnd5 {fd:FuncData}{ps:List Str}{us:List Value}(hl:us.length=5) (h:∀ a b c d e,bindArgs fd ⟨[a,b,c,d,e],[]⟩=pure (ps.zip [a,b,c,d,e])):bindArgs fd ⟨us,[]⟩=pure (ps.zip us):=match us,hl with | [a,b,c,d,e],_=>h a b c d e
theorem bnd6 {fd:FuncData}{ps:List Str}{us:List Value}(hl:us.length=6) (h:∀ a b c d e f,bindArgs fd ⟨[a,b,c,d,e,f],[]⟩=pure (ps.zip [a,b,c,d,e,f])):bindArgs fd ⟨us,[]⟩=pure (ps.zip us):=match us,hl with | [a,b,c,d,e,f],_=>h a b c d e f
end L2
end
section
namespace L2
open PySem PySem.Spec PySem.W PyProof.Rows
theorem kR:entryFor table "proto.unchain" = some Builtin.«proto.unchain»:=entryFor_of_fast (by kernel_rfl)
def Jj (A:Around) (h:Heap):Prop:=∃ e oe ws,A.handled=some (.ref e)/\h.get? e=some oe/\oe.data = .fields ws/\ws[2]? = some .none
theorem Jj.keep {A:Around}{h h':Heap}(x:Jj A h) (k:∀ b o ws,h.get? b=some o->o.data = .fields ws->ws[2]? = some .none->∃ o' ws',h'.get? b=some o'/\o'.data = .fields ws'/\ws'[2]? = some .none):Jj A h':=by
 obtain ⟨e,oe,ws,a,b,c,d⟩:=x
 obtain ⟨o',ws',b',c',d'⟩:=k e oe ws b c d
 exact ⟨e,o',ws',a,b',c',d'⟩
section
variable {prog:Program}{w:World}{A:Around}{E:Value->Shared->Prop}{s:Shared}
theorem Xj {α:Type}{e:Addr}{oe:Obj}{vs:Array Value}{Q:α->Shared->Prop}(hh:Jj A s.heap) (ge:s.heap.get? e=some oe) (gd:oe.data = .fields vs) (z2:2<vs.size) (new:∀ x,A.handled=some (.ref x)->x≠e)
  (k:∀ x,E (.ref e) { s with heap:=s.heap.update e (Obj.mapFields (·.setIfInBounds 2 x)) }):wpAny (model prog w) A (raiseNew (.ref e):Sem α) Q E s:=by
 obtain ⟨x,ox,ws,hA,gx,gw,g2⟩:=hh
 have ne:=new x hA
 unfold raiseNew
 refine wpAny_bind (wpAny_handled ?_)
 rw [hA]
 dsimp only
 rw [if_pos (by simpa using ne)]
 refine wpAny_bind (wpAny_holding (wpAny_runValue (codeAny_builtin kR ?_)))
 show wpAny _ _ (field (.ref x) 2 >>= _) _ _ s
 refine wpAny_bind (wpAny_field gx gw g2 ?_)
 rw [if_pos (by rfl)]
 refine wpAny_pure ?_
 show wpAny _ _ (updateField e 2 (.ref x) >>= _) _ _ s
 unfold updateField
 refine wpAny_bind (wpAny_bind (wpAny_load ge ?_))
 rw [gd]
 dsimp only
 rw [if_pos z2]
 exact wpAny_update ge (wpAny_throw (k _))
theorem hZ {α:Type}{it:Addr}{oi:Obj}{u0 u1 y:Value}{Q:Option Value->Shared->Prop}(hh:Jj A s.heap) (gi:s.heap.get? it=some oi) (gd:oi.data = .fields #[u0,u1]) (k:∀ g,Heap.ExtBut it s.heap g->Q none { s with heap:=g }) :
  wpAny (model prog w) A (setField (.ref it) 0 y >>= fun _=>newExc (.type "StopIteration") [] >>= fun e=>(raiseNew e:Sem α)) (fun _ _=>False) (fun e s1=>∃ a,e = .ref a/\s1.TypeIs (.ref a) "StopIteration" /\ Q none s1) s:=by
 refine wpAny_bind (wpAny_setField gi gd (by simp) (wpAny_bind ?_))
 simp only [newExc,newTuple]
 refine wpAny_bind (wpAny_newObj_type ?_ (by size_fits))
 refine wpAny_bind (m:=firstArgMember _ _) (wpAny_of_eq (a:=Value.none) (by first | rfl | (simp only [firstArgMember];rfl)) ?_)
 refine wpAny_newObj_type ?_ (by size_fits)
 generalize hg:(s.heap.update it (Obj.mapFields (·.setIfInBounds 0 y))).push _=g1
 have kp:∀ {b o},b≠it->s.heap.get? b=some o->g1.get? b=some o:=fun {b o} n q=>by
  rw [<- hg]
  refine Heap.get?_push_of_some _ ?_
  rw [Heap.get?_update_other _ _ n.symm]
  exact q
 have notIt:∀ {b o ws},s.heap.get? b=some o->o.data = .fields ws->ws[2]? = some .none->b≠it:=fun {b o ws} q d d2 z=>by
  rw [z,gi] at q
  cases q
  rw [gd] at d
  cases d
  cases d2
 refine Xj (oe:=_) ?_ (Heap.get?_push_size _ rfl) rfl (by first | (simp;done) | (simp;omega)) (fun x hx=>?_) fun x=>?_
 ·exact hh.keep fun b o ws q d d2=>⟨o,ws,Heap.get?_push_of_some _ (kp (notIt q d d2) q),d,d2⟩
 ·obtain ⟨e,oe,ws,hA,ge,gw,g2⟩:=hh
  rw [hA] at hx
  cases hx
  exact Nat.ne_of_lt (Heap.lt_size (kp (notIt ge gw g2) ge))
 ·refine ⟨_,rfl,⟨_,Heap.get?_update_self _ (Heap.get?_push_size _ rfl) rfl,rfl⟩,k _ fun b o n q=>?_⟩
  rw [Heap.get?_update_other _ _ (Nat.ne_of_gt (Heap.lt_size (kp n q)))]
  exact Heap.get?_push_of_some _ (kp n q)
theorem Xk {it l:Addr}{i:Nat}{items:Array Value}{Q:Option Value->Shared->Prop}(hh:Jj A s.heap) (hit:s.heap.IsListIter it l i) (hl:s.heap.IsList l items) (hx:items[i]? = none)
  (k:∀ g,Heap.ExtBut it s.heap g->Q none { s with heap:=g }):wpAny (model prog w) A (pyNext (.ref it)) Q E s:=by
 obtain ⟨oi,gi,gc,gd⟩:=id hit
 obtain ⟨ol,gl,_,nl,dl⟩:=hl
 unfold pyNext
 refine wpAny_bind (wpAny_attempt ?_)
 refine wpAny_callSpecial?_slot (name:=Str.ofString "__next__") hit.typeIs slot_listiter_next ?_
 refine wpAny_call_entry slot_listiter_next hit.typeIs entry_listiter_next ?_ (args_listiter_next _)
 show wpAny _ A.in1 (field (.ref it) 0 >>= _) _ _ s
 refine wpAny_bind (wpAny_field gi gd (x:=.ref l) rfl ?_)
 show wpAny _ A.in1 (if (Value.ref l == Value.none)=true then _ else _) _ _ s
 rw [if_neg (by exact Bool.false_ne_true)]
 show wpAny _ A.in1 (field (.ref it) 1 >>= _) _ _ s
 refine wpAny_bind (wpAny_field gi gd (x:=.int i 0) rfl ?_)
 show wpAny _ A.in1 (seqItems? (.ref l) >>= _) _ _ s
 refine wpAny_bind (wpAny_seqItems gl dl ?_)
 simp only [Int.toNat_natCast,hx]
 refine wpAny_bind (wpAny_rule ?_)
 refine wpAny_mono (hZ (A:=A.in1) (Q:=Q) hh gi gd k) (fun _ _ z=>z.elim) fun e s1 ⟨a,ea,ht,q⟩=>?_
 subst ea
 exact wpAny_bind (wpAny_isInstance (T:="StopIteration") (b:=true) ht isSubtype_stop (wpAny_pure q))
theorem Zg {it l:Addr}{i:Nat}{items:Array Value}{Q:Option Value->Shared->Prop}(hh:Jj A s.heap) (hit:IsTupIter s.heap it l i) (hl:IsTup s.heap l items) (hx:items[i]? = none)
  (k:∀ g,Heap.ExtBut it s.heap g->Q none { s with heap:=g }):wpAny (model prog w) A (pyNext (.ref it)) Q E s:=by
 obtain ⟨oi,gi,gc,gd⟩:=id hit
 obtain ⟨ol,gl,_,nl,dl⟩:=hl
 unfold pyNext
 refine wpAny_bind (wpAny_attempt ?_)
 refine wpAny_callSpecial?_slot (name:=Str.ofString "__next__") hit.typeIs slot_tupleiter_next ?_
 refine wpAny_call_entry slot_tupleiter_next hit.typeIs entry_tupleiter_next ?_ (args_tupleiter_next _)
 show wpAny _ A.in1 (field (.ref it) 0 >>= _) _ _ s
 refine wpAny_bind (wpAny_field gi gd (x:=.ref l) rfl ?_)
 show wpAny _ A.in1 (if (Value.ref l == Value.none)=true then _ else _) _ _ s
 rw [if_neg (by exact Bool.false_ne_true)]
 show wpAny _ A.in1 (field (.ref it) 1 >>= _) _ _ s
 refine wpAny_bind (wpAny_field gi gd (x:=.int i 0) rfl ?_)
 show wpAny _ A.in1 (seqItems? (.ref l) >>= _) _ _ s
 refine wpAny_bind (wpAny_seqItems gl dl ?_)
 simp only [Int.toNat_natCast,hx]
 refine wpAny_bind (wpAny_rule ?_)
 refine wpAny_mono (hZ (A:=A.in1) (Q:=Q) hh gi gd k) (fun _ _ z=>z.elim) fun e s1 ⟨a,ea,ht,q⟩=>?_
 subst ea
 exact wpAny_bind (wpAny_isInstance (T:="StopIteration") (b:=true) ht isSubtype_stop (wpAny_pure q))
theorem ZN {env:Env}{elts:List Expr}{x1}{pos:Pos}{t:Addr}{items:Array Value}{Q:Unit->Shared->Prop}(hh:Jj A s.heap) (ht:IsTup s.heap t items) (hn:(assignEach elts env).length=items.size) (hstar:(assignEach elts env).findIdx? (·.1)=none)
  (k:∀ g,Heap.ExtBut s.heap.objs.size s.heap g->wpAny (model prog w) A (assignInOrder ((assignEach elts env).map (·.2)) items.toList) Q E { s with heap:=g }):wpAny (model prog w) A (assign (.Tuple elts x1 pos) env (.ref t)) Q E s:=by
 have lt:t≠s.heap.objs.size:=by
  obtain ⟨o,ho,_⟩:=ht
  exact Nat.ne_of_lt (Heap.lt_size ho)
 rw [assign_Tuple]
 refine wpAny_bind (wpAny_standAt ?_)
 unfold unpack
 rw [hn,hstar]
 refine wpAny_bind (wpAny_holding ?_)
 unfold unpackItems
 refine wpAny_bind ?_
 unfold notIterableAtAll
 refine wpAny_bind (wpAny_specialOf ht.typeIs slot_tuple_iter.lookup (wpAny_pure ?_))
 simp only [Bool.false_eq_true,if_false]
 refine wpAny_bind (wpAny_holding (iter_tuple ht ?_))
 refine wpAny_bind (wpAny_holding (draw_tuple lt items.size 0 _ _ ⟨_,Heap.get?_push_size _ rfl,rfl,rfl⟩ (ht.push _) (by omega) fun g1 hi1 sb1=>?_))
 rw [show List.take items.size (List.drop 0 items.toList)=items.toList by rw [List.drop_zero];exact List.take_of_length_le (by simp)]
 rw [if_neg (by simp)]
 have kp:∀ {b o},b≠s.heap.objs.size->s.heap.get? b=some o->g1.get? b=some o:=fun {b o} n q=>sb1.extBut b o n (Heap.get?_push_of_some _ q)
 refine wpAny_bind (wpAny_holding (Zg (hh.keep fun b o ws q d d2=>⟨o,ws,kp (Nat.ne_of_lt (Heap.lt_size q)) q,d,d2⟩) hi1 ((ht.push _).extBut sb1.extBut lt) (by simp) fun g2 e2=>?_))
 simp only [Option.isSome_none,Bool.false_eq_true,if_false]
 exact wpAny_pure (k g2 fun b o n q=>e2 b o n (kp n q))
end
structure Hu (X:Cx):Prop where
 ex:∃ e oe ws,X.A.handled=some (.ref e)/\X.s₀.heap.get? e=some oe/\X.H₀ e=none/\e∉X.fs/\e∉X.ex/\oe.data = .fields ws/\ws[2]? = some .none
theorem Hu.now {X:Cx}{pins:List (Addr×Obj)}{σ:St}{H:Hp}{s:Shared}(h:Hu X) (I:Inv X pins σ H s):Jj X.A s.heap:=by
 obtain ⟨e,oe,ws,a,b,c,d,f,g,k⟩:=h.ex
 exact ⟨e,oe,ws,a,I.base.keep e oe b c d f,g,k⟩
theorem Hu.block {X:Cx}{pins:List (Addr×Obj)}{σ:St}{H:Hp}{s:Shared}{scope:Scope}{cl:List (Str×Addr)}{C:Addr}{N:List Str}{fp:List Addr}(h:Hu X) (I:Inv X pins σ H s) (hf:∀ b∈fp,zT X pins H b):Hu (X.block scope cl C N s H fp):=by
 obtain ⟨e,oe,ws,a,b,c,d,f,g,k⟩:=h.ex
 have now:=I.base.keep e oe b c d f
 refine ⟨e,oe,ws,a,now,I.base.free e oe b c f,fun z=>?_,fun z=>?_,g,k⟩
 ·rcases List.mem_cons.mp (I.stkSub e z) with y | y
  ·obtain ⟨m,⟨o,es,ep,ho,hd,_⟩,_⟩:=I.loc
   rw [<- y,now] at ho
   cases ho
   rw [g] at hd
   cases hd
  ·exact d y
 ·rcases (hf e z).2.2.2.1 with y | y
  ·exact f y
  ·exact absurd (Heap.lt_size b) (Nat.not_lt.mpr y)
structure TurnH (P:Program) (w:World) (K:PySem.W.Frag) (tg:Expr) (J:It) (fp:List Addr) (it:Addr) (tn:Nat->Heap->Prop):Prop where
 mem:it∈fp
 obj:∀ i h,tn i h->∀ b∈fp,∃ o,h.get? b=some o/\∀ v,o.data≠.cell v
 keep:∀ i h h',tn i h->(∀ b∈fp,∀ o,h.get? b=some o->h'.get? b=some o)->tn i h'
 item:∀ (X:Cx),X.prog=P->X.w=w->X.K=K->Hu X->∀ (i:Nat) (pins:List (Addr×Obj)) (s:Shared) (σ:St) (H:Hp) (E:Value->Shared->Prop),Inv X pins σ H s->(∀ b∈fp,zT X pins H b)->tn i s.heap->J.go i H ->
  wpAny (model P w) X.A (pyNext (.ref it)) (fun r s1=>∃ u,r=some u /\
   wpAny (model P w) X.A (letOwnedTupleGo tg (.ref it) u) (fun _ s2=>∃ x H',Inv X pins σ H' s2/\jB x u/\J.yld i H x H'/\tn (i+1) s2.heap/\∀ b∈fp,H' b=none) E s1) E s
 done:∀ (X:Cx),X.prog=P->X.w=w->X.K=K->Hu X->∀ (i:Nat) (pins:List (Addr×Obj)) (s:Shared) (σ:St) (H:Hp) (E:Value->Shared->Prop),Inv X pins σ H s->(∀ b∈fp,zT X pins H b)->tn i s.heap->J.stop i H ->
  wpAny (model P w) X.A (pyNext (.ref it)) (fun r s1=>r=none/\Inv X pins σ H s1) E s
 self:∀ (A:Around) (i:Nat) (s:Shared) (Q:Value->Shared->Prop) (E:Value->Shared->Prop),tn i s.heap->Q (.ref it) s->wpAny (model P w) A (pyIter (.ref it)) Q E s
def PIEH (X:Cx) (pins:List (Addr×Obj)) (σ:St) (tg:Expr) (R:It->Hp->Prop) (itv:Value) (s2:Shared):Prop :=
 ∃ (it:Addr) (fp:List Addr) (tn:Nat->Heap->Prop) (J:It) (H':Hp),itv = .ref it/\Inv X pins σ H' s2/\TurnH X.prog X.w X.K tg J fp it tn/\tn 0 s2.heap/\(∀ b∈fp,zT X pins H' b)/\R J H'
def PIH (X:Cx) (tg iter:Expr) (wi:TI):Prop :=
 ∀ (pins:List (Addr×Obj)) (s:Shared) (σ:St) (H:Hp) (R:It->Hp->Prop),Inv X pins σ H s->wi σ H R ->
  wpAny (model X.prog X.w) X.A (eval iter X.env) (fun v s1=>wpAny (model X.prog X.w) X.A (pyIter v) (PIEH X pins σ tg R) X.xe s1) X.xe s
theorem Xp {P:Program}{w:World}{K:PySem.W.Frag}{tg:Expr}(a it:Addr):TurnH P w K tg (Itl K a) [it] it (fun i h=>h.IsListIter it a i) where
 mem:=by simp
 obj:=fun i h st b hb=>by
  have e:b=it:=by simpa using hb
  subst e
  obtain ⟨o,e,c,d⟩:=st
  exact ⟨o,e,fun v z=>by rw [d] at z;cases z⟩
 keep:=fun i h h' st k=>st.at fun o e=>k it (by simp) o e
 item:=by
  intro X hP hw hK hc i pins s σ H E I hf st hg
  subst hP hw hK
  obtain ⟨xs,x,hq,hx⟩:=hg
  obtain ⟨its,rv,p,hz⟩:=I.list hq
  obtain ⟨u,hu,ru⟩:=rv.get hx
  obtain ⟨f0,f1,f2,f3,f4,f5⟩:=hf it (by simp)
  refine wpAny_pyNext_list_item st p.isList (x:=u) (by simpa using hu) fun h' st' sb=>?_
  have I1:Inv X pins σ H { s with heap:=h' }:=I.turned (t':=s.toks) (fun b o hb e=>(sb.2 b hb).trans e) f0 f1 f3 f4 f5
  obtain ⟨o,e,c,d⟩:=id st'
  exact ⟨u,rfl,kW (s:={ s with heap:=h' }) e c d (by decide) ⟨x,H,I1,ru,⟨rfl,fun ys hy=>by rw [I.list_inj hy hq];exact hx⟩,st',fun b hb=>(hf b hb).1⟩⟩
 done:=by
  intro X hP hw hK hc i pins s σ H E I hf st hg
  subst hP hw hK
  obtain ⟨xs,hq,hx⟩:=hg
  obtain ⟨its,rv,p,hz⟩:=I.list hq
  obtain ⟨f0,f1,f2,f3,f4,f5⟩:=hf it (by simp)
  have hl:=rv.length
  exact Xk (hc.now I) st p.isList (by simp;omega) fun h' eb=>⟨rfl,I.turned (t':=s.toks) (fun b o hb e=>eb b o hb e) f0 f1 f3 f4 f5⟩
 self:=fun _ _ _ _ _ st h=>wpAny_pyIter_listiter st h
section
variable {X:Cx}{tg:Expr}{pos:Pos}
theorem YM {l:Expr}{tl:TE}(hl:PE X l tl):PIH X tg l (XN X.K tl):=by
 intro pins s σ H R I h
 refine thn (hl pins s σ H _ I h) fun v s1 ⟨x,H1,I1,r1,q1⟩=>?_
 obtain ⟨a,e,⟨xs,hq⟩,q⟩:=q1
 subst e
 cases r1
 obtain ⟨its,rv,p,hz⟩:=I1.list hq
 refine wpAny_pyIter_list p.isList ?_
 refine ⟨s1.heap.objs.size,[s1.heap.objs.size],_,_,H1,rfl,I1.kept (t':=s1.toks) fun b o e=>Heap.get?_push_of_some _ e,Xp a _,⟨_,Heap.get?_push_size _ rfl,rfl,rfl⟩,fun b hb=>?_,q⟩
 have e:b=s1.heap.objs.size:=by simpa using hb
 subst e
 exact I1.fpOk (Nat.le_refl _) (I1.hok.fresh (Nat.le_refl _))
theorem Vq {es:List Expr}{k:Nat}{t:TGs}{n:Nat}(K:PySem.W.Frag) (hu:Hu X) (h:PGs X es t)
  (hn:(assignEach es X.env).length=n:=by rfl) (hst:(assignEach es X.env).findIdx? (·.1)=none:=by rfl) (hK:X.K=K:=by rfl):PG X (.Tuple es k pos) (W1 K n t):=by
 subst hK
 intro pins s σ H v u Q I r hw
 obtain ⟨a,xs,e1,hq,hl,hw⟩:=hw
 subst e1
 cases r
 obtain ⟨its,rv,ht,hz⟩:=I.tuple hq
 refine ZN (hu.now I) ht (by simp [hn,<- hl,rv.length]) hst fun h' hx=>?_
 have I1:Inv X pins σ H { s with heap:=h' }:=I.kept (t':=s.toks) fun b o e=>hx b o (Nat.ne_of_lt (Heap.lt_size e)) e
 exact h pins _ σ H xs _ Q I1 (by simpa using rv) hw
theorem Zs {osc:Scope}{ON N:List Str}{scope:Scope}{own:Nat}{caps:List Nat}{cl:List (Str×Addr)}{tg elt iter:Expr}{ifs:List Expr}{g:TG}{ti:TT}{te:TE}{pins:List (Addr×Obj)}{σ:St}{H:Hp}{s:Shared}{fp:List Addr}{it:Addr}
  {tn:Nat->Heap->Prop} {J:It} {Q:VK} {RR:Value->Addr->Result->Shared->Prop} {E:Value->Shared->Prop}
  (hu:Hu X) (S:CompSc osc ON scope own N caps) (hsc:X.env.scope=osc) (hN:X.N=ON) (hcl:∀ x,cl.lookup x=if (x,NameKind.free)∈scope.names then X.env.cells.lookup x else none)
  (hg:∀ cl C s H ex,Hu (X.block scope cl C N s H ex)->PG (X.block scope cl C N s H ex) tg g) (hif:∀ cl C s H ex,Hu (X.block scope cl C N s H ex)->kG (X.block scope cl C N s H ex) ifs ti) (he:∀ cl C s H ex,Hu (X.block scope cl C N s H ex)->PE (X.block scope cl C N s H ex) elt te)
  (I:Inv X pins σ H s) (T:TurnH X.prog X.w X.K tg J fp it tn) (st:tn 0 s.heap) (hf:∀ b∈fp,zT X pins H b)
  (hw:∀ acc,H acc=none->∃ W:Nat->Nat->St->Hp->Prop,(∃ m,W 0 m (yd own caps σ) (upd H acc (.lst [])))/\∀ i m σ' H',W i m σ' H' ->
   (J.stop i H'/\Q (.ref acc) H')\/(J.go i H'/\∃ NX:St->Hp->Prop,(∀ σ2 H2,NX σ2 H2->∃ m',m'<m/\W (i+1) m' σ2 H2) /\
    ∀ x H2,J.yld i H' x H2->g x σ' H2 fun σ3 H3=>ti σ3 H3 fun ok H4=>if ok=true then te σ3 H4 fun v H5=>∃ ys,H5 acc=some (.lst ys)/\ys.length<sizeLine/\NX σ3 (upd H5 acc (.lst (ys++[v]))) else NX σ3 H4))
  (fin:∀ (D C:Addr) (H':Hp) (s':Shared),Inv X pins σ H' s'->BlockAt X pins H' C->(∃ m,s'.heap.Ns C m)->Q (.ref D) H'->RR (.ref D) C (.ok .next) s') :
  wpAny (model X.prog X.w) X.A (newList []) (fun acc s₃=>wpAny (model X.prog X.w) X.A (newFunctionEnv scope X.env.globals cl [] X.env.qual none .none (some X.env)) (fun cenv s₄ =>
   codeAny (model X.prog X.w) X.A (.compStart (.ListComp elt [⟨tg,iter,ifs,0⟩] scope pos) 0 (.ref it) acc { cenv with scope:=relabel scope X.env }) (RR acc cenv.locals) s₄) E s₃) E s:=by
 have hfs:∀ b∈fp,b<s.heap.objs.size:=fun b hb=>by
  obtain ⟨o,e,_⟩:=T.obj _ _ st b hb
  exact Heap.lt_size e
 refine wpAny_newObj_type (wpAny_newFunctionEnv S.nocell (by intro y hy;simp at hy) (fun h₁ hns₁ hsb₁=>?_) S.kind)
 dsimp only at hns₁ hsb₁ ⊢
 generalize hH2:s.heap.push { cls:=.type "list",dict:=none,data:=.seq ([]:List Value).toArray }=H2 at hns₁ hsb₁ ⊢
 have hCsz:H2.objs.size=s.heap.objs.size+1:=by rw [<- hH2,Heap.size_push]
 have old:∀ b o,s.heap.get? b=some o->h₁.get? b=some o:=fun b o e=>hsb₁.extBut b o (Nat.ne_of_lt (by rw [hCsz];exact Nat.lt_succ_of_lt (Heap.lt_size e))) (Heap.get?_push_of_some _ (hH2 ▸ Heap.get?_push_of_some _ e))
 have eD:h₁.get? s.heap.objs.size=some { cls:=.type "list",data:=.seq #[] }:=hsb₁.extBut _ _ (Nat.ne_of_lt (by omega)) (Heap.get?_push_of_some _ (hH2 ▸ Heap.get?_push_size _ rfl))
 have hDn:H s.heap.objs.size=none:=I.hok.fresh (Nat.le_refl _)
 obtain ⟨W,⟨m0,w0⟩,turn⟩:=hw s.heap.objs.size hDn
 have hns:h₁.Ns H2.objs.size fun _=>none:=hns₁
 have I1:Inv (X.block scope cl H2.objs.size N s H fp) [] (yd own caps σ) (upd H s.heap.objs.size (.lst [])) { s with heap:=h₁,toks:=s.toks+([]:List (Str×Value)).length } :=
  yj S hsc hN hcl I hf hfs rfl hCsz old eD hns _
 have hub:Hu (X.block scope cl H2.objs.size N s H fp):=hu.block I hf
 have st1:tn 0 h₁:=T.keep 0 _ _ st fun b _ o e=>old b o e
 have fpB:∀ {H':Hp},(∀ b∈fp,H' b=none)->∀ b∈fp,zT (X.block scope cl H2.objs.size N s H fp) [] H' b:=fun {H'} hn b hb=>by
  have ok:=I1.ok
  exact ⟨hn b hb,(ok.exf b hb).1,ok.exfs b hb,.inl hb,(ok.exf b hb).2,fun p hp=>absurd (show p∈([]:List (Addr×Obj)) from hp) (by simp)⟩
 have back:∀ {σ':St} {H':Hp} {s':Shared},Inv (X.block scope cl H2.objs.size N s H fp) [] σ' H' s'->Q (.ref s.heap.objs.size) H'->RR (.ref s.heap.objs.size) H2.objs.size (.ok .next) s':=fun {σ' H' s'} J1 q=>by
  have J2:Inv X pins σ H' s':=I.call' (ch:=fp) J1.os J1.base J1.hok J1.bare fun b hb=>⟨(hf b hb).2.2.2.1,(hf b hb).2.1,(hf b hb).2.2.2.2.1,(hf b hb).2.2.2.2.2⟩
  obtain ⟨m,hm,_⟩:=J1.loc
  refine fin _ _ H' s' J2 ⟨J1.free,Nat.ne_of_gt (Nat.lt_of_lt_of_le I.lt (by omega)),Nat.le_trans I.sz (by omega),fun x c e z=>?_,fun p hp z=>?_⟩ ⟨m,hm⟩ q
  ·obtain ⟨v,y⟩:=I.cell x c e
   have h1:H2.objs.size<s.heap.objs.size:=z ▸ y.lt
   exact absurd h1 (by omega)
  ·have h1:H2.objs.size<s.heap.objs.size:=z ▸ Heap.lt_size (I.pin p hp).1
   exact absurd h1 (by omega)
 have loop:∀ s₃:Shared,s₃={ s with heap:=h₁,toks:=s.toks+([]:List (Str×Value)).length } ->
   codeAny (model X.prog X.w) X.A (.compLoop (.ListComp elt [⟨tg,iter,ifs,0⟩] scope pos) 0 (.ref it) (.ref s.heap.objs.size) (compEnvC scope cl H2.objs.size X.env)) (RR (.ref s.heap.objs.size) H2.objs.size) s₃:=by
  rintro s₃ rfl
  refine uB (fun n s'=>∃ i σ' H',Inv (X.block scope cl H2.objs.size N s H fp) [] σ' H' s'/\tn i s'.heap/\(∀ b∈fp,H' b=none)/\W i n σ' H') ?_ m0
   ⟨0,_,_,I1,st1,fun b hb=>by rw [j8 (Nat.ne_of_lt (hfs b hb))];exact (hf b hb).1,w0⟩
  rintro n s3 ⟨i,σ3,H3,I3,st3,fr3,w3⟩
  rcases turn i n σ3 H3 w3 with ⟨stop,qn⟩ | ⟨go,NX,hNX,step⟩
  ·refine thn (T.done (X.block scope cl H2.objs.size N s H fp) rfl rfl rfl hub i [] s3 σ3 H3 _ I3 (fpB fr3) st3 stop) fun r s4 ⟨hr,I4⟩=>?_
   subst hr
   exact back I4 qn
  ·refine thn (T.item (X.block scope cl H2.objs.size N s H fp) rfl rfl rfl hub i [] s3 σ3 H3 _ I3 (fpB fr3) st3 go) fun r s4 ⟨u,hr,h4⟩=>?_
   subst hr
   refine thn h4 fun _ s5 ⟨x,H5,I5,r5,y5,st5,fr5⟩=>?_
   have I5':=I5.pinned (fpB fr5) (T.obj _ _ st5)
   refine thn (hg cl H2.objs.size s H fp hub _ s5 σ3 H5 x u _ I5' r5 (step x H5 y5)) fun _ s6 ⟨σ6,H6,I6,q6⟩=>?_
   refine thn (hif cl H2.objs.size s H fp hub _ s6 σ6 H6 _ I6 q6) fun ok s7 ⟨H7,I7,q7⟩=>?_
   have again:∀ {s8:Shared} {σ8:St} {H8:Hp},Inv (X.block scope cl H2.objs.size N s H fp) ([]++xU fp s5.heap) σ8 H8 s8->NX σ8 H8->∃ m,m<n/\∃ i σ' H',Inv (X.block scope cl H2.objs.size N s H fp) [] σ' H' s8/\tn i s8.heap/\(∀ b∈fp,H' b=none)/\W i m σ' H':=fun {s8 σ8 H8} I8 n8=>by
    obtain ⟨m',hm,w8⟩:=hNX σ8 H8 n8
    refine ⟨m',hm,i+1,σ8,H8,I8.unpinned,T.keep _ _ _ st5 fun b hb o e=>(I8.pin (b,o) (List.mem_append_right _ (List.mem_append_right _ (qt hb e)))).1,fun b hb=>?_,w8⟩
    obtain ⟨o,e,d⟩:=T.obj _ _ st5 b hb
    exact (I8.pin (b,o) (List.mem_append_right _ (List.mem_append_right _ (qt hb e)))).2.1
   cases ok with
   | false =>
    rw [if_neg Bool.false_ne_true] at q7 ⊢
    exact again I7 q7
   | true =>
    rw [if_pos rfl] at q7 ⊢
    refine thn (he cl H2.objs.size s H fp hub _ s7 σ6 H7 _ I7 q7) fun v s8 ⟨y,H8,I8,r8,ys,e8,z8,q8⟩=>?_
    refine thn (qz _ s8 σ6 H8 (.ref s.heap.objs.size) [y] _ [v] (fun _ H9=>NX σ6 H9) I8 rfl (.cons r8 .nil) ⟨_,ys,y,rfl,rfl,e8,z8,q8⟩) fun _ s9 ⟨_,H9,I9,_,q9⟩=>?_
    exact again I9 q9
 exact codeAny_compStart_list (loop _ rfl) (T.self _ 0 _ _ _ st1 (loop _ rfl))
theorem Yv {osc:Scope}{ON N:List Str}{scope:Scope}{own:Nat}{caps:List Nat}{tg elt iter:Expr}{ifs:List Expr}{wi:TI}{g:TG}{ti:TT}{te:TE}(S:CompSc osc ON scope own N caps)
  (hu:Hu X) (hsc:X.env.scope=osc) (hN:X.N=ON) (hi:PIH X tg iter wi)
  (hg:∀ cl C s H ex,Hu (X.block scope cl C N s H ex)->PG (X.block scope cl C N s H ex) tg g) (hif:∀ cl C s H ex,Hu (X.block scope cl C N s H ex)->kG (X.block scope cl C N s H ex) ifs ti) (he:∀ cl C s H ex,Hu (X.block scope cl C N s H ex)->PE (X.block scope cl C N s H ex) elt te)
  (hs:∀ x,foldedSetIterable iter X.env x=pure x:=by intro _;rfl):PE X (.ListComp elt [⟨tg,iter,ifs,0⟩] scope pos) (Y7 own caps wi g ti te):=by
 intro pins s σ H Q I h
 obtain ⟨cl,hclos,hcl⟩:=y6 (Jc S hsc I)
 rw [eval_ListComp]
 refine wpAny_comprehension_free (use:=none) rfl hs hclos S.kind S.loc (thn (hi pins s σ H _ I h) fun v s1 h1=>thn h1 fun itv s2 h2=>?_)
 obtain ⟨it,fp,tn,J,H2,e,I2,T,st2,f2,hw⟩:=h2
 subst e
 refine Zs (RR:=fun acc C=>compPost (model X.prog X.w) X.A X.xe none (EP X pins σ Q) acc C) hu S hsc hN hcl hg hif he I2 T st2 f2 hw fun D C H' s' J1 B ⟨m,hm⟩ q=>?_
 exact ⟨m,hm,fun h' hs'=>⟨.ref D,H',B.gone J1 hs',rfl,q⟩⟩
end
end L2
end
section
namespace L2
open PySem PySem.Spec PySem.W PyProof.Rows PySem.Calls
section
variable {prog:Program}{w:World}{A:Around}{E:Value->Shared->Prop}{s:Shared}{K:PySem.W.Frag}{x D:Addr}{ox:Obj}{odo:Option Obj}
theorem Vb {Q:Option Value->Shared->Prop}(X:K.In s.heap) (I:PySem.W.InstAt s.heap x ox D odo) (hga:findIn K (.ref D) "__getattribute__" = some (some (.builtin "BaseException.__getattribute__"))) (hgt:findIn K (.ref D) "__getattr__" = some none)
  (hf:findObj K D odo "__class__" = some (.bind (.builtin "getset_descriptor.__get__") (.builtin "object.__class__"))) (hm:mroIn K D (.type "object")=some true) (hb:subIn K (.ref D) (.type "BaseException")=some true)
  (k:Q (some (.ref D)) { s with toks:=s.toks+1 }):wpAny (model prog w) A (getAttr? (.ref x) "__class__") Q E s:=by
 obtain ⟨hh,g,d,t,os⟩:=s
 have L0:=I.type (M:=model prog w)
 have L1:=looks_findIn (M:=model prog w) X hga
 have L2:=looks_findIn (M:=model prog w) X hgt
 have L3:=looks_find (M:=model prog w) X I hf
 have L4:=looks_subIn (M:=model prog w) X hb
 have LI:Looks (model prog w) hh (isInstance (.ref x) (.type "BaseException")) true:=L0.andThen L4
 unfold getAttr? getAttrBy? getAttrBy
 refine wpAny_bind (wpAny_mkText (wpAny_bind (wpAny_attempt (wpAny_holding (wpAny_bind (L0.at (wpAny_bind (L1.at ?_))))))))
 have n1:(onTheHeap (Value.ref D) && Value.builtin "BaseException.__getattribute__" == Value.builtin "object.__getattribute__")=false:=by
  rw [show (Value.builtin "BaseException.__getattribute__" == Value.builtin "object.__getattribute__")=false by decide +kernel,Bool.and_false]
 dsimp only
 rw [if_neg (by rw [n1];exact Bool.false_ne_true)]
 unfold getAttrByItsOwn
 refine wpAny_bind ?_
 show wpAny _ _ (typeLookup (.ref D) "__getattr__") _ _ _
 refine L2.at ?_
 refine wpAny_bind (wpAny_attempt (wpAny_holding ?_))
 show wpAny _ _ (boundAndCalled _ _ _) _ _ _
 unfold boundAndCalled
 refine wpAny_bind ?_
 rw [F.excAttr_ValueError.ga.bind (.ref x)]
 refine wpAny_pure ?_
 refine wpAny_call (codeAny_call_builtin F.excAttr_ValueError.ga.plain F.entry_bexc_ga ?_)
 have hk:builtinKind "BaseException.__getattribute__" = some .slot:=by decide +kernel
 have hsp:splitId "BaseException.__getattribute__" = some ("BaseException","__getattribute__"):=by decide +kernel
 have ha:=F.args_bexc_ga (.ref x) (.str "__class__" t)
 show wpAny (model prog w) A.in1 (checkBuiltinCall "BaseException.__getattribute__" ⟨[.ref x,.str "__class__" t],[]⟩) _ _ _
 simp only [checkBuiltinCall,hk,hsp]
 refine wpAny_bind (LI.at ?_)
 rw [if_neg (by decide)]
 refine wpAny_of_eq ha ?_
 unfold Builtin.«object.__getattribute__»
 refine wpAny_bind (wpAny_pure ?_)
 refine wpAny_bind (wpAny_pure ?_)
 refine wpAny_bind (L0.at ?_)
 refine wpAny_bind (L3.at ?_)
 show wpAny _ _ (holding [.builtin "object.__class__"] (call (.builtin "getset_descriptor.__get__") [.builtin "object.__class__",.ref x,.ref D]) >>= ret) _ _ _
 refine wpAny_bind (wpAny_holding (wpAny_call (class_get (s:=⟨hh,g,d,t+1,os⟩) (ox:=ox) (od:=odo) X I hm ?_)))
 refine wpAny_pure ?_
 exact handed_on rfl (wpAny_pure k)
structure ExK (K:PySem.W.Frag) (D:Addr):Prop where
 cl:(clsIn K D).isSome=true
 ga:findIn K (.ref D) "__getattribute__" = some (some (.builtin "BaseException.__getattribute__"))
 gt:findIn K (.ref D) "__getattr__" = some none
 ha:findIn K (.ref D) "__class__" = some (some (.builtin "object.__class__"))
 hn:specialIn K (.builtin "object.__class__") "__get__" = some (some (.builtin "getset_descriptor.__get__"))
 tk:takesIn K (.builtin "object.__class__")=some true
 mo:mroIn K D (.type "object")=some true
 be:subIn K (.ref D) (.type "BaseException")=some true
theorem ExK.kit (e:ExK K D):KitX K (.ref x) (.ref D) (fun h=>∃ o,h.get? x=some o/\o.cls = .ref D/\o.dict=none/\notCls o=true) where
 ty:=fun M h _ ⟨o,g,c,_⟩=>c ▸ (Looks.ld g).andThen .now
 it:=fun M h X _=>by
  have cl:=e.cl
  unfold clsIn at cl
  split at cl
  ·rename_i c' d' cd' sl' ho
   intro A' Q' E' s' k q
   unfold isType loadHead
   exact wpAny_bind (wpAny_loadPart (k _ _ (X _ _ ho)) (wpAny_pure q))
  ·cases cl
 ne:=fun h tp dd its n sl X htp=>by
  have cl:=e.cl
  refine Bool.eq_false_iff.mpr fun q=>?_
  obtain rfl:D=tp:=Value.ref.inj (beq_iff_eq.mp q)
  unfold clsIn at cl
  split at cl
  ·rename_i c' d' cd' sl' ho
   cases (X _ _ ho).symm.trans htp
  ·cases cl
 ca:=fun X ⟨o,g,c,dn,no⟩ k=>by
  refine Vb (ox:=o) (odo:=none) X ⟨g,c,no,by rw [dn];trivial⟩ e.ga e.gt ?_ e.mo e.be k
  obtain ⟨cd,hc⟩:=Option.isSome_iff_exists.mp e.cl
  unfold findObj
  rw [hc,Option.bind_some,e.ha,Option.bind_some]
  simp [e.hn,e.tk]
end
end L2
end
section
namespace L2
open PySem PySem.Spec PySem.W PyProof.Rows PySem.Calls
def Jz (oe:Obj) (cls:Value):Prop:=oe.cls=cls/\oe.dict=none/\∃ ws,oe.data = .fields ws/\ws[2]? = some .none
theorem Jz.noCell {oe:Obj}{cls:Value}(h:Jz oe cls):∀ v,oe.data≠.cell v:=fun v z=>by
 obtain ⟨_,_,ws,d,_⟩:=h
 rw [d] at z
 cases z
theorem Jz.noCls {oe:Obj}{cls:Value}(h:Jz oe cls):notCls oe=true:=by
 obtain ⟨_,_,ws,d,_⟩:=h
 unfold notCls
 rw [d]
abbrev Cx.handE (X:Cx) (a:Addr) (oe:Obj) (pn:List (Addr×Obj)):Cx:={ X with A:=X.A.mark (some (.ref a)),calm:=false,pn:=pn++[(a,oe)],xe:=fun _ _=>False }
section
variable {X:Cx}{pins:List (Addr×Obj)}{σ:St}{H:Hp}{s:Shared}{a:Addr}{oe:Obj}{cls:Value}
theorem Inv.toHandE (I:Inv X pins σ H s) (ga:s.heap.get? a=some oe) (ha:H a=none) (hl:a≠X.env.locals) (hf:a∉X.fs) (hc:∀ v,oe.data≠.cell v):Inv (X.handE a oe (X.pn++pins)) [] σ H s :=
 ⟨⟨I.ok.mod,I.ok.kind,I.ok.glob,I.ok.blt,I.ok.above,I.ok.inj,I.ok.has,I.ok.cab,(fun z=>(by cases z)),I.ok.frames,I.ok.stk,I.ok.exf,I.ok.bs,I.ok.bsz,I.ok.noex,I.ok.exfs,I.ok.funs,I.ok.frf⟩,I.os,I.bare,I.base,I.loc,I.cell,I.free,I.freeC,fun p hp=>by
  rw [List.append_nil] at hp
  rcases List.mem_append.mp hp with z | z
  ·exact I.pin p z
  ·obtain rfl:p=(a,oe):=by simpa using z
   exact ⟨ga,ha,hl,hf,hc⟩,I.hok,I.len⟩
theorem Inv.ofHandE (hd:X.calm=true->X.A.handled=none) (I:Inv (X.handE a oe (X.pn++pins)) [] σ H s):Inv X pins σ H s :=
 ⟨⟨I.ok.mod,I.ok.kind,I.ok.glob,I.ok.blt,I.ok.above,I.ok.inj,I.ok.has,I.ok.cab,hd,I.ok.frames,I.ok.stk,I.ok.exf,I.ok.bs,I.ok.bsz,I.ok.noex,I.ok.exfs,I.ok.funs,I.ok.frf⟩,I.os,I.bare,I.base,I.loc,I.cell,I.free,I.freeC,
  fun p hp=>I.pin p (List.mem_append_left _ (List.mem_append_left _ hp)),I.hok,I.len⟩
theorem w5 {M:Model}{A:Around}{E:Value->Shared->Prop}{i:Nat}{n:Str}{pos:Pos}{Q:Unit->Shared->Prop}(I:Inv X pins σ H s) (hN:X.N.Nodup) (hi:X.N[i]? = some n) (hk:X.env.scope.names.lookup n=some .local)
  (h:∀ s',Inv X pins (σ.set i none) H s'->Q () s'):wpAny M A (do bindName X.env n .none;unbindBehindTheSuite X.env n pos) Q E s:=by
 obtain ⟨m,hn,hl⟩:=id I.loc
 have nc:(X.env.scope.kind == .class || (X.env.scope.kind == .module && X.env.locals != X.env.globals))=false:=by rw [I.ok.kind];rfl
 have hiσ:i<σ.length:=by rw [I.len];exact (List.getElem?_eq_some_iff.mp hi).1
 refine wpAny_nameGoes_keeps hk hn nc fun g v hn' hs=>?_
 obtain ⟨oL,_,_,hoL,_⟩:=id hn
 have lo:∀ {b o},X.s₀.heap.get? b=some o->g.get? b=s.heap.get? b:=fun {b o} e=>hs.2 b (Nat.ne_of_lt (Nat.lt_of_lt_of_le (Heap.lt_size e) I.ok.above))
 refine h _ ⟨I.ok,I.os,I.bare,⟨fun b o e n hb hx=>(lo e).trans (I.base.keep b o e n hb hx),fun b o e n hb hx=>?_,I.base.free,fun b o e hx=>?_,I.base.tups,I.base.frzs,I.base.tbls⟩,⟨_,hn',fun j y v' e1 e2 e3=>?_⟩,fun y c e=>?_,I.free,I.freeC,fun p hp=>?_,fun b ob e=>?_,by simpa using I.len⟩
 ·obtain ⟨sl,e1⟩:=I.base.slot b o e n hb hx
  exact ⟨sl,(lo e).trans e1⟩
 ·obtain ⟨o',e1⟩:=I.base.there b o e hx
  exact ⟨o',(lo e).trans e1⟩
 ·by_cases hj:j=i
  ·subst hj
   rw [List.getElem?_set_self hiσ] at e2
   cases e2
  ·rw [List.getElem?_set_ne (Ne.symm hj)] at e2
   obtain ⟨u',r',q⟩:=hl j y v' e1 e2 e3
   refine ⟨u',r',?_⟩
   rcases q with ⟨k,e⟩ | ⟨k,c,e,z⟩
   ·have ny:y≠n:=fun z=>hj (wv hN e1 (z ▸ hi))
    exact .inl ⟨k,by show (if y=n then v else m y)=_;rw [if_neg ny];exact e⟩
   ·exact .inr ⟨k,c,e,z.sameBut hs (I.cne y c e)⟩
 ·obtain ⟨w',z⟩:=I.cell y c e
  exact ⟨w',z.sameBut hs (I.cne y c e)⟩
 ·obtain ⟨e,n,ne,nf,d⟩:=I.pin p hp
  exact ⟨(hs.2 p.1 ne).trans e,n,ne,nf,d⟩
 ·refine (I.hok b ob e).stay (fun c w' hc q=>(hs.2 c ?_).trans q) (fun _ q=>q) fun _ _ q=>q
  rintro rfl
  rcases hc with z | z
  ·rw [<- z,I.free] at e;cases e
  ·rw [I.free] at z;cases z
end
def Ends.un (D:Ends) (i:Nat):Ends:={ nx:=fun σ H=>D.nx (σ.set i none) H,rt:=D.rt,bk:=fun σ H=>D.bk (σ.set i none) H,ct:=fun σ H=>D.ct (σ.set i none) H }
def UC (K:PySem.W.Frag) (C:Addr) (i:Nat) (tb:(Value->St->Hp->Prop)->TS) (th:Addr->Obj->TS):TS:=fun D σ H =>
 tb (fun cls σ' H'=>exmOne K cls (.ref C)=some true/\∀ a oe,Jz oe cls->H' a=none->th a oe (D.un i) (σ'.set i (some (.ref a))) H') D σ H
theorem Y6 {X:Cx}{body suite:List Stmt}{b₀:Stmt}{x n:Str}{np hpos pos:Pos}{C:Addr}{i:Nat}{tb:(Value->St->Hp->Prop)->TS}{th:Addr->Obj->TS}(K:PySem.W.Frag) (st:X.stack=X.env::X.outer) (hf:X.env.frame=some X.env.locals) (hm:X.mg x=some (.ref C)) (hg:Gl X x)
  (hN:X.N.Nodup) (hi:X.N[i]? = some n) (hk:X.env.scope.names.lookup n=some .local)
  (hb:∀ (pn:List (Addr×Obj)) (J:Value->St->Hp->Prop),PSs (X.tryX pn J) body (tb J)) (hs:∀ (a:Addr) (oe:Obj) (pn:List (Addr×Obj)),PSs (X.handE a oe pn) (b₀::suite) (th a oe)) (hdb:(x == ("__debug__" : Str))=false:=by decide) (hK:X.K=K:=by rfl) :
  PS X (.Try body [.ExceptHandler (some (.Name x np)) (some n) (b₀::suite) hpos] [] [] pos) (UC K C i tb th):=by
 subst hK
 intro pins s σ H D I h
 refine wpAny_Try_except (wpAny_mono (hb (X.pn++pins) _ [] s σ H D I.toTry h) (fun f s1 q=>?_) fun e s1 q=>?_)
 ·have q':SP X pins D f s1:=WG (fun I=>Inv.ofTryP I) q
  cases f with
  | next=>exact wpAny_execs_nil q'
  | brk=>exact q'
  | cont=>exact q'
  | ret u=>exact q'
 ·obtain ⟨a,cls,σ',H',rfl,fl,hx,ht⟩:=q
  have f:xP X pins σ' H' s1 a cls .none:=by
   obtain ⟨s,H,I,os,b,u,ok,fy⟩:=fl
   exact ⟨s,H,Inv.ofP I,os,b,u,ok,fy⟩
  obtain ⟨B,a0,fw,up⟩:=f.under
  have fr:X.A.frames=some (X.env::X.outer):=by rw [<- st];exact I.ok.frames
  rw [st] at fw
  refine XY fr fw.2.2.1 hf fw.2.2.2 fw.1 fw.2.1 fun h2 n1 n2 n3 up2=>?_
  refine y8 (s:={ s1 with heap:=h2 }) n1 n2 n3 fun h3 m1 m2 m3 m4=>?_
  have up3:s1.heap.UpToSlots h3:=up2.trans fun b o e n=>⟨o.slots,m4 b o e n⟩
  have f3:xP X pins σ' H' { s1 with heap:=h3 } a cls .none:=up h3 .none m1 up3 m3
  have I3:=f3.inv.toHand a
  refine wpAny_handleBy_cons (codeAny_handlers_test ?_) (by intro z;cases z)
  refine zV (X:=X.hand a) I3 hg hm ?_ hdb
  obtain ⟨oe,_,_,_,_,he,hc,_⟩:=id m3
  have lt:Looks (model X.prog X.w) h3 (typeOf (.ref a)) cls:=hc.1 ▸ (Looks.ld he).andThen .now
  refine exm_one (M:=model X.prog X.w) I3.kIn lt hx _ _ _ _ (fun _ _ e=>e) ?_
  refine codeAny_handlers_suite_as ?_
  refine y8 (s:={ s1 with heap:=h3 }) m1 m2 m3 fun h4 k1 k2 k3 k4=>?_
  have f4:xP X pins σ' H' { s1 with heap:=h4 } a cls .none:=up h4 .none k1 (up3.trans fun b o e n=>⟨o.slots,k4 b o e n⟩) k3
  have I4:=f4.inv
  obtain ⟨oe4,vs,T,oT,ts,g1,g2,g3,_⟩:=id k3
  have eo:Jz oe4 cls:=⟨g2.1,g2.2.2,vs,g3,g2.2.1.2⟩
  have ha:H' a=none:=by
   obtain ⟨_,_,_,_,_,_,_,fy⟩:=f4
   exact fy.ha
  have hl:a≠X.env.locals:=fun z=>by
   obtain ⟨m,⟨o,es,ep,ho,hd,_⟩,_⟩:=I4.loc
   rw [<- z,g1] at ho
   cases ho
   rw [g3] at hd
   cases hd
  have hfs:a∉X.fs:=fun z=>by
   have z':a∈frs X.stack:=by
    rw [st]
    unfold frs
    rw [List.filterMap_cons,hf]
    exact List.mem_cons_of_mem _ z
   obtain ⟨_,o,ho,hn⟩:=I4.stack.mem z'
   rw [g1] at ho
   cases ho
   exact hn _ g3
  have I5:Inv (X.handE a oe4 (X.pn++pins)) [] σ' H' { s1 with heap:=h4 }:=I4.toHandE g1 ha hl hfs eo.noCell
  refine vY (X:=X.handE a oe4 (X.pn++pins)) (v:=V.ref a) I5 hN hi (.inl hk) rfl (fun s6 I6=>?_) (.inr hk)
  refine wpAny_mono (hs a oe4 (X.pn++pins) [] s6 _ H' (D.un i) I6 (ht a oe4 eo ha)) (fun g s7 q=>?_) fun _ _ z=>False.elim z
  cases g with
  | next=>obtain ⟨σ7,H7,I7,q7⟩:=q;exact w5 (Inv.ofHandE I.ok.hd I7) hN hi hk fun s8 I8=>⟨_,H7,I8,q7⟩
  | brk=>obtain ⟨σ7,H7,I7,q7⟩:=q;exact w5 (Inv.ofHandE I.ok.hd I7) hN hi hk fun s8 I8=>⟨_,H7,I8,q7⟩
  | cont=>obtain ⟨σ7,H7,I7,q7⟩:=q;exact w5 (Inv.ofHandE I.ok.hd I7) hN hi hk fun s8 I8=>⟨_,H7,I8,q7⟩
  | ret u=>obtain ⟨v,σ7,H7,I7,r7,q7⟩:=q;exact w5 (Inv.ofHandE I.ok.hd I7) hN hi hk fun s8 I8=>⟨v,_,H7,I8,r7,q7⟩
def cxH (P:Program) (w:World) (K:PySem.W.Frag) (mg:Str->Option Value) (base:Heap) (N:List Str) (qual:Str) (scope:Scope) (f:Addr) (cd:Value) (A:Around) (outer:List Env) (s:Shared) (H:Hp):Cx :=
 { yO (fun _ _ _ _ _ _=>False) P w K mg base N qual scope f cd A outer s H (fun _ _ _=>False) with calm:=false }
structure AtE (A:Around) (outer:List Env) (s:Shared) (H:Hp) (a:Addr) (oe:Obj) (cls:Value):Prop where
 hd:A.handled=some (.ref a)
 at_:s.heap.get? a=some oe
 ex:Jz oe cls
 free:H a=none
 out:a∉frs outer
def FnH (P:Program) (w:World) (K:PySem.W.Frag) (mg:Str->Option Value) (base:Heap) (k:Nat) (f:Addr) (fd:FuncData) (ps:List Str) (sp:Addr->Value->List V->Hp->VK->Prop):Prop :=
 ∀ (A:Around) (outer:List Env) (s:Shared) (H:Hp) (args:Args) (us:List Value) (vs:List V) (Q:VK) (a:Addr) (oe:Obj) (cls:Value),A.depth+3*k+5<recursionLimit->A.units+16*k+200<cLine->AtE A outer s H a oe cls ->
  Env0 P w K mg base A outer s H->BindsTo s fd args (ps.zip us)->jC vs us->vs.length=ps.length->sp a cls vs H Q->codeAny (model P w) A (.call (.ref f) args) (CR (fun _ _ _ _ _ _=>False) outer P w H s Q (fun _ _ _=>False)) s
theorem QX {P:Program}{w:World}{K:PySem.W.Frag}{mg:Str->Option Value}{base:Heap}{N ps:List Str}{qual:Str}{scope:Scope}{f:Addr}{cd:Value}{A:Around}{outer:List Env}{s s1:Shared}{H:Hp}{us:List Value}{vs:List V}(S:FnScope N ps scope) (e0:Env0 P w K mg base A outer s H) (hl:vs.length=ps.length) (r:jC vs us)
  (x:InCallC s s.heap.objs.size (bindL (envOfC qual scope s.heap.objs.size f cd).kindOf (ps.zip us) fun _=>none) (cellsFrom (s.heap.objs.size+1) scope.names []) (bindC (envOfC qual scope s.heap.objs.size f cd).kindOf (ps.zip us) fun _=>none) s1) :
  Inv (cxH P w K mg base N qual scope f cd A outer s H) [] (start N vs) H s1:=by
 have I:=uv (CX:=fun _ _ _ _ _ _=>False) (A:={ A with handled:=none }) (E:=fun _ _ _=>False) (P:=P) (w:=w) S rfl ⟨e0.frames,e0.mod,e0.bs,e0.bsz,e0.funs,e0.frf,e0.hok,e0.bare⟩ hl r x
 exact ⟨⟨I.ok.mod,I.ok.kind,I.ok.glob,I.ok.blt,I.ok.above,I.ok.inj,I.ok.has,I.ok.cab,(fun z=>(by cases z)),Around.frames_deeper e0.frames,I.ok.stk,I.ok.exf,I.ok.bs,I.ok.bsz,I.ok.noex,I.ok.exfs,I.ok.funs,I.ok.frf⟩,I.os,I.bare,I.base,I.loc,I.cell,I.free,I.freeC,I.pin,I.hok,I.len⟩
theorem Um {P:Program}{w:World}{K:PySem.W.Frag}{mg:Str->Option Value}{base:Heap}{N:List Str}{qual:Str}{scope:Scope}{f:Addr}{cd:Value}{A:Around}{outer:List Env}{s:Shared}{H:Hp}{a:Addr}{oe:Obj}{cls:Value}(e:AtE A outer s H a oe cls):Hu (cxH P w K mg base N qual scope f cd A outer s H):=by
 obtain ⟨_,_,ws,d,d2⟩:=e.ex
 exact ⟨a,oe,ws,e.hd,e.at_,e.free,e.out,(fun z=>by cases z),d,d2⟩
theorem Fun.okH {P:Program}{w:World}{K:PySem.W.Frag}{mg:Str->Option Value}{base:Heap}{x qual:Str}{st:Stmt}{f:Addr}{fd:FuncData}{N ps:List Str}{k:Nat}{sp:Addr->Value->List V->Hp->VK->Prop}(F:Fun K x qual st f fd) (S:FnScope N ps (j6 st))
  (hbody:∀ (cdv:Value) (A:Around) (outer:List Env) (s:Shared) (H:Hp) (vs:List V) (Q:VK) (a:Addr) (oe:Obj) (cls:Value),AtE A outer s H a oe cls->sp a cls vs H Q ->
   ∃ t,PSs (cxH P w K mg base N qual (j6 st) f cdv A outer s H) (jJ st) t/\t { nx:=fun _ H'=>Q .non H',rt:=Q } (start N vs) H):FnH P w K mg base (k+1) f fd ps sp:=by
 obtain ⟨oc,od,kV,doc,pm,an,cdv,ct,osl,rfl,lk,hcd⟩:=F.ex
 intro A outer s H args us vs Q a oe cls dp un ae e0 hb r hl hsp
 have KX:K.In s.heap:=e0.mod.kin.keeps fun b o e=>(e0.bs b o e).1
 have lim:s.heap.NoLimit:=e0.mod.nolimit.keeps fun b o e=>(e0.bs b o e).1
 have kinds:∀ y∈ps.zip us,(j6 st).names.lookup y.1=some .local\/((j6 st).names.lookup y.1=some .cell/\((cellsFrom (s.heap.objs.size+1) (j6 st).names []).lookup y.1).isSome=true):=fun ⟨n,v⟩ hy=>by
  rcases S.par n (List.of_mem_zip hy).1 with q | q
  ·exact .inl q
  ·exact .inr ⟨q,PySem.W.cellsFrom_some _ _ _ (.inl q)⟩
 refine codeAny_call_function (by omega) (KX _ _ lk) rfl S.co S.gen rfl (PySem.W.codeRec_of KX hcd) (hb _ _ _ _ ?_)
 refine wpAny_newFunctionEnv_cells S.kind kinds fun env he s1 x=>?_
 subst he
 refine ⟨lim.keeps x.toInCall.keep,codeAny_func ?_⟩
 obtain ⟨t,ht,hq⟩:=hbody cdv A outer s H vs Q a oe cls ae hsp
 have I:Inv (cxH P w K mg base N qual (j6 st) f cdv A outer s H) [] (start N vs) H s1:=QX S e0 hl r x
 refine wpAny_mono (ht [] s1 (start N vs) H _ I hq) (fun fl s' hs=>?_) fun e s' hs=>hs
 have fin:∀ {σ':St} {H':Hp} {v:V} {u:Value},Inv (cxH P w K mg base N qual (j6 st) f cdv A outer s H) [] σ' H' s'->jB v u->Q v H'->CE outer P w H s Q u s':=fun {σ' H' v u} J rv q =>
  ⟨v,H',J.os,J.bare,J.base,J.hok,rv,q⟩
 cases fl with
 | ret u=>obtain ⟨v,σ',H',J,rv,q⟩:=hs;exact fin J rv q
 | next=>obtain ⟨σ',H',J,q⟩:=hs;exact fin (v:=V.non) (u:=Value.none) J rfl q
 | brk=>obtain ⟨_,_,_,q⟩:=hs;exact False.elim q
 | cont=>obtain ⟨_,_,_,q⟩:=hs;exact False.elim q
structure CalH (P:Program) (w:World) (K:PySem.W.Frag) (mg:Str->Option Value) (base:Heap) (k:Nat) (x:Str) (ps:List Str) (sp:Addr->Value->List V->Hp->VK->Prop):Prop where
 ex:∃ f fd,FnH P w K mg base k f fd ps sp/\zN K fd ps []/\mg x=some (.ref f)/\PySem.W.keepIn K (.ref f)=true
theorem CalH.mk' {P:Program}{w:World}{K:PySem.W.Frag}{mg:Str->Option Value}{base:Heap}{k:Nat}{x:Str}{ps:List Str}{sp:Addr->Value->List V->Hp->VK->Prop}{st:Stmt}{h:Heap}{f:Addr}{oc:Value}{od an:Option Addr}{osl:Array (Option Value)}{kV doc pm cdv ct:Value}
  (X:K.In h) (G:h.Ns mainGlobals mg) (a:PySem.W.nsIn K mainGlobals x=some (some (.ref f)))
  (l:K.lookup f=some ⟨oc,od,.func (PySem.W.fnOf x x (jR st) (jJ st) (j6 st) .none kV doc pm an cdv ct),osl⟩) (c:PySem.W.codeIn K cdv x=true) (k':PySem.W.keepIn K (.ref f)=true)
  (hb:∀ (kV doc pm:Value) (an:Option Addr) (cdv ct:Value) (us:List Value),us.length=ps.length->bindArgs (PySem.W.fnOf x x (jR st) (jJ st) (j6 st) .none kV doc pm an cdv ct) ⟨us,[]⟩=pure (ps.zip us))
  (ok:∀ {f:Addr} {fd:FuncData},Fun K x x st f fd->FnH P w K mg base k f fd ps sp):CalH P w K mg base k x ps sp:=by
 have F:=yp (st:=st) l c k'
 exact ⟨f,_,ok F,F.binds hb,PySem.W.mg_of X G a,k'⟩
def Uw (a:Addr) (oe:Obj) (n:Nat) (sp:Addr->Value->List V->Hp->VK->Prop) (t:TA):TE:=fun σ H Q=>t σ H fun vs H1=>vs.length=n/\∃ cls,Jz oe cls/\sp a cls vs H1 Q
theorem VG {X:Cx}{k:Nat}{x:Str}{ps:List Str}{sp:Addr->Value->List V->Hp->VK->Prop}{e:Expr}{es:List Expr}{t:TA}{p pos:Pos}{a:Addr}{oe:Obj}(c:CalH X.prog X.w X.K X.mg X.base k x ps sp) (dp:X.A.depth+3*k+5<recursionLimit) (un:X.A.units+16*k+200<cLine)
  (hd:X.A.handled=some (.ref a)) (hp:(a,oe)∈X.pn) (hg:Gl X x) (ha:PA X (e::es) t)
  (hdb:(x == ("__debug__" : Str))=false:=by decide) (he:starEach (e::es) X.env=(false,eval e X.env)::starEach es X.env:=by rfl) (hpl:(backTo pos (starEach es X.env)).any (·.1)=false:=by rfl) :
  PE X (.Call (.Name x p) (e::es) [] pos) (Uw a oe ps.length sp t):=by
 obtain ⟨f,fd,F,hb,hm,hk⟩:=c.ex
 intro pins s σ H Q I h
 refine wpAny_Call_Name_kw (zV I hg hm ?_ hdb)
 refine PySem.W.callWith_K (h₀:=X.base) I.ok.mod.kin hk (thn (ha pos pins s σ H _ I h) fun us s1 ⟨vs,H1,I1,r,n,cls,eo,q⟩=>⟨I1.kIn,?_⟩) he hpl
 have hl:us.length=ps.length:=by rw [<- r.length];exact n
 have hb':=hb s1 us I1.kIn (by rw [List.append_nil];exact hl)
 rw [List.append_nil] at hb'
 obtain ⟨g1,g2,g3,g4,g5⟩:=I1.pin (a,oe) (List.mem_append_left _ hp)
 have ae:AtE X.A X.stack s1 H1 a oe cls:=⟨hd,g1,eo,g2,fun z=>(List.mem_cons.mp (I1.stkSub a z)).elim g3 g4⟩
 refine wpAny_call (codeAny_mono (F X.A X.stack s1 H1 ⟨us,[]⟩ us vs Q a oe cls dp un ae I1.env0 hb' r n q) fun r s' hq=>?_)
 cases r with
 | error e=>exact False.elim hq
 | ok fl =>
  cases fl with
  | ret u=>exact I1.after hq
  | next=>exact False.elim hq
  | brk=>exact False.elim hq
  | cont=>exact False.elim hq
theorem V1 {X:Cx}{a D:Addr}{oe:Obj}(K:PySem.W.Frag) (ek:ExK K D) (ga:X.s₀.heap.get? a=some oe) (ha:X.H₀ a=none) (hf:a∉X.fs) (hx:a∉X.ex) (eo:Jz oe (.ref D)) (hK:X.K=K:=by rfl) :
  x5 X (.builtin "isinstance") (fun xs H Q=>∃ c cv b,xs=[.ref a,c]/\(∀ u,jB c u->u=cv)/\PySem.W.kitOne K (.ref D) cv=some b/\Q (.bl b) H):=by
 subst hK
 intro pins s σ H vs us Q I r h
 obtain ⟨c,cv,b,rfl,hc,hb,q⟩:=h
 cases r with
 | cons r1 r2 =>
  cases r2 with
  | cons r3 r4 =>
   cases r4
   cases (show _=Value.ref a from r1)
   cases hc _ r3
   exact PySem.W.kia_one (ExK.kit (x:=a) ek) I.kIn ⟨oe,I.base.keep a oe ga ha hf hx,eo.1,eo.2.1,eo.noCls⟩ hb (fun z=>nomatch z) fun tk=>⟨.bl b,H,I.tok _,rfl,q⟩
end L2
end
section
namespace L2
open PySem PySem.Spec PySem.W PyProof.Rows
theorem gN.calH {P:Program}{w:World}{K:PySem.W.Frag}{mg:Str->Option Value}{base:Heap}{k:Nat}{x:Str}{ps:List Str}{st:Stmt}{sp:Addr->Value->List V->Hp->VK->Prop}(a:gN K x st) (z:Zt P w K mg base) (hb:gB x x st ps)
  (ok:∀ {f:Addr} {fd:FuncData},Fun K x x st f fd->FnH P w K mg base k f fd ps sp):CalH P w K mg base k x ps sp:=by
 obtain ⟨a,l,c,k'⟩:=a
 obtain ⟨X,G⟩:=z
 exact CalH.mk' X G a l c k' hb ok
end L2
end
section
namespace L2
open PySem PySem.Spec PySem.W PyProof.Rows
end L2
end
section
namespace L2
open PySem PySem.Spec PyProof.Rows
end L2
namespace L2
open PySem PySem.Spec PyProof.Rows
section
variable (P:Program) (w:World)
end
section
variable {P:Program}{w:World}{H H':Hp}{h h':Heap}{a:Addr}{o:HO}
end
section
variable {P:Program}{w:World}{H:Hp}{h h':Heap}{x e:Addr}{o':HO}
end
section
variable {fs fs' ex ex':List Addr}{H H1 H2:Hp}{h h1 h2 h':Heap}{a x e:Addr}{o:HO}
end
end L2
namespace L2
open PySem PySem.Spec PyProof.Rows
section
variable {X:Cx}{pins:List (Addr×Obj)}{σ:List (Option V)}{H H':Hp}{s:Shared}{h':Heap}
end
end L2
namespace L2
open PySem PySem.Spec PyProof.Rows
section
variable {X:Cx}
variable {a b:Expr}{ta tb:TE}{pos:Pos}
variable {tA tB':TT}{vb:List Expr}
end
end L2
namespace L2
open PySem PySem.Spec PyProof.Rows
section
variable {X:Cx}{pins:List (Addr×Obj)}{σ:St}{H:Hp}{s:Shared}{a:Addr}{xs ys:List V}
end
section
variable {X:Cx}{pins:List (Addr×Obj)}{σ:St}{H:Hp}{s:Shared}{E:Value->Shared->Prop}
end
section
variable {X:Cx}{st:Stmt}{vb:List Stmt}{t u:TS}{e:Expr}{te:TE}{pos:Pos}
end
section
variable {X:Cx}{pos:Pos}
end
section
variable {X:Cx}{pos:Pos}
end
end L2
namespace L2
open PySem PySem.Spec PyProof.Rows
section
variable {X:Cx}{tg:Expr}
end
end L2
namespace L2
open PySem PySem.Spec PyProof.Rows
section
variable {X:Cx}{a b c:Expr}{ta tb tc:TE}{pos:Pos}
end
section
variable {X:Cx}{a b c:Expr}{ta tb tc:TE}{pos:Pos}
end
end L2
namespace L2
open PySem PySem.Spec PyProof.Rows
section
variable {prog:Program}{w:World}{A:Around}{E:Value->Shared->Prop}{s:Shared}{K:PySem.W.Frag}{x dx C f:Addr}{mA:Str->Option Value}{name:Str}{v:Value}
end
section
variable {P:Program}{w:World}{H H':Hp}{h h':Heap}{a C dx:Addr}{fs fs':List (Str×V)}
end
section
variable {X:Cx}{pins:List (Addr×Obj)}{σ:St}{H:Hp}{s:Shared}{a C dx:Addr}{fs:List (Str×V)}{f:Str}{v:V}{A:Around}{E:Value->Shared->Prop}
end
section
variable {X:Cx}{o e value:Expr}{f:Str}{pos pos' tpos:Pos}{ta tv:TE}
end
section
variable {X:Cx}{pins:List (Addr×Obj)}{σ:St}{H:Hp}{s:Shared}{A:Around}{E:Value->Shared->Prop}{Q:Value->Shared->Prop}{c:Value}{b:Bool}
end
end L2
namespace L2
open PySem PySem.Spec PyProof.Rows
section
variable {X:Cx}{e:Expr}{es:List Expr}{te:TE}{t:TA}{pos:Pos}
end
section
variable {X:Cx}{pins:List (Addr×Obj)}{σ:St}{H:Hp}{s s':Shared}
end
section
variable {X:Cx}{CX:CXT}{k:Nat}{f C:Addr}{fd:FuncData}{ps:List Str}{sp:Sp}{dvs:List V}{ds:List Value}{E:XK}{x m:Str}{p pos apos:Pos}{e o:Expr}{es:List Expr}{ta:TE}{t:TA}
end
section
variable {X:Cx}{CX:CXT}{k:Nat}{f C:Addr}{fd:FuncData}{ps ks:List Str}{sp:Sp}{E:XK}{x m:Str}{p pos apos kpos:Pos}{e o:Expr}{es:List Expr}{kws:List Keyword}{te ta:TE}{t tk:TA}{nm:Option Str}
variable {g:List Value->List Value->List Value}{gV:List V->List V->List V}
end
end L2
namespace L2
open PySem PySem.Spec PyProof.Rows
section
variable {X:Cx}{x:Str}{p pos:Pos}{e:Expr}{es:List Expr}{t:TA}{id T:String}{r:List V->Hp->VK->Prop}
end
end L2
namespace L2
open PySem PySem.Spec PyProof.Rows
section
variable {κ:Type} [DecidableEq κ]
def qL (kvs:List (κ×V)) (k:κ):Option V:=(kvs.find? fun kv=>decide (kv.1=k)).map (·.2)
def qG (kvs:List (κ×V)) (k:κ) (v:V):List (κ×V) :=
 if (kvs.any fun kv=>decide (kv.1=k))=true then kvs.map (fun kv=>if kv.1=k then (kv.1,v) else kv) else kvs++[(k,v)]
theorem yi {k:κ}:qL ([]:List (κ×V)) k=none:=rfl
theorem ku {p:κ×V}{r:List (κ×V)}{k:κ}(e:p.1=k):qL (p::r) k=some p.2:=by simp [qL,List.find?_cons,e]
theorem kE {p:κ×V}{r:List (κ×V)}{k:κ}(e:¬ p.1=k):qL (p::r) k=qL r k:=by simp [qL,List.find?_cons,e]
theorem wU (k:κ):∀ kvs:List (κ×V),(kvs.any fun kv=>decide (kv.1=k))=(qL kvs k).isSome
 | []=>rfl
 | p::r=>by
  rw [List.any_cons]
  by_cases e:p.1=k
  ·simp only [ku e,decide_eq_true e,Bool.true_or,Option.isSome_some]
  ·rw [kE e,decide_eq_false e,Bool.false_or];exact wU k r
theorem ym (kvs:List (κ×V)) (k:κ) (v:V):(qG kvs k v).length<=kvs.length+1:=by
 unfold qG
 split
 ·rw [List.length_map];omega
 ·rw [List.length_append,List.length_cons,List.length_nil];omega
theorem yk {kvs:List (κ×V)}{k:κ}(v:V) (h:qL kvs k=none):qG kvs k v=kvs++[(k,v)]:=by
 unfold qG
 rw [wU,h]
 exact if_neg (by decide)
theorem yh.isSome_eq {o:Option V}{u:Option Value}(r:yh o u):o.isSome=u.isSome:=by
 cases o with
 | none=>cases u with
  | none=>rfl
  | some _=>exact (show False from r).elim
 | some _=>cases u with
  | none=>exact (show False from r).elim
  | some _=>rfl
theorem yh.getD {o:Option V}{u:Option Value}{d:V}{d':Value}(r:yh o u) (rd:jB d d'):jB (o.getD d) (u.getD d'):=by
 cases o with
 | none=>cases u with
  | none=>exact rd
  | some _=>exact (show False from r).elim
 | some _=>cases u with
  | none=>exact (show False from r).elim
  | some _=>exact r
theorem KV.val {kvs:List (κ×V)}{vs:List (κ×Value)}(r:KV kvs vs) (k:κ):yh (qL kvs k) (valueAt vs k):=by
 unfold KV at r
 induction r with
 | nil=>exact True.intro
 | @cons p q ps qs h t ih =>
  obtain ⟨h1,h2⟩:=h
  by_cases e:p.1=k
  ·have e':q.1=k:=h1.symm.trans e
   have b:valueAt (q::qs) k=some q.2:=by simp [valueAt,List.find?_cons,e']
   rw [ku e,b];exact h2
  ·have e':¬ q.1=k:=fun z=>e (h1.trans z)
   have b:valueAt (q::qs) k=valueAt qs k:=by simp [valueAt,List.find?_cons,e']
   rw [kE e,b];exact ih
theorem KV.any {kvs:List (κ×V)}{vs:List (κ×Value)}(r:KV kvs vs) (k:κ):(kvs.any fun kv=>decide (kv.1=k))=vs.any fun kv=>decide (kv.1=k):=by
 unfold KV at r
 induction r with
 | nil=>rfl
 | cons h t ih=>rw [List.any_cons,List.any_cons,ih,h.1]
theorem KV.repl {kvs:List (κ×V)}{vs:List (κ×Value)}(r:KV kvs vs) (k:κ) {y:V}{u:Value}(ry:jB y u) :
  KV (kvs.map fun kv=>if kv.1=k then (kv.1,y) else kv) (vs.map fun kv=>if kv.1=k then (kv.1,u) else kv):=by
 unfold KV at r ⊢
 induction r with
 | nil=>exact .nil
 | @cons p q ps qs h t ih =>
  rw [List.map_cons,List.map_cons]
  refine .cons ?_ ih
  obtain ⟨h1,h2⟩:=h
  by_cases e:p.1=k
  ·rw [if_pos e,if_pos (h1.symm.trans e)];exact ⟨h1,ry⟩
  ·rw [if_neg e,if_neg (fun z=>e (h1.trans z))];exact ⟨h1,h2⟩
theorem KV.put {kvs:List (κ×V)}{vs:List (κ×Value)}(r:KV kvs vs) (k:κ) {y:V}{u:Value}(ry:jB y u):KV (qG kvs k y) (stored vs k u):=by
 unfold qG stored
 rw [r.any k]
 by_cases e:(vs.any fun kv=>decide (kv.1=k))=true
 ·rw [if_pos e,if_pos e];exact r.repl k ry
 ·rw [if_neg e,if_neg e];exact Paired.snoc r ⟨rfl,ry⟩
theorem KV.length {kvs:List (κ×V)}{vs:List (κ×Value)}(r:KV kvs vs):kvs.length=vs.length:=Paired.length r
end
theorem wj {P:Program}{w:World}{k:Key}{u:Value}(r:jB (kV k) u):(jF P w).is k u=true:=by
 cases k with
 | inl i=>obtain ⟨t,e⟩:=(show ∃ t,u=Value.int i t from r);subst e;exact Qa P w i t
 | inr x=>obtain ⟨t,e⟩:=(show ∃ t,u=Value.str x t from r);subst e;exact Qi P w x t
theorem gh {P:Program}{w:World}:∀ {ks:List Key}{us:List Value},jC (ks.map kV) us->ItemsAre (jF P w) ks us
 | [],_,r=>by rw [List.map_nil] at r;cases r;exact .nil
 | k::ks,_,r=>by
  rw [List.map_cons] at r
  cases r with
  | cons h t=>exact .cons (wj h) (gh t)
abbrev KT (H:Hp):List (List Key×V)->List (List Key×Addr×Value)->Prop:=Paired fun p q=>p.1=q.1/\H q.2.1=some (.tup (p.1.map kV))/\jB p.2 q.2.2
theorem KT.val {H:Hp}{kvs:List (List Key×V)}{xs:List (List Key×Addr×Value)}(r:KT H kvs xs) (k:List Key):yh (qL kvs k) ((atKey xs k).map (·.2)):=by
 induction r with
 | nil=>exact True.intro
 | @cons p q ps qs h t ih =>
  obtain ⟨h1,_,h2⟩:=h
  by_cases e:p.1=k
  ·have e':q.1=k:=h1.symm.trans e
   have b:atKey (q::qs) k=some q.2:=by simp [atKey,List.find?_cons,e']
   rw [ku e,b];exact h2
  ·have e':¬ q.1=k:=fun z=>e (h1.trans z)
   have b:atKey (q::qs) k=atKey qs k:=by simp [atKey,List.find?_cons,e']
   rw [kE e,b];exact ih
theorem KT.repl {H:Hp}{kvs:List (List Key×V)}{xs:List (List Key×Addr×Value)}(r:KT H kvs xs) (k:List Key) {y:V}{u:Value}(ry:jB y u) :
  KT H (kvs.map fun kv=>if kv.1=k then (kv.1,y) else kv) (xs.map (putAt k u)):=by
 induction r with
 | nil=>exact .nil
 | @cons p q ps qs h t ih =>
  rw [List.map_cons,List.map_cons]
  refine .cons ?_ ih
  obtain ⟨h1,h2,h3⟩:=h
  unfold putAt
  by_cases e:p.1=k
  ·rw [if_pos e,if_pos (h1.symm.trans e)];exact ⟨h1,h2,ry⟩
  ·rw [if_neg e,if_neg (fun z=>e (h1.trans z))];exact ⟨h1,h2,h3⟩
theorem KT.put {H:Hp}{kvs:List (List Key×V)}{xs:List (List Key×Addr×Value)}(r:KT H kvs xs) (k:List Key) {b:Addr}{y:V}{u:Value}(hb:H b=some (.tup (k.map kV))) (ry:jB y u) :
  KT H (qG kvs k y) (storedH xs k b u):=by
 have e:(kvs.any fun kv=>decide (kv.1=k))=(atKey xs k).isSome:=by
  rw [wU,(r.val k).isSome_eq,Option.isSome_map]
 unfold qG storedH
 rw [e]
 by_cases q:(atKey xs k).isSome=true
 ·rw [if_pos q,if_pos q];exact r.repl k ry
 ·rw [if_neg q,if_neg q];exact Paired.snoc r ⟨rfl,hb,ry⟩
theorem KT.keeps {H H':Hp}{kvs:List (List Key×V)}{xs:List (List Key×Addr×Value)}(r:KT H kvs xs) (ht:∀ b ys,H b=some (.tup ys)->H' b=some (.tup ys)):KT H' kvs xs :=
 Paired.mapP r fun _ _ z=>⟨z.1,ht _ _ z.2.1,z.2.2⟩
section
variable {P:Program}{w:World}{H:Hp}{h:Heap}{a:Addr}
theorem U4 {u:HO}(ok:HOk P w H h) (e:Rd H a u):qB P w H h a u:=e.ok ok
theorem uH {kvs:List (Key×V)}(ok:HOk P w H h) (e:Rd H a (.dK kvs)):kvs.length<=sizeLine/\(a == sysModules)=false/\∃ vs,KV kvs vs/\h.DictOf (jF P w) a vs :=
 show qB P w H h a (.dK kvs) from U4 ok e
theorem YC {kvs:List (Key×V)}(ok:HOk P w H h) (e:H a=some (.dK kvs)):kvs.length<=sizeLine/\(a == sysModules)=false/\∃ vs,KV kvs vs/\h.DictOf (jF P w) a vs:=uH ok (.inl e)
theorem wk {ks:List Key}(ok:HOk P w H h) (e:H a=some (.tup (ks.map kV))):(tupleKind (jF P w)).is h ks a:=by
 obtain ⟨_,its,r,o,h1,h2,n,h3⟩:=(show qB P w H h a (.tup (ks.map kV)) from ok a _ e)
 exact ⟨o,its.toArray,n,h1,h2,h3,by simpa using gh r⟩
theorem gp {kvs:List (List Key×V)}(ok:HOk P w H h) (e:Rd H a (.dT kvs)):kvs.length<=sizeLine/\(a == sysModules)=false /\
  ∃ xs,KT H kvs xs/\h.DictOfH (tupleKind (jF P w)) a xs:=by
 obtain ⟨z,y,xs,r,o,es,ep,h1,h2,h3,h4,h5⟩:=(show qB P w H h a (.dT kvs) from U4 ok e)
 refine ⟨z,y,xs,r,o,es,ep,h1,h2,h3,h4,fun x hx=>?_,h5⟩
 have all:∀ {l:List (List Key×V)} {m:List (List Key×Addr×Value)},KT H l m->∀ x∈m,(tupleKind (jF P w)).is h x.1 x.2.1:=by
  intro l m q
  induction q with
  | nil=>intro x hx;exact nomatch hx
  | @cons p q ps qs hq t ih =>
   intro x hx
   rcases List.mem_cons.mp hx with e | hx
   ·subst e
    exact wk ok (by rw [<- hq.1];exact hq.2.1)
   ·exact ih x hx
 exact all r x hx
theorem Wx {kvs:List (List Key×V)}(ok:HOk P w H h) (e:H a=some (.dT kvs)):kvs.length<=sizeLine/\(a == sysModules)=false /\
  ∃ xs,KT H kvs xs/\h.DictOfH (tupleKind (jF P w)) a xs:=gp ok (.inl e)
end
def qT (H:Hp) (a:Addr) (y:V) (r:Option V):Prop :=
 (∃ kvs k,Rd H a (.dK kvs)/\y=kV k/\r=qL kvs k)\/∃ kvs k b,Rd H a (.dT kvs)/\y = .ref b/\H b=some (.tup (k.map kV))/\r=qL kvs k
def kQ (H:Hp) (a:Addr) (y v:V) (H':Hp):Prop :=
 (∃ kvs k,H a=some (.dK kvs)/\y=kV k/\kvs.length<sizeLine/\H'=upd H a (.dK (qG kvs k v))) \/
 ∃ kvs k b,H a=some (.dT kvs)/\y = .ref b/\H b=some (.tup (k.map kV))/\kvs.length<sizeLine/\H'=upd H a (.dT (qG kvs k v))
theorem qT.k {H:Hp}{a:Addr}{kvs:List (Key×V)}{k:Key}(e:H a=some (.dK kvs)):qT H a (kV k) (qL kvs k):=.inl ⟨kvs,k,.inl e,rfl,rfl⟩
theorem kQ.k {H:Hp}{a:Addr}{kvs:List (Key×V)}{k:Key}{v:V}(e:H a=some (.dK kvs)) (hl:kvs.length<sizeLine):kQ H a (kV k) v (upd H a (.dK (qG kvs k v))):=.inl ⟨kvs,k,e,rfl,hl,rfl⟩
section
variable {X:Cx}{pins:List (Addr×Obj)}{σ:St}{H:Hp}{s:Shared}{a:Addr}{y v:V}{u r:Value}{o:Option V}{A:Around}{E:Value->Shared->Prop}
theorem Inv.big (I:Inv X pins σ H s):sysModules<s.heap.objs.size:=by
 have h:mainGlobals<s.heap.objs.size:=(I.mod.glob.keeps I.bk).lt
 exact Nat.lt_trans (by decide) h
theorem Zo {Q:Value->Shared->Prop}(hu:A.units+1<cLine) (I:Inv X pins σ H s) (g:qT H a y (some v)) (ry:jB y u) (h:∀ w' s',Inv X pins σ H s'->jB v w'->Q w' s') :
  wpAny (model X.prog X.w) A (getItem (.ref a) u) Q E s:=by
 rcases g with ⟨kvs,k,e,ey,l⟩ | ⟨kvs,k,b,e,ey,eb,l⟩
 ·subst ey
  obtain ⟨z,hd,vs,rel,dd⟩:=uH I.hok e
  obtain ⟨w',hw,rw'⟩:=yh.some_of (v:=v) (o:=valueAt vs k) (by rw [l];exact rel.val k)
  exact wpAny_getItem_of (wj ry) dd.mapOf hw (h w' _ (I.tok _) rw')
 ·subst ey
  cases (show u=Value.ref b from ry)
  obtain ⟨z,hd,xs,rel,dd⟩:=gp I.hok e
  obtain ⟨w',hw,rw'⟩:=yh.some_of (v:=v) (o:=(atKey xs k).map (·.2)) (by rw [l];exact rel.val k)
  obtain ⟨p,hp,hp2⟩:=Option.map_eq_some_iff.mp hw
  refine wpAny_getItem_heap (tupleKind_room_in1 hu) (wk I.hok eb) dd hp ?_
  rw [hp2]
  exact h w' _ (I.tok _) rw'
theorem d_in {Q:Value->Shared->Prop}(hu:A.units+1<cLine) (I:Inv X pins σ H s) (g:qT H a y o) (ry:jB y u) (h:∀ s',Inv X pins σ H s'->Q (.bool o.isSome) s') :
  wpAny (model X.prog X.w) A (compareOp .In u (.ref a)) Q E s:=by
 rcases g with ⟨kvs,k,e,ey,l⟩ | ⟨kvs,k,b,e,ey,eb,l⟩
 ·subst ey
  obtain ⟨z,hd,vs,rel,dd⟩:=uH I.hok e
  refine wpAny_in_of (wj ry) hd dd.mapOf ?_
  rw [<- (rel.val k).isSome_eq,<- l]
  exact h _ (I.tok _)
 ·subst ey
  cases (show u=Value.ref b from ry)
  obtain ⟨z,hd,xs,rel,dd⟩:=gp I.hok e
  refine wpAny_in_heap (tupleKind_room_in1 hu) (wk I.hok eb) hd dd ?_
  have q:=(rel.val k).isSome_eq
  rw [Option.isSome_map] at q
  rw [<- q,<- l]
  exact h _ (I.tok _)
theorem Jv {h':Heap}{t':Nat}{ob:HO}(I:Inv X pins σ H s) (mu:Mut (H a)) (hs:Heap.SameBut a s.heap h') (he:∃ q,h'.get? a=some q) (new:qB X.prog X.w (upd H a ob) h' a ob) :
  Inv X pins σ (upd H a ob) { s with heap:=h',toks:=t' } :=
 I.write (x:=a) (e:=a) mu (.inl rfl) (fun b q hb z=>(hs.2 b hb).trans z) he new
theorem Xz {P:Program}{w:World}{H':Hp}{h':Heap}{kvs:List (Key×V)}{vs:List (Key×Value)}(z:kvs.length<=sizeLine) (hd:(a == sysModules)=false) (rel:KV kvs vs) (dd:h'.DictOf (jF P w) a vs) :
  qB P w H' h' a (.dK kvs):=⟨z,hd,vs,rel,dd⟩
theorem ZC {H':Hp}{Q:Unit->Shared->Prop}(hu:A.units+1<cLine) (I:Inv X pins σ H s) (g:kQ H a y v H') (ry:jB y u) (rv:jB v r) (h:∀ s',Inv X pins σ H' s'->Q () s') :
  wpAny (model X.prog X.w) A (setItem (.ref a) u r) Q E s:=by
 rcases g with ⟨kvs,k,e,ey,l,eH⟩ | ⟨kvs,k,b,e,ey,eb,l,eH⟩
 ·subst ey eH
  obtain ⟨z,hd,vs,rel,dd⟩:=YC I.hok e
  have hz:vs.length<=sizeLine:=by rw [<- rel.length];exact z
  have hl:(qG kvs k v).length<=sizeLine:=by have:=ym kvs k v;omega
  refine wpAny_setItem_pairs (hsz:=hz) (wj ry) dd fun h' dd' hs=>h _ ?_
  have he:∃ q,h'.get? a=some q:=let ⟨q,_,_,hq,_⟩:=dd';⟨q,hq⟩
  exact Jv I (by rw [e];exact True.intro) hs he (Xz hl hd (rel.put k rv) dd')
 ·subst ey eH
  cases (show u=Value.ref b from ry)
  obtain ⟨z,hd,xs,rel,dd⟩:=Wx I.hok e
  have hz:xs.length<=sizeLine:=by rw [<- Paired.length rel];exact z
  have hl:(qG kvs k v).length<=sizeLine:=by have:=ym kvs k v;omega
  refine wpAny_setItem_heap (hsz:=hz) (tupleKind_room_in1 hu) (wk I.hok eb) dd fun h' dd' hs=>h _ ?_
  obtain ⟨q,es,ep,hq,h2,h3,h4,_,h5⟩:=dd'
  refine Jv I (by rw [e];exact True.intro) hs ⟨q,hq⟩ ⟨hl,hd,_,(rel.put k eb rv).keeps fun c ys ec=>?_,q,es,ep,hq,h2,h3,h4,h5⟩
  rw [j8 (jr ec e (fun z=>nomatch z))]
  exact ec
end
section
variable {X:Cx}{pins:List (Addr×Obj)}{σ:St}{H:Hp}{s:Shared}{a:Addr}{kvs:List (Key×V)}{k:Key}{u:Value}{A:Around}{E:Value->Shared->Prop}
end
def WA (i:Expr):Prop:=∀ ov iv,subscripted i false ov iv=operate [ov,iv] (getItem ov iv)
theorem Vu {prog:Program}{w:World}{A:Around}{E:Value->Shared->Prop}{s:Shared}{env:Env}{value slice:Expr}{pos:Pos}{T id:String}{Q:Value->Shared->Prop}
  (hl:typeLookup (.type T) "__getitem__" = pure (some (.builtin id))) (hs:WA slice)
  (h:wpAny (model prog w) A (eval value env) (fun o s₁=>wpAny (model prog w) A (eval slice env) (fun i s₂=>s₂.TypeIs o T/\wpAny (model prog w) A (getItem o i) Q E s₂) E s₁) E s) :
  wpAny (model prog w) A (eval (.Subscript value slice pos) env) Q E s:=by
 refine Subscript_ (wpAny_mono h (fun o s₁ h₁=>wpAny_mono h₁ (fun i s₂ h₂=>?_) fun _ _ x=>x) fun _ _ x=>x)
 obtain ⟨hT,h₂⟩:=h₂
 unfold subscriptTail
 refine wpAny_bind ?_
 rw [getitemInPython_of_ne hT.not_modules]
 refine wpAny_bind (wpAny_specialOf hT hl ?_)
 have fin:wpAny (model prog w) A (subscripted slice false o i) (fun r s₃=>wpAny (model prog w) A (letTemporaryGo value o r >>= fun _=>pure r) Q E s₃) E s₂:=by
  rw [hs o i]
  exact wpAny_operating (wpAny_mono h₂ (fun r s₃ h₃=>wpAny_bind (wpAny_letTemporaryGo (wpAny_pure h₃))) fun _ _ x=>x)
 first
  | exact wpAny_pure (wpAny_bind fin)
  | exact wpAny_bind (wpAny_pure (wpAny_bind fin))
  | exact wpAny_bind fin
theorem Ql {X:Cx}{pins:List (Addr×Obj)}{σ:St}{H:Hp}{s:Shared}{a:Addr}{y:V}{o:Option V}(I:Inv X pins σ H s) (g:qT H a y o):s.TypeIs (.ref a) "dict":=by
 rcases g with ⟨kvs,k,e,_,_⟩ | ⟨kvs,k,b,e,_,_,_⟩
 ·obtain ⟨_,_,vs,_,dd⟩:=uH I.hok e
  exact dd.typeIs
 ·obtain ⟨_,_,xs,_,dd⟩:=gp I.hok e
  exact dd.typeIs
def U7 (td ty:TE):TE:=fun σ H Q=>td σ H fun x H1=>ty σ H1 fun y H2=>∃ a v,x = .ref a/\qT H2 a y (some v)/\Q v H2
def tDIn (ty td:TE):TE:=fun σ H Q=>ty σ H fun y H1=>td σ H1 fun x H2=>∃ a o,x = .ref a/\qT H2 a y o/\Q (.bl o.isSome) H2
def WJ (td ty tv:TE):TS:=fun D σ H=>tv σ H fun v H1=>td σ H1 fun x H2=>ty σ H2 fun y H3=>∃ a H4,x = .ref a/\kQ H3 a y v H4/\D.nx σ H4
section
variable {X:Cx}{o i e value:Expr}{pos pos' tpos:Pos}{td ty tv:TE}
theorem jH (hu:X.A.units+1<cLine) (ho:PE X o td) (hi:PE X i ty) (hs:WA i):PE X (.Subscript o i pos) (U7 td ty):=by
 intro pins s σ H Q I h
 refine Vu PySem.F.slot_dict_getitem.lookup hs (thn (ho pins s σ H _ I h) fun u s1 ⟨x,H1,I1,rx,q1⟩=>thn (hi pins s1 σ H1 _ I1 q1) fun iv s2 ⟨y,H2,I2,ry,a,v,ex,g,q2⟩=>?_)
 subst ex
 obtain rfl:u=Value.ref a:=rx
 exact ⟨Ql I2 g,Zo hu I2 g ry fun w' s3 I3 rw'=>⟨v,H2,I3,rw',q2⟩⟩
theorem Wa (hu:X.A.units+1<cLine) (hi:PE X i ty) (ho:PE X o td):PC X .In i o (tDIn ty td):=by
 intro pins s σ H Q I h
 refine thn (hi pins s σ H _ I h) fun iv s1 ⟨y,H1,I1,ry,q1⟩=>thn (ho pins s1 σ H1 _ I1 q1) fun u s2 ⟨x,H2,I2,rx,a,ov,ex,g,q2⟩=>?_
 subst ex
 obtain rfl:u=Value.ref a:=rx
 exact d_in hu I2 g ry fun s3 I3=>⟨.bl ov.isSome,H2,I3,rfl,q2⟩
theorem yD (hu:X.A.units+1<cLine) (ho:PE X o td) (hi:PE X i ty) (hv:PE X value tv) (hs:swapsWith value (some (.Subscript o i pos')) pos.line X.env=pure false) :
  PS X (.Assign [.Subscript o i pos'] value pos) (WJ td ty tv):=by
 intro pins s σ H D I h
 refine wpAny_Assign_Subscript (thn (hv pins s σ H _ I h) fun r s1 ⟨v,H1,I1,rv,q1⟩=>thn (ho pins s1 σ H1 _ I1 q1) fun u s2 ⟨x,H2,I2,rx,q2⟩=>thn (hi pins s2 σ H2 _ I2 q2) fun iv s3 ⟨y,H3,I3,ry,a,H4,ex,g,q3⟩=>?_) hs
 subst ex
 obtain rfl:u=Value.ref a:=rx
 exact ZC hu I3 g ry rv fun s4 I4=>⟨σ,H4,I4,q3⟩
end
theorem JQ {P:Program}{w:World}{H:Hp}(h:Heap) (hb:sysModules<h.objs.size):qB P w H (h.push { cls:=.type "dict",data:=.dict #[] }) h.objs.size (.dK []) :=
 ⟨Nat.zero_le _,beq_eq_false_iff_ne.mpr (Ne.symm (Nat.ne_of_lt hb)),[],.nil,Heap.DictOf.new h⟩
def Ue:TE:=fun _ H Q=>∀ p,H p=none->Q (.ref p) (upd H p (.dK []))
section
variable {X:Cx}{pos:Pos}
theorem vK:PE X (.Dict [] [] pos) Ue:=fun pins s σ H Q I h =>
 wpAny_Dict_empty ⟨.ref s.heap.objs.size,_,I.laid (a:=s.heap.objs.size) (o:=.dK []) (t':=s.toks) (fun _ _ q=>Heap.get?_push_of_some _ q) (Nat.le_refl _) (JQ s.heap I.big),rfl,h _ (I.hok.fresh (Nat.le_refl _))⟩
end
def Xg:List (TE×TE)->St->Hp->(List (V×V)->Hp->Prop)->Prop
 | [],_,H,Q=>Q [] H
 | (tk,tv)::r,σ,H,Q=>tk σ H fun x H1=>tv σ H1 fun y H2=>Xg r σ H2 fun ps H3=>Q ((x,y)::ps) H3
abbrev VV:List (V×V)->List (Value×Value)->Prop:=Paired fun p q=>jB p.1 q.1/\jB p.2 q.2
def PPs (X:Cx) (pos:Pos) (keys:List (Option Expr)) (values:List Expr) (trs:List (TE×TE)):Prop :=
 ∀ (pins:List (Addr×Obj)) (s:Shared) (σ:St) (H:Hp) (Q:List (V×V)->Hp->Prop),Inv X pins σ H s->Xg trs σ H Q ->
  wpAny (model X.prog X.w) X.A (evalPairs (pairTrees keys values X.env pos)) (fun vs s'=>∃ ps H',Inv X pins σ H' s'/\VV ps vs/\Q ps H') X.xe s
theorem Vw {X:Cx}{pos:Pos}:PPs X pos [] [] []:=fun pins s σ H Q I h=>pairTrees_nil_walk ⟨[],H,I,.nil,h⟩
theorem wu {X:Cx}{pos:Pos}{k v:Expr}{ks:List (Option Expr)}{vs:List Expr}{tk tv:TE}{trs:List (TE×TE)}(hk:PE X k tk) (hv:PE X v tv) (hr:PPs X pos ks vs trs) :
  PPs X pos (some k::ks) (v::vs) ((tk,tv)::trs):=fun pins s σ H Q I h =>
 pairTrees_cons_walk (thn (hk pins s σ H _ I h) fun u s1 ⟨x,H1,I1,rx,q1⟩=>thn (hv pins s1 σ H1 _ I1 q1) fun w2 s2 ⟨y,H2,I2,ry,q2⟩ =>
  thn (hr pins s2 σ H2 _ I2 q2) fun ws s3 ⟨ps,H3,I3,rel,q3⟩=>⟨(x,y)::ps,H3,I3,.cons ⟨rx,ry⟩ rel,q3⟩)
def x3 (kvs more:List (Key×V)):List (Key×V):=more.foldl (fun acc kv=>qG acc kv.1 kv.2) kvs
theorem KV.merge:∀ {more:List (Key×V)}{rs:List (Key×Value)}{kvs:List (Key×V)}{vs:List (Key×Value)},KV more rs->KV kvs vs->KV (x3 kvs more) (merged vs rs):=by
 intro more rs kvs vs r
 unfold KV at r
 induction r generalizing kvs vs with
 | nil=>intro q;exact q
 | @cons p q ps qs h t ih =>
  intro r0
  have e:KV (qG kvs p.1 p.2) (stored vs q.1 q.2):=by
   have:=r0.put p.1 h.2
   rw [<- h.1];exact this
  exact ih e
theorem zH:∀ (more kvs:List (Key×V)),(x3 kvs more).length<=kvs.length+more.length
 | [],kvs=>by show kvs.length<=kvs.length+0;omega
 | p::r,kvs=>by
  have h1:=zH r (qG kvs p.1 p.2)
  have h2:=ym kvs p.1 p.2
  show (x3 (qG kvs p.1 p.2) r).length<=_
  rw [List.length_cons];omega
theorem wL {P:Program}{w:World}:∀ {kvs:List (Key×V)}{ws:List (Value×Value)},VV (kvs.map fun kv=>(kV kv.1,kv.2)) ws->∃ rs,Carries (jF P w) ws rs/\KV kvs rs
 | [],_,r=>by rw [List.map_nil] at r;cases r;exact ⟨[],True.intro,.nil⟩
 | p::kvs,_,r=>by
  rw [List.map_cons] at r
  cases r with
  | @cons a b as bs h t =>
   obtain ⟨rs,c,q⟩:=wL (P:=P) (w:=w) t
   obtain ⟨b1,b2⟩:=b
   exact ⟨(p.1,b2)::rs,⟨wj h.1,rfl,c⟩,.cons ⟨rfl,h.2⟩ q⟩
def WH (trs:List (TE×TE)):TE:=fun σ H Q=>∀ p,H p=none->Xg trs σ (upd H p (.dK [])) fun ps H2=>H2 p=some (.dK [])/\∃ kvs:List (Key×V),ps=kvs.map (fun kv=>(kV kv.1,kv.2))/\kvs.length<=15/\Q (.ref p) (upd H2 p (.dK (x3 [] kvs)))
theorem VJ {X:Cx}{pos:Pos}{keys:List (Option Expr)}{values:List Expr}{trs:List (TE×TE)}(h:PPs X pos keys values trs) (hall:keys.all (·.isSome)=true) (hl:keys.length=values.length) (h0:keys≠[])
  (h15:keys.length<=15):PE X (.Dict keys values pos) (WH trs):=by
 intro pins s σ H Q I q
 have hn:=I.hok.fresh (Nat.le_refl s.heap.objs.size)
 have I1:=I.laid (a:=s.heap.objs.size) (o:=.dK []) (h':=s.heap.push { cls:=.type "dict",data:=.dict #[] }) (t':=s.toks) (fun _ _ q=>Heap.get?_push_of_some _ q) (Nat.le_refl _) (JQ s.heap I.big)
 refine wpAny_Dict_walk (knd:=jF X.prog X.w) hall hl h0 h15 (thn (h pins _ σ _ _ I1 (q _ hn)) fun ws s2 ⟨ps,H2,I2,rel,e,kvs,ep,lk,q2⟩=>?_)
 subst ep
 obtain ⟨rs,c,rk⟩:=wL (P:=X.prog) (w:=X.w) rel
 obtain ⟨z,hd,vs0,r0,dd⟩:=YC I2.hok e
 cases r0
 refine ⟨rs,c,dd,fun h' dd' hs=>⟨.ref s.heap.objs.size,_,?_,rfl,q2⟩⟩
 have hz:(x3 [] kvs).length<=sizeLine:=by
  have h1:=zH kvs []
  rw [List.length_nil] at h1
  rw [sizeLine_eq];omega
 have he:∃ q,h'.get? s.heap.objs.size=some q:=let ⟨q,_,_,hq,_⟩:=dd';⟨q,hq⟩
 exact Jv I2 (by rw [e];exact True.intro) hs he (Xz hz hd (rk.merge .nil) dd')
structure M2 (X:Cx) (o:Expr) (m:Str) (apos:Pos) (e f:Expr) (cpos:Pos):Prop where
 base:attributeBase o m X.env (eval o X.env)=eval o X.env
 few:((backTo cpos (starEach [e,f] X.env)).all (fun x=>!x.1) && (backToKw cpos (keywordEach [] X.env)).all (fun x=>x.1.isSome)
  && decide (([e,f]:List Expr).length+([]:List Keyword).length+(if ([]:List Keyword).isEmpty then 0 else 1)<30))=true
 line:(apos.endLine == cpos.line)=true
 trees:backTo cpos (starEach [e,f] X.env)=[(false,eval e X.env),(false,eval f X.env)]
def IsD (H:Hp) (a:Addr):Prop:=(∃ kvs,Rd H a (.dK kvs))\/∃ kvs,Rd H a (.dT kvs)
theorem UD {X:Cx}{pins:List (Addr×Obj)}{σ:St}{H:Hp}{s:Shared}{a:Addr}(I:Inv X pins σ H s) (d:IsD H a) :
  s.TypeIs (.ref a) "dict" /\ (∀ b,Value.ref a = .ref b->∃ ob,s.heap.get? b=some ob/\ob.dict=none)/\(a == sysModules)=false:=by
 rcases d with ⟨kvs,e⟩ | ⟨kvs,e⟩
 ·obtain ⟨_,hd,vs,_,dd⟩:=uH I.hok e
  refine ⟨dd.typeIs,fun b q=>?_,hd⟩
  cases q
  obtain ⟨ob,_,_,h1,h2,_⟩:=dd
  exact ⟨ob,h1,h2.2.1⟩
 ·obtain ⟨_,hd,xs,_,dd⟩:=gp I.hok e
  refine ⟨dd.typeIs,fun b q=>?_,hd⟩
  cases q
  obtain ⟨ob,_,_,h1,h2,_⟩:=dd
  exact ⟨ob,h1,h2.2.1⟩
section
variable {X:Cx}{pins:List (Addr×Obj)}{σ:St}{H:Hp}{s:Shared}{a:Addr}{y d:V}{u r:Value}{o:Option V}{A:Around}{E:Value->Shared->Prop}
theorem UA {Q:Value->Shared->Prop}(hu:A.units+1<cLine) (I:Inv X pins σ H s) (g:qT H a y o) (ry:jB y u) (rd:jB d r) (h:∀ w' s',Inv X pins σ H s'->jB (o.getD d) w'->Q w' s') :
  wpAny (model X.prog X.w) A (call (.builtin "dict.get") [.ref a,u,r]) Q E s:=by
 rcases g with ⟨kvs,k,e,ey,l⟩ | ⟨kvs,k,b,e,ey,eb,l⟩
 ·subst ey
  obtain ⟨z,hd,vs,rel,dd⟩:=uH I.hok e
  refine call_meetsIn PySem.F.slot_dict_get dd.typeIs PySem.F.entry_dict_get (PySem.F.args_dict_get_3 _ _ _) (meets_dict_get_default (jF X.prog X.w) a (wj ry) hd r) ⟨_,dd.mapOf,h _ _ (I.tok _) ?_⟩
  rw [l]
  exact (rel.val k).getD rd
 ·subst ey
  cases (show u=Value.ref b from ry)
  obtain ⟨z,hd,xs,rel,dd⟩:=gp I.hok e
  refine call_meetsIn PySem.F.slot_dict_get dd.typeIs PySem.F.entry_dict_get (PySem.F.args_dict_get_3 _ _ _) (meetsH_dict_get_default (tupleKind (jF X.prog X.w)) a b hd r) ⟨tupleKind_room_in1 hu,k,xs,wk I.hok eb,dd,h _ _ (I.tok _) ?_⟩
  rw [l]
  exact (rel.val k).getD rd
end
def Wg (td ty tx:TE):TE:=fun σ H Q=>td σ H fun x H1=>∃ a,x = .ref a/\IsD H1 a/\ty σ H1 fun y H2=>tx σ H2 fun z H3=>∃ o,qT H3 a y o/\Q (o.getD z) H3
section
variable {X:Cx}{o e f:Expr}{apos cpos:Pos}{td ty tx:TE}
theorem JR (hu:X.A.units+1<cLine) (ho:PE X o td) (he:PE X e ty) (hf:PE X f tx) (m:M2 X o "get" apos e f cpos):PE X (.Call (.Attribute o "get" apos) [e,f] [] cpos) (Wg td ty tx):=by
 intro pins s σ H Q I h
 refine wpAny_Call_method m.base m.few m.line PySem.F.plainAttrs_dict PySem.F.slot_dict_get PySem.F.type_dict_get (thn (ho pins s σ H _ I h) fun u s1 ⟨x,H1,I1,rx,a,ex,d,q1⟩=>?_)
 subst ex
 obtain rfl:u=Value.ref a:=rx
 obtain ⟨t1,t2,_⟩:=UD I1 d
 refine ⟨t1,t2,?_⟩
 rw [m.trees]
 refine Calls.callWith_builtin rfl (Calls.evalArgs_plain (Calls.spliced_cons (thn (he pins s1 σ H1 _ I1 q1) fun iv s2 ⟨y,H2,I2,ry,q2⟩ =>
  Calls.spliced_cons (thn (hf pins s2 σ H2 _ I2 q2) fun fv s3 ⟨z,H3,I3,rz,ov,g,q3⟩=>Calls.spliced_nil ?_))))
 exact UA hu I3 g ry rz fun w' s4 I4 rw'=>⟨_,H3,I4,rw',q3⟩
end
section
variable {X:Cx}{pins:List (Addr×Obj)}{σ:St}{H:Hp}{s:Shared}{a:Addr}{kvs:List (Key×V)}{A:Around}{E:Value->Shared->Prop}
end
section
variable {X:Cx}{pins:List (Addr×Obj)}{σ:St}{H:Hp}{s:Shared}{a:Addr}{y:V}{u:Value}{A:Around}{E:Value->Shared->Prop}
end
end L2
namespace Att
open PySem PySem.W PySem.Calls PyProof.Rows
section
variable {prog:Program}{w:World}{A:Around}{E:Value->Shared->Prop}{s:Shared}{K:Frag}
end
end Att
namespace L2
open PySem PySem.Spec PyProof.Rows
end L2
namespace L2
open PySem PySem.Spec PyProof.Rows
end L2
namespace L2
open PySem PySem.Spec PyProof.Rows
section
variable {P:Program}{w:World}{K:PySem.W.Frag}{mg:Str->Option Value}{base:Heap}
end
section
variable {X:Cx}
end
section
variable {κ:Type} [DecidableEq κ]
theorem w9:∀ {l:List κ}{k:κ},l.Nodup->¬ k∈l->(l++[k]).Nodup
 | [],k,_,_=>by simp
 | a::r,k,h,hk=>by
  obtain ⟨h1,h2⟩:=List.nodup_cons.mp h
  show (a::(r++[k])).Nodup
  refine List.nodup_cons.mpr ⟨fun m=>?_,w9 h2 fun m=>hk (List.mem_cons.mpr (Or.inr m))⟩
  rcases List.mem_append.mp m with q | q
  ·exact h1 q
  ·exact hk (List.mem_cons.mpr (Or.inl (List.mem_singleton.mp q).symm))
end
end L2
end
section
namespace L2
open PySem PySem.Spec PySem.W PyProof.Rows
section
variable {prog:Program}{w:World}{A:Around}{E:Value->Shared->Prop}{s:Shared}
theorem JT {its:List Value}{κ:SortKind}{lt:Nat->Nat->Bool}{G:List Nat->Prop}{Q:Value->Shared->Prop}(h64:its.length<64)
  (hk:2<=its.length->∀ h',(∀ b o,s.heap.get? b=some o->h'.get? b=some o)->∀ Q':SortKind->Shared->Prop,Q' κ { s with heap:=h' }->wpAny (model prog w) A.in1.in1 (keyKind' its.toArray) Q' (fun _ _=>False) { s with heap:=h' })
  (hc:∀ h',(∀ b o,s.heap.get? b=some o->h'.get? b=some o)->∀ i j,i<its.length->j<its.length->∀ Q':Bool->Shared->Prop,Q' (lt i j) { s with heap:=h' } ->
   wpAny (model prog w) A.in1.in1 (keyLt' κ (its.getD i Value.none) (its.getD j Value.none)) Q' (fun _ _=>False) { s with heap:=h' })
  (hs:2<=its.length->qX lt its.length (kas_sort its.length) fun p=>qk its.length p/\G p.toList) (h1:its.length<2->G (List.range its.length))
  (h:∀ (ix:List Nat) (h':Heap) (n:Nat),ix.Perm (List.range its.length)->G ix->(∀ b o,s.heap.get? b=some o->h'.get? b=some o) ->
   h'.get? (s.heap.objs.size)=some (seqObj "list" (ix.map fun i=>its.getD i Value.none).toArray n)->Q (.ref (s.heap.objs.size)) { s with heap:=h' }) :
  wpAny (model prog w) A.in1 (newList its >>= fun l=>holding [l] (call (.builtin "list.sort") [l] []) >>= fun _=>ret l) (fun fin s'=>∃ v,fin = .done (.ret v)/\Q v s') E s:=by
 refine wpAny_bind (wpAny_newList ?_ (by rw [sizeLine_eq];omega))
 have ho:(s.heap.push (seqObj "list" its.toArray 0)).get? (s.heap.objs.size)=some (seqObj "list" its.toArray 0):=Heap.get?_push_size _ rfl
 have keep:∀ b o,s.heap.get? b=some o->(s.heap.push (seqObj "list" its.toArray 0)).get? b=some o:=fun b o q=>by
  exact Heap.get?_push_of_some _ q
 show wpAny _ _ _ _ _ { s with heap:=s.heap.push (seqObj "list" its.toArray 0) }
 refine wpAny_bind (wpAny_holding (wpAny_call_entry slot_list_sort ⟨_,ho,rfl⟩ entry_list_sort ?body (args_list_sort _)))
 case body =>
  generalize hh0:s.heap.push (seqObj "list" its.toArray 0)=h0 at ho keep
  generalize ha:s.heap.objs.size=a at ho h
  have aNew:∀ b o,s.heap.get? b=some o->b≠a:=fun b o q=>by have:=Heap.lt_size q;rw [<- ha];exact Nat.ne_of_lt this
  show wpAny (model prog w) A.in1.in1 (Builtin.«list.sort» ⟨[.ref a],[]⟩) _ _ { s with heap:=h0 }
  rw [list_sort_plain]
  have hal:a<h0.objs.size:=Heap.lt_size ho
  refine wpAny_bind (listItems_at ho rfl ?_)
  refine wpAny_bind (listUpdate_at ho rfl ?_ (by rw [List.size_toArray,sizeLine_eq];omega) (Nat.zero_le _))
  obtain ⟨e1,ho1⟩:∃ e1,(h0.update a (Obj.mapSeq fun _=>(#[]:Array Value))).get? a=some (seqObj "list" #[] e1):=⟨_,get?_update_seq ho (fun _=>#[])⟩
  refine wpAny_bind (seqEpoch_at ho1 rfl ?_)
  refine wpAny_bind (wpAny_newTuple ?_ (by show its.length<=_;rw [sizeLine_eq];omega))
  refine wpAny_bind (wpAny_newList ?_ (Nat.zero_le _))
  refine wpAny_holding ?_
  have ho6:(((h0.update a (Obj.mapSeq fun _=>(#[]:Array Value))).push (seqObj "tuple" its.toArray 0)).push (seqObj "list" #[] 0)).get? a=some (seqObj "list" #[] e1):=by
   rw [Heap.get?_push_ne _ _ _ (by rw [size_push',Heap.size_update];exact Nat.ne_of_lt (Nat.lt_succ_of_lt hal)),Heap.get?_push_ne _ _ _ (by rw [Heap.size_update];exact Nat.ne_of_lt hal)]
   exact ho1
  have keep6:∀ b o,s.heap.get? b=some o->(((h0.update a (Obj.mapSeq fun _=>(#[]:Array Value))).push (seqObj "tuple" its.toArray 0)).push (seqObj "list" #[] 0)).get? b=some o:=fun b o q =>
   Heap.get?_push_of_some _ (Heap.get?_push_of_some _ ((Heap.get?_update_ne _ _ _ _ (aNew b o q)).trans (keep b o q)))
  show wpAny (model prog w) A.in1.in1 _ _ _ { s with heap:=((h0.update a (Obj.mapSeq fun _=>(#[]:Array Value))).push (seqObj "tuple" its.toArray 0)).push (seqObj "list" #[] 0) }
  generalize ((h0.update a (Obj.mapSeq fun _=>(#[]:Array Value))).push (seqObj "tuple" its.toArray 0)).push (seqObj "list" #[] 0)=h6 at ho6 keep6
  dsimp only
  have fin:∀ (ix:List Nat),ix.Perm (List.range its.length)->G ix->∀ out:Array Value,out=(ix.map fun i=>its.getD i Value.none).toArray ->
    ∃ v,PySem.Fin.done (Flow.ret Value.none) = .done (.ret v)/\wpAny (model prog w) A.in1 (do let _ <- pure v;ret (Value.ref a)) (fun fin s'=>∃ v,fin = .done (.ret v)/\Q v s') E { s with heap:=h6.update a (Obj.mapSeq fun _=>out) }:=fun ix hp hg out ho'=>by
   refine ⟨_,rfl,wpAny_bind (wpAny_pure (wpAny_pure ⟨_,rfl,?_⟩))⟩
   subst ho'
   exact h ix _ _ hp hg (fun b o q=>(Heap.get?_update_ne _ _ _ _ (aNew b o q)).trans (keep6 b o q)) (get?_update_seq ho6 fun _=>_)
  by_cases h2:its.toArray.size<2
  ·rw [if_pos h2,if_pos h2]
   refine wpAny_bind (wpAny_pure ?_)
   rw [StateT.run_pure]
   refine wpAny_bind (wpAny_pure ?_)
   dsimp only
   refine wpAny_bind (seqEpoch_at ho6 rfl ?_)
   rw [vD]
   refine wpAny_bind (listUpdate_at ho6 rfl ?_ (Nat.zero_le _) (by rw [List.size_toArray,sizeLine_eq];omega))
   simp only [bne_self_eq_false,Bool.false_eq_true,if_false]
   rw [List.size_toArray] at h2
   exact wpAny_pure (fin _ (List.Perm.refl _) (h1 h2) _ (by rw [vv]))
  ·rw [if_neg h2,if_neg h2]
   rw [List.size_toArray] at h2
   refine wpAny_bind (wpAny_mono (hk (by omega) h6 keep6 (fun κ' s'=>κ'=κ/\s'={ s with heap:=h6 }) ⟨rfl,rfl⟩) (fun κ' s' q=>?_) fun _ _ x=>x.elim)
   obtain ⟨rfl,rfl⟩:=q
   refine wpAny_bind (wpAny_mono (kat_run (ks:=its) (vs:=its) (κ:=κ') (G:=fun p s'=>(qk its.length p/\G p.toList)/\s'={ s with heap:=h6 }) (Q:=fun st' s'=>∃ p:Array Nat,arrOf st'=p.map (kas_item (its.toArray.zip its.toArray))/\failedOf st'=none/\(qk its.length p/\G p.toList)/\s'={ s with heap:=h6 })
    rfl (by omega) h64 (fun p st' s' a1 a2 a3 a4=>⟨p,a2,a3,a4⟩) (qX.wp (I:=fun s'=>s'={ s with heap:=h6 }) (fun i j C s' hi hj hI hC=>?_) (fun p s' hp hI=>⟨hp,hI⟩) (hs (by omega)) rfl)) ?_ fun _ _ e=>e)
   ·subst hI
    exact hc h6 keep6 i j hi hj C (hC _ rfl)
   ·rintro ⟨⟨⟩,st'⟩ s' ⟨p,har,hf,⟨hP,hG⟩,rfl⟩
    dsimp only
    have hout:=kat_snds (ks:=its) (vs:=its) rfl har
    have hz:(List.toArray (p.toList.map fun i=>its.getD i Value.none)).size=its.length:=by rw [List.size_toArray,List.length_map,Array.length_toList,hP.size]
    rw [hout]
    refine wpAny_bind (seqEpoch_at ho6 rfl ?_)
    refine wpAny_bind (listUpdate_at ho6 rfl ?_ (Nat.zero_le _) (by rw [hz,sizeLine_eq];omega))
    rw [hf]
    simp only [bne_self_eq_false,Bool.false_eq_true,if_false]
    exact wpAny_pure (fin p.toList (by have:=Array.perm_iff_toList_perm.mp hP;simpa using this) hG _ rfl)
theorem QG {v:Value}{Q:Value->Shared->Prop}(hcol:wpAny (model prog w) A.in1 (collect v) (fun its s1=>wpAny (model prog w) A.in1 (newList its >>= fun l=>holding [l] (call (.builtin "list.sort") [l] []) >>= fun _=>ret l) (fun fin s'=>∃ v,fin = .done (.ret v)/\Q v s') E s1) E s) :
  wpAny (model prog w) A (call (.builtin "sorted") [v]) Q E s:=by
 refine Calls.call_function_entry kind_sorted plain_sorted entry_sorted (args_sorted1 _) ?_
 unfold Builtin.«sorted»
 refine wpAny_bind (m:=checkCount "sorted" 1 1 _) (wpAny_pure ?_)
 exact wpAny_bind hcol
end
section
variable {X:Cx}
theorem Inv.laidN {pins:List (Addr×Obj)}{σ:St}{H:Hp}{s:Shared}{h':Heap}{a:Addr}{o:HO}{t':Nat}(I:Inv X pins σ H s) (k:∀ b u,s.heap.get? b=some u->h'.get? b=some u) (hn:s.heap.get? a=none) (new:H a=none->qB X.prog X.w (upd H a o) h' a o):H a=none/\Inv X pins σ (upd H a o) { s with heap:=h',toks:=t' }:=by
 have hH:H a=none:=by
  cases q:H a with
  | none=>rfl
  | some u =>
   obtain ⟨ob,e⟩:=kD (I.hok a u q)
   rw [hn] at e
   cases e
 have ne:∀ {b u},s.heap.get? b=some u->b≠a:=fun e z=>by rw [z,hn] at e;cases e
 refine ⟨hH,I.un ⟨fun b u q _ _ _=>k b u q,fun b u q _ _ _=>⟨u.slots,k b u q⟩,fun b u q n _=>by rw [j8 (ne q)];exact n,fun b u q _=>⟨u,k b u q⟩,fun b xs q=>by rw [j8 (j1 q hH)];exact q,fun b u xs q=>by rw [j8 (j1 q hH)];exact q,fun b ps q=>⟨#[],by rw [j8 (j1 q hH),q];simp⟩⟩ fun b u e=>?_⟩
 by_cases hb:b=a
 ·subst hb;rw [j7] at e;cases e;exact new hH
 ·rw [j8 hb] at e
  exact (I.hok b u e).stay (fun c v _ q=>k c v q) (fun c q=>by rw [j8 (j1 q hH)];exact q) fun c xs q=>by rw [j8 (j1 q hH)];exact q
theorem Jq (K:PySem.W.Frag) (hca:X.calm=true) (hK:X.K=K:=by rfl):x5 X (.builtin "sorted") (fun xs H Q=>∃ (p:Addr) (kvs:List (Key×V)) (ns:List Int),xs=[.ref p]/\H p=some (.dK kvs)/\kvs.map (·.1)=ns.map Sum.inl/\ns.length<64 /\
  ∀ (l:Addr) H' (ns':List Int),H l=none->H' l=some (.lst (ns'.map V.int))->ji H H'->ns'.Perm ns->ns'.Pairwise (· <= ·)->Q (.ref l) H'):=by
 subst hK
 intro pins s σ H xs us Q I r h
 obtain ⟨p,kvs,ns,rfl,hp0,hks,h64,k⟩:=h
 obtain ⟨u,rfl,ru⟩:=yo r
 cases ru
 obtain ⟨hz,lo,vs,kv,dd⟩:=YC I.hok hp0
 obtain ⟨ep,hat⟩:=dd.dictAt
 have hvl:vs.length=ns.length:=by
  have e1:kvs.length=vs.length:=Paired.length kv
  have e2:=congrArg List.length hks
  rw [List.length_map,List.length_map] at e2
  omega
 refine QG (kdu_collect (kdl_dict (knd:=jF X.prog X.w) (kvs:=vs) (ep:=ep) lo) (I.ok.hd hca) hat (Nat.le_of_lt (jm (by omega))) fun h1 tk acc hk1 hacc=>?_)
 have hal:acc.toList.length=ns.length:=by rw [Array.length_toList,hacc.1,hvl]
 have item:∀ i,i<acc.toList.length->∃ t,acc.toList.getD i Value.none = .int (ns.getD i 0) t:=fun i hi=>by
  have hi2:i<acc.size:=by rw [Array.length_toList] at hi;exact hi
  obtain ⟨key,x,hx,his⟩:=hacc.2 i acc[i] (Array.getElem?_eq_getElem hi2)
  have hi3:i<kvs.length:=by
   have e1:kvs.length=vs.length:=Paired.length kv
   omega
  obtain ⟨q,hq,e1,_⟩:=Paired.get kv (List.getElem?_eq_getElem hi3)
  rw [hx] at hq
  cases hq
  have e2:(kvs.map (·.1))[i]? = some key:=by rw [List.getElem?_map,List.getElem?_eq_getElem hi3];exact congrArg some e1
  have hin:i<ns.length:=by omega
  rw [hks,List.getElem?_map,List.getElem?_eq_getElem hin] at e2
  cases e2
  obtain ⟨t,et⟩:=Value.isInt_shape his
  refine ⟨t,?_⟩
  rw [List.getD_eq_getElem?_getD,Array.getElem?_toList,Array.getElem?_eq_getElem hi2,et,List.getD_eq_getElem?_getD,List.getElem?_eq_getElem hin]
  rfl
 generalize acc.toList=its at hal item
 refine JT (s:={ s with heap:=h1,toks:=tk }) (κ:=oneType') (lt:=ltK Vc fun i=>ns.getD i 0) (G:=fun ix=>(ix.map fun i=>ns.getD i 0).Pairwise Vc.kle) (by omega) (fun h2 h' hk' Q' q=>?_) (fun h' hk' i j hi hj Q' q=>?_) (fun h2=>?_) (fun h1=>?_) fun ix h' n hp hg hk' hn=>?_
 ·refine kas_kind (T:=.type "int") h2 (fun v hv=>?_) rfl rfl q
  obtain ⟨i,hi,rfl⟩:=List.mem_iff_getElem.mp hv
  obtain ⟨t,e1⟩:=item i hi
  have e3:its[i] = .int (ns.getD i 0) t:=by rw [<- e1];simp [hi]
  rw [e3]
  exact Looks.of_pure rfl
 ·obtain ⟨t,e1⟩:=item i hi
  obtain ⟨u,e2⟩:=item j hj
  rw [e1,e2]
  exact kat_lt_int q
 ·exact wM (by omega) fun p' hP hS=>⟨hP,hS.pairwise hP.size⟩
 ·have hcase:its.length=0\/its.length=1:=by omega
  rcases hcase with z | z
  ·rw [z];exact List.Pairwise.nil
  ·rw [z];exact List.pairwise_singleton _ _
 ·have hn0:s.heap.get? h1.objs.size=none:=by
   cases q:s.heap.get? h1.objs.size with
   | none=>rfl
   | some u=>exact absurd (Heap.lt_size (hk1 _ _ q)) (Nat.lt_irrefl _)
  have hv:jC ((ix.map fun i=>ns.getD i 0).map V.int) (ix.map fun i=>its.getD i Value.none):=by
   have hb:∀ i∈ix,i<its.length:=fun i hi=>by have:=hp.mem_iff.mp hi;simpa using this
   clear hp hg hn
   induction ix with
   | nil=>exact .nil
   | cons i ix ih =>
    obtain ⟨t,e⟩:=item i (hb i List.mem_cons_self)
    exact .cons ⟨t,e⟩ (ih fun j hj=>hb j (List.mem_cons_of_mem _ hj))
  have hns:((List.range its.length).map fun i=>ns.getD i 0)=ns:=by
   apply List.ext_getElem
   ·simp [hal]
   ·intro i h1 h2
    simp [h2]
  have hsz:((ix.map fun i=>ns.getD i 0).map V.int).length<=sizeLine:=by
   rw [List.length_map,List.length_map,hp.length_eq,List.length_range]
   exact Nat.le_trans (by omega:its.length<=1000) (by decide)
  obtain ⟨hf,J⟩:=Inv.laidN (o:=.lst ((ix.map fun i=>ns.getD i 0).map V.int)) (t':=tk) I (fun b o e=>hk' b o (hk1 b o e)) hn0 fun _=>⟨hsz,_,n,hv,hn⟩
  refine ⟨.ref _,upd H h1.objs.size (.lst ((ix.map fun i=>ns.getD i 0).map V.int)),J,rfl,k _ _ _ hf j7 (ji.new hf) ?_ ?_⟩
  ·have:=hp.map fun i=>ns.getD i 0
   rw [hns] at this
   exact this
  ·exact List.Pairwise.imp (R:=Vc.kle) (fun {a b} z=>YQ z) hg
end
end L2
end
section
namespace L2
open PySem PySem.Spec PySem.W PyProof.Rows
theorem Inv.freeze {X:Cx}{pins:List (Addr×Obj)}{σ:St}{H:Hp}{s:Shared}{a:Addr}{o:Obj}{kvs:List (Key×V)}(I:Inv X pins σ H s) (e:H a=some (.dK kvs)) (ho:s.heap.get? a=some o):Inv X pins σ (upd H a (.frz o (.dK kvs))) s:=by
 refine I.un (t':=s.toks) ⟨fun b u q _ _ _=>q,fun b u q _ _ _=>⟨u.slots,q⟩,fun b u q n _=>?_,fun b u q _=>⟨u,q⟩,fun b xs q=>?_,fun b u xs q=>?_,fun b ps q=>⟨#[],?_⟩⟩ fun b u q=>?_
 ·rw [j8 (fun z=>by rw [z,e] at n;cases n)];exact n
 ·rw [j8 (jr q e (by intro z;cases z))];exact q
 ·rw [j8 (jr q e (by intro z;cases z))];exact q
 ·rw [j8 (jr q e (by intro z;cases z)),q];simp
 ·by_cases hb:b=a
  ·subst hb
   rw [j7] at q
   cases q
   exact ⟨ho,I.hok _ _ e⟩
  ·rw [j8 hb] at q
   exact (I.hok b u q).stay (fun c v _ q=>q) (fun c q=>by rw [j8 (jr q e (by intro z;cases z))];exact q) fun c xs q=>by rw [j8 (jr q e (by intro z;cases z))];exact q
def Itd (a:Addr) (o:Obj) (kvs:List (Key×V)):It :=
 ⟨fun i H=>H a=some (.frz o (.dK kvs))/\i<kvs.length,fun i H x H'=>H'=H/\∃ q,kvs[i]? = some q/\x=kV q.1,fun i H=>H a=some (.frz o (.dK kvs))/\kvs.length<=i⟩
theorem relK {P:Program}{w:World}{k:Key}{v:Value}(h:(jF P w).is k v=true):jB (kV k) v:=by
 cases k with
 | inl i=>exact Value.isInt_shape h
 | inr x=>exact Value.isStrOf_shape h
theorem Zh {P:Program}{w:World}{K:PySem.W.Frag}{tg:Expr}{a it:Addr}{o:Obj}{kvs:List (Key×V)}{vs:List (Key×Value)}{ep:Nat}(kv:KV kvs vs) (HD:∀ h:Heap,h.get? a=some o->h.DictAt (jF P w) a vs ep):Turn P w K tg (Itd a o kvs) [it] it (fun i h=>h.IsKeyIter it a i vs.length ep) where
 mem:=by simp
 obj:=fun i h st b hb=>by
  have e:b=it:=by simpa using hb
  subst e
  obtain ⟨o,e,c,d⟩:=st
  exact ⟨o,e,fun v z=>by rw [d] at z;cases z⟩
 keep:=fun i h h' st k=>st.at fun o e=>k it (by simp) o e
 item:=by
  intro X hP hw hK hc i pins s σ H E I hf st hg
  subst hP hw hK
  obtain ⟨hq,hi⟩:=hg
  have hat:=HD s.heap (I.hok _ _ hq).1
  have hl:kvs.length=vs.length:=Paired.length kv
  obtain ⟨f0,f1,f2,f3,f4,f5⟩:=hf it (by simp)
  obtain ⟨⟨k,x⟩,hx,ek,_⟩:=Paired.get kv (List.getElem?_eq_getElem hi)
  refine wpAny_pyNext_dict_item st hat hx fun key h' hkey st' sb=>?_
  have I1:Inv X pins σ H { s with heap:=h' }:=I.turned (t':=s.toks) (fun b o hb e=>(sb.2 b hb).trans e) f0 f1 f3 f4 f5
  obtain ⟨ob,e,c,d⟩:=id st'
  exact ⟨key,rfl,kW (s:={ s with heap:=h' }) e c d (by decide) ⟨kV k,H,I1,relK hkey,⟨rfl,_,List.getElem?_eq_getElem hi,by rw [show (kvs[i]'hi).1=k from ek]⟩,st',fun b hb=>(hf b hb).1⟩⟩
 done:=by
  intro X hP hw hK hc i pins s σ H E I hf st hg
  subst hP hw hK
  obtain ⟨hq,hi⟩:=hg
  have hat:=HD s.heap (I.hok _ _ hq).1
  have hl:kvs.length=vs.length:=Paired.length kv
  obtain ⟨f0,f1,f2,f3,f4,f5⟩:=hf it (by simp)
  exact wpAny_pyNext_dict_end (I.ok.hd hc) st hat (by simp;omega) fun h' eb=>⟨rfl,I.turned (t':=s.toks) (fun b o hb e=>eb b o hb e) f0 f1 f3 f4 f5⟩
 self:=fun _ _ _ _ _ st h=>wpAny_pyIter_keyiter st h
def iDic (td:TE):TI:=fun σ H R=>td σ H fun x H1=>∃ a kvs,x = .ref a/\((H1 a=some (.dK kvs)/\∀ o,R (Itd a o kvs) (upd H1 a (.frz o (.dK kvs))))\/∃ o,H1 a=some (.frz o (.dK kvs))/\R (Itd a o kvs) H1)
theorem Jo {X:Cx}{tg l:Expr}{td:TE}(hl:PE X l td):PI X tg l (iDic td):=by
 intro pins s σ H R I h
 refine thn (hl pins s σ H _ I h) fun v s1 ⟨x,H1,I1,r1,a,kvs,e,q⟩=>?_
 subst e
 cases r1
 have main:∀ {H2:Hp} {o:Obj},Inv X pins σ H2 s1->H2 a=some (.frz o (.dK kvs))->R (Itd a o kvs) H2->wpAny (model X.prog X.w) X.A (pyIter (.ref a)) (PIE X pins σ tg R) X.xe s1:=fun {H2 o} I2 e2 q2=>by
  have ho:=(I2.hok _ _ e2).1
  obtain ⟨hz,lo,vs,kv,dd⟩:=uH I2.hok (.inr ⟨o,e2⟩)
  obtain ⟨ep,ob,es,h1,hrest⟩:=dd.dictAt
  rw [ho] at h1
  cases h1
  have HD:∀ h:Heap,h.get? a=some o->h.DictAt (jF X.prog X.w) a vs ep:=fun h e=>⟨o,es,e,hrest⟩
  refine wpAny_pyIter_dict lo (HD _ ho) ?_
  refine ⟨s1.heap.objs.size,[s1.heap.objs.size],_,_,H2,rfl,I2.kept (t':=s1.toks) fun b o e=>Heap.get?_push_of_some _ e,Zh kv HD,⟨_,Heap.get?_push_size _ rfl,rfl,rfl⟩,fun b hb=>?_,q2⟩
  have e:b=s1.heap.objs.size:=by simpa using hb
  subst e
  exact I2.fpOk (Nat.le_refl _) (I2.hok.fresh (Nat.le_refl _))
 rcases q with ⟨e1,q1⟩ | ⟨o,e1,q1⟩
 ·obtain ⟨hz,lo,vs,kv,dd⟩:=uH I1.hok (.inl e1)
  obtain ⟨ep,ob,es,h1,hrest⟩:=dd.dictAt
  exact main (I1.freeze e1 h1) j7 (q1 ob)
 ·exact main I1 e1 q1
theorem Qc {a:Addr}{o:Obj}{kvs:List (Key×V)}{g:TG}{tb:TS}{D:Ends}{σ:St}{H:Hp}(Pv:Nat->St->Hp->Prop) (h0:Pv 0 σ H) (hl:∀ i σ H,i<=kvs.length->Pv i σ H->H a=some (.frz o (.dK kvs)))
  (hs:∀ i q σ H,kvs[i]? = some q->Pv i σ H->g (kV q.1) σ H fun σ2 H2=>tb { D with nx:=Pv (i+1),ct:=Pv (i+1),bk:=D.nx } σ2 H2) (hd:∀ σ H,Pv kvs.length σ H->D.nx σ H) :
  ∃ W:Nat->Nat->St->Hp->Prop,(∃ m,W 0 m σ H)/\∀ i m σ H,W i m σ H ->
   ((Itd a o kvs).stop i H/\D.nx σ H)\/((Itd a o kvs).go i H/\∃ N:St->Hp->Prop,(∀ σ' H',N σ' H'->∃ m',m'<m/\W (i+1) m' σ' H')/\∀ x H',(Itd a o kvs).yld i H x H'->g x σ H' fun σ2 H2=>tb { D with nx:=N,ct:=N,bk:=D.nx } σ2 H2):=by
 refine ⟨fun i m σ H=>m=kvs.length-i/\i<=kvs.length/\Pv i σ H,⟨kvs.length,by simp,Nat.zero_le _,h0⟩,?_⟩
 rintro i m σ H ⟨rfl,hi,p⟩
 have q:=hl i σ H hi p
 by_cases hlt:i<kvs.length
 ·refine .inr ⟨⟨q,hlt⟩,Pv (i+1),fun σ' H' p'=>⟨kvs.length-(i+1),by omega,rfl,hlt,p'⟩,fun x H' y=>?_⟩
  obtain ⟨e,z,hz,ex⟩:=y
  subst e ex
  exact hs i z σ _ hz p
 ·obtain rfl:i=kvs.length:=by omega
  exact .inl ⟨⟨q,Nat.le_refl _⟩,hd σ H p⟩
theorem ZL {a acc:Addr}{o:Obj}{kvs:List (Key×V)}{g:TG}{ti:TT}{te:TE}{R:Hp->Prop}{σ:St}{H:Hp}(Pv:Nat->St->Hp->Prop) (h0:Pv 0 σ H) (hl:∀ i σ H,i<=kvs.length->Pv i σ H->H a=some (.frz o (.dK kvs)))
  (hs:∀ i q σ H,kvs[i]? = some q->Pv i σ H->g (kV q.1) σ H fun σ3 H3=>ti σ3 H3 fun ok H4=>if ok=true then te σ3 H4 fun v H5=>∃ ys,H5 acc=some (.lst ys)/\ys.length<sizeLine/\Pv (i+1) σ3 (upd H5 acc (.lst (ys++[v]))) else Pv (i+1) σ3 H4)
  (hd:∀ σ H,Pv kvs.length σ H->R H) :
  ∃ W:Nat->Nat->St->Hp->Prop,(∃ m,W 0 m σ H)/\∀ i m σ' H',W i m σ' H' ->
   ((Itd a o kvs).stop i H'/\R H')\/((Itd a o kvs).go i H'/\∃ NX:St->Hp->Prop,(∀ σ2 H2,NX σ2 H2->∃ m',m'<m/\W (i+1) m' σ2 H2) /\
    ∀ x H2,(Itd a o kvs).yld i H' x H2->g x σ' H2 fun σ3 H3=>ti σ3 H3 fun ok H4=>if ok=true then te σ3 H4 fun v H5=>∃ ys,H5 acc=some (.lst ys)/\ys.length<sizeLine/\NX σ3 (upd H5 acc (.lst (ys++[v]))) else NX σ3 H4):=by
 refine ⟨fun i m σ H=>m=kvs.length-i/\i<=kvs.length/\Pv i σ H,⟨kvs.length,by simp,Nat.zero_le _,h0⟩,?_⟩
 rintro i m σ H ⟨rfl,hi,p⟩
 have q:=hl i σ H hi p
 by_cases hlt:i<kvs.length
 ·refine .inr ⟨⟨q,hlt⟩,Pv (i+1),fun σ' H' p'=>⟨kvs.length-(i+1),by omega,rfl,hlt,p'⟩,fun x H' y=>?_⟩
  obtain ⟨e,z,hz,ex⟩:=y
  subst e ex
  exact hs i z σ _ hz p
 ·obtain rfl:i=kvs.length:=by omega
  exact .inl ⟨⟨q,Nat.le_refl _⟩,hd σ H p⟩
end L2
end
section
namespace L2
open PySem PySem.Spec PySem.W PyProof.Rows
theorem Zn {P:Program}{w:World}{K:PySem.W.Frag}{tg:Expr}(it:Addr) (lo:Int) (n:Nat):Turn P w K tg (Itr lo n) [it] it (fun i h=>IsLongIter h it (lo+(i:Nat)*1) ((n:Int)-(i:Nat)) 1) where
 mem:=by simp
 obj:=fun i h st b hb=>by
  have e:b=it:=by simpa using hb
  subst e
  exact ⟨_,st,fun v z=>by
   have z':Data.fields _=Data.cell v:=z
   cases z'⟩
 keep:=fun i h h' st k=>k it (by simp) _ st
 item:=by
  intro X hP hw hK hc i pins s σ H E I hf st hg
  subst hP hw hK
  obtain ⟨f0,f1,f2,f3,f4,f5⟩:=hf it (by simp)
  have W:=Walks.longrange (prog:=X.prog) (w:=X.w) (I.ok.hd hc) it lo 1 n
  refine W.item i s _ _ hg st fun v h' tk hv st' kk=>?_
  obtain ⟨t,rfl⟩:=hv
  have I1:Inv X pins σ H { s with heap:=h',toks:=tk }:=I.turned (fun b o hb e=>kk b o (by simpa using hb) e) f0 f1 f3 f4 f5
  refine ⟨_,rfl,kW (s:={ s with heap:=h',toks:=tk }) (n:="longrange_iterator") st' rfl rfl (by decide) ⟨.int (lo+i),H,I1,⟨t,?_⟩,⟨rfl,rfl⟩,st',fun b hb=>(hf b hb).1⟩⟩
  rw [Int.mul_one]
 done:=by
  intro X hP hw hK hc i pins s σ H E I hf st hg
  subst hP hw hK
  obtain ⟨f0,f1,f2,f3,f4,f5⟩:=hf it (by simp)
  exact wpAny_pyNext_long_end (I.ok.hd hc) st (by have:n<=i:=hg;omega) fun h' eb=>⟨rfl,I.turned (t':=s.toks) (fun b o hb e=>eb b o hb e) f0 f1 f3 f4 f5⟩
 self:=fun _ _ _ _ _ st h=>wpAny_pyIter_longiter st h
section
variable {X:Cx}{tg:Expr}
theorem ZY {pins:List (Addr×Obj)}{σ:St}{H:Hp}{s:Shared}{R:It->Hp->Prop}{E:Value->Shared->Prop}{lo hi:Int}{t u v:Tok}{tk:Nat}(I:Inv X pins σ H s)
  (q:R (Itr lo (hi-lo).toNat) H):wpAny (model X.prog X.w) X.A (pyIter (.ref s.heap.objs.size)) (PIE X pins σ tg R) E { s with heap:=s.heap.push { cls:=.type "range",data:=.fields #[.int lo t,.int hi u,.int 1 v] },toks:=tk }:=by
 have I1:Inv X pins σ H { s with heap:=s.heap.push { cls:=.type "range",data:=.fields #[.int lo t,.int hi u,.int 1 v] },toks:=tk }:=I.kept fun b o e=>Heap.get?_push_of_some _ e
 have e1:lo+((0:Nat):Int)*1=lo:=by simp
 have e2:(((hi-lo).toNat:Nat):Int)-((0:Nat):Int)=Builtin.Range.rangeSize lo hi 1:=by rw [rangeSize_one];split <;> omega
 have fp:∀ b∈[(s.heap.push { cls:=.type "range",data:=.fields #[.int lo t,.int hi u,.int 1 v] }).objs.size],_:=fun b hb=>by
  have e:b=(s.heap.push { cls:=.type "range",data:=.fields #[.int lo t,.int hi u,.int 1 v] }).objs.size:=by simpa using hb
  subst e
  exact I1.fpOk (Nat.le_refl _) (I1.hok.fresh (Nat.le_refl _))
 by_cases sm:Builtin.Range.small lo hi 1=true
 ·refine wpAny_pyIter_range (IsRange.new ..) sm ?_
  refine ⟨(s.heap.push { cls:=.type "range",data:=.fields #[.int lo t,.int hi u,.int 1 v] }).objs.size,[(s.heap.push { cls:=.type "range",data:=.fields #[.int lo t,.int hi u,.int 1 v] }).objs.size],_,_,H,rfl,
   I1.kept (t':=tk) fun b o e=>Heap.get?_push_of_some _ e,wV _ lo (hi-lo).toNat,?_,fp,q⟩
  show IsRangeIter _ _ (lo+((0:Nat):Int)*1) ((((hi-lo).toNat:Nat):Int)-((0:Nat):Int)) 1
  rw [e1,e2]
  exact Heap.get?_push_size _ rfl
 ·refine wpAny_pyIter_longrange (IsRange.new ..) (by simpa using sm) ?_
  refine ⟨(s.heap.push { cls:=.type "range",data:=.fields #[.int lo t,.int hi u,.int 1 v] }).objs.size,[(s.heap.push { cls:=.type "range",data:=.fields #[.int lo t,.int hi u,.int 1 v] }).objs.size],_,_,H,rfl,
   I1.kept (t':=tk) fun b o e=>Heap.get?_push_of_some _ e,Zn _ lo (hi-lo).toNat,?_,fp,q⟩
  show IsLongIter _ _ (lo+((0:Nat):Int)*1) ((((hi-lo).toNat:Nat):Int)-((0:Nat):Int)) 1
  rw [e1,e2]
  exact Heap.get?_push_size _ rfl
def Wv (ta:TA):TI:=fun σ H R=>ta σ H fun vs H1=>∃ i j:Int,vs=[.int i,.int j]/\R (Itr i (j-i).toNat) H1
theorem gQ {a b:Expr}{ta:TA}{p pos:Pos}(hg:Gl X "range") (hm:X.mg "range" = none) (ha:PA X [a,b] ta) (hs:starEach [a,b] X.env=[(false,eval a X.env),(false,eval b X.env)]:=by rfl) (hs2:starEach [b] X.env=[(false,eval b X.env)]:=by rfl) :
  PI X tg (.Call (.Name "range" p) [a,b] [] pos) (Wv ta):=by
 intro pins s σ H R I h
 refine Call_ (yu I hg hm boot_range (PyProof.Rows.callWith_type1 (thn (ha pos pins s σ H _ I h) fun us s1 ⟨vs,H1,I1,r1,q1⟩=>?_) (by rw [hs,hs2]) (by rw [hs2];rfl)))
 obtain ⟨i,j,e,q⟩:=q1
 subst e
 cases r1 with
 | cons r rr =>
  cases rr with
  | cons r' rr =>
   cases rr
   obtain ⟨t,rfl⟩:=r
   obtain ⟨t',rfl⟩:=r'
   exact call_range_2 (ZY I1 q)
end
end L2
end
section
namespace L2
open PySem PySem.Spec PySem.W PyProof.Rows
def Fz (a:Addr) (kvs:List (Key×V)) (o:Obj) (H H4:Hp):Prop:=H4 a=some (.frz o (.dK kvs))/\(H4=H\/(H a=some (.dK kvs)/\H4=upd H a (.frz o (.dK kvs))))
theorem Fz.at {a:Addr}{kvs:List (Key×V)}{o:Obj}{H H4:Hp}(f:Fz a kvs o H H4) {c:Addr}{u:HO}(h:H c=some u) (n:c≠a):H4 c=some u:=by
 rcases f.2 with rfl | ⟨_,rfl⟩
 ·exact h
 ·rw [j8 n];exact h
theorem gm {a:Addr}{kvs:List (Key×V)}{g:TG}{tb:TS}{D:Ends}{σ:St}{H:Hp}(h:Rd H a (.dK kvs)) (Pv:Obj->Nat->St->Hp->Prop) (h0:∀ o H4,Fz a kvs o H H4->Pv o 0 σ H4) (hl:∀ o i σ H,i<=kvs.length->Pv o i σ H->H a=some (.frz o (.dK kvs)))
  (hs:∀ o i q σ H,kvs[i]? = some q->Pv o i σ H->g (kV q.1) σ H fun σ2 H2=>tb { D with nx:=Pv o (i+1),ct:=Pv o (i+1),bk:=D.nx } σ2 H2) (hd:∀ o σ H,Pv o kvs.length σ H->D.nx σ H) :
  ∃ a' kvs',V.ref a = .ref a'/\((H a'=some (.dK kvs')/\∀ o,∃ W:Nat->Nat->St->Hp->Prop,(∃ m,W 0 m σ (upd H a' (.frz o (.dK kvs'))))/\∀ i m σ H,W i m σ H ->
   ((Itd a' o kvs').stop i H/\D.nx σ H)\/((Itd a' o kvs').go i H/\∃ N:St->Hp->Prop,(∀ σ' H',N σ' H'->∃ m',m'<m/\W (i+1) m' σ' H')/\∀ x H',(Itd a' o kvs').yld i H x H'->g x σ H' fun σ2 H2=>tb { D with nx:=N,ct:=N,bk:=D.nx } σ2 H2)) \/
   ∃ o,H a'=some (.frz o (.dK kvs'))/\∃ W:Nat->Nat->St->Hp->Prop,(∃ m,W 0 m σ H)/\∀ i m σ H,W i m σ H ->
   ((Itd a' o kvs').stop i H/\D.nx σ H)\/((Itd a' o kvs').go i H/\∃ N:St->Hp->Prop,(∀ σ' H',N σ' H'->∃ m',m'<m/\W (i+1) m' σ' H')/\∀ x H',(Itd a' o kvs').yld i H x H'->g x σ H' fun σ2 H2=>tb { D with nx:=N,ct:=N,bk:=D.nx } σ2 H2)):=by
 rcases h with h | ⟨o,h⟩
 ·exact ⟨a,kvs,rfl,.inl ⟨h,fun o=>Qc (a:=a) (o:=o) (kvs:=kvs) (Pv o) (h0 o _ ⟨j7,.inr ⟨h,rfl⟩⟩) (hl o) (hs o) (hd o)⟩⟩
 ·exact ⟨a,kvs,rfl,.inr ⟨o,h,Qc (a:=a) (o:=o) (kvs:=kvs) (Pv o) (h0 o _ ⟨h,.inl rfl⟩) (hl o) (hs o) (hd o)⟩⟩
end L2
end
section
namespace L2
open PySem PySem.Spec PySem.W PyProof.Rows
section
variable {prog:Program}{w:World}{A:Around}{E:Value->Shared->Prop}{s:Shared}
theorem VI:typeLookup (.type "list") "keys" = pure none:=by rw [typeLookup_type,builtinLookup_eq_fast];kernel_rfl
theorem Ze {a:Addr}{o:Obj}{xs:Array Value}{k:Nat}{Q:Option Value->Shared->Prop}(hx:s.heap.get? a=some o) (hc:o.cls = .type "list") (hdat:o.data = .seq xs k) (hd:o.dict=none) (hA:A.handled=none)
  (h:∀ h' tk,(∀ b o,s.heap.get? b=some o->h'.get? b=some o)->Q none { s with heap:=h',toks:=tk }):wpAny (model prog w) A (getAttr? (.ref a) "keys") Q E s:=by
 obtain ⟨c,dct,dat,sl⟩:=o
 simp only at hc hdat hd
 subst hc hdat hd
 obtain ⟨hp,g,d,tk,os⟩:=s
 have hT:∀ tk',(⟨hp,g,d,tk',os⟩:Shared).TypeIs (.ref a) "list":=fun _=>⟨_,hx,rfl⟩
 have f1:=sub_AttributeError
 have f3:=F.slot_list_getattribute.lookup
 have f4:=F.slot_list_getattribute.bind (.ref a)
 have f5:=am_list_getattr_none
 unfold getAttr? getAttrBy? getAttrBy
 repeat (any_goals (first | assumption | exact hT _ | ((with_reducible show wpAny _ _ (call (Value.builtin "list.__getattribute__") _ _) _ _ _);refine call_meets F.slot_list_getattribute (hT _) am_entry_list_getattribute (F.args_list_getattribute_2 _ _) (meets_getattribute_miss_list a xs k sl "keys" _ VI (by decide +kernel) (by decide)) ⟨hx,hA,fun h' tk' e hx'=>?_⟩) | wp_step))
 obtain ⟨t',u',he⟩:=hx'.there
 show wpAny _ _ (getattributeRaised _ _ _ _ _ _ _) _ _ _
 unfold getattributeRaised
 repeat (any_goals (first | assumption | wp_step))
 exact h h' tk' hx'.of.keeps
end
theorem uM:entryFor table "dict.update.loop" = some Builtin.«dict.update.loop»:=entryFor_of_tree (by kernel_rfl)
theorem zp:plainId "dict.update.loop" = true:=by decide +kernel
section
variable {prog:Program}{w:World}{A:Around}{R:Result->Shared->Prop}{d it l:Addr}{items:Array Value}{qs:List (Key×Value×Value)}
def JC (d it:Addr) (items:Array Value) (qs:List (Key×Value×Value)) (h:Heap):Prop:=∀ (i:Nat) (q:Key×Value×Value),qs[i]? = some q->∃ b:Addr,items[i]? = some (.ref b)/\b≠d/\b≠it/\h.IsTuple b #[q.2.1,q.2.2]
theorem JC.keep {h h':Heap}(x:JC d it items qs h) (k:∀ b o,b≠d->b≠it->h.get? b=some o->h'.get? b=some o):JC d it items qs h':=fun i q hq=>by
 obtain ⟨b,h1,h2,h3,o,ho,r⟩:=x i q hq
 exact ⟨b,h1,h2,h3,o,k b o h2 h3 ho,r⟩
theorem Zw (hh:A.handled=none) (hld:l≠d) (hli:l≠it) (hdi:d≠it) (hsz:qs.length<=sizeLine) (hk:∀ q∈qs,(jF prog w).is q.1 q.2.1=true) (nd:(qs.map (·.1)).Nodup) (hn:items.size=qs.length) :
  ∀ (n i:Nat) (s:Shared),qs.length-i=n->i<=qs.length->s.heap.IsListIter it l i->s.heap.IsList l items->JC d it items qs s.heap->s.heap.DictOf (jF prog w) d ((qs.take i).map fun q=>(q.1,q.2.2)) ->
   (∀ h' tk,(∀ b o,b≠d->b≠it->s.heap.get? b=some o->h'.get? b=some o)->h'.DictOf (jF prog w) d (qs.map fun q=>(q.1,q.2.2))->R (.ok (.ret .none)) { s with heap:=h',toks:=tk }) ->
   codeAny (model prog w) A (.builtin "dict.update.loop" ⟨[.ref d,.ref it,rawInt i,.none],[]⟩) R s:=by
 have hh1:A.in1.handled=none:=by simp [hh]
 intro n
 induction n with
 | zero =>
  intro i s e hi st hl ht hd hR
  obtain rfl:i=qs.length:=by omega
  refine codeAny_builtin uM ?_
  rw [Around.under_plainId zp _]
  show wpAny _ A.in1 (pyNext (.ref it) >>= _) _ _ s
  refine wpAny_bind (wpAny_pyNext_list_end hh1 st hl (by simp;omega) fun h' eb=>?_)
  show wpAny _ A.in1 (Builtin.Dict.addKeywords d [] >>= _) _ _ _
  rw [List.take_length] at hd
  exact wpAny_bind (wpAny_pure (wpAny_pure (hR h' s.toks (fun b o _ h2 h=>eb b o h2 h) (hd.extBut eb hdi))))
 | succ n ih =>
  intro i s e hi st hl ht hd hR
  have hlt:i<qs.length:=by omega
  obtain ⟨⟨k,kv,v⟩,hq⟩:∃ q,qs[i]? = some q:=⟨_,List.getElem?_eq_getElem hlt⟩
  obtain ⟨b,hb,bd,bi,hbt⟩:=ht i _ hq
  refine codeAny_builtin uM ?_
  rw [Around.under_plainId zp _]
  show wpAny _ A.in1 (pyNext (.ref it) >>= _) _ _ s
  refine wpAny_bind (wpAny_pyNext_list_item st hl hb fun h1 st1 sb=>?_)
  have hbt1:h1.IsTuple b #[kv,v]:=by
   obtain ⟨o,ho,r⟩:=hbt
   exact ⟨o,(sb.2 b bi).trans ho,r⟩
  show wpAny _ A.in1 (holding [Value.ref b] _ >>= _) _ _ _
  obtain ⟨ob,hob,hcb,nb,hdb⟩:=hbt1
  refine wpAny_bind (wpAny_holding (wpAny_bind (wpAny_tryCatch ?_)))
  unfold Builtin.Dict.pairItems
  refine wpAny_bind (wpAny_typeOf (T:="tuple") ⟨ob,hob,hcb⟩ ?_)
  rw [if_pos (by decide)]
  refine wpAny_bind (wpAny_seqItems hob hdb (wpAny_pure ?_))
  show wpAny _ A.in1 (holding [kv,v] (dictSet d kv v)) _ _ _
  have hd1:h1.DictOf (jF prog w) d ((qs.take i).map fun q=>(q.1,q.2.2)):=hd.sameBut sb hdi
  refine wpAny_holding (wpAny_dictSet_pairs (s:={ s with heap:=h1 }) (hk _ (List.mem_of_getElem? hq)) hd1 (fun h2 hd2 sd=>?_) (by rw [List.length_map,List.length_take];omega))
  refine wpAny_pure ⟨plainId_quiet zp _,?_⟩
  have keep:∀ c o,c≠d->c≠it->s.heap.get? c=some o->h2.get? c=some o:=fun c o n1 n2 h=>(sd.2 c n1).trans ((sb.2 c n2).trans h)
  refine ih (i+1) { s with heap:=h2,toks:=s.toks+1 } (by omega) (by omega) ?_ ?_ (ht.keep keep) ?_ fun h3 tk k3 d3=>?_
  ·obtain ⟨o,ho,r⟩:=st1
   exact ⟨o,(sd.2 it hdi.symm).trans ho,r⟩
  ·obtain ⟨o,ho,r⟩:=hl
   exact ⟨o,keep l o hld hli ho,r⟩
  ·have e:stored ((qs.take i).map fun q=>(q.1,q.2.2)) k v=(qs.take (i+1)).map fun q=>(q.1,q.2.2):=by
    rw [stored,if_neg,List.take_add_one,hq]
    ·simp
    ·intro z
     obtain ⟨x,hx,ex⟩:=List.any_eq_true.mp z
     obtain ⟨u,hu,rfl⟩:=List.mem_map.mp hx
     have ex:u.1=k:=of_decide_eq_true ex
     obtain ⟨j,hj,ej⟩:=List.mem_iff_getElem.mp hu
     rw [List.length_take] at hj
     rw [List.getElem_take] at ej
     obtain ⟨_,eq⟩:=List.getElem?_eq_some_iff.mp hq
     have h1:(qs.map (·.1))[j]'(by rw [List.length_map];omega)=(qs.map (·.1))[i]'(by rw [List.length_map];exact hlt):=by rw [List.getElem_map,List.getElem_map,ej,eq,ex]
     exact absurd h1 (List.pairwise_iff_getElem.mp nd j i _ _ (by omega))
   rw [<- e]
   exact hd2
  ·exact hR h3 tk (fun c o n1 n2 h=>k3 c o n1 n2 (keep c o n1 n2 h)) d3
end
section
variable {prog:Program}{w:World}{A:Around}{E:Value->Shared->Prop}{s:Shared}{l:Addr}{ol:Obj}{nl:Nat}{items:Array Value}{qs:List (Key×Value×Value)}
theorem Qw {Q:Value->Shared->Prop}(hh:A.handled=none) (ho:s.heap.get? l=some ol) (hc:ol.cls = .type "list") (hdt:ol.data = .seq items nl) (hdc:ol.dict=none) (hsz:qs.length<=sizeLine) (hk:∀ q∈qs,(jF prog w).is q.1 q.2.1=true) (nd:(qs.map (·.1)).Nodup) (hn:items.size=qs.length)
  (ht:∀ (i:Nat) (q:Key×Value×Value),qs[i]? = some q->∃ b:Addr,items[i]? = some (.ref b)/\s.heap.IsTuple b #[q.2.1,q.2.2])
  (h:∀ h' tk,(∀ b o,s.heap.get? b=some o->h'.get? b=some o)->h'.DictOf (jF prog w) s.heap.objs.size (qs.map fun q=>(q.1,q.2.2))->Q (.ref s.heap.objs.size) { s with heap:=h',toks:=tk }) :
  wpAny (model prog w) A (call (.type "dict") [.ref l]) Q E s:=by
 refine callType_codes (Q₁:=fun obj s₁=>obj = .ref s.heap.objs.size/\s₁={ s with heap:=s.heap.push { cls:=.type "dict",data:=.dict #[] } }) F.kt_called_dict (F.kt_typeCall_dict_1 _) F.entry_dict_init (kt_code_dict_new _ ⟨rfl,rfl⟩) ?_
 rintro obj s₁ ⟨rfl,rfl⟩
 have hnew:(s.heap.push { cls:=.type "dict",data:=.dict #[] }).DictOf (jF prog w) s.heap.objs.size []:=Heap.DictOf.new s.heap
 have kp:∀ b o,s.heap.get? b=some o->(s.heap.push { cls:=.type "dict",data:=.dict #[] }).get? b=some o:=fun b o q=>Heap.get?_push_of_some _ q
 refine ⟨hnew.typeIs,F.args_dict_init_2 _ _,?_⟩
 have lt:∀ b o,s.heap.get? b=some o->b≠s.heap.objs.size:=fun b o q=>Nat.ne_of_lt (Heap.lt_size q)
 unfold Builtin.«dict.__init__»
 refine wpAny_bind ?_
 unfold Builtin.Dict.selfAndRest
 refine wpAny_bind (wpAny_notOrdered_dict hnew.typeIs ?_)
 show wpAny _ _ (pure (s.heap.objs.size,[Value.ref l])) _ _ _
 refine wpAny_pure ?_
 show wpAny _ _ (Builtin.Dict.updateFrom "dict.__init__" s.heap.objs.size (.ref l) [] .none) _ _ _
 unfold Builtin.Dict.updateFrom
 refine wpAny_bind (wpAny_typeOf (T:="list") ⟨_,kp _ _ ho,hc⟩ ?_)
 rw [if_pos (by decide)]
 generalize hz:s.heap.push { cls:=.type "dict",data:=.dict #[] }=h0 at *
 refine wpAny_bind (Ze (s:={ s with heap:=h0 }) (kp _ _ ho) hc hdt hdc (by simp [hh]) fun h1 tk k1=>?_)
 rw [if_pos (show (none:Option Value).isNone=true from rfl)]
 have hl1:h1.IsList l items:=⟨ol,k1 _ _ (kp _ _ ho),hc,nl,hdt⟩
 refine wpAny_bind (wpAny_rule ?_)
 refine wpAny_bind (wpAny_pyIter_list (s:={ s with heap:=h1,toks:=tk }) hl1 (wpAny_pure ⟨plainId_quiet zp _,?_⟩))
 obtain ⟨od,_,_,hod,_⟩:=id hnew
 have hi1:∀ b o,h1.get? b=some o->b≠h1.objs.size:=fun b o q=>Nat.ne_of_lt (Heap.lt_size q)
 have kp2:∀ b o,s.heap.get? b=some o->(h1.push { cls:=.type "list_iterator",data:=.fields #[.ref l,.int 0 0] }).get? b=some o:=fun b o q=>Heap.get?_push_of_some _ (k1 _ _ (kp _ _ q))
 refine Zw (d:=s.heap.objs.size) (it:=h1.objs.size) (l:=l) (items:=items) (qs:=qs) (by simp [hh]) (lt _ _ ho) (hi1 _ _ (k1 _ _ (kp _ _ ho))) (hi1 _ _ (k1 _ _ hod)) hsz hk nd hn qs.length 0 _ (by omega) (Nat.zero_le _) ⟨_,Heap.get?_push_size _ rfl,rfl,rfl⟩ (hl1.push _) (fun i q hq=>?_) ?_ fun h' tk' k' d'=>?_
 ·obtain ⟨b,hb,o,hbo,r⟩:=ht i q hq
  exact ⟨b,hb,lt _ _ hbo,hi1 _ _ (k1 _ _ (kp _ _ hbo)),o,kp2 _ _ hbo,r⟩
 ·obtain ⟨o,es,ep,ho',r⟩:=hnew
  exact ⟨o,es,ep,Heap.get?_push_of_some _ (k1 _ _ ho'),r⟩
 ·exact ⟨rfl,h h' tk' (fun b o q=>k' b o (lt _ _ q) (hi1 _ _ (k1 _ _ (kp _ _ q))) (kp2 _ _ q)) d'⟩
end
theorem uG {α β:Type}(P:Nat->α->β->Prop):∀ (l:List α) (n:Nat),(∀ (i:Nat) a,l[i]? = some a->∃ b,P (n+i) a b)->∃ bs:List β,bs.length=l.length/\∀ (i:Nat) a b,l[i]? = some a->bs[i]? = some b->P (n+i) a b
 | [],n,_=>⟨[],rfl,fun i a b h=>by simp at h⟩
 | x::r,n,h=>by
  obtain ⟨b,hb⟩:=h 0 x rfl
  obtain ⟨bs,hl,hbs⟩:=uG P r (n+1) fun i a hi=>by
   have:=h (i+1) a (by simpa using hi)
   rwa [show n+1+i=n+(i+1) by omega]
  refine ⟨b::bs,by simp [hl],fun i a b' h1 h2=>?_⟩
  cases i with
  | zero =>
   simp at h1 h2
   subst h1 h2
   exact hb
  | succ i =>
   have:=hbs i a b' (by simpa using h1) (by simpa using h2)
   rwa [show n+(i+1)=n+1+i by omega]
theorem gK {α β:Type}{F:α->β->Prop}:∀ {l₁:List α}{l₂:List β},l₁.length=l₂.length->(∀ (i:Nat) a b,l₁[i]? = some a->l₂[i]? = some b->F a b)->Paired F l₁ l₂
 | [],[],_,_=>.nil
 | [],_::_,h,_=>by simp at h
 | _::_,[],h,_=>by simp at h
 | x::r,y::t,h,k=>.cons (k 0 x y rfl rfl) (gK (by simpa using h) fun i a b h1 h2=>k (i+1) a b (by simpa using h1) (by simpa using h2))
theorem QV {X:Cx}(K:PySem.W.Frag) (hca:X.calm=true) (hK:X.K=K:=by rfl):x5 X (.type "dict") (fun xs H Q=>∃ (p:Addr) (out:List V) (ms:List (Int×Int)),xs=[.ref p]/\SqL K H p out/\Paired (fun v (m:Int×Int)=>∃ b,v=V.ref b/\H b=some (.tup [.int m.1,.int m.2])) out ms/\(ms.map (·.1)).Nodup/\ms.length<=1000 /\
  ∀ (d:Addr) H',H d=none->H' d=some (.dK (ms.map fun m=>(.inl m.1,.int m.2)))->ji H H'->Q (.ref d) H'):=by
 subst hK
 intro pins s σ H xs us Q I r h
 obtain ⟨p,out,ms,rfl,hq,hm,nd,h1000,k⟩:=h
 obtain ⟨u,rfl,ru⟩:=yo r
 cases ru
 obtain ⟨its,rv,⟨ol,nl,ho,hc,hdc,hdt⟩,hz⟩:=I.list hq
 have hlen:out.length=ms.length:=Paired.length hm
 have hits:out.length=its.length:=rv.length
 obtain ⟨qs,hql,hqs⟩:=uG (fun i (m:Int×Int) (q:Key×Value×Value)=>∃ (b:Addr) (t1 t2:Tok),q=(.inl m.1,.int m.1 t1,.int m.2 t2)/\its[i]? = some (.ref b)/\s.heap.IsTuple b #[.int m.1 t1,.int m.2 t2]) ms 0 fun i m hi=>by
  rw [Nat.zero_add]
  have hio:i<out.length:=by rw [hlen];exact (List.getElem?_eq_some_iff.mp hi).1
  obtain ⟨m',hm',b,eb,hb⟩:=Paired.get hm (List.getElem?_eq_getElem hio)
  rw [hi] at hm'
  cases hm'
  obtain ⟨u,hu,ru⟩:=rv.get (List.getElem?_eq_getElem hio)
  rw [eb] at ru
  cases (show u=Value.ref b from ru)
  obtain ⟨_,its',r',o,h1,h2,n,h3⟩:=(show qB X.prog X.w H s.heap b (.tup [.int m.1,.int m.2]) from I.hok b _ hb)
  cases r' with
  | cons p1 q1 =>
   cases q1 with
   | cons p2 q2 =>
    cases q2
    obtain ⟨t1,rfl⟩:=p1
    obtain ⟨t2,rfl⟩:=p2
    exact ⟨_,b,t1,t2,rfl,hu,o,h1,h2,n,h3⟩
 have get:∀ (i:Nat) (q:Key×Value×Value),qs[i]? = some q->∃ (m:Int×Int) (b:Addr) (t1 t2:Tok),ms[i]? = some m/\q=(.inl m.1,.int m.1 t1,.int m.2 t2)/\its[i]? = some (.ref b)/\s.heap.IsTuple b #[.int m.1 t1,.int m.2 t2]:=fun i q hi=>by
  have him:i<ms.length:=by rw [<- hql];exact (List.getElem?_eq_some_iff.mp hi).1
  obtain ⟨b,t1,t2,e,h1,h2⟩:=hqs i _ q (List.getElem?_eq_getElem him) hi
  rw [Nat.zero_add] at h1
  exact ⟨_,b,t1,t2,List.getElem?_eq_getElem him,e,h1,h2⟩
 have keys:qs.map (·.1)=ms.map fun m=>(Sum.inl m.1:Key):=by
  refine List.ext_getElem? fun i=>?_
  rw [List.getElem?_map,List.getElem?_map]
  cases e:qs[i]? with
  | none =>
   rw [List.getElem?_eq_none_iff] at e
   rw [List.getElem?_eq_none_iff.mpr (by omega)]
   rfl
  | some q =>
   obtain ⟨m,b,t1,t2,h1,h2,_⟩:=get i q e
   rw [h1,h2]
   rfl
 have ndk:(qs.map (·.1)).Nodup:=by
  rw [keys,show (ms.map fun m=>(Sum.inl m.1:Key))=(ms.map (·.1)).map Sum.inl by rw [List.map_map];rfl]
  exact List.Pairwise.map _ (fun a b h e=>h (Sum.inl.inj e)) nd
 have KVr:KV (ms.map fun m=>((.inl m.1,.int m.2):Key×V)) (qs.map fun q=>(q.1,q.2.2)):=by
  refine gK (by rw [List.length_map,List.length_map,hql]) fun i a b h1 h2=>?_
  rw [List.getElem?_map] at h1 h2
  obtain ⟨q,hq',rfl⟩:=Option.map_eq_some_iff.mp h2
  obtain ⟨m,_,t1,t2,hm',e,_⟩:=get i q hq'
  rw [hm'] at h1
  cases h1
  subst e
  exact ⟨rfl,t2,rfl⟩
 refine Qw (qs:=qs) (I.ok.hd hca) ho hc hdt hdc (by rw [hql];exact Nat.le_trans h1000 (by decide)) (fun q hq'=>?_) ndk (by simp;omega) (fun i q hi=>?_) fun h' tk keep dd=>?_
 ·obtain ⟨i,hi,e⟩:=List.mem_iff_getElem.mp hq'
  obtain ⟨m,b,t1,t2,h1,h2,_⟩:=get i q (by rw [List.getElem?_eq_getElem hi,e])
  subst h2
  exact wj (k:=.inl m.1) ⟨t1,rfl⟩
 ·obtain ⟨m,b,t1,t2,h1,h2,h3,h4⟩:=get i q hi
  subst h2
  exact ⟨b,by simpa using h3,h4⟩
 ·have hf:=I.hok.fresh (Nat.le_refl s.heap.objs.size)
  exact ⟨.ref _,upd H s.heap.objs.size (.dK (ms.map fun m=>((.inl m.1,.int m.2):Key×V))),I.laid (t':=tk) keep (Nat.le_refl _) (Xz (by rw [List.length_map];exact Nat.le_trans h1000 (by decide)) (beq_eq_false_iff_ne.mpr (Ne.symm (Nat.ne_of_lt I.big))) KVr dd),rfl,k _ _ hf j7 (ji.new hf)⟩
end L2
end
section
namespace K23
open PySem PySem.Spec PyProof.Rows L2
local macro_rules | `(tactic| walk_at "hp")=>`(tactic| first | assumption | exact j7 | (rw [j8 (by first | assumption | (apply Ne.symm;assumption))];first | assumption | exact j7))
local macro_rules | `(tactic| walk_at "num")=>`(tactic| first | decide | omega)
local macro_rules | `(tactic| walk_at "rd1")=>`(tactic| first | refine ⟨_,rfl,?_⟩ | refine ⟨_,_,rfl,rfl,?_⟩ | refine And.intro (show J4 _ _ from Or.inr ⟨by walk_at "num",by walk_at "num"⟩) ?_ | refine And.intro (show J4 _ _ from Or.inl ⟨by walk_at "num",by walk_at "num"⟩) ?_ | refine And.intro (show Z7 _ _ from ⟨by walk_at "num",by walk_at "num"⟩) ?_ | refine And.intro (show Vi _ _ from ⟨by walk_at "num",by walk_at "num",by walk_at "num"⟩) ?_ | refine And.intro (show (0:Int)<_ by walk_at "num") ?_ | refine ⟨_,_,_,_,rfl,rfl,SqL.of (by walk_at "hp"),(by rfl),?_⟩ | refine ⟨_,_,_,_,rfl,rfl,SqT.of (by walk_at "hp"),(by rfl),?_⟩ | refine ⟨_,_,_,_,rfl,rfl,(by assumption),(by rfl),?_⟩ | refine ⟨_,_,_,_,rfl,rfl,(by walk_at "hp"),(by rfl),?_⟩ | refine ⟨rfl,?_⟩)
local macro_rules | `(tactic| walk_at "r")=>`(tactic| repeat walk_at "rd1")
local macro_rules | `(tactic| walk_at "s")=>`(tactic| exact ⟨rfl,rfl,rfl,by decide +kernel,rfl,by decide +kernel,by decide +kernel⟩)
local macro_rules | `(tactic| walk_at "k")=>`(tactic| decide +kernel)
local macro_rules | `(tactic| walk_at "w")=>`(tactic| (intro _ z;cases z))
local macro_rules | `(tactic| walk_at "z")=>`(tactic| (intro z;cases z))
local macro_rules | `(tactic| left)=>`(tactic| walk_at "r")
def top (i:Nat):Stmt:=PySem.Challenge.pw_firnfall_k23_hands_that_are_none.main.body.getD i (.Pass ⟨0,0,0,0⟩)
abbrev zw:Stmt:=top 17
abbrev zP:Stmt:=top 18
abbrev vm:Stmt:=top 19
abbrev J9:Stmt:=top 20
abbrev qU:Stmt:=top 21
abbrev yZ:Stmt:=top 22
abbrev wB:Stmt:=top 23
abbrev xv:Stmt:=top 24
abbrev yH:Stmt:=top 25
abbrev yc:Stmt:=top 30
abbrev ya:Stmt:=top 31
abbrev we:Stmt:=top 32
abbrev y4:Stmt:=top 37
abbrev zy:Stmt:=top 38
abbrev zE:Stmt:=top 39
abbrev qE:Stmt:=(xZ (top 40) 0)
abbrev xq:Stmt:=(xZ (top 40) 4)
abbrev xi:Stmt:=(xZ (top 40) 5)
abbrev zB:Stmt:=(xZ (top 40) 6)
abbrev zC:Stmt:=(xZ (top 40) 7)
abbrev yx:Stmt:=(xZ (top 40) 8)
abbrev zU:Stmt:=(xZ (top 40) 10)
abbrev xG:Stmt:=(xZ (top 40) 14)
abbrev vn:Stmt:=(xZ (top 40) 16)
abbrev yI:Stmt:=top 42
abbrev yX:Stmt:=top 43
abbrev k7:Stmt:=top 44
abbrev QE:Stmt:=top 45
abbrev QS:Stmt:=top 47
abbrev wz:Stmt:=top 48
abbrev km:Stmt:=top 50
abbrev y3:Stmt:=top 51
abbrev uy:Stmt:=top 53
abbrev yA:Stmt:=top 54
abbrev vi:Stmt:=top 55
abbrev uz:Stmt:=top 56
abbrev zx:Stmt:=top 57
abbrev zq:Stmt:=top 58
abbrev qj:Stmt:=top 59
abbrev x9:Stmt:=top 60
abbrev xQ:Stmt:=top 61
abbrev y7:Stmt:=top 62
abbrev yW:Stmt:=top 63
abbrev xT:Stmt:=top 64
abbrev vh:Stmt:=top 65
abbrev ua:Stmt:=top 66
abbrev vd:Stmt:=top 67
abbrev zZ:Stmt:=top 68
abbrev vt:Stmt:=top 69
abbrev qI:Stmt:=top 70
abbrev zj:Stmt:=top 71
abbrev xW:Stmt:=top 72
abbrev zD:Stmt:=top 73
abbrev zi:Stmt:=top 74
abbrev yU:Stmt:=top 75
section
variable {P:Program}{w:World}{K:PySem.W.Frag}{mg:Str->Option Value}{base:Heap}
abbrev Us:Pos:=⟨49,28,49,49⟩
abbrev qC (H:Hp) (Pt:Addr):Prop:=Tab H Pt Us (("lanes" : Str) ++ ".<locals>." ++ "<lambda>")
def Z8:Sp:=fun vs H Q _=>∃ (i:Nat) (t:Int),vs=[.int i,.int t]/\Q (.bl (xE i t)) H
theorem JP:FnScope ["number","to"] ["number","to"] (j6 vm):=by walk_at "s"
theorem JD {f:Addr}{fd:FuncData}(F:Fun K "leads_on" "leads_on" vm f fd):FnOk P w K mg base CX0 1 f fd ["number","to"] Z8:=by
 refine F.ok JP (fun vs H Q E h=>?_) (fun cdv A outer s H vs Q E hr h=>?_)
 ·obtain ⟨i,t,rfl,_⟩:=h
  rfl
 ·obtain ⟨i,t,rfl,k⟩:=h
  refine ⟨_,(j5 (jM (jq zd (pv 0) j4 (jx _)) (j9 (jj (vV zd (pv 1) (vz zR j4) (jx _)))) jw)
   (j9 (jj (xO jP xX j4 (pv 1) (pv 0))))),?_⟩
  have fin:∀ b:Bool,b=xE i t->Q (.bl b) H:=fun b e=>by rw [e];exact k
  left
  refine jV (fun h1=>?_) (fun h1=>?_)
  ·left
   have h1':i=0:=by have:=V.int.inj h1;omega
   refine fin _ ?_
   unfold xE
   rw [if_pos h1']
   exact decide_eq_decide.mpr ⟨fun z=>V.int.inj z,fun z=>by rw [z]⟩
  ·have h1':i≠0:=fun z=>h1 (by rw [z];rfl)
   left
   refine jV (fun h2=>?_) (fun h2=>?_)
   ·left
    refine fin _ ?_
    unfold xE
    rw [if_neg h1']
    exact decide_eq_decide.mpr ⟨fun z=>⟨h2,z⟩,fun z=>z.2⟩
   ·refine fin _ ?_
    unfold xE
    rw [if_neg h1',decide_eq_false (fun z=>h2 z.1)]
def XQ:Sp:=fun vs H Q _=>∃ (i:Nat) (v:V) (r:Rch),vs=[.int i,v]/\gZ H v r/\r.2.length<=100/\∀ H',ji H H'->Q (.bl (okR i r)) H'
theorem yn:FnScope ["number","reach","to","slope"] ["number","reach"] (j6 zP):=by walk_at "s"
theorem JZ {f:Addr}{fd:FuncData}{u0 u1:Tok}(nb:Nb2 mg) (g_MOST_HEIGHTS:mg "MOST_HEIGHTS" = some (.int 12 u0)) (g_GREATEST_HEIGHT:mg "GREATEST_HEIGHT" = some (.int 99 u1)) (c_leads_on:Cal P w K mg base 1 "leads_on" ["number","to"] Z8) (F:Fun K "is_reach" "is_reach" zP f fd):FnOk P w K mg base CX0 2 f fd ["number","reach"] XQ:=by
 refine F.ok yn (fun vs H Q E h=>?_) (fun cdv A outer s H vs Q E hr h=>?_)
 ·obtain ⟨i,v,r,rfl,_⟩:=h
  rfl
 ·obtain ⟨i,v,⟨t,hs⟩,rfl,⟨p,g,rfl,hp,hg⟩,h100,k⟩:=h
  have h100':hs.length<=100:=h100
  have fin:∀ (b:Bool) (H':Hp),ji H H'->b=okR i (t,hs)->Q (.bl b) H':=fun b H' sm e=>by rw [e];exact k H' sm
  refine ⟨_,(j5 (xy (pv 1) (qq (n:=2) K rfl (jk (ja (i:=2) yn.nd rfl (Or.inl rfl)) (jk (ja (i:=3) yn.nd rfl (Or.inl rfl)) qm))))
   (j5 (jM (PW.pt (Qn (qJ (ve (jd c_leads_on (hr.mono (by decide)) rfl (j0 (pv 0) (j0 (pv 2) j2))))) (Ji (qJ (qy jP jP j4 (jf (jg K) rfl nb.b_len PySem.boot_len (j0 (pv 3) j2)) (qv (v:=V.int 12) rfl g_MOST_HEIGHTS ⟨_,rfl⟩)))))) (j9 (jj yS)) jw)
   (j9 (jj (jf (yG K rfl) rfl nb.b_all boot_all (j0 (jZ (osc:=(j6 zP)) (ON:=["number","reach","to","slope"]) (N:=["height"]) (own:=1) (caps:=[]) ⟨rfl,by walk_at "k",by walk_at "k",by walk_at "k",rfl,by walk_at "k"⟩ rfl rfl rfl (zQ K (pv 3)) (fun _ _ _ _ _=>(ja (i:=0) (show List.Nodup (["height"]:List Str) by decide +kernel) rfl (Or.inl rfl))) (fun _ _ _ _ _=>jQ) (fun _ _ _ _ _=>(xO jP jP j4 (pv 0) (qv (v:=V.int 99) rfl g_GREATEST_HEIGHT ⟨_,rfl⟩)))) j2)))))),?_⟩
  left
  refine ⟨p,_,rfl,SqT.of hp,rfl,?_⟩
  refine ⟨_,_,rfl,_,_,rfl,rfl,?_⟩
  left
  refine ⟨i,t,rfl,?_⟩
  left
  cases hl:xE i t with
  | false =>
   refine uS ?_
   left
   exact fin _ H (ji.refl H) (by unfold okR;rw [hl];rfl)
  | true =>
   refine Ug ?_
   left
   refine ⟨_,_,rfl,.inr (SqT.of hg),?_⟩
   left
   rw [List.length_map]
   refine jV (fun h1=>?_) (fun h1=>?_)
   ·left
    refine x8 (fun h2=>?_) (fun h2=>?_)
    ·left
     exact fin _ H (ji.refl H) (by unfold okR;rw [hl,decide_eq_false (fun z=>h2 z.2)];rfl)
    ·left
     refine ⟨⟨_,SqT.of hg⟩,fun acc hacc=>?_⟩
     refine Q5 (K:=K) (a:=g) (xs:=hs.map V.int) (acc:=acc) (fun j σ H2=>∃ x:Option V,σ=[x]/\H2 acc=some (.lst (((hs.take j).map fun x=>decide (0<=x/\x<=99)).map V.bl))/\Ext acc H H2) ?_ ?_ ?_ ?_
     ·exact ⟨none,rfl,j7,Ext.put⟩
     ·rintro j σ H2 hj ⟨x,rfl,h3,e3⟩
      exact SqT.of (e3 _ _ hg (j1 hg hacc))
     ·rintro j v σ H2 hv ⟨x,rfl,h3,e3⟩
      obtain ⟨z,rfl⟩:=yv hv
      have hz:hs[j]? = some z:=by
       rw [List.getElem?_map] at hv
       cases e:hs[j]? with
       | none=>rw [e] at hv;cases hv
       | some y=>rw [e] at hv;cases hv;rfl
      have hj:j<hs.length:=(List.getElem?_eq_some_iff.mp hz).1
      have done:∀ b:Bool,b=decide (0<=z/\z<=99)->∃ ys,H2 acc=some (.lst ys)/\ys.length<sizeLine/\∃ x:Option V,[some (V.int z)]=[x]/\upd H2 acc (.lst (ys++[V.bl b])) acc=some (.lst (((hs.take (j+1)).map fun x=>decide (0<=x/\x<=99)).map V.bl))/\Ext acc H (upd H2 acc (.lst (ys++[V.bl b]))):=fun b e=>by
       refine ⟨_,h3,by rw [List.length_map,List.length_map,List.length_take];exact jm (by omega),_,rfl,?_,e3.trans Ext.put⟩
       rw [j7,qx (fun x=>decide (0<=x/\x<=99)) hs j z hz,List.map_append,e]
       rfl
      left
      refine jV (fun h4=>?_) (fun h4=>?_)
      ·left
       exact done _ (decide_eq_decide.mpr ⟨fun y=>⟨h4,y⟩,fun y=>y.2⟩)
      ·exact done _ (decide_eq_false fun y=>h4 y.1).symm
     ·rintro σ H2 ⟨x,rfl,h3,e3⟩
      rw [List.length_map,List.take_length] at h3
      refine ⟨acc,_,rfl,SqL.of h3,?_⟩
      refine fin _ H2 (fun c o hc=>e3 c o hc (j1 hc hacc)) ?_
      unfold okR
      rw [hl,decide_eq_true (show (1<=(hs.length:Int)/\(hs.length:Int)<=12) from ⟨h1,h2⟩),List.all_map]
      rfl
   ·refine ⟨_,rfl,uS ?_⟩
    left
    exact fin _ H (ji.refl H) (by unfold okR;rw [hl,decide_eq_false (fun z=>h1 z.1)];rfl)
def kZ (K:PySem.W.Frag):Sp:=fun vs H Q _=>∃ (p:Addr) (xs:List V) (rs:List Rch) (h:Nat),vs=[.ref p,.int h]/\H p=some (.lst xs)/\jU H xs rs/\xl rs/\h<rs.length/\rs.length<=100/\∀ t H',H t=none->H' t=some (.tup ((qu rs h).map V.int))->ji H H'->Q (.ref t) H'
theorem zm:FnScope ["reaches","head","way","reach"] ["reaches","head"] (j6 yZ):=by walk_at "s"
theorem JG {f:Addr}{fd:FuncData}(nb:Nb2 mg) (F:Fun K "way_down" "way_down" yZ f fd):FnOk P w K mg base CX0 1 f fd ["reaches","head"] (kZ K):=by
 refine F.ok zm (fun vs H Q E h=>?_) (fun cdv A outer s H vs Q E hr h=>?_)
 ·obtain ⟨p,xs,rs,h,rfl,_⟩:=h
  rfl
 ·obtain ⟨p,xs,rs,h,rfl,hp,hrw,L,hh,h100,k⟩:=h
  refine ⟨_,(j5 (je (i:=2) zm.nd rfl (Or.inl rfl) (jK j2))
   (j5 (je (i:=3) zm.nd rfl (Or.inl rfl) (pv 1))
   (j5 (JO PassesOwn.never (jq XZ (pv 3) j4 (jx _)) (j5 (qd (yq K PySem.F.plainAttrs_list PySem.F.slot_list_append PySem.F.type_list_append qz (pv 2) (j0 (pv 3) j2)))
   (j9 (je (i:=3) zm.nd rfl (Or.inl rfl) (jn (qe K) (jn (jb K) (pv 0) (pv 3) (fun _ _=>rfl)) j4 (fun _ _=>rfl))))))
   (j9 (jj (qH (xn K) rfl nb.b_tuple PyProof.Rows.boot_tuple (j0 (pv 2) j2))))))),?_⟩
  left
  refine ⟨Nat.zero_le _,fun wy H1 hwy hwy1 s1=>?_⟩
  left
  have hlen:=hrw.length
  refine Q0 (fun σ H2=>∃ (pre:List Int) (r:Int),σ=[some (.ref p),some (.int h),some (.ref wy),some (.int r)]/\H2 wy=some (.lst (pre.map V.int))/\Ext wy H1 H2 /\ -1<=r/\r<rs.length/\pre.length+(r+1).toNat<=100/\pre++(if r<0 then [] else qu rs r.toNat)=qu rs h) (fun σ H2=>match σ with | [_,_,_,some (.int r)]=>(r+1).toNat | _=>0) ?_ ?_ ?_
  ·refine ⟨[],h,rfl,hwy1,Ext.refl,by omega,by omega,by simp;omega,?_⟩
   rw [if_neg (by omega)]
   rfl
  ·rintro σ H2 ⟨pre,r,rfl,hw2,e2,r0,r1,rl,heq⟩
   left
   refine jV (fun hr0=>?_) (fun hr0=>?_)
   ·have hp2:H2 p=some (.lst xs):=e2 _ _ (s1 _ _ hp) (j1 hp hwy)
    have hrw2:jU H2 xs rs:=hrw.keep ((jp.same s1).trans (jp.lst e2 hwy1))
    have hi:r.toNat<rs.length:=by omega
    obtain ⟨v,hv,q,g,rfl,hq,hg⟩:=hrw2.at (List.getElem?_eq_getElem hi)
    have ht:=L.lt hi
    have ht2:=(wY (L _ hi)).2.1
    have et:=gW (List.getElem?_eq_getElem hi)
    rw [et] at ht ht2
    generalize (rs[r.toNat]'hi).1=tt at ht ht2 et hq
    left
    refine ⟨.inl ⟨rfl,_,SqL.of hw2⟩,?_⟩
    left
    refine ⟨wy,_,_,rfl,rfl,hw2,by rw [List.length_map];exact jm (by omega),?_⟩
    have hne:q≠wy:=jr hq hw2 (by walk_at "z")
    have hp3:upd H2 wy (.lst (pre.map V.int++[.int r])) p=some (.lst xs):=by rw [j8 (j1 hp hwy)];exact hp2
    have hq3:upd H2 wy (.lst (pre.map V.int++[.int r])) q=some (.tup [.int tt,.ref g]):=by rw [j8 hne];exact hq
    left
    refine ⟨_,_,_,_,rfl,rfl,SqL.of hp3,qo hr0 hv,?_⟩
    refine ⟨_,_,_,_,rfl,rfl,SqT.of hq3,rfl,?_⟩
    refine ⟨⟨pre++[r],tt,rfl,?_,e2.trans Ext.put,by omega,by omega,?_,?_⟩,?_⟩
    ·rw [j7,List.map_append];rfl
    ·rw [List.length_append,List.length_singleton];omega
    ·rw [<- heq,if_neg (show ¬ r<0 by omega),zr L hi,et,List.append_assoc]
     congr 1
     show r::_=_
     congr 1
     omega
    ·show (tt+1).toNat<(r+1).toNat
     omega
   ·rw [if_pos (by omega),List.append_nil] at heq
    subst heq
    left
    refine ⟨wy,_,rfl,SqL.of hw2,fun t H3 ht ht3 s3=>?_⟩
    exact k t H3 (s1.free (e2.free ht (fun z=>by rw [z,hw2] at ht;cases ht))) ht3 (fun c o hc=>s3 _ _ (e2 _ _ (s1 _ _ hc) (j1 hc hwy)))
  ·intro σ H2 Q1 Q2 hQ h
   obtain ⟨v,e,r⟩:=h
   obtain ⟨i,j,e1,e2,kk,e3,r⟩:=r
   exact ⟨v,e,i,j,e1,e2,kk,e3,hQ _ _ r⟩
def XW (K:PySem.W.Frag):Sp:=fun vs H Q _=>∃ (p a:Addr) (xs:List V) (rs:List Rch) (way:List Int),vs=[.ref p,.ref a]/\H p=some (.lst xs)/\jU H xs rs/\(∀ r∈rs,r.2.length<=100)/\H a=some (.tup (way.map V.int))/\(∀ r∈way,0<=r/\r<rs.length)/\way.length<=100/\∀ H',ji H H'->Q (.int (jA rs way)) H'
theorem uV:FnScope ["reaches","way"] ["reaches","way"] (j6 xv):=by walk_at "s"
theorem uR {f:Addr}{fd:FuncData}(nb:Nb2 mg) (F:Fun K "count_places" "count_places" xv f fd):FnOk P w K mg base CX0 1 f fd ["reaches","way"] (XW K):=by
 refine F.ok uV (fun vs H Q E h=>?_) (fun cdv A outer s H vs Q E hr h=>?_)
 ·obtain ⟨p,a,xs,rs,way,rfl,_⟩:=h
  rfl
 ·obtain ⟨p,a,xs,rs,way,rfl,hp,hrw,h100,ha,hin,hwl,k⟩:=h
  have hlen:=hrw.length
  refine ⟨_,(j9 (jj (jf (wn K rfl) rfl nb.b_sum boot_sum (j0 (jZ (osc:=(j6 xv)) (ON:=["reaches","way"]) (N:=["reach","reaches"]) (own:=1) (caps:=[0]) ⟨rfl,by walk_at "k",by walk_at "k",by walk_at "k",rfl,by walk_at "k"⟩ rfl rfl rfl (zQ K (pv 1)) (fun _ _ _ _ _=>(ja (i:=0) (show List.Nodup (["reach","reaches"]:List Str) by decide +kernel) rfl (Or.inl rfl))) (fun _ _ _ _ _=>jQ) (fun _ _ _ _ _=>(jf (jg K) rfl nb.b_len PySem.boot_len (j0 (jn (qe K) (jn (jb K) (pv 1) (pv 0) (fun _ _=>rfl)) j4 (fun _ _=>rfl)) j2)))) j2)))),?_⟩
  left
  refine ⟨⟨_,SqT.of ha⟩,fun acc hacc=>?_⟩
  refine Q5 (K:=K) (a:=a) (xs:=way.map V.int) (acc:=acc) (fun j σ H2=>∃ x:Option V,σ=[x,some (.ref p)]/\H2 acc=some (.lst (((way.take j).map fun r=>((zG rs r.toNat).length:Int)).map V.int))/\Ext acc H H2) ?_ ?_ ?_ ?_
  ·exact ⟨none,rfl,j7,Ext.put⟩
  ·rintro j σ H2 hj ⟨x,rfl,h3,e3⟩
   exact SqT.of (e3 _ _ ha (j1 ha hacc))
  ·rintro j v σ H2 hv ⟨x,rfl,h3,e3⟩
   obtain ⟨r,rfl⟩:=yv hv
   have hz:way[j]? = some r:=by
    rw [List.getElem?_map] at hv
    cases e:way[j]? with
    | none=>rw [e] at hv;cases hv
    | some y=>rw [e] at hv;cases hv;rfl
   have hj:j<way.length:=(List.getElem?_eq_some_iff.mp hz).1
   have hr:=hin r (List.mem_of_getElem? hz)
   have hi:r.toNat<rs.length:=by omega
   obtain ⟨v,hv',q,g,rfl,hq,hg⟩:=(hrw.keep (jp.new e3 hacc)).at (List.getElem?_eq_getElem hi)
   left
   refine ⟨_,_,_,_,rfl,rfl,SqL.of (e3 _ _ hp (j1 hp hacc)),qo hr.1 hv',?_⟩
   refine ⟨_,_,_,_,rfl,rfl,SqT.of hq,rfl,?_⟩
   refine ⟨_,_,rfl,.inr (SqT.of hg),?_⟩
   refine ⟨_,h3,by rw [List.length_map,List.length_map,List.length_take];exact jm (by omega),_,rfl,?_,e3.trans Ext.put⟩
   rw [j7,qx (fun r:Int=>((zG rs r.toNat).length:Int)) way j r hz,List.map_append,Jn (List.getElem?_eq_getElem hi),List.length_map]
   rfl
  ·rintro σ H2 ⟨x,rfl,h3,e3⟩
   rw [List.length_map,List.take_length] at h3
   refine ⟨acc,_,rfl,SqL.of h3,by rw [List.length_map];omega,fun n hn=>?_,?_⟩
   ·obtain ⟨r,hr,rfl⟩:=List.mem_map.mp hn
    have hb:=hin r hr
    have hi:r.toNat<rs.length:=by omega
    have:=h100 _ (List.getElem_mem hi)
    rw [Jn (List.getElem?_eq_getElem hi)]
    omega
   ·exact k H2 fun c o hc=>e3 c o hc (j1 hc hacc)
def vM (K:PySem.W.Frag) (Pt:Addr):Sp:=fun vs H Q _=>∃ (p:Addr) (xs:List V) (rs:List Rch),vs=[.ref p]/\H p=some (.lst xs)/\jU H xs rs/\xl rs/\rs.length<=60/\qC H Pt/\∀ l H' out ws,H l=none->H' l=some (.lst out)->zL H' out ws->qa rs ws->Ext Pt H H'->qC H' Pt->Q (.ref l) H'
theorem ko:FnScope ["reaches","entered","ways"] ["reaches"] (j6 qU):=by walk_at "s"
theorem Qo {α:Type}(l:List α) (d:α):((List.range l.length).map fun i=>l.getD i d)=l:=by
 apply List.ext_getElem
 ·simp
 ·intro i h1 h2
  simp [h2]
theorem hU {H:Hp}{vs:List V}{ws:List (List Int)}(h:zL H vs ws):∀ ix:List Nat,(∀ i∈ix,i<vs.length)->zL H (ix.map fun i=>vs.getD i V.non) (ix.map fun i=>ws.getD i [])
 | [],_=>.nil
 | i::ix,hb=>by
  refine .cons ?_ (hU h ix fun j hj=>hb j (List.mem_cons_of_mem _ hj))
  have hi:=hb i List.mem_cons_self
  obtain ⟨y,e2,a,e3,e4⟩:=Paired.get h (List.getElem?_eq_getElem hi)
  refine ⟨a,?_,?_⟩
  ·show vs.getD i V.non=V.ref a
   rw [List.getD_eq_getElem?_getD,List.getElem?_eq_getElem hi];exact e3
  ·show H a=some (.tup ((ws.getD i []).map V.int))
   rw [List.getD_eq_getElem?_getD,e2];exact e4
theorem gX {rs:List Rch}{roads:List (List Int)}{vs out:List V}{H H':Hp}(hr:roads=(jt rs).map (qu rs)) (hv:zL H vs roads) (k:jp H H') (hs:vU uX (fun i=>(roads.getD i []).reverse) vs out):∃ ws,zL H' out ws/\qa rs ws:=by
 obtain ⟨ix,hp,e,hpw⟩:=hs
 have hb:∀ i∈ix,i<vs.length:=fun i hi=>by have:=hp.mem_iff.mp hi;simpa using this
 refine ⟨ix.map fun i=>roads.getD i [],by rw [e];exact (hU hv ix hb).keep k,?_,?_⟩
 ·have:=hp.map fun i=>roads.getD i []
  rw [hv.length,Qo] at this
  rw [<- hr]
  exact this
 ·rw [List.map_map]
  exact hpw
theorem YE {f c Pt:Addr}{oc:Value}{od an:Option Addr}{osl:Array (Option Value)}{kV doc pm ct:Value}(nb:Nb2 mg) (c_way_down:Cal P w K mg base 1 "way_down" ["reaches","head"] (kZ K)) (CH:PySem.W.CodeHd base c Pt) (hBm:Bm mg base)
  (l:K.lookup f=some ⟨oc,od,.func (PySem.W.fnOf "lanes" "lanes" (jR qU) (jJ qU) (j6 qU) .none kV doc pm an (.ref c) ct),osl⟩) (cd:PySem.W.codeIn K (.ref c) "lanes" = true) :
  FnOk P w K mg base CX0 5 f (PySem.W.fnOf "lanes" "lanes" (jR qU) (jJ qU) (j6 qU) .none kV doc pm an (.ref c) ct) ["reaches"] (vM K Pt):=by
 refine Fun.okC l cd ko (fun vs H Q E h=>?_) (fun A outer s H vs Q E hr h=>?_)
 ·obtain ⟨p,xs,rs,rfl,_⟩:=h
  rfl
 ·obtain ⟨p,xs,rs,rfl,hp,hrw,L,h60,hT,k⟩:=h
  have hlen:=hrw.length
  refine ⟨_,(j5 (je (i:=1) ko.nd rfl (Or.inr rfl) (jZ (osc:=(j6 qU)) (ON:=["reaches","entered","ways"]) (N:=["to","slope"]) (own:=2) (caps:=[]) ⟨rfl,by walk_at "k",by walk_at "k",by walk_at "k",rfl,by walk_at "k"⟩ rfl rfl rfl (qc K (pv 0)) (fun _ _ _ _ _=>(qq (n:=2) K rfl (jk (ja (i:=0) (show List.Nodup (["to","slope"]:List Str) by decide +kernel) rfl (Or.inl rfl)) (jk (ja (i:=1) (show List.Nodup (["to","slope"]:List Str) by decide +kernel) rfl (Or.inl rfl)) qm)))) (fun _ _ _ _ _=>jQ) (fun _ _ _ _ _=>(pv 0))))
   (j5 (XU (j:=2) (osc:=(j6 qU)) (ON:=["reaches","entered","ways"]) (N:=["head","reaches","entered"]) (own:=1) (caps:=[0,1]) ⟨rfl,by walk_at "k",by walk_at "k",by walk_at "k",rfl,by walk_at "k"⟩ ko.nd rfl (Or.inl rfl) rfl rfl rfl (qw rfl nb.b_range (j0 (jf (jg K) rfl nb.b_len PySem.boot_len (j0 (pv 0) j2)) j2)) (fun _ _ _ _ _=>(ja (i:=0) (show List.Nodup (["head","reaches","entered"]:List Str) by decide +kernel) rfl (Or.inl rfl))) (fun _ _ _ _ _=>(zk (jq (zA K) (pv 0) (pv 2) (by with_unfolding_all rfl)))) (fun _ _ _ _ _=>(jd c_way_down (hr.mono (by decide)) rfl (j0 (pv 1) (j0 (pv 0) j2)))))
   (j9 (jj (Xe (N:=["way"]) (x:="way") (k:=0) rfl nb.b_sorted (j0 (pv 2) j2) rfl CH hBm (hr.mono (by decide)) (by walk_at "s") (fun _ _ _ _=>rfl) (fun _ _ _ _=>(VF K (pv 0)))))))),?_⟩
  left
  refine ⟨⟨_,SqL.of hp⟩,fun en hen=>?_⟩
  refine qf (K:=K) (a:=p) (xs:=xs) (acc:=en) (fun j σ H2=>∃ x y:Option V,σ=[x,y]/\H2 en=some (.lst (((rs.take j).map (·.1)).map V.int))/\Ext en H H2) ?_ ?_ ?_ ?_
  ·exact ⟨none,none,rfl,j7,Ext.put⟩
  ·rintro j σ H2 hj ⟨x,y,rfl,h3,e3⟩
   exact SqL.of (e3 _ _ hp (j1 hp hen))
  ·rintro j v σ H2 hv ⟨x,y,rfl,h3,e3⟩
   obtain ⟨r,hr,q,g,rfl,hq,hg⟩:=(hrw.keep (jp.new e3 hen)).get hv
   have hj:j<rs.length:=(List.getElem?_eq_some_iff.mp hr).1
   left
   refine ⟨q,_,rfl,SqT.of hq,rfl,?_⟩
   refine ⟨_,_,rfl,_,_,rfl,rfl,?_⟩
   left
   refine ⟨_,h3,by rw [List.length_map,List.length_map,List.length_take];exact jm (by omega),_,_,rfl,?_,e3.trans Ext.put⟩
   rw [j7,qx (fun r:Rch=>r.1) rs j r hr,List.map_append]
   rfl
  ·rintro σ H2 ⟨x,y,rfl,h3,e3⟩
   rw [hlen,List.take_length] at h3
   have hp2:=e3 _ _ hp (j1 hp hen)
   have hrw2:jU H2 xs rs:=hrw.keep (jp.new e3 hen)
   have hT2:qC H2 Pt:=hT.extN hen e3
   left
   refine ⟨_,_,rfl,.inl (SqL.of hp2),?_⟩
   refine ⟨_,rfl,by omega,by omega,fun wy hwy=>?_⟩
   rw [hlen]
   refine xC (lo:=0) (n:=((rs.length:Nat):Int).toNat) (acc:=wy) (fun j σ H3=>∃ (x:Option V) (vs:List V),σ=[x,some (.ref p),some (.ref en)]/\H3 wy=some (.lst vs)/\zL H3 vs (((List.range j).filter (jO rs)).map (qu rs))/\Ext wy H2 H3/\vs.length<=j) ?_ ?_ ?_
   ·exact ⟨none,[],rfl,j7,.nil,Ext.put,Nat.le_refl _⟩
   ·rintro j σ H3 hj ⟨x,vs,rfl,h4,w4,e4,l4⟩
    have hj':j<rs.length:=by omega
    have hen4:=e4 _ _ h3 (j1 h3 hwy)
    have hp4:=e4 _ _ hp2 (j1 hp2 hwy)
    have hrw4:jU H3 xs rs:=hrw2.keep (jp.new e4 hwy)
    have er:(List.range (j+1)).filter (jO rs)=(List.range j).filter (jO rs)++(if jO rs j=true then [j] else []):=by
     rw [List.range_succ,List.filter_append]
     congr 1
     by_cases z:jO rs j=true
     ·rw [if_pos z];simp [z]
     ·rw [if_neg z];simp [z]
    left
    refine ⟨en,_,rfl,.inl (SqL.of hen4),rfl,yL _,?_⟩
    left
    rw [Int.zero_add,vP]
    refine x8 (fun hin=>?_) (fun hin=>?_)
    ·have hb:jO rs j=true:=by unfold jO;rw [decide_eq_false (show ¬ (j:Int)∈tos rs from hin)];rfl
     left
     refine ⟨p,xs,rs,j,rfl,hp4,hrw4,L,hj',by omega,fun t H5 ht ht5 s5=>?_⟩
     have nt:t≠wy:=fun z=>by rw [z,h4] at ht;cases ht
     have h5:=s5 _ _ h4
     refine ⟨vs,h5,jm (by omega),_,vs++[.ref t],rfl,j7,?_,fun c o hc n=>by rw [j8 n];exact s5 _ _ (e4 c o hc n),by rw [List.length_append,List.length_singleton];omega⟩
     rw [er,if_pos hb,List.map_append]
     exact zL.keep (jp.lst Ext.put h5) (Paired.snoc (w4.keep (jp.same s5)) ⟨t,rfl,ht5⟩)
    ·have hb:¬ jO rs j=true:=by unfold jO;rw [decide_eq_true (show (j:Int)∈tos rs from hin)];exact Bool.false_ne_true
     refine ⟨_,vs,rfl,h4,?_,e4,by omega⟩
     rw [er,if_neg hb,List.append_nil]
     exact w4
   ·rintro σ H3 ⟨x,vs,rfl,h4,w4,e4,l4⟩
    have hT3:qC H3 Pt:=hT2.extN hwy e4
    obtain ⟨ps,hPt⟩:=hT3.ne
    rw [Int.toNat_natCast] at w4 l4
    have hvl:=w4.length
    left
    refine ⟨hT3,wy,vs,fun i=>((((jt rs).map (qu rs)).getD i []).reverse),rfl,SqL.of h4,by omega,fun i hi z=>?_,fun H5 X5 i v hv=>?_,fun lo H5 out hlo hlo5 X5 T5 hs=>?_⟩
    ·have hi2:i<(jt rs).length:=by
      rw [List.length_map] at hvl
      exact Nat.lt_of_lt_of_eq hi hvl
     have z2:((jt rs).map (qu rs)).getD i []=[]:=List.reverse_eq_nil_iff.mp z
     rw [List.getD_eq_getElem?_getD,List.getElem?_map,List.getElem?_eq_getElem hi2] at z2
     exact VD _ z2
    ·obtain ⟨y,e2,a,rfl,ha⟩:=Paired.get w4 hv
     have ha5:=jp.tbl X5 hPt _ _ ha
     left
     refine ⟨a,_,rfl,SqT.of ha5,fun q H6 hq hq6 s6=>⟨s6,q,rfl,?_⟩⟩
     show H6 q=some (.tup (((((jt rs).map (qu rs)).getD i []).reverse).map V.int))
     rw [hq6,List.getD_eq_getElem?_getD,show ((jt rs).map (qu rs))[i]? = some y from e2,<- List.map_reverse]
     rfl
    ·obtain ⟨ws,hw,hrd⟩:=gX (rs:=rs) rfl w4 (jp.tbl X5 hPt) hs
     have wyP:wy≠Pt:=jr h4 hPt (by walk_at "z")
     have enP:en≠Pt:=jr (e4 _ _ h3 (j1 h3 hwy)) hPt (by walk_at "z")
     have hlo3:H lo=none:=by
      have a1:H2 lo=none:=e4.free hlo (fun z=>by rw [z,h4] at hlo;cases hlo)
      exact e3.free a1 (fun z=>by rw [z,h3] at a1;cases a1)
     exact k lo H5 out ws hlo3 hlo5 hw hrd (fun c o hc n=>X5 _ _ (e4 _ _ (e3 _ _ hc (j1 hc hen)) (j1 (e3 _ _ hc (j1 hc hen)) hwy)) n) T5
def YL (K:PySem.W.Frag):Sp:=fun vs H Q _=>∃ (p wl:Addr) (xs out:List V) (rs:List Rch) (ws:List (List Int)),vs=[.ref p,.ref wl]/\H p=some (.lst xs)/\jU H xs rs/\(∀ r∈rs,r.2.length<=100)/\H wl=some (.lst out)/\zL H out ws/\qa rs ws/\xl rs/\rs.length<=60 /\
 ∀ H',ji H H'->Q (.bl (decide (((jt rs).length:Int)<=6) && (jt rs).all fun h=>decide (jA rs (qu rs h)<=30))) H'
theorem Va:FnScope ["reaches","ways"] ["reaches","ways"] (j6 J9):=by walk_at "s"
theorem VH {f:Addr}{fd:FuncData}{u0 u1:Tok}(nb:Nb2 mg) (g_MOST_LANES:mg "MOST_LANES" = some (.int 6 u0)) (g_LONGEST_LANE:mg "LONGEST_LANE" = some (.int 30 u1)) (c_count_places:Cal P w K mg base 1 "count_places" ["reaches","way"] (XW K)) (F:Fun K "fits" "fits" J9 f fd):FnOk P w K mg base CX0 2 f fd ["reaches","ways"] (YL K):=by
 refine F.ok Va (fun vs H Q E h=>?_) (fun cdv A outer s H vs Q E hr h=>?_)
 ·obtain ⟨p,wl,xs,out,rs,ws,rfl,_⟩:=h
  rfl
 ·obtain ⟨p,wl,xs,out,rs,ws,rfl,hp,hrw,h100,hw,hws,hrd,L,h60,k⟩:=h
  have hwl:=hws.length
  have hrl:=hrd.length
  have hhl:(jt rs).length<=60:=by
   unfold jt
   exact Nat.le_trans (List.length_filter_le _ _) (by rw [List.length_range];exact h60)
  have fin:∀ (b:Bool) (H':Hp),ji H H'->b=(decide (((jt rs).length:Int)<=6) && (jt rs).all fun h=>decide (jA rs (qu rs h)<=30))->Q (.bl b) H':=fun b H' sm e=>by rw [e];exact k H' sm
  refine ⟨_,(j9 (jj (Jl (vV jP (jf (jg K) rfl nb.b_len PySem.boot_len (j0 (pv 1) j2)) (qv (v:=V.int 6) rfl g_MOST_LANES ⟨_,rfl⟩) (jx _)) (Xf (jf (yG K rfl) rfl nb.b_all boot_all (j0 (jZ (osc:=(j6 J9)) (ON:=["reaches","ways"]) (N:=["way","reaches"]) (own:=1) (caps:=[0]) ⟨rfl,by walk_at "k",by walk_at "k",by walk_at "k",rfl,by walk_at "k"⟩ rfl rfl rfl (qc K (pv 1)) (fun _ _ _ _ _=>(ja (i:=0) (show List.Nodup (["way","reaches"]:List Str) by decide +kernel) rfl (Or.inl rfl))) (fun _ _ _ _ _=>jQ) (fun _ _ _ _ _=>(vV jP (jd c_count_places (hr.mono (by decide)) rfl (j0 (pv 1) (j0 (pv 0) j2))) (qv (v:=V.int 30) rfl g_LONGEST_LANE ⟨_,rfl⟩) (jx _)))) j2)))))),?_⟩
  left
  refine ⟨_,_,rfl,.inl (SqL.of hw),?_⟩
  left
  refine jV (fun h1=>?_) (fun h1=>?_)
  ·left
   refine ⟨⟨_,SqL.of hw⟩,fun acc hacc=>?_⟩
   refine qf (K:=K) (a:=wl) (xs:=out) (acc:=acc) (fun j σ H2=>∃ x:Option V,σ=[x,some (.ref p)]/\H2 acc=some (.lst (((ws.take j).map fun w=>decide (jA rs w<=30)).map V.bl))/\Ext acc H H2) ?_ ?_ ?_ ?_
   ·exact ⟨none,rfl,j7,Ext.put⟩
   ·rintro j σ H2 hj ⟨x,rfl,h3,e3⟩
    exact SqL.of (e3 _ _ hw (j1 hw hacc))
   ·rintro j v σ H2 hv ⟨x,rfl,h3,e3⟩
    obtain ⟨wy,ew,a,rfl,ha⟩:=Paired.get (hws.keep (jp.new e3 hacc)) hv
    have hj:j<ws.length:=(List.getElem?_eq_some_iff.mp ew).1
    obtain ⟨hd,hhd,ewy⟩:=hrd.mem (List.mem_of_getElem? ew)
    have hdl:=xA hhd
    have hwlen:wy.length<=100:=by rw [ewy];have:=vy L hd hdl;omega
    left
    refine ⟨p,a,xs,rs,wy,rfl,e3 _ _ hp (j1 hp hacc),hrw.keep (jp.new e3 hacc),h100,ha,by rw [ewy];exact xS L hd hdl,hwlen,fun H4 s4=>?_⟩
    left
    refine ⟨_,s4 _ _ h3,by rw [List.length_map,List.length_map,List.length_take];exact jm (by omega),_,rfl,?_,fun c o hc n=>by rw [j8 n];exact s4 _ _ (e3 c o hc n)⟩
    rw [j7,qx (fun w=>decide (jA rs w<=30)) ws j wy ew,List.map_append]
    rfl
   ·rintro σ H2 ⟨x,rfl,h3,e3⟩
    rw [hwl,List.take_length] at h3
    refine ⟨acc,_,rfl,SqL.of h3,?_⟩
    refine fin _ H2 (fun c o hc=>e3 c o hc (j1 hc hacc)) ?_
    rw [decide_eq_true (show ((jt rs).length:Int)<=6 by rw [<- hrl,<- hwl];exact h1),Bool.true_and,hrd.all]
  ·refine fin _ H (ji.refl H) ?_
   rw [decide_eq_false (show ¬ ((jt rs).length:Int)<=6 by rw [<- hrl,<- hwl];exact h1)]
   rfl
def JS (K:PySem.W.Frag) (Pt:Addr):Sp:=fun vs H Q _=>∃ (p:Addr) (xs:List V) (rs:List Rch),vs=[.ref p]/\H p=some (.lst xs)/\jU H xs rs/\(∀ r∈rs,r.2.length<=100)/\rs.length<=60/\qC H Pt/\∀ H',Ext Pt H H'->qC H' Pt->Q (.bl (zn rs)) H'
theorem Jr:FnScope ["reaches"] ["reaches"] (j6 zw):=by walk_at "s"
theorem JB {f Pt:Addr}{fd:FuncData}{u0:Tok}(nb:Nb2 mg) (g_MOST_REACHES:mg "MOST_REACHES" = some (.int 8 u0)) (c_is_reach:Cal P w K mg base 2 "is_reach" ["number","reach"] XQ) (c_lanes:Cal P w K mg base 5 "lanes" ["reaches"] (vM K Pt)) (c_fits:Cal P w K mg base 2 "fits" ["reaches","ways"] (YL K)) (F:Fun K "is_valley" "is_valley" zw f fd):FnOk P w K mg base CX0 6 f fd ["reaches"] (JS K Pt):=by
 refine F.ok Jr (fun vs H Q E h=>?_) (fun cdv A outer s H vs Q E hr h=>?_)
 ·obtain ⟨p,xs,rs,rfl,_⟩:=h
  rfl
 ·obtain ⟨p,xs,rs,rfl,hp,hrw,h100,h60,hT,k⟩:=h
  have hlen:=hrw.length
  have fin:∀ (b:Bool) (H':Hp),Ext Pt H H'->qC H' Pt->b=zn rs->Q (.bl b) H':=fun b H' x t e=>by rw [e];exact k H' x t
  refine ⟨_,(j5 (jM (qJ (qy jP jP j4 (jf (jg K) rfl nb.b_len PySem.boot_len (j0 (pv 0) j2)) (qv (v:=V.int 8) rfl g_MOST_REACHES ⟨_,rfl⟩))) (j9 (jj yS)) jw)
   (j5 (jM (qJ (ve (jf (yG K rfl) rfl nb.b_all boot_all (j0 (jZ (osc:=(j6 zw)) (ON:=["reaches"]) (N:=["number","reach"]) (own:=2) (caps:=[]) ⟨rfl,by walk_at "k",by walk_at "k",by walk_at "k",rfl,by walk_at "k"⟩ rfl rfl rfl (Z1 K rfl nb.b_enumerate (j0 (pv 0) j2)) (fun _ _ _ _ _=>(qq (n:=2) K rfl (jk (ja (i:=0) (show List.Nodup (["number","reach"]:List Str) by decide +kernel) rfl (Or.inl rfl)) (jk (ja (i:=1) (show List.Nodup (["number","reach"]:List Str) by decide +kernel) rfl (Or.inl rfl)) qm)))) (fun _ _ _ _ _=>jQ) (fun _ _ _ _ _=>(jd c_is_reach (hr.mono (by decide)) rfl (j0 (pv 0) (j0 (pv 1) j2))))) j2)))) (j9 (jj yS)) jw)
   (j9 (jj (jd c_fits (hr.mono (by decide)) rfl (j0 (pv 0) (j0 (jd c_lanes (hr.mono (by decide)) rfl (j0 (pv 0) j2)) j2))))))),?_⟩
  left
  refine ⟨_,_,rfl,.inl (SqL.of hp),?_⟩
  left
  have no:¬ (1<=(xs.length:Int)/\(xs.length:Int)<=8)->Q (.bl false) H:=fun z=>fin _ H Ext.refl hT (by unfold zn;rw [decide_eq_false (by rw [<- hlen];exact z)];rfl)
  refine jV (fun h1=>?_) (fun h1=>?_)
  ·left
   refine x8 (fun h2=>?_) (fun h2=>?_)
   ·left
    exact no fun z=>h2 z.2
   ·have h18:decide (1<=(rs.length:Int)/\(rs.length:Int)<=8)=true:=decide_eq_true (by rw [<- hlen];exact ⟨h1,h2⟩)
    left
    refine ⟨⟨_,SqL.of hp⟩,fun acc hacc=>?_⟩
    refine ZJ (K:=K) (a:=p) (xs:=xs) (acc:=acc) (fun j σ H2=>∃ x y:Option V,σ=[x,y]/\H2 acc=some (.lst ((((List.range j)).map fun i=>okR i (rs.getD i (-1,[]))).map V.bl))/\Ext acc H H2) ?_ ?_ ?_ ?_
    ·exact ⟨none,none,rfl,j7,Ext.put⟩
    ·rintro j σ H2 hj ⟨x,y,rfl,h3,e3⟩
     exact SqL.of (e3 _ _ hp (j1 hp hacc))
    ·rintro j v σ H2 t hv ⟨x,y,rfl,h3,e3⟩ ht
     have hacct:acc≠t:=fun z=>by rw [z] at h3;rw [h3] at ht;cases ht
     obtain ⟨r,hr,hrow⟩:=(hrw.keep (jp.new e3 hacc)).get hv
     have hj:j<rs.length:=(List.getElem?_eq_some_iff.mp hr).1
     left
     refine ⟨t,_,rfl,SqT.of j7,rfl,?_⟩
     refine ⟨_,_,rfl,_,_,rfl,rfl,?_⟩
     left
     refine ⟨j,v,r,rfl,hrow.keep (jp.same (ji.new ht)),h100 r (List.mem_of_getElem? hr),fun H4 s4=>?_⟩
     refine ⟨_,s4 _ _ ((ji.new ht) _ _ h3),by rw [List.length_map,List.length_map,List.length_range];exact jm (by omega),_,_,rfl,?_,fun c o hc n=>by rw [j8 n];exact s4 _ _ ((ji.new ht) _ _ (e3 c o hc n))⟩
     rw [j7,List.range_succ,List.map_append,List.map_append]
     simp only [List.map_cons,List.map_nil]
     rw [List.getD_eq_getElem?_getD,hr]
     rfl
    ·rintro σ H2 ⟨x,y,rfl,h3,e3⟩
     rw [hlen] at h3
     have sm:ji H H2:=fun c o hc=>e3 c o hc (j1 hc hacc)
     refine ⟨acc,_,rfl,SqL.of h3,?_⟩
     left
     have eok:(((List.range rs.length).map fun i=>okR i (rs.getD i (-1,[]))).all fun b=>b)=ui rs:=by rw [List.all_map];rfl
     rw [eok]
     cases hok:ui rs with
     | false =>
      refine uS ?_
      left
      exact fin _ H2 (Ext.of_same sm) (hT.same sm) (by unfold zn;rw [hok,h18];rfl)
     | true =>
      refine Ug ?_
      have L:=qg hok
      left
      refine ⟨p,xs,rs,rfl,sm _ _ hp,hrw.keep (jp.same sm),L,h60,hT.same sm,fun l H3 out ws hl hl3 w3 r3 X3 T3=>?_⟩
      obtain ⟨ps,hPt⟩:=(hT.same sm).ne
      have hp3:=X3 _ _ (sm _ _ hp) (jr (sm _ _ hp) hPt (by walk_at "z"))
      refine ⟨p,l,xs,out,rs,ws,rfl,hp3,hrw.keep ((jp.same sm).trans (jp.tbl X3 hPt)),h100,hl3,w3,r3,L,h60,fun H4 s4=>?_⟩
      exact fin _ H4 (((Ext.of_same sm).trans X3).trans (Ext.of_same s4)) (T3.same s4) (by unfold zn;rw [hok,h18];rfl)
  ·refine ⟨_,rfl,uS ?_⟩
   left
   exact no fun z=>h1 z.1
end
section
variable {P:Program}{w:World}{K:PySem.W.Frag}{mg:Str->Option Value}{base:Heap}
theorem vL:FnScope ["_law_number","_law_turn","_law_one"] ["_law_number","_law_turn"] (j6 yA):=by walk_at "s"
theorem Ym {f:Addr}{fd:FuncData}(F:Fun K "_law_mixed" "_law_mixed" yA f fd):FnOk P w K mg base CX0 1 f fd ["_law_number","_law_turn"] XR:=by
 refine F.ok vL (fun vs H Q E h=>?_) (fun cdv A outer s H vs Q E hr h=>?_)
 ·obtain ⟨a,b,rfl,_⟩:=h
  rfl
 ·obtain ⟨a,b,rfl,k⟩:=h
  refine ⟨_,(j5 (je (i:=2) vL.nd rfl (Or.inl rfl) (jh xV (jh jN (jh jN (jh uk (pv 0) j4) (jh uk (pv 1) j4)) j4) j4))
   (j9 (jj (jh vN (jh xV (jh jN (jh jN (jh uk (pv 2) (jh jN (jh xV (pv 2) j4) j4)) (jh uk (pv 1) j4)) (jh xV (jh vN (pv 0) j4) j4)) j4) j4)))),?_⟩
  left
  exact k _
theorem yt:FnScope ["_law_box_here","_law_size","_law_left","_law_cell"] ["_law_box_here","_law_size"] (j6 vi):=by walk_at "s"
theorem Vk {f:Addr}{fd:FuncData}(nb:Nb mg) (c_law_mixed:Cal P w K mg base 1 "_law_mixed" ["_law_number","_law_turn"] XR) (F:Fun K "_law_take" "_law_take" vi f fd):FnOk P w K mg base CX0 2 f fd ["_law_box_here","_law_size"] xJ:=by
 refine F.ok yt (fun vs H Q E h=>?_) (fun cdv A outer s H vs Q E hr h=>?_)
 ·obtain ⟨L,b,n,rfl,_⟩:=h
  rfl
 ·obtain ⟨L,b,n,rfl,B,⟨hn,hn2⟩,k⟩:=h
  obtain ⟨ns,a,r,c,d,hb,hL,hS,ha⟩:=B
  refine ⟨_,(j5 (xy (jh jN (jn (jb K) (pv 0) j4 (fun _ _=>rfl)) j4) (Jy (pv 0) j4 vB))
   (j5 (jM (jq Ub (jn (jb K) (pv 0) j4 (fun _ _=>rfl)) j4 (jx _)) (j5 (je (i:=2) yt.nd rfl (Or.inl rfl) (jn (jb K) (pv 0) j4 (fun _ _=>rfl)))
   (j5 (xy (jh vN (pv 2) (pv 1)) (Jy (pv 0) j4 vB))
   (j9 (jj (jh xV (pv 2) (pv 1)))))) jw)
   (j5 (jM (jq XZ (jn (jb K) (pv 0) j4 (fun _ _=>rfl)) (jf (jg K) rfl nb.b_len PySem.boot_len (j0 (jn (jb K) (pv 0) j4 (fun _ _=>rfl)) j2)) (jx _)) (j9 (jj (jh xV (jd c_law_mixed (hr.mono (by decide)) rfl (j0 (jn (jb K) (pv 0) j4 (fun _ _=>rfl)) (j0 (jn (jb K) (pv 0) j4 (fun _ _=>rfl)) j2))) (pv 1)))) jw)
   (j5 (je (i:=3) yt.nd rfl (Or.inl rfl) (jn (jb K) (jn (jb K) (pv 0) j4 (fun _ _=>rfl)) (jn (jb K) (pv 0) j4 (fun _ _=>rfl)) (fun _ _=>rfl)))
   (j5 (xy (jh jN (jn (jb K) (pv 0) j4 (fun _ _=>rfl)) j4) (Jy (pv 0) j4 vB))
   (j5 (jM (jq xX (pv 3) (jh yY j4 j4) (jx _)) (j9 (jj (jh xV (jd c_law_mixed (hr.mono (by decide)) rfl (j0 (pv 3) (j0 (jn (jb K) (pv 0) j4 (fun _ _=>rfl)) j2))) (pv 1)))) jw)
   (j5 (xy (jh vN (pv 3) (pv 1)) (Jy (pv 0) j4 vB))
   (j9 (jj (jh xV (pv 3) (pv 1))))))))))),?_⟩
  left
  refine jV (fun h1=>?_) (fun h1=>?_)
  ·left
   exact k _ _ (Int.emod_nonneg _ (by omega)) (Int.emod_lt_of_pos _ hn) ⟨ns,_,_,_,_,j7,hL,(Ext.put.trans Ext.put) _ _ hS hL,ha⟩ (Ext.put.trans Ext.put)
  ·have hS1:∀ o,SqL K (upd H b o) L (ns.map V.int):=fun o=>SqL.of (Ext.put _ _ hS hL)
   left
   refine ⟨_,_,rfl,.inl (hS1 _),?_⟩
   left
   refine jV (fun h2=>?_) (fun h2=>?_)
   ·left
    refine ⟨_,_,rfl,fun z=>?_⟩
    left
    exact k _ _ (Int.emod_nonneg _ (by omega)) (Int.emod_lt_of_pos _ hn) ⟨ns,_,_,_,_,j7,hL,Ext.put _ _ hS hL,ha⟩ Ext.put
   ·have h3:a<ns.length:=by
     rw [List.length_map] at h2
     omega
    obtain ⟨z,hz⟩:=ux ha h3
    left
    refine ⟨_,_,_,_,rfl,rfl,hS1 _,hz,?_⟩
    left
    refine jV (fun h4=>?_) (fun h4=>?_)
    ·left
     refine ⟨_,_,rfl,fun z=>?_⟩
     left
     exact k _ _ (Int.emod_nonneg _ (by omega)) (Int.emod_lt_of_pos _ hn) ⟨ns,_,_,_,_,j7,hL,(Ext.put.trans Ext.put) _ _ hS hL,by omega⟩ (Ext.put.trans Ext.put)
    ·left
     exact k _ _ (Int.emod_nonneg _ (by omega)) (Int.emod_lt_of_pos _ hn) ⟨ns,_,_,_,_,j7,hL,((Ext.put.trans Ext.put).trans Ext.put) _ _ hS hL,by omega⟩ ((Ext.put.trans Ext.put).trans Ext.put)
theorem y9:FnScope ["_law_script","_law_seed","_law_cell"] ["_law_script"] (j6 uy):=by walk_at "s"
theorem Wf {f:Addr}{fd:FuncData}(nb:Nb mg) (F:Fun K "_law_box" "_law_box" uy f fd):FnOk P w K mg base CX0 1 f fd ["_law_script"] (V5 K):=by
 refine F.ok y9 (fun vs H Q E h=>?_) (fun cdv A outer s H vs Q E hr h=>?_)
 ·obtain ⟨a,ns,rfl,_⟩:=h
  rfl
 ·obtain ⟨a,ns,rfl,hS,k⟩:=h
  refine ⟨_,(j5 (je (i:=1) y9.nd rfl (Or.inl rfl) j4)
   (j5 (qK PassesOwn.never rfl (qc K (pv 0)) (ja (i:=2) y9.nd rfl (Or.inl rfl)) (j9 (je (i:=1) y9.nd rfl (Or.inl rfl) (jh xV (jh jN (jh jN (jh uk (pv 1) j4) (jh xV (pv 2) j4)) j4) j4))))
   (j9 (jj (jK (j0 (qH (qP K) rfl nb.b_list PyProof.Rows.boot_list (j0 (pv 0) j2)) (j0 j4 (j0 j4 (j0 j4 (j0 (pv 1) j2)))))))))),?_⟩
  left
  refine ⟨⟨_,hS⟩,vH (K:=K) (a:=a) (xs:=ns.map V.int) (fun i σ H2=>∃ (seed:Int) (v:Option V),σ=[some (.ref a),some (.int seed),v]/\H2=H) ⟨_,_,rfl,rfl⟩ (fun i σ H2 _ ⟨_,_,_,e⟩=>by rw [e];exact hS) ?_ ?_⟩
  ·rintro i y σ H2 hi ⟨seed,v,rfl,rfl⟩
   obtain ⟨z,rfl⟩:=yv hi
   left
   exact ⟨_,_,rfl,rfl⟩
  ·rintro σ H2 ⟨seed,v,rfl,rfl⟩
   left
   refine ⟨a,_,rfl,.inl hS,fun L H3 hL hL3 s3=>?_⟩
   left
   refine ⟨by show 5<=sizeLine;decide,fun b H4 hb hb4 s4=>?_⟩
   exact k L b _ (s3.free hb) ⟨ns,_,_,_,_,hb4,j1 hL3 hb,s4 _ _ hL3,Int.le_refl _⟩ (s3.trans s4)
def good (t:T3):Bool:=decide (0<=t.1/\t.1<=100/\0<=t.2.1/\t.2.1<=9/\0<=t.2.2/\t.2.2<=9)
def gr (ts:List T3):Bool:=decide (1<=(ts.length:Int)/\(ts.length:Int)<=12) && ts.all good
theorem U5 {ts:List T3}(h:¬ (1<=(ts.length:Int)/\(ts.length:Int)<=12)):gr ts=false:=by unfold gr;rw [decide_eq_false h];rfl
theorem Wb {ts:List T3}(h:1<=(ts.length:Int)/\(ts.length:Int)<=12):gr ts=(ts.map good).all fun b=>b:=by
 unfold gr
 rw [decide_eq_true h,Bool.true_and,List.all_map]
 rfl
def Xy:Sp:=fun vs H Q _=>∃ (p:Addr) (t:T3),vs=[.ref p]/\H p=some (yM t)/\Q (.bl (good t)) H
local macro_rules | `(tactic| walk_at "forks")=>`(tactic| (walk_at "r";first | (refine jV (fun _=>?_) (fun _=>?_) <;> walk_at "forks") | skip))
theorem xI:FnScope ["row","line","snow","sun"] ["row"] (j6 yc):=by walk_at "s"
theorem kS {f:Addr}{fd:FuncData}{u0 u1:Tok}(g_HIGHEST_LINE:mg "HIGHEST_LINE" = some (.int 100 u0)) (g_MOST_HANDS:mg "MOST_HANDS" = some (.int 9 u1)) (F:Fun K "is_weather" "is_weather" yc f fd):FnOk P w K mg base CX0 1 f fd ["row"] Xy:=by
 refine F.ok xI (fun vs H Q E h=>?_) (fun cdv A outer s H vs Q E hr h=>?_)
 ·obtain ⟨p,t,rfl,_⟩:=h
  rfl
 ·obtain ⟨p,⟨l,sn,u⟩,rfl,hp,k⟩:=h
  refine ⟨_,(j5 (xy (pv 0) (qq (n:=3) K rfl (jk (ja (i:=1) xI.nd rfl (Or.inl rfl)) (jk (ja (i:=2) xI.nd rfl (Or.inl rfl)) (jk (ja (i:=3) xI.nd rfl (Or.inl rfl)) qm)))))
   (j9 (jj (Jl (xO jP jP j4 (pv 1) (qv (v:=V.int 100) rfl g_HIGHEST_LINE ⟨_,rfl⟩)) (Jl (xO jP jP j4 (pv 2) (qv (v:=V.int 9) rfl g_MOST_HANDS ⟨_,rfl⟩)) (Xf (xO jP jP j4 (pv 3) (qv (v:=V.int 9) rfl g_MOST_HANDS ⟨_,rfl⟩)))))))),?_⟩
  left
  refine ⟨p,_,rfl,SqT.of hp,rfl,?_⟩
  refine ⟨_,_,rfl,_,_,rfl,_,_,rfl,rfl,?_⟩
  walk_at "forks"
  all_goals
   refine Eq.mp (congrArg (fun z=>Q (V.bl z) H) ?_) k
   unfold good
   dsimp only at *
   first | (apply decide_eq_false;omega) | (apply decide_eq_decide.mpr;omega)
theorem JU:FnScope ["rows"] ["rows"] (j6 ya):=by walk_at "s"
def Z9 (K:PySem.W.Frag):Sp:=fun vs H Q _=>∃ (p:Addr) (xs:List V) (ts:List T3),vs=[.ref p]/\H p=some (.lst xs)/\qM H xs ts/\ts.length<=1000/\∀ H',ji H H'->Q (.bl (gr ts)) H'
theorem Qh {f:Addr}{fd:FuncData}{u0:Tok}(nb:Nb mg) (g_MOST_ROWS:mg "MOST_ROWS" = some (.int 12 u0)) (c_is_weather:Cal P w K mg base 1 "is_weather" ["row"] Xy) (F:Fun K "is_round" "is_round" ya f fd):FnOk P w K mg base CX0 2 f fd ["rows"] (Z9 K):=by
 refine F.ok JU (fun vs H Q E h=>?_) (fun cdv A outer s H vs Q E hr h=>?_)
 ·obtain ⟨p,xs,ts,rfl,_⟩:=h
  rfl
 ·obtain ⟨p,xs,ts,rfl,hp,hr3,h1000,k⟩:=h
  have hlen:=hr3.length
  refine ⟨_,(j9 (jj (Jl (xO jP jP j4 (jf (jg K) rfl nb.b_len PySem.boot_len (j0 (pv 0) j2)) (qv (v:=V.int 12) rfl g_MOST_ROWS ⟨_,rfl⟩)) (Xf (jf (yG K rfl) rfl nb.b_all boot_all (j0 (jZ (osc:=(j6 ya)) (ON:=["rows"]) (N:=["row"]) (own:=1) (caps:=[]) ⟨rfl,by walk_at "k",by walk_at "k",by walk_at "k",rfl,by walk_at "k"⟩ rfl rfl rfl (qc K (pv 0)) (fun _ _ _ _ _=>(ja (i:=0) (show List.Nodup (["row"]:List Str) by decide +kernel) rfl (Or.inl rfl))) (fun _ _ _ _ _=>jQ) (fun _ _ _ _ _=>(jd c_is_weather (hr.mono (by decide)) rfl (j0 (pv 0) j2)))) j2)))))),?_⟩
  left
  refine ⟨_,_,rfl,.inl (SqL.of hp),?_⟩
  left
  refine jV (fun h1=>?_) (fun h1=>?_)
  ·left
   refine jV (fun h2=>?_) (fun h2=>?_)
   ·left
    refine ⟨⟨_,SqL.of hp⟩,fun acc hacc=>?_⟩
    refine qf (K:=K) (a:=p) (xs:=xs) (acc:=acc) (fun i σ H2=>∃ x:Option V,σ=[x]/\H2 acc=some (.lst (((ts.take i).map good).map V.bl))/\Ext acc H H2) ?_ ?_ ?_ ?_
    ·exact ⟨none,rfl,j7,Ext.put⟩
    ·rintro i σ H2 hi ⟨x,rfl,h3,e3⟩
     exact SqL.of (e3 _ _ hp (j1 hp hacc))
    ·rintro i v σ H2 hv ⟨x,rfl,h3,e3⟩
     obtain ⟨t,ht,q,rfl,hq⟩:=hr3.get hv
     have hi:i<ts.length:=(List.getElem?_eq_some_iff.mp ht).1
     left
     refine ⟨q,t,rfl,e3 _ _ hq (j1 hq hacc),?_⟩
     refine ⟨_,h3,by rw [List.length_map,List.length_map,List.length_take];exact jm (by omega),_,rfl,?_,e3.trans Ext.put⟩
     rw [j7,qx good ts i t ht,List.map_append]
     rfl
    ·rintro σ H2 ⟨x,rfl,h3,e3⟩
     rw [hlen,List.take_length] at h3
     refine ⟨acc,ts.map good,rfl,SqL.of h3,?_⟩
     have k2:=k H2 fun c o hc=>e3 c o hc (j1 hc hacc)
     rw [Wb (by rw [hlen] at h1 h2;exact ⟨h1,h2⟩)] at k2
     exact k2
   ·left
    have k2:=k H (ji.refl H)
    rw [U5 (by rw [hlen] at h2;intro z;exact h2 z.2)] at k2
    exact k2
  ·left
   have k2:=k H (ji.refl H)
   rw [U5 (by rw [hlen] at h1;intro z;exact h1 z.1)] at k2
   exact k2
def ub:Sp:=fun vs H Q _=>∃ (L b:Addr),vs=[.ref b]/\jS L H b/\∀ (p:Addr) (H':Hp) (t:T3),jS L H' b->Ext b H H'->H' p=some (yM t)->good t=true->Q (.ref p) H'
theorem yr:FnScope ["_law_box_here","_law_line"] ["_law_box_here"] (j6 zx):=by walk_at "s"
theorem five {v3 v1 v2:Int}(a:0<=v3) (b:v3<5) (c:0<=v1) (d:v1<20) (e:0<=v2) (g:v2<101):∃ ln,atI [V.int (40+v1),V.int v2,V.int 0,V.int 100,V.int 50] v3=some (V.int ln)/\0<=ln/\ln<=100:=by
 have h:v3=0\/v3=1\/v3=2\/v3=3\/v3=4:=by omega
 rcases h with rfl | rfl | rfl | rfl | rfl
 ·exact ⟨40+v1,rfl,by omega,by omega⟩
 ·exact ⟨v2,rfl,by omega,by omega⟩
 ·exact ⟨0,rfl,by omega,by omega⟩
 ·exact ⟨100,rfl,by omega,by omega⟩
 ·exact ⟨50,rfl,by omega,by omega⟩
theorem QC {f:Addr}{fd:FuncData}(c_law_take:Cal P w K mg base 2 "_law_take" ["_law_box_here","_law_size"] xJ) (F:Fun K "_law_weather" "_law_weather" zx f fd):FnOk P w K mg base CX0 3 f fd ["_law_box_here"] ub:=by
 refine F.ok yr (fun vs H Q E h=>?_) (fun cdv A outer s H vs Q E hr h=>?_)
 ·obtain ⟨L,b,rfl,_⟩:=h
  rfl
 ·obtain ⟨L,b,rfl,B,k⟩:=h
  refine ⟨_,(j5 (je (i:=1) yr.nd rfl (Or.inl rfl) (jn (jb K) (jK (j0 (jh jN j4 (jd c_law_take (hr.mono (by decide)) rfl (j0 (pv 0) (j0 j4 j2)))) (j0 (jd c_law_take (hr.mono (by decide)) rfl (j0 (pv 0) (j0 j4 j2))) (j0 j4 (j0 j4 (j0 j4 j2)))))) (jd c_law_take (hr.mono (by decide)) rfl (j0 (pv 0) (j0 j4 j2))) (fun _ _=>rfl)))
   (j9 (jj (jI (j0 (pv 1) (j0 (jd c_law_take (hr.mono (by decide)) rfl (j0 (pv 0) (j0 j4 j2))) (j0 (jd c_law_take (hr.mono (by decide)) rfl (j0 (pv 0) (j0 j4 j2))) j2))))))),?_⟩
  left
  refine ⟨L,b,_,rfl,B,⟨by decide,by decide⟩,fun v1 H1 p1 q1 B1 X1=>?_⟩
  left
  refine ⟨L,b,_,rfl,B1,⟨by decide,by decide⟩,fun v2 H2 p2 q2 B2 X2=>?_⟩
  refine ⟨by show 5<=sizeLine;decide,fun q Hq hq hqq sq=>?_⟩
  left
  refine ⟨L,b,_,rfl,B2.same sq,⟨by decide,by decide⟩,fun v3 H3 p3 q3 B3 X3=>?_⟩
  have hq3:=X3 _ _ hqq (B2.ne hq)
  obtain ⟨ln,hln,l0,l1⟩:=five p3 q3 p1 q1 p2 q2
  refine ⟨_,_,_,_,rfl,rfl,SqL.of hq3,hln,?_⟩
  left
  refine ⟨L,b,_,rfl,B3,⟨by decide,by decide⟩,fun v4 H4 p4 q4 B4 X4=>?_⟩
  left
  refine ⟨L,b,_,rfl,B4,⟨by decide,by decide⟩,fun v5 H5 p5 q5 B5 X5=>?_⟩
  refine ⟨by show 3<=sizeLine;decide,fun p Hp hp hpp sp=>?_⟩
  exact k p _ (ln,v4,v5) (B5.same sp) ((((((X1.trans X2).trans (Ext.of_same sq)).trans X3).trans X4).trans X5).trans (Ext.of_same sp)) hpp (decide_eq_true ⟨l0,l1,p4,(show v4<=9 by omega),p5,(show v5<=9 by omega)⟩)
def uJ:Sp:=fun vs H Q _=>∃ (L b:Addr),vs=[.ref b]/\jS L H b/\∀ (p:Addr) (H':Hp) (xs:List V) (ts:List T3),jS L H' b->Ext b H H'->H p=none->H' p=some (.lst xs)->qM H' xs ts->(1<=ts.length/\ts.length<=12)->ts.all good=true->Q (.ref p) H'
theorem J0:FnScope ["_law_box_here"] ["_law_box_here"] (j6 zq):=by walk_at "s"
theorem Q6 {v:Int}(a:0<=v) (b:v<3):∃ n,atI [V.int 1,V.int 3,V.int 12] v=some (V.int n)/\0<n/\n<=12:=by
 have h:v=0\/v=1\/v=2:=by omega
 rcases h with rfl | rfl | rfl
 ·exact ⟨1,rfl,by omega,by omega⟩
 ·exact ⟨3,rfl,by omega,by omega⟩
 ·exact ⟨12,rfl,by omega,by omega⟩
theorem YO {f:Addr}{fd:FuncData}(nb:Nb mg) (c_law_take:Cal P w K mg base 2 "_law_take" ["_law_box_here","_law_size"] xJ) (c_law_weather:Cal P w K mg base 3 "_law_weather" ["_law_box_here"] ub) (F:Fun K "_law_round" "_law_round" zq f fd):FnOk P w K mg base CX0 4 f fd ["_law_box_here"] uJ:=by
 refine F.ok J0 (fun vs H Q E h=>?_) (fun cdv A outer s H vs Q E hr h=>?_)
 ·obtain ⟨L,b,rfl,_⟩:=h
  rfl
 ·obtain ⟨L,b,rfl,B,k⟩:=h
  refine ⟨_,(j9 (jj (jZ (osc:=(j6 zq)) (ON:=["_law_box_here"]) (N:=["_law_turn","_law_box_here"]) (own:=1) (caps:=[0]) ⟨rfl,by walk_at "k",by walk_at "k",by walk_at "k",rfl,by walk_at "k"⟩ rfl rfl rfl (qw rfl nb.b_range (j0 (jh jN j4 (jd c_law_take (hr.mono (by decide)) rfl (j0 (pv 0) (j0 (jn (jb K) (jK (j0 j4 (j0 j4 (j0 j4 j2)))) (jd c_law_take (hr.mono (by decide)) rfl (j0 (pv 0) (j0 j4 j2))) (fun _ _=>rfl)) j2)))) j2)) (fun _ _ _ _ _=>(ja (i:=0) (show List.Nodup (["_law_turn","_law_box_here"]:List Str) by decide +kernel) rfl (Or.inl rfl))) (fun _ _ _ _ _=>jQ) (fun _ _ _ _ _=>(jd c_law_weather (hr.mono (by decide)) rfl (j0 (pv 1) j2)))))),?_⟩
  left
  refine ⟨by show 3<=sizeLine;decide,fun q Hq hq hqq sq=>?_⟩
  left
  refine ⟨L,b,_,rfl,B.same sq,⟨by decide,by decide⟩,fun v1 H1 p1 q1 B1 X1=>?_⟩
  obtain ⟨n,hn,n0,n1⟩:=Q6 p1 q1
  refine ⟨_,_,_,_,rfl,rfl,SqL.of (X1 _ _ hqq (B.ne hq)),hn,?_⟩
  refine ⟨L,b,_,rfl,B1,⟨n0,by omega⟩,fun v2 H2 p2 q2 B2 X2=>?_⟩
  refine ⟨_,_,rfl,rfl,?_⟩
  refine ⟨1+v2,rfl,by omega,by omega,fun acc hacc=>?_⟩
  have nb1:=B2.ne hacc
  have nb2:=B2.neL hacc
  have hfree:∀ a,H2 a=none->a≠b->H a=none:=fun a n nb=>ji.free sq (X1.free (X2.free n nb) nb)
  refine xC (lo:=0) (n:=(1+v2).toNat) (acc:=acc) (fun i σ H3=>∃ (x:Option V) (xs:List V) (ts:List T3),σ=[x,some (.ref b)]/\jS L H3 b/\(∀ c o,H2 c=some o->c≠b->H3 c=some o)/\H3 acc=some (.lst xs)/\qM H3 xs ts/\ts.length=i/\ts.all good=true) ?_ ?_ ?_
  ·exact ⟨none,[],[],rfl,B2.put nb1 nb2,fun c o hc n=>Ext.put _ _ hc (j1 hc hacc),j7,.nil,rfl,rfl⟩
  ·rintro i σ H3 hi ⟨x,xs,ts,rfl,B3,ks,h3,r3,hl,hg⟩
   left
   refine ⟨L,b,rfl,B3,fun p H4 t B4 X4 hp ht=>?_⟩
   have h4:=X4 _ _ h3 nb1
   have r4:qM H4 xs ts:=r3.imp fun p t e=>X4 _ _ e (B3.ne_tup e)
   have hlen:=r4.length
   refine ⟨xs,h4,jm (by omega),_,xs++[.ref p],ts++[t],rfl,B4.put nb1 nb2,fun c o hc n=>Ext.put _ _ (X4 _ _ (ks c o hc n) n) (j1 hc hacc),j7,?_,by rw [List.length_append,hl];rfl,by rw [List.all_append,hg];simp [ht]⟩
   exact qM.imp (r4.snoc ⟨p,rfl,hp⟩) fun q t e=>Ext.put _ _ e (jr e h4 (by walk_at "z"))
  ·rintro σ H3 ⟨x,xs,ts,rfl,B3,ks,h3,r3,hl,hg⟩
   exact k acc H3 xs ts B3 (fun c o hc n=>ks c o (X2 _ _ (X1 _ _ (sq _ _ hc) n) n) n) (hfree acc hacc nb1) h3 r3 (by omega) hg
def Y3:Sp:=fun vs H Q _=>∃ (L b:Addr),vs=[.ref b]/\jS L H b/\∀ (z:Int) (H':Hp),jS L H' b->Ext b H H'->Q (.int z) H'
theorem wC:FnScope ["_law_box_here","_law_some"] ["_law_box_here"] (j6 uz):=by walk_at "s"
theorem Uq {f:Addr}{fd:FuncData}(c_law_take:Cal P w K mg base 2 "_law_take" ["_law_box_here","_law_size"] xJ) (F:Fun K "_law_odd" "_law_odd" uz f fd):FnOk P w K mg base CX0 3 f fd ["_law_box_here"] Y3:=by
 refine F.ok wC (fun vs H Q E h=>?_) (fun cdv A outer s H vs Q E hr h=>?_)
 ·obtain ⟨L,b,rfl,_⟩:=h
  rfl
 ·obtain ⟨L,b,rfl,B,k⟩:=h
  refine ⟨_,(j5 (je (i:=1) wC.nd rfl (Or.inl rfl) (jK (j0 (jh jE j4 j4) (j0 j4 (j0 j4 (j0 j4 (j0 (jh jE (jh jE j4 j4) (jd c_law_take (hr.mono (by decide)) rfl (j0 (pv 0) (j0 (jh yY j4 j4) j2)))) (j0 j4 (j0 j4 (j0 j4 (j0 j4 (j0 (jh yY j4 j4) (j0 (jh jN (jh yY j4 j4) j4) (j0 j4 j2))))))))))))))
   (j9 (jj (jn (jb K) (pv 1) (jd c_law_take (hr.mono (by decide)) rfl (j0 (pv 0) (j0 j4 j2))) (fun _ _=>rfl))))),?_⟩
  left
  refine ⟨L,b,_,rfl,B,⟨by decide,by decide⟩,fun v1 H1 p1 q1 B1 X1=>?_⟩
  left
  refine ⟨by show 12<=sizeLine;decide,fun q Hq hq hqq sq=>?_⟩
  left
  refine ⟨L,b,_,rfl,B1.same sq,⟨by decide,by decide⟩,fun v2 H2 p2 q2 B2 X2=>?_⟩
  have hq2:=X2 _ _ hqq (B1.ne hq)
  obtain ⟨z,hz⟩:=ux (ns:=[0-1,1,100,101,0-1-v1,9,10,13,31,10 ^ (40:Int).toNat,10 ^ (40:Int).toNat+1,99]) p2 q2
  refine ⟨_,_,_,_,rfl,rfl,SqL.of hq2,hz,?_⟩
  exact k z _ B2 ((X1.trans (Ext.of_same sq)).trans X2)
end
section
variable {P:Program}{w:World}{K:PySem.W.Frag}{mg:Str->Option Value}{base:Heap}
def yV:Sp:=fun vs H Q _=>∃ (L b:Addr) (tp sz:Int),vs=[.ref b,.int tp,.int sz]/\jS L H b/\tp<=99/\0<=sz/\sz<=100/\∀ p H' (hs:List Int),jS L H' b->Ext b H H'->H p=none->H' p=some (.lst (hs.map V.int))->(hs.length:Int)=sz->(∀ x∈hs,0<=x/\x<=99)->Q (.ref p) H'
theorem qZ:FnScope ["_law_box_here","_law_top","_law_size","_law_pick","_law_step"] ["_law_box_here","_law_top","_law_size"] (j6 qj):=by walk_at "s"
theorem uU {f:Addr}{fd:FuncData}(nb:Nb2 mg) (c_law_take:Cal P w K mg base 2 "_law_take" ["_law_box_here","_law_size"] xJ) (F:Fun K "_law_ground_drawn" "_law_ground_drawn" qj f fd):FnOk P w K mg base CX0 3 f fd ["_law_box_here","_law_top","_law_size"] yV:=by
 refine F.ok qZ (fun vs H Q E h=>?_) (fun cdv A outer s H vs Q E hr h=>?_)
 ·obtain ⟨L,b,tp,sz,rfl,_⟩:=h
  rfl
 ·obtain ⟨L,b,tp,sz,rfl,B,htp,h0,h1,k⟩:=h
  refine ⟨_,(j5 (je (i:=3) qZ.nd rfl (Or.inl rfl) (jd c_law_take (hr.mono (by decide)) rfl (j0 (pv 0) (j0 j4 j2))))
   (j5 (jM (jq zd (pv 3) j4 (jx _)) (j9 (jj (jZ (osc:=(j6 qj)) (ON:=["_law_box_here","_law_top","_law_size","_law_pick","_law_step"]) (N:=["_law_turn","_law_box_here"]) (own:=1) (caps:=[0]) ⟨rfl,by walk_at "k",by walk_at "k",by walk_at "k",rfl,by walk_at "k"⟩ rfl rfl rfl (qw rfl nb.b_range (j0 (pv 2) j2)) (fun _ _ _ _ _=>(ja (i:=0) (show List.Nodup (["_law_turn","_law_box_here"]:List Str) by decide +kernel) rfl (Or.inl rfl))) (fun _ _ _ _ _=>jQ) (fun _ _ _ _ _=>(jd c_law_take (hr.mono (by decide)) rfl (j0 (pv 1) (j0 j4 j2))))))) jw)
   (j5 (je (i:=4) qZ.nd rfl (Or.inr rfl) (jh jN j4 (jd c_law_take (hr.mono (by decide)) rfl (j0 (pv 0) (j0 j4 j2)))))
   (j9 (jj (jZ (osc:=(j6 qj)) (ON:=["_law_box_here","_law_top","_law_size","_law_pick","_law_step"]) (N:=["_law_place","_law_top","_law_step"]) (own:=1) (caps:=[1,4]) ⟨rfl,by walk_at "k",by walk_at "k",by walk_at "k",rfl,by walk_at "k"⟩ rfl rfl rfl (qw rfl nb.b_range (j0 (pv 2) j2)) (fun _ _ _ _ _=>(ja (i:=0) (show List.Nodup (["_law_place","_law_top","_law_step"]:List Str) by decide +kernel) rfl (Or.inl rfl))) (fun _ _ _ _ _=>jQ) (fun _ _ _ _ _=>(jf (zI rfl) rfl nb.b_max boot_max (j0 j4 (j0 (jh jE (pv 1) (jh uk (pv 2) (pv 0))) j2)))))))))),?_⟩
  left
  refine ⟨L,b,_,rfl,B,⟨by decide,by decide⟩,fun v1 H1 p1 q1 B1 X1=>?_⟩
  left
  refine jV (fun _=>?_) (fun _=>?_)
  ·left
   refine ⟨by omega,by omega,fun acc hacc=>?_⟩
   have na1:=B1.ne hacc
   have na2:=B1.neL hacc
   refine xC (lo:=0) (n:=sz.toNat) (acc:=acc) (fun i σ H2=>∃ (x:Option V) (hs:List Int),σ=[x,some (.ref b)]/\jS L H2 b/\H2 acc=some (.lst (hs.map V.int))/\hs.length=i/\(∀ x∈hs,0<=x/\x<=99)/\Ext b H1 H2) ?_ ?_ ?_
   ·exact ⟨none,[],rfl,B1.put na1 na2,j7,rfl,(by intro x hx;cases hx),Ext.new hacc⟩
   ·rintro i σ H2 hi ⟨x,hs,rfl,B2,h2,hl,hb,e2⟩
    left
    refine ⟨L,b,_,rfl,B2,⟨by decide,by decide⟩,fun v H3 p3 q3 B3 X3=>?_⟩
    have h3:=X3 _ _ h2 na1
    refine ⟨_,h3,by rw [List.length_map];exact jm (by omega),_,hs++[v],rfl,B3.put na1 na2,by rw [j7,List.map_append];rfl,by rw [List.length_append,hl];rfl,fun x hx=>?_,fun c o hc n=>?_⟩
    ·rcases List.mem_append.mp hx with hx | hx
     ·exact hb x hx
     ·have:x=v:=by simpa using hx
      omega
    ·rw [j8 (j1 hc hacc)]
     exact X3 _ _ (e2 c o hc n) n
   ·rintro σ H2 ⟨x,hs,rfl,B2,h2,hl,hb,e2⟩
    exact k acc H2 hs B2 (X1.trans e2) (X1.free hacc na1) h2 (by omega) hb
  ·left
   refine ⟨L,b,_,rfl,B1,⟨by decide,by decide⟩,fun v2 H2 p2 q2 B2 X2=>?_⟩
   left
   refine ⟨by omega,by omega,fun acc hacc=>?_⟩
   have na1:=B2.ne hacc
   have na2:=B2.neL hacc
   refine xC (lo:=0) (n:=sz.toNat) (acc:=acc) (fun i σ H3=>∃ (x:Option V) (hs:List Int),σ=[x,some (.int tp),some (.int (1+v2))]/\jS L H3 b/\H3 acc=some (.lst (hs.map V.int))/\hs.length=i/\(∀ x∈hs,0<=x/\x<=99)/\Ext b H2 H3) ?_ ?_ ?_
   ·exact ⟨none,[],rfl,B2.put na1 na2,j7,rfl,(by intro x hx;cases hx),Ext.new hacc⟩
   ·rintro i σ H3 hi ⟨x,hs,rfl,B3,h3,hl,hb,e3⟩
    left
    have hm:(0:Int)<=(1+v2)*(0+(i:Int)):=Int.mul_nonneg (by omega) (by omega)
    refine ⟨_,_,rfl,?_⟩
    refine ⟨_,h3,by rw [List.length_map];exact jm (by omega),_,hs++[if tp-(1+v2)*(0+(i:Int)) > 0 then tp-(1+v2)*(0+(i:Int)) else 0],rfl,B3.put na1 na2,by rw [j7,List.map_append];rfl,by rw [List.length_append,hl];rfl,fun x hx=>?_,fun c o hc n=>?_⟩
    ·rcases List.mem_append.mp hx with hx | hx
     ·exact hb x hx
     ·have:x=if tp-(1+v2)*(0+(i:Int)) > 0 then tp-(1+v2)*(0+(i:Int)) else 0:=by simpa using hx
      rw [this]
      split <;> omega
    ·rw [j8 (j1 hc hacc)]
     exact e3 c o hc n
   ·rintro σ H3 ⟨x,hs,rfl,B3,h3,hl,hb,e3⟩
    have hacc1:=X2.free hacc na1
    exact k acc H3 hs B3 ((X1.trans X2).trans e3) (X1.free hacc1 na1) h3 (by omega) hb
structure RD (L b tp rw dp:Addr) (H0:Hp):Prop where
 tb:tp≠b
 rb:rw≠b
 db:dp≠b
 tL:tp≠L
 rL:rw≠L
 dL:dp≠L
 tr:tp≠rw
 td:tp≠dp
 rd:rw≠dp
 nt:H0 tp=none
 nr:H0 rw=none
 nd:H0 dp=none
structure RG (L b tp rw dp:Addr) (H0 H:Hp) (ts:List Int) (xs:List V) (rs:List Rch) (ds:List Int):Prop where
 box:jS L H b
 htp:H tp=some (.lst (ts.map V.int))
 hrw:H rw=some (.lst xs)
 hdp:H dp=some (.lst (ds.map V.int))
 rows:jU H xs rs
 ext:Ext b H0 H
section
variable {L b tp rw dp:Addr}{H0 H H':Hp}{ts ds:List Int}{xs:List V}{rs:List Rch}
theorem RG.take (D:RD L b tp rw dp H0) (G:RG L b tp rw dp H0 H ts xs rs ds) (B:jS L H' b) (X:Ext b H H'):RG L b tp rw dp H0 H' ts xs rs ds :=
 ⟨B,X _ _ G.htp D.tb,X _ _ G.hrw D.rb,X _ _ G.hdp D.db,G.rows.keep (by obtain ⟨ns,a,r,c,d,h1,_⟩:=G.box;exact jp.lst X h1),G.ext.trans X⟩
theorem RG.same (G:RG L b tp rw dp H0 H ts xs rs ds) (s:ji H H'):RG L b tp rw dp H0 H' ts xs rs ds :=
 ⟨G.box.same s,s _ _ G.htp,s _ _ G.hrw,s _ _ G.hdp,G.rows.keep (jp.same s),G.ext.trans (Ext.of_same s)⟩
theorem RG.extN {a:Addr}(G:RG L b tp rw dp H0 H ts xs rs ds) (hn:H a=none) (e:Ext a H H'):RG L b tp rw dp H0 H' ts xs rs ds:=G.same fun c o h=>e c o h (j1 h hn)
theorem RG.putT (D:RD L b tp rw dp H0) (G:RG L b tp rw dp H0 H ts xs rs ds) (ts':List Int):RG L b tp rw dp H0 (upd H tp (.lst (ts'.map V.int))) ts' xs rs ds :=
 ⟨G.box.put D.tb D.tL,j7,by rw [j8 D.tr.symm];exact G.hrw,by rw [j8 D.td.symm];exact G.hdp,G.rows.keep (jp.lst Ext.put G.htp),fun c o h n=>by rw [j8 (j1 h D.nt)];exact G.ext c o h n⟩
theorem RG.putR (D:RD L b tp rw dp H0) (G:RG L b tp rw dp H0 H ts xs rs ds) {v:V}{r:Rch}(q:gZ H v r):RG L b tp rw dp H0 (upd H rw (.lst (xs++[v]))) ts (xs++[v]) (rs++[r]) ds :=
 ⟨G.box.put D.rb D.rL,by rw [j8 D.tr];exact G.htp,j7,by rw [j8 D.rd.symm];exact G.hdp,(G.rows.snoc q).keep (jp.lst Ext.put G.hrw),fun c o h n=>by rw [j8 (j1 h D.nr)];exact G.ext c o h n⟩
theorem RG.putD (D:RD L b tp rw dp H0) (G:RG L b tp rw dp H0 H ts xs rs ds) (ds':List Int):RG L b tp rw dp H0 (upd H dp (.lst (ds'.map V.int))) ts xs rs ds' :=
 ⟨G.box.put D.db D.dL,by rw [j8 D.td];exact G.htp,by rw [j8 D.rd];exact G.hrw,j7,G.rows.keep (jp.lst Ext.put G.hdp),fun c o h n=>by rw [j8 (j1 h D.nd)];exact G.ext c o h n⟩
end
def xB (rs:List Rch):List Int:=(List.range rs.length).map fun i=>jA rs (qu rs i)
theorem Qr {rs:List Rch}{t:Int}{hs:List Int}(G:Grown rs) (h0:0<=t) (h1:t<rs.length) (hx:okR rs.length (t,hs)=true):xB (rs++[(t,hs)])=xB rs++[jA rs (qu rs t.toNat)+hs.length]:=by
 have Ld:=qg G.ok
 unfold xB
 rw [List.length_append,List.length_singleton,List.range_succ,List.map_append]
 congr 1
 ·apply List.map_congr_left
  intro i hi
  have hi':=List.mem_range.mp hi
  rw [yJ Ld hi',xN _ (xS Ld i hi')]
 ·show [jA (rs++[(t,hs)]) (qu (rs++[(t,hs)]) rs.length)]=[_]
  rw [G.deep_snoc h0 h1 hx]
theorem ZR {rs:List Rch}{t:Int}(h0:0<=t) (h1:t<rs.length):atI ((xB rs).map V.int) t=some (.int (jA rs (qu rs t.toNat))):=by
 refine qo h0 ?_
 unfold xB
 rw [List.getElem?_map,List.getElem?_map,List.getElem?_range (by omega)]
 rfl
theorem U0 {i:Nat}{t sz:Int}{hs:List Int}(hi:0<i) (h0:0<=t) (h1:t<i) (hl:(hs.length:Int)=sz) (hz0:1<=sz) (hz1:sz<=12) (hb:∀ x∈hs,0<=x/\x<=99):okR i (t,hs)=true:=by
 unfold okR xE
 rw [if_neg (by omega),decide_eq_true (show 0<=t/\t<(i:Int) from ⟨h0,h1⟩),decide_eq_true (show 1<=(hs.length:Int)/\(hs.length:Int)<=12 by omega),Bool.true_and,Bool.true_and,List.all_eq_true]
 intro x hx
 exact decide_eq_true (hb x hx)
def k8:Sp:=fun vs H Q _=>∃ (L b:Addr),vs=[.ref b]/\jS L H b/\∀ p H' xs rs,jS L H' b->Ext b H H'->H p=none->H' p=some (.lst xs)->jU H' xs rs->Grown rs->1<=rs.length->rs.length<=8->Q (.ref p) H'
theorem jG:FnScope ["_law_box_here","_law_tops","_law_sizes","_law_rows","_law_deep","_law_number","_law_to","_law_led","_law_heads","_law_size"] ["_law_box_here"] (j6 x9):=by walk_at "s"
theorem Wk {v:Int}(a:0<=v) (b:v<3):∃ n,atI [V.int 1,V.int 3,V.int 8] v=some (V.int n)/\0<n/\n<=8:=by
 have h:v=0\/v=1\/v=2:=by omega
 rcases h with rfl | rfl | rfl
 ·exact ⟨1,rfl,by omega,by omega⟩
 ·exact ⟨3,rfl,by omega,by omega⟩
 ·exact ⟨8,rfl,by omega,by omega⟩
theorem Xi {f:Addr}{fd:FuncData}(nb:Nb2 mg) (c_law_take:Cal P w K mg base 2 "_law_take" ["_law_box_here","_law_size"] xJ) (c_law_ground_drawn:Cal P w K mg base 3 "_law_ground_drawn" ["_law_box_here","_law_top","_law_size"] yV) (F:Fun K "_law_reaches" "_law_reaches" x9 f fd):FnOk P w K mg base CX0 4 f fd ["_law_box_here"] k8:=by
 refine F.ok jG (fun vs H Q E h=>?_) (fun cdv A outer s H vs Q E hr h=>?_)
 ·obtain ⟨L,b,rfl,_⟩:=h
  rfl
 ·obtain ⟨L,b,rfl,B,k⟩:=h
  refine ⟨_,(j5 (je (i:=1) jG.nd rfl (Or.inl rfl) (jK (j0 (jh jN j4 (jd c_law_take (hr.mono (by decide)) rfl (j0 (pv 0) (j0 j4 j2)))) j2)))
   (j5 (je (i:=2) jG.nd rfl (Or.inl rfl) (jK (j0 (jh jN j4 (jd c_law_take (hr.mono (by decide)) rfl (j0 (pv 0) (j0 j4 j2)))) j2)))
   (j5 (je (i:=3) jG.nd rfl (Or.inl rfl) (jK (j0 (jI (j0 (jh jE j4 j4) (j0 (qH (xn K) rfl nb.b_tuple PyProof.Rows.boot_tuple (j0 (jd c_law_ground_drawn (hr.mono (by decide)) rfl (j0 (pv 0) (j0 (jn (jb K) (pv 1) j4 (fun _ _=>rfl)) (j0 (jn (jb K) (pv 2) j4 (fun _ _=>rfl)) j2)))) j2)) j2))) j2)))
   (j5 (je (i:=4) jG.nd rfl (Or.inl rfl) (jK (j0 (jn (jb K) (pv 2) j4 (fun _ _=>rfl)) j2)))
   (j5 (qK PassesOwn.never rfl (Y2 rfl nb.b_range (j0 j4 (j0 (jh jN j4 (jd c_law_take (hr.mono (by decide)) rfl (j0 (pv 0) (j0 (jn (jb K) (jK (j0 j4 (j0 j4 (j0 j4 j2)))) (jd c_law_take (hr.mono (by decide)) rfl (j0 (pv 0) (j0 j4 j2))) (fun _ _=>rfl)) j2)))) j2))) (ja (i:=5) jG.nd rfl (Or.inl rfl)) (j5 (je (i:=6) jG.nd rfl (Or.inl rfl) (jd c_law_take (hr.mono (by decide)) rfl (j0 (pv 0) (j0 (pv 5) j2))))
   (j5 (je (i:=7) jG.nd rfl (Or.inr rfl) (jZ (osc:=(j6 x9)) (ON:=["_law_box_here","_law_tops","_law_sizes","_law_rows","_law_deep","_law_number","_law_to","_law_led","_law_heads","_law_size"]) (N:=["_law_row_here"]) (own:=1) (caps:=[]) ⟨rfl,by walk_at "k",by walk_at "k",by walk_at "k",rfl,by walk_at "k"⟩ rfl rfl rfl (qc K (pv 3)) (fun _ _ _ _ _=>(ja (i:=0) (show List.Nodup (["_law_row_here"]:List Str) by decide +kernel) rfl (Or.inl rfl))) (fun _ _ _ _ _=>jQ) (fun _ _ _ _ _=>(jn (qe K) (pv 0) j4 (fun _ _=>rfl)))))
   (j5 (je (i:=8) jG.nd rfl (Or.inl rfl) (jf (jg K) rfl nb.b_len PySem.boot_len (j0 (jZ (osc:=(j6 x9)) (ON:=["_law_box_here","_law_tops","_law_sizes","_law_rows","_law_deep","_law_number","_law_to","_law_led","_law_heads","_law_size"]) (N:=["_law_one","_law_led"]) (own:=1) (caps:=[7]) ⟨rfl,by walk_at "k",by walk_at "k",by walk_at "k",rfl,by walk_at "k"⟩ rfl rfl rfl (qw rfl nb.b_range (j0 (pv 5) j2)) (fun _ _ _ _ _=>(ja (i:=0) (show List.Nodup (["_law_one","_law_led"]:List Str) by decide +kernel) rfl (Or.inl rfl))) (fun _ _ _ _ _=>(zk (jq (zA K) (pv 0) (pv 1) (by with_unfolding_all rfl)))) (fun _ _ _ _ _=>(pv 0))) j2)))
   (xc (jM (PW.pt (zF (jq zd (pv 8) j4 (jx _)) (zS (jq (Xd K) (pv 6) (pv 7) (by with_unfolding_all rfl))))) (j9 (je (i:=6) jG.nd rfl (Or.inl rfl) (jh jE (pv 5) j4))) jw)
   (j9 (jM (jq xX (jn (jb K) (pv 4) (pv 6) (fun _ _=>rfl)) j4 (jx _)) (j5 (je (i:=9) jG.nd rfl (Or.inl rfl) (jh jN j4 (jd c_law_take (hr.mono (by decide)) rfl (j0 (pv 0) (j0 (jf (uA rfl) rfl nb.b_min boot_min (j0 j4 (j0 (jh jE j4 (jn (jb K) (pv 4) (pv 6) (fun _ _=>rfl))) j2))) j2)))))
   (j5 (qd (yq K PySem.F.plainAttrs_list PySem.F.slot_list_append PySem.F.type_list_append qz (pv 1) (j0 (jf (uA rfl) rfl nb.b_min boot_min (j0 j4 (j0 (jh jN (jn (jb K) (pv 1) (pv 6) (fun _ _=>rfl)) (jd c_law_take (hr.mono (by decide)) rfl (j0 (pv 0) (j0 j4 j2)))) j2))) j2)))
   (j5 (qd (yq K PySem.F.plainAttrs_list PySem.F.slot_list_append PySem.F.type_list_append qz (pv 3) (j0 (jI (j0 (pv 6) (j0 (qH (xn K) rfl nb.b_tuple PyProof.Rows.boot_tuple (j0 (jd c_law_ground_drawn (hr.mono (by decide)) rfl (j0 (pv 0) (j0 (jn (jb K) (pv 1) (vz zR j4) (fun _ _=>rfl)) (j0 (pv 9) j2)))) j2)) j2))) j2)))
   (j9 (qd (yq K PySem.F.plainAttrs_list PySem.F.slot_list_append PySem.F.type_list_append qz (pv 4) (j0 (jh jN (jn (jb K) (pv 4) (pv 6) (fun _ _=>rfl)) (pv 9)) j2))))))) (j9 (jj (pv 3))))))))))
   (j9 (jj (pv 3)))))))),?_⟩
  left
  refine ⟨L,b,_,rfl,B,⟨by decide,by decide⟩,fun v1 H1 p1 q1 B1 X1=>?_⟩
  left
  refine ⟨by show 1<=sizeLine;decide,fun tp H2 htp htp2 s2=>?_⟩
  have B2:=B1.same s2
  left
  refine ⟨L,b,_,rfl,B2,⟨by decide,by decide⟩,fun v2 H3 p3 q3 B3 X3=>?_⟩
  have tb:=B1.ne htp
  have tL:=B1.neL htp
  left
  refine ⟨by show 1<=sizeLine;decide,fun sz H4 hsz hsz4 s4=>?_⟩
  have B4:=B3.same s4
  have htp4:=s4 _ _ (X3 _ _ htp2 tb)
  left
  refine ⟨L,b,20+v1,1+v2,rfl,B4,by omega,by omega,by omega,fun gl H5 hs B5 X5 hgl hgl5 hl hb=>?_⟩
  have szb:=B3.ne hsz
  have htp5:=X5 _ _ htp4 tb
  have hsz5:=X5 _ _ hsz4 szb
  refine ⟨gl,_,rfl,SqL.of hgl5,fun gt H6 hgt hgt6 s6=>?_⟩
  refine ⟨by show 2<=sizeLine;decide,fun rt H7 hrt hrt7 s7=>?_⟩
  refine ⟨by show 1<=sizeLine;decide,fun rw H8 hrw hrw8 s8=>?_⟩
  have B8:=((B5.same s6).same s7).same s8
  have sm58:ji H5 H8:=(s6.trans s7).trans s8
  have hsz8:=sm58 _ _ hsz5
  have htp8:=sm58 _ _ htp5
  have hrw5:H5 rw=none:=(s6.trans s7).free hrw
  have B7:=(B5.same s6).same s7
  have rb:=B7.ne hrw
  have rL:=B7.neL hrw
  have tr:tp≠rw:=j1 ((s6.trans s7) _ _ htp5) hrw
  left
  refine ⟨by show 1<=sizeLine;decide,fun dp H9 hdp hdp9 s9=>?_⟩
  have db:=B8.ne hdp
  have dL:=B8.neL hdp
  have td:tp≠dp:=j1 htp8 hdp
  have rd:rw≠dp:=j1 hrw8 hdp
  have nz:∀ a,H8 a=none->a≠b->a≠L->H a=none:=fun a ha ab aL=>by
   have a5:=sm58.free ha
   have a4:=X5.free a5 ab
   exact X1.free (s2.free (X3.free (s4.free a4) ab)) ab
  have nt:H tp=none:=X1.free htp tb
  have nr:H rw=none:=X1.free (s2.free (X3.free (s4.free (X5.free hrw5 rb)) rb)) rb
  have nd:H dp=none:=nz dp hdp db dL
  have D:RD L b tp rw dp H:=⟨tb,rb,db,tL,rL,dL,tr,td,rd,nt,nr,nd⟩
  have ok0:ui [((0-1:Int),hs)]=true:=by
   unfold ui okR xE
   simp only [List.length_singleton,List.range_one,List.all_cons,List.all_nil,Bool.and_true]
   show (decide ((0-1:Int) = -1) && decide (1<=(hs.length:Int)/\(hs.length:Int)<=12) && hs.all fun x=>decide (0<=x/\x<=99))=true
   rw [decide_eq_true (show 1<=(hs.length:Int)/\(hs.length:Int)<=12 by omega),Bool.and_eq_true,List.all_eq_true]
   exact ⟨rfl,fun x hx=>decide_eq_true (hb x hx)⟩
  have rd0:qu [((0-1:Int),hs)] 0=[0]:=rfl
  have pl0:jA [((0-1:Int),hs)] [0]=hs.length:=by unfold jA;simp [zG]
  have G0:Grown [((0-1:Int),hs)]:=by
   refine ⟨ok0,Nat.le_trans (List.length_filter_le _ _) (by simp),fun i hi=>?_⟩
   have:i=0:=by simp at hi;exact hi
   subst this
   rw [rd0,pl0]
   omega
  have ext8:Ext b H H8:=((((X1.trans (Ext.of_same s2)).trans X3).trans (Ext.of_same s4)).trans X5).trans (Ext.of_same sm58)
  have RG0:RG L b tp rw dp H H9 [20+v1] [.ref rt] [((0-1:Int),hs)] (xB [((0-1:Int),hs)]):=by
   refine ⟨B8.same s9,s9 _ _ htp8,s9 _ _ hrw8,?_,.cons ⟨rt,gt,rfl,s9 _ _ (s8 _ _ hrt7),s9 _ _ (s8 _ _ (s7 _ _ hgt6))⟩ .nil,ext8.trans (Ext.of_same s9)⟩
   rw [hdp9]
   show some (HO.lst [V.int (1+v2)])=some (.lst [V.int (jA [((0-1:Int),hs)] (qu [((0-1:Int),hs)] 0))])
   rw [rd0,pl0,hl]
  left
  refine ⟨by show 3<=sizeLine;decide,fun q3' H10 hq hq10 s10=>?_⟩
  have RG1:=RG0.same s10
  left
  refine ⟨L,b,_,rfl,RG1.box,⟨by decide,by decide⟩,fun v3 H11 p11 q11 B11 X11=>?_⟩
  have RG2:=RG1.take D B11 X11
  have hq11:=X11 _ _ hq10 (RG0.box.ne hq)
  obtain ⟨n,hn,n0,n8⟩:=Wk p11 q11
  refine ⟨_,_,_,_,rfl,rfl,SqL.of hq11,hn,?_⟩
  refine ⟨L,b,_,rfl,B11,⟨n0,by omega⟩,fun v4 H12 p12 q12 B12 X12=>?_⟩
  have RG3:=RG2.take D B12 X12
  left
  refine ⟨1,1+v4,rfl,⟨by omega,by omega,by omega,by omega⟩,?_⟩
  have ht99:∀ t∈[20+v1],t<=99:=fun t ht=>by
   have:t=20+v1:=by simpa using ht
   omega
  have done:∀ (H':Hp) ts xs rs ds,RG L b tp rw dp H H' ts xs rs ds->Grown rs->1<=rs.length->rs.length<=8->Q (.ref rw) H':=fun H' ts xs rs ds G gr h1 h8=>k rw H' xs rs G.box G.ext nr G.hrw G.rows gr h1 h8
  refine xk (lo:=1) (n:=(1+v4-1).toNat) (fun i σ H'=>∃ (v5 v6 v7 v8 v9:Option V) (ts:List Int) (xs:List V) (rs:List Rch),σ=[some (.ref b),some (.ref tp),some (.ref sz),some (.ref rw),some (.ref dp),v5,v6,v7,v8,v9]/\RG L b tp rw dp H H' ts xs rs (xB rs)/\Grown rs/\rs.length=i+1/\ts.length=i+1/\∀ t∈ts,t<=99) ⟨_,_,_,_,_,_,_,_,rfl,RG3,G0,rfl,rfl,ht99⟩ ?_ ?_
  ·rintro i σ H' hi ⟨v5,v6,v7,v8,v9,ts,xs,rs,rfl,G,gr,hrl,htl,htb⟩
   have Ld:=qg gr.ok
   have hxl:=G.rows.length
   left
   refine ⟨L,b,_,rfl,G.box,⟨by omega,by omega⟩,fun t Ha ha0 ha1 Ba Xa=>?_⟩
   have Ga:=G.take D Ba Xa
   left
   refine ⟨⟨_,SqL.of Ga.hrw⟩,fun ld hld=>?_⟩
   refine qf (K:=K) (a:=rw) (xs:=xs) (acc:=ld) (fun j σ H2=>∃ x:Option V,σ=[x]/\H2 ld=some (.lst (((rs.take j).map (·.1)).map V.int))/\Ext ld Ha H2) ?_ ?_ ?_ ?_
   ·exact ⟨none,rfl,j7,Ext.put⟩
   ·rintro j σ H2 hj ⟨x,rfl,h3,e3⟩
    exact SqL.of (e3 _ _ Ga.hrw (j1 Ga.hrw hld))
   ·rintro j v σ H2 hv ⟨x,rfl,h3,e3⟩
    obtain ⟨r,hr,q,g,rfl,hq,hg⟩:=(Ga.rows.keep (jp.new e3 hld)).get hv
    have hj:j<rs.length:=(List.getElem?_eq_some_iff.mp hr).1
    left
    refine ⟨_,h3,by rw [List.length_map,List.length_map,List.length_take];exact jm (by omega),_,rfl,?_,e3.trans Ext.put⟩
    rw [j7,qx (fun r:Rch=>r.1) rs j r hr,List.map_append]
    rfl
   ·rintro σ H2 ⟨x,rfl,h3,e3⟩
    rw [hxl,List.take_length] at h3
    have Gb:=Ga.extN hld e3
    left
    refine ⟨by omega,by omega,fun hd hhd=>?_⟩
    have en:(1+(i:Int)).toNat=rs.length:=by omega
    refine xC (lo:=0) (n:=(1+(i:Int)).toNat) (acc:=hd) (fun j σ H3=>∃ (x:Option V) (vs:List V),σ=[x,some (.ref ld)]/\H3 hd=some (.lst vs)/\vs.length=((List.range j).filter (jO rs)).length/\Ext hd H2 H3) ?_ ?_ ?_
    ·exact ⟨none,[],rfl,j7,rfl,Ext.put⟩
    ·rintro j σ H3 hj ⟨x,vs,rfl,h4,l4,e4⟩
     have er:((List.range (j+1)).filter (jO rs)).length=((List.range j).filter (jO rs)).length+(if jO rs j=true then 1 else 0):=by
      rw [List.range_succ,List.filter_append,List.length_append]
      congr 1
      by_cases z:jO rs j=true
      ·rw [if_pos z];simp [z]
      ·rw [if_neg z];simp [z]
     have hfl:((List.range j).filter (jO rs)).length<=j:=Nat.le_trans (List.length_filter_le _ _) (by rw [List.length_range];exact Nat.le_refl _)
     left
     refine ⟨ld,_,rfl,.inl (SqL.of (e4 _ _ h3 (j1 h3 hhd))),rfl,yL _,?_⟩
     left
     rw [Int.zero_add,vP]
     refine x8 (fun hin=>?_) (fun hin=>?_)
     ·have hb:jO rs j=true:=by unfold jO;rw [decide_eq_false (show ¬ (j:Int)∈tos rs from hin)];rfl
      left
      refine ⟨vs,h4,jm (by omega),_,_,rfl,j7,?_,e4.trans Ext.put⟩
      rw [List.length_append,List.length_singleton,er,if_pos hb,l4]
     ·have hb:¬ jO rs j=true:=by unfold jO;rw [decide_eq_true (show (j:Int)∈tos rs from hin)];exact Bool.false_ne_true
      exact ⟨_,vs,rfl,h4,by rw [er,if_neg hb,l4,Nat.add_zero],e4⟩
    ·rintro σ H3 ⟨x,vs,rfl,h4,l4,e4⟩
     have Gc:=Gb.extN hhd e4
     have hld4:=e4 _ _ h3 (j1 h3 hhd)
     rw [en] at l4
     have l4':vs.length=(jt rs).length:=l4
     refine ⟨_,_,rfl,.inl (SqL.of h4),?_⟩
     refine ⟨fun σ H5=>∃ t':Int,σ=[some (.ref b),some (.ref tp),some (.ref sz),some (.ref rw),some (.ref dp),some (.int (1+(i:Int))),some (.int t'),some (.ref ld),some (.int vs.length),v9]/\H5=H3/\0<=t'/\t'<rs.length/\(t'∈tos rs->(jt rs).length<6),?_,?_⟩
     ·have hh:=gr.heads
      left
      refine jV (fun h6=>?_) (fun h6=>?_)
      ·left
       refine ⟨ld,_,rfl,.inl (SqL.of hld4),rfl,yL _,?_⟩
       left
       rw [vP]
       refine jV (fun hin=>?_) (fun hin=>?_)
       ·left
        refine ⟨by omega,by omega,fun z=>?_⟩
        have:=QF Ld z
        omega
       ·exact ⟨t,rfl,rfl,ha0,by omega,fun z=>absurd z hin⟩
      ·have:(jt rs).length<6:=by
        have:(vs.length:Int)≠6:=fun z=>h6 (by rw [z])
        omega
       exact ⟨t,rfl,rfl,ha0,by omega,fun _=>this⟩
     ·rintro σ H5 ⟨t',rfl,rfl,t0,t1,th⟩
      have hde:=ZR t0 t1
      left
      refine ⟨_,_,_,_,rfl,rfl,SqL.of Gc.hdp,hde,?_⟩
      left
      refine jV (fun h30=>?_) (fun h30=>?_)
      ·have hdp0:=gr.deep t'.toNat (by omega)
       generalize hdt:jA rs (qu rs t'.toNat)=dt at hde h30 hdp0
       left
       refine ⟨_,_,_,_,rfl,rfl,SqL.of Gc.hdp,hde,?_⟩
       left
       refine ⟨_,_,rfl,?_⟩
       refine ⟨L,b,_,rfl,Gc.box,⟨by split <;> omega,by split <;> omega⟩,fun v5' H6 p6 q6 B6 X6=>?_⟩
       have Gd:=Gc.take D B6 X6
       have hz12:1+v5'<=12/\dt+(1+v5')<=30:=by
        have q6':=q6
        split at q6' <;> omega
       left
       refine ⟨.inl ⟨rfl,_,SqL.of Gd.htp⟩,?_⟩
       left
       have hti:t'.toNat<ts.length:=by omega
       refine ⟨_,_,_,_,rfl,rfl,SqL.of Gd.htp,qo t0 (by rw [List.getElem?_map,List.getElem?_eq_getElem hti];rfl),?_⟩
       left
       refine ⟨L,b,_,rfl,Gd.box,⟨by decide,by decide⟩,fun v6' H7 p7 q7 B7 X7=>?_⟩
       have Ge:=Gd.take D B7 X7
       left
       refine ⟨_,_,rfl,?_⟩
       generalize hnew:(if ts[t'.toNat]'hti+v6'<99 then ts[t'.toNat]'hti+v6' else 99)=new
       have hnew99:new<=99:=by rw [<- hnew];split <;> omega
       left
       refine ⟨tp,_,_,rfl,rfl,Ge.htp,by rw [List.length_map];exact jm (by omega),?_⟩
       have Gf:RG L b tp rw dp H (upd H7 tp (.lst (ts.map V.int++[V.int new]))) (ts++[new]) xs rs (xB rs):=by
        have:=Ge.putT D (ts++[new])
        rw [List.map_append] at this
        exact this
       left
       refine ⟨.inl ⟨rfl,_,SqL.of Gf.hrw⟩,?_⟩
       left
       refine ⟨_,_,_,_,rfl,rfl,SqL.of j7,kz _ _,?_⟩
       left
       refine ⟨L,b,new,1+v5',rfl,Gf.box,hnew99,by omega,by omega,fun gl' H8 hs' B8' X8 hgl' hgl8 hl' hb'=>?_⟩
       have Gg:=Gf.take D B8' X8
       refine ⟨gl',_,rfl,SqL.of hgl8,fun gt' H9' hgt' hgt9 s9'=>?_⟩
       refine ⟨by show 2<=sizeLine;decide,fun rt' H10' hrt' hrt10 s10'=>?_⟩
       have Gh:=(Gg.same s9').same s10'
       left
       refine ⟨rw,_,_,rfl,rfl,Gh.hrw,jm (by omega),?_⟩
       have okn:okR rs.length (t',hs')=true:=U0 (by omega) t0 t1 hl' (by omega) (by omega) hb'
       have Gi:=Gh.putR D (v:=.ref rt') (r:=(t',hs')) ⟨rt',gt',rfl,hrt10,s10' _ _ hgt9⟩
       left
       refine ⟨.inl ⟨rfl,_,SqL.of Gi.hdp⟩,?_⟩
       left
       refine ⟨_,_,_,_,rfl,rfl,SqL.of Gi.hdp,hde,?_⟩
       left
       have hdl:(xB rs).length=rs.length:=by unfold xB;simp
       refine ⟨dp,_,_,rfl,rfl,Gi.hdp,by rw [List.length_map];exact jm (by omega),?_⟩
       have Gj:RG L b tp rw dp H (upd (upd H10' rw (.lst (xs++[.ref rt']))) dp (.lst ((xB rs).map V.int++[V.int (dt+(1+v5'))]))) (ts++[new]) (xs++[.ref rt']) (rs++[(t',hs')]) (xB (rs++[(t',hs')])):=by
        have:=Gi.putD D (xB rs++[dt+(1+v5')])
        rw [List.map_append] at this
        rw [Qr gr t0 t1 okn,hdt,hl']
        exact this
       refine ⟨_,_,_,_,_,_,_,_,rfl,Gj,gr.snoc t0 t1 okn th (by rw [hdt];omega),by rw [List.length_append,hrl];rfl,by rw [List.length_append,htl];rfl,fun t ht=>?_⟩
       rcases List.mem_append.mp ht with ht | ht
       ·exact htb t ht
       ·have:t=new:=by simpa using ht
        omega
      ·left
       exact done _ _ _ _ _ Gc gr (by omega) (by omega)
  ·rintro σ H' ⟨v5,v6,v7,v8,v9,ts,xs,rs,rfl,G,gr,hrl,htl,htb⟩
   left
   exact done _ _ _ _ _ G gr (by omega) (by omega)
def ZH (t:TE):Prop:=∀ σ H Q Q',(∀ v H,Q v H->Q' v H)->t σ H Q->t σ H Q'
def Yi (r:R2):Prop:=∀ x y H Q Q',(∀ v H,Q v H->Q' v H)->r x y H Q->r x y H Q'
theorem XV (i:Nat):ZH (vo i):=fun _ _ _ _ h ⟨v,e,q⟩=>⟨v,e,h _ _ q⟩
theorem Z0 (v:V):ZH (tC v):=fun _ _ _ _ h q=>h _ _ q
theorem ki {r:R2}{ta tb:TE}(hr:Yi r) (ha:ZH ta) (hb:ZH tb):ZH (tOp r ta tb):=fun σ H Q Q' h q=>ha σ H _ _ (fun x H1 q1=>hb σ H1 _ _ (fun y H2 q2=>hr x y H2 _ _ h q2) q1) q
theorem XS (K:PySem.W.Frag):Yi (Uj K):=fun _ _ _ _ _ h ⟨a,xs,i,v,e1,e2,e3,e4,q⟩=>⟨a,xs,i,v,e1,e2,e3,e4,h _ _ q⟩
theorem VB (K:PySem.W.Frag):Yi (UX K):=fun _ _ _ _ _ h ⟨a,xs,i,v,e1,e2,e3,e4,q⟩=>⟨a,xs,i,v,e1,e2,e3,e4,h _ _ q⟩
theorem Wl (g:Int->Int->V):Yi (rI0 g):=fun _ _ _ _ _ h ⟨i,j,e1,e2,q⟩=>⟨i,j,e1,e2,h _ _ q⟩
theorem Wm:Yi rNe:=fun _ _ _ _ _ h ⟨e,q⟩=>⟨e,h _ _ q⟩
theorem V2 {t:TE}(ht:ZH t):∀ σ H Q Q',(∀ b H1,Q b H1->Q' b H1)->Qe t σ H Q->Qe t σ H Q':=fun σ H Q Q' h q=>ht σ H _ _ (fun _ _ ⟨k,e,q⟩=>⟨k,e,h _ _ q⟩) q
theorem JH {α:Type}{x:α}{l:List α}:atI (x::l) 0=some x:=zt (j:=0) rfl
def vS (fd:Addr) (H:Hp) (vs:List V) (rows:List (List Int)):Prop:=Paired (fun v (r:List Int)=>∃ a,v=V.ref a/\a≠fd/\H a=some (.lst (r.map V.int))) vs rows
theorem vS.ext {fd:Addr}{H H':Hp}{vs:List V}{rows:List (List Int)}(h:vS fd H vs rows) (e:Ext fd H H'):vS fd H' vs rows:=Paired.mapP h fun _ _ ⟨a,e1,n,q⟩=>⟨a,e1,n,e _ _ q n⟩
theorem vS.rowsI {fd:Addr}{H:Hp}{vs:List V}{rows:List (List Int)}(h:vS fd H vs rows):yf H vs rows:=Paired.mapP h fun _ _ ⟨a,e1,n,q⟩=>⟨a,e1,q⟩
theorem wJ {H:Hp}{vs:List V}{ws:List (List Int)}(h:yf H vs ws):∀ ix:List Nat,(∀ i∈ix,i<vs.length)->yf H (ix.map fun i=>vs.getD i V.non) (ix.map fun i=>ws.getD i [])
 | [],_=>.nil
 | i::ix,hb=>by
  refine .cons ?_ (wJ h ix fun j hj=>hb j (List.mem_cons_of_mem _ hj))
  have hi:=hb i List.mem_cons_self
  obtain ⟨y,e2,a,e3,e4⟩:=Paired.get h (List.getElem?_eq_getElem hi)
  refine ⟨a,?_,?_⟩
  ·show vs.getD i V.non=V.ref a
   rw [List.getD_eq_getElem?_getD,List.getElem?_eq_getElem hi];exact e3
  ·show H a=some (.lst ((ws.getD i []).map V.int))
   rw [List.getD_eq_getElem?_getD,e2];exact e4
def Qk (K:PySem.W.Frag):Sp:=fun vs H Q _=>∃ (p:Addr) (xs:List V) (rs:List Rch),vs=[.ref p]/\H p=some (.lst xs)/\jU H xs rs/\xl rs/\rs.length<=60/\∀ l H' out ws,H l=none->H' l=some (.lst out)->yf H' out ws->qa rs ws->ji H H'->Q (.ref l) H'
theorem qW:FnScope ["_law_reaches_here","_law_led","_law_found","_law_head","_law_road"] ["_law_reaches_here"] (j6 xQ):=by walk_at "s"
theorem Y8 {f:Addr}{fd:FuncData}(nb:Nb2 mg) (F:Fun K "_law_roads" "_law_roads" xQ f fd):FnOk P w K mg base CX0 1 f fd ["_law_reaches_here"] (Qk K):=by
 refine F.ok qW (fun vs H Q E h=>?_) (fun cdv A outer s H vs Q E hr h=>?_)
 ·obtain ⟨p,xs,rs,rfl,_⟩:=h
  rfl
 ·obtain ⟨p,xs,rs,rfl,hp,hrw,L,h60,k⟩:=h
  have hlen:=hrw.length
  refine ⟨_,(j5 (XU (j:=1) (osc:=(j6 xQ)) (ON:=["_law_reaches_here","_law_led","_law_found","_law_head","_law_road"]) (N:=["_law_to","_law_ground_here"]) (own:=2) (caps:=[]) ⟨rfl,by walk_at "k",by walk_at "k",by walk_at "k",rfl,by walk_at "k"⟩ qW.nd rfl (Or.inl rfl) rfl rfl rfl (qc K (pv 0)) (fun _ _ _ _ _=>(qq (n:=2) K rfl (jk (ja (i:=0) (show List.Nodup (["_law_to","_law_ground_here"]:List Str) by decide +kernel) rfl (Or.inl rfl)) (jk (ja (i:=1) (show List.Nodup (["_law_to","_law_ground_here"]:List Str) by decide +kernel) rfl (Or.inl rfl)) qm)))) (fun _ _ _ _ _=>jQ) (fun _ _ _ _ _=>(pv 0)))
   (j5 (je (i:=2) qW.nd rfl (Or.inl rfl) (jK j2))
   (j5 (qK PassesOwn.never rfl (qw rfl nb.b_range (j0 (jf (jg K) rfl nb.b_len PySem.boot_len (j0 (pv 0) j2)) j2)) (ja (i:=3) qW.nd rfl (Or.inl rfl)) (j9 (jM (jq (zA K) (pv 3) (pv 1) (by with_unfolding_all rfl)) (j5 (je (i:=4) qW.nd rfl (Or.inl rfl) (jK (j0 (pv 3) j2)))
   (j5 (JO PassesOwn.never (jq Yl (jn (qe K) (jn (jb K) (pv 0) (jn (jb K) (pv 4) j4 (fun _ _=>rfl)) (fun _ _=>rfl)) j4 (fun _ _=>rfl)) (jh jE j4 j4) (jx _)) (j9 (je (i:=4) qW.nd rfl (Or.inl rfl) (jh Jb (jK (j0 (jn (qe K) (jn (jb K) (pv 0) (jn (jb K) (pv 4) j4 (fun _ _=>rfl)) (fun _ _=>rfl)) j4 (fun _ _=>rfl)) j2)) (pv 4)))))
   (j9 (qd (yq K PySem.F.plainAttrs_list PySem.F.slot_list_append PySem.F.type_list_append qz (pv 2) (j0 (pv 4) j2)))))) jw)))
   (j9 (jj (jZ (osc:=(j6 xQ)) (ON:=["_law_reaches_here","_law_led","_law_found","_law_head","_law_road"]) (N:=["_law_road"]) (own:=1) (caps:=[]) ⟨rfl,by walk_at "k",by walk_at "k",by walk_at "k",rfl,by walk_at "k"⟩ rfl rfl rfl (qc K (jf (kL K hr.units) rfl nb.b_sorted boot_sorted (j0 (pv 2) j2))) (fun _ _ _ _ _=>(ja (i:=0) (show List.Nodup (["_law_road"]:List Str) by decide +kernel) rfl (Or.inl rfl))) (fun _ _ _ _ _=>jQ) (fun _ _ _ _ _=>(VN K (pv 0))))))))),?_⟩
  left
  refine ⟨⟨_,SqL.of hp⟩,fun en hen=>?_⟩
  refine qf (K:=K) (a:=p) (xs:=xs) (acc:=en) (fun j σ H2=>∃ x y:Option V,σ=[x,y]/\H2 en=some (.lst (((rs.take j).map (·.1)).map V.int))/\Ext en H H2) ?_ ?_ ?_ ?_
  ·exact ⟨none,none,rfl,j7,Ext.put⟩
  ·rintro j σ H2 hj ⟨x,y,rfl,h3,e3⟩
   exact SqL.of (e3 _ _ hp (j1 hp hen))
  ·rintro j v σ H2 hv ⟨x,y,rfl,h3,e3⟩
   obtain ⟨r,hr,q,g,rfl,hq,hg⟩:=(hrw.keep (jp.new e3 hen)).get hv
   have hj:j<rs.length:=(List.getElem?_eq_some_iff.mp hr).1
   left
   refine ⟨q,_,rfl,SqT.of hq,rfl,?_⟩
   refine ⟨_,_,rfl,_,_,rfl,rfl,?_⟩
   left
   refine ⟨_,h3,by rw [List.length_map,List.length_map,List.length_take];exact jm (by omega),_,_,rfl,?_,e3.trans Ext.put⟩
   rw [j7,qx (fun r:Rch=>r.1) rs j r hr,List.map_append]
   rfl
  ·rintro σ H2 ⟨x,y,rfl,h3,e3⟩
   rw [hlen,List.take_length] at h3
   have sm2:ji H H2:=fun c o hc=>e3 c o hc (j1 hc hen)
   left
   refine ⟨Nat.zero_le _,fun fo H3 hfo hfo3 s3=>?_⟩
   have hp3:=s3 _ _ (sm2 _ _ hp)
   have hrw3:jU H3 xs rs:=hrw.keep (jp.same (sm2.trans s3))
   have hen3:=s3 _ _ h3
   have hfoH:H fo=none:=sm2.free hfo
   left
   refine ⟨_,_,rfl,.inl (SqL.of hp3),?_⟩
   refine ⟨_,rfl,by omega,by omega,?_⟩
   rw [hlen]
   refine xk (lo:=0) (n:=((rs.length:Nat):Int).toNat) (fun j σ H4=>∃ (v3 v4:Option V) (vs:List V),σ=[some (.ref p),some (.ref en),some (.ref fo),v3,v4]/\H4 fo=some (.lst vs)/\vS fo H4 vs (((List.range j).filter (jO rs)).map fun h=>(qu rs h).reverse)/\Ext fo H3 H4/\vs.length<=j) ?_ ?_ ?_
   ·exact ⟨_,_,[],rfl,hfo3,.nil,Ext.refl,Nat.le_refl _⟩
   ·rintro j σ H4 hj ⟨v3,v4,vs,rfl,h4,w4,e4,l4⟩
    have hj':j<rs.length:=by omega
    have kt4:jp H3 H4:=jp.lst e4 hfo3
    have hen4:=e4 _ _ hen3 (j1 h3 hfo)
    have hp4:=e4 _ _ hp3 (j1 (sm2 _ _ hp) hfo)
    have hrw4:jU H4 xs rs:=hrw3.keep kt4
    have er:(List.range (j+1)).filter (jO rs)=(List.range j).filter (jO rs)++(if jO rs j=true then [j] else []):=by
     rw [List.range_succ,List.filter_append]
     congr 1
     by_cases z:jO rs j=true
     ·rw [if_pos z];simp [z]
     ·rw [if_neg z];simp [z]
    left
    refine ⟨en,_,rfl,.inl (SqL.of hen4),rfl,yL _,?_⟩
    left
    rw [Int.zero_add,vP]
    refine x8 (fun hin=>?_) (fun hin=>?_)
    ·have hb:jO rs j=true:=by unfold jO;rw [decide_eq_false (show ¬ (j:Int)∈tos rs from hin)];rfl
     left
     refine ⟨by show 1<=sizeLine;decide,fun r0 H5 hr0 hr05 s5=>?_⟩
     left
     refine Q0 (fun σ H6=>∃ (a:Addr) (r:Nat) (l:List Int),σ=[some (.ref p),some (.ref en),some (.ref fo),some (.int (j:Int)),some (.ref a)]/\ji H4 H6/\H4 a=none/\H6 a=some (.lst (((r:Int)::l).map V.int))/\r<rs.length/\l.length+r<=100/\l.reverse++qu rs r=qu rs j) (fun σ H6=>match σ with | [_,_,_,_,some (.ref a)]=>(match H6 a with | some (.lst (.int r::_))=>r.toNat | _=>0) | _=>0) ?_ ?_ ?_
     ·exact ⟨r0,j,[],rfl,s5,hr0,hr05,hj',by simp;omega,rfl⟩
     ·rintro σ H6 ⟨a,r,l,rfl,s6,ha4,ha6,hrl,hll,heq⟩
      have hp6:=s6 _ _ hp4
      obtain ⟨v,hv,q,g,rfl,hq,hg⟩:=(hrw4.keep (jp.same s6)).at (List.getElem?_eq_getElem hrl)
      have ht:=L.lt hrl
      have hl3:=wY (L _ hrl)
      have et:=gW (List.getElem?_eq_getElem hrl)
      rw [et] at ht hl3
      generalize (rs[r]'hrl).1=tt at ht hl3 et hq
      left
      refine ⟨_,_,_,_,rfl,rfl,SqL.of ha6,JH,?_⟩
      refine ⟨_,_,_,_,rfl,rfl,SqL.of hp6,zt hv,?_⟩
      refine ⟨_,_,_,_,rfl,rfl,SqT.of hq,rfl,?_⟩
      left
      refine x8 (fun hne=>?_) (fun hne=>?_)
      ·have htt:0<=tt:=by
        have:tt ≠ -1:=fun z=>hne (by rw [z];rfl)
        omega
       left
       refine ⟨_,_,_,_,rfl,rfl,SqL.of ha6,JH,?_⟩
       refine ⟨_,_,_,_,rfl,rfl,SqL.of hp6,zt hv,?_⟩
       refine ⟨_,_,_,_,rfl,rfl,SqT.of hq,rfl,?_⟩
       refine ⟨by show 1<=sizeLine;decide,fun c1 H7 hc1 hc17 s7=>?_⟩
       left
       refine ⟨c1,a,_,_,rfl,rfl,hc17,s7 _ _ ha6,?_,fun c2 H8 hc2 hc28 s8=>?_⟩
       ·show 1+(((r:Int)::l).map V.int).length<=sizeLine
        rw [List.length_map,List.length_cons]
        exact Nat.le_of_lt (jm (by omega))
       ·have ett:tt=((tt.toNat:Nat):Int):=by omega
        refine ⟨⟨c2,tt.toNat,(r:Int)::l,rfl,(s6.trans s7).trans s8,(s6.trans s7).free hc2,?_,by omega,?_,?_⟩,?_⟩
        ·rw [hc28,ett]
         simp only [Int.toNat_natCast]
         rfl
        ·rw [List.length_cons];omega
        ·rw [List.reverse_cons,List.append_assoc,<- heq,zr L hrl,et,if_neg (by omega)]
         rfl
        ·show (match H8 c2 with | some (.lst (.int r::_))=>r.toNat | _=>0)<(match H6 a with | some (.lst (.int r::_))=>r.toNat | _=>0)
         rw [hc28,ha6]
         show tt.toNat<((r:Int)).toNat
         omega
      ·have htm:tt = -1:=V.int.inj hne
       have hfo6:=s6 _ _ h4
       left
       refine ⟨.inl ⟨rfl,_,SqL.of hfo6⟩,?_⟩
       left
       refine ⟨fo,_,_,rfl,rfl,hfo6,jm (by omega),?_⟩
       have naf:a≠fo:=fun z=>by rw [z,h4] at ha4;cases ha4
       refine ⟨_,_,vs++[.ref a],rfl,j7,?_,fun c o hc n=>by rw [j8 n];exact s6 _ _ (e4 c o hc n),by rw [List.length_append,List.length_singleton];omega⟩
       rw [er,if_pos hb,List.map_append]
       refine vS.ext (Paired.snoc (w4.ext (Ext.of_same s6)) ⟨a,rfl,naf,?_⟩) Ext.put
       show H6 a=some (.lst (((qu rs j).reverse).map V.int))
       rw [ha6,<- heq,zr L hrl,et,if_pos (by omega),List.reverse_append,List.reverse_reverse]
       rfl
     ·exact V2 (ki Wm (ki (VB K) (ki (XS K) (XV 0) (ki (XS K) (XV 4) (Z0 _))) (Z0 _)) (ki (Wl _) (Z0 _) (Z0 _)))
    ·have hb:¬ jO rs j=true:=by unfold jO;rw [decide_eq_true (show (j:Int)∈tos rs from hin)];exact Bool.false_ne_true
     refine ⟨_,_,vs,rfl,h4,?_,e4,by omega⟩
     rw [er,if_neg hb,List.append_nil]
     exact w4
   ·rintro σ H4 ⟨v3,v4,vs,rfl,h4,w4,e4,l4⟩
    rw [Int.toNat_natCast] at w4 l4
    have sm4:ji H H4:=fun c o hc=>e4 _ _ (s3 _ _ (sm2 _ _ hc)) (j1 hc hfoH)
    left
    refine ⟨fo,vs,_,rfl,SqL.of h4,by omega,w4.rowsI,fun so H5 out hso hso5 s5 hs=>?_⟩
    obtain ⟨ix,hpx,eo,hpw⟩:=hs
    have hvl:vs.length=(jt rs).length:=by rw [Paired.length w4,List.length_map];rfl
    have hb:∀ i∈ix,i<vs.length:=fun i hi=>by have:=hpx.mem_iff.mp hi;simpa using this
    have hri:=wJ (w4.rowsI) ix hb
    have hw5:yf H5 out (ix.map fun i=>(((jt rs).map fun h=>(qu rs h).reverse).getD i [])):=by
     rw [eo]
     exact Paired.mapP hri fun _ _ ⟨a,e1,q⟩=>⟨a,e1,s5 _ _ q⟩
    have hol:out.length<=60:=by rw [eo,List.length_map,hpx.length_eq,List.length_range];omega
    generalize hrv:(ix.map fun i=>(((jt rs).map fun h=>(qu rs h).reverse).getD i []))=rv at hw5
    have hrvl:=Paired.length hw5
    have isr:qa rs (rv.map List.reverse):=by
     refine ⟨?_,?_⟩
     ·have h1:=hpx.map fun i=>(((jt rs).map fun h=>(qu rs h).reverse).getD i [])
      rw [hvl,show (jt rs).length=((jt rs).map fun h=>(qu rs h).reverse).length by rw [List.length_map],Qo,hrv] at h1
      have h2:=h1.map List.reverse
      rw [List.map_map] at h2
      refine h2.trans (List.Perm.of_eq (List.map_congr_left fun x _=>?_))
      exact List.reverse_reverse _
     ·rw [List.map_map,show (List.reverse ∘ List.reverse:List Int->List Int)=id from funext fun x=>List.reverse_reverse x,List.map_id,<- hrv]
      exact hpw
    refine ⟨so,rfl,⟨_,SqL.of hso5⟩,fun acc hacc=>?_⟩
    refine qf (K:=K) (a:=so) (xs:=out) (acc:=acc) (fun j σ H6=>∃ (x:Option V) (us:List V),σ=[x]/\H6 acc=some (.lst us)/\vS acc H6 us ((rv.take j).map List.reverse)/\Ext acc H5 H6/\us.length=j) ?_ ?_ ?_ ?_
    ·exact ⟨none,[],rfl,j7,.nil,Ext.put,rfl⟩
    ·rintro j σ H6 hj ⟨x,us,rfl,h6,w6,e6,l6⟩
     exact SqL.of (e6 _ _ hso5 (j1 hso5 hacc))
    ·rintro j v σ H6 hv ⟨x,us,rfl,h6,w6,e6,l6⟩
     obtain ⟨y,e2,a,rfl,ha⟩:=Paired.get hw5 hv
     have hj:j<rv.length:=(List.getElem?_eq_some_iff.mp e2).1
     left
     refine ⟨a,_,rfl,SqL.of (e6 _ _ ha (j1 ha hacc)),fun q H7 hq hq7 s7=>?_⟩
     have h7:=s7 _ _ h6
     have nq:q≠acc:=fun z=>by rw [z,h6] at hq;cases hq
     refine ⟨us,h7,jm (by omega),_,us++[.ref q],rfl,j7,?_,fun c o hc n=>by rw [j8 n];exact s7 _ _ (e6 c o hc n),by rw [List.length_append,l6];rfl⟩
     rw [qx List.reverse rv j y e2]
     refine vS.ext (Paired.snoc (w6.ext (Ext.of_same s7)) ⟨q,rfl,nq,?_⟩) Ext.put
     rw [hq7,List.map_reverse]
    ·rintro σ H6 ⟨x,us,rfl,h6,w6,e6,l6⟩
     rw [hrvl,List.take_length] at w6
     exact k acc H6 us _ (sm4.free (s5.free hacc)) h6 w6.rowsI isr fun c o hc=>e6 _ _ (s5 _ _ (sm4 _ _ hc)) (j1 (s5 _ _ (sm4 _ _ hc)) hacc)
def jc (rs:List Rch) (way:List Int):List Int:=(way.map fun r=>zG rs r.toNat).flatten
theorem wN (rs:List Rch):∀ way:List Int,((jc rs way).length:Int)=jA rs way
 | []=>rfl
 | r::way=>by
  rw [x6,<- wN rs way]
  unfold jc
  rw [List.map_cons,List.flatten_cons,List.length_append]
  push_cast
  rfl
theorem UQ {n:Nat}(h:n<=100000):n<sizeLine:=Nat.lt_of_le_of_lt h (by decide)
theorem uP (rs:List Rch) (way:List Int) (j:Nat) (r:Int) (h:way[j]? = some r):jc rs (way.take (j+1))=jc rs (way.take j)++zG rs r.toNat:=by
 unfold jc
 rw [List.take_add_one,h,List.map_append,List.flatten_append]
 congr 1
 show [zG rs r.toNat].flatten=_
 simp
theorem ud {rs:List Rch}(h100:∀ r∈rs,r.2.length<=100):∀ way:List Int,(jc rs way).length<=100*way.length
 | []=>by unfold jc;simp
 | r::way=>by
  have ih:=ud h100 way
  have h1:(zG rs r.toNat).length<=100:=by
   unfold zG
   rw [List.getD_eq_getElem?_getD]
   cases e:rs[r.toNat]? with
   | none=>simp
   | some q=>exact h100 q (List.mem_of_getElem? e)
  unfold jc at ih ⊢
  rw [List.map_cons,List.flatten_cons,List.length_append,List.length_cons]
  omega
def Q7 (K:PySem.W.Frag):Sp:=fun vs H Q _=>∃ (p a:Addr) (xs:List V) (rs:List Rch) (way:List Int),vs=[.ref p,.ref a]/\H p=some (.lst xs)/\jU H xs rs/\(∀ r∈rs,r.2.length<=100)/\H a=some (.lst (way.map V.int))/\(∀ r∈way,0<=r/\r<rs.length)/\way.length<=100/\∀ l H',H l=none->H' l=some (.lst ((jc rs way).map V.int))->ji H H'->Q (.ref l) H'
theorem xK:FnScope ["_law_reaches_here","_law_road","_law_found","_law_reach","_law_height"] ["_law_reaches_here","_law_road"] (j6 y7):=by walk_at "s"
theorem ZU {f:Addr}{fd:FuncData}(F:Fun K "_law_ground" "_law_ground" y7 f fd):FnOk P w K mg base CX0 1 f fd ["_law_reaches_here","_law_road"] (Q7 K):=by
 refine F.ok xK (fun vs H Q E h=>?_) (fun cdv A outer s H vs Q E hr h=>?_)
 ·obtain ⟨p,a,xs,rs,way,rfl,_⟩:=h
  rfl
 ·obtain ⟨p,a,xs,rs,way,rfl,hp,hrw,h100,ha,hin,hwl,k⟩:=h
  have hlen:=hrw.length
  refine ⟨_,(j5 (je (i:=2) xK.nd rfl (Or.inl rfl) (jK j2))
   (j5 (qK PassesOwn.never rfl (qc K (pv 1)) (ja (i:=3) xK.nd rfl (Or.inl rfl)) (j9 (qK PassesOwn.never rfl (zQ K (jn (qe K) (jn (jb K) (pv 0) (pv 3) (fun _ _=>rfl)) j4 (fun _ _=>rfl))) (ja (i:=4) xK.nd rfl (Or.inl rfl)) (j9 (qd (yq K PySem.F.plainAttrs_list PySem.F.slot_list_append PySem.F.type_list_append qz (pv 2) (j0 (pv 4) j2)))))))
   (j9 (jj (pv 2))))),?_⟩
  left
  refine ⟨Nat.zero_le _,fun fo H1 hfo hfo1 s1=>?_⟩
  have ha1:=s1 _ _ ha
  left
  refine ⟨⟨_,SqL.of ha1⟩,vH (K:=K) (a:=a) (xs:=way.map V.int) (fun j σ H2=>∃ x y:Option V,σ=[some (.ref p),some (.ref a),some (.ref fo),x,y]/\H2 fo=some (.lst ((jc rs (way.take j)).map V.int))/\Ext fo H1 H2) ⟨_,_,rfl,hfo1,Ext.refl⟩ ?_ ?_ ?_⟩
  ·rintro j σ H2 hj ⟨x,y,rfl,h2,e2⟩
   exact SqL.of (e2 _ _ ha1 (j1 ha hfo))
  ·rintro j v σ H2 hv ⟨x,y,rfl,h2,e2⟩
   obtain ⟨r,rfl⟩:=yv hv
   have hz:way[j]? = some r:=by
    rw [List.getElem?_map] at hv
    cases e:way[j]? with
    | none=>rw [e] at hv;cases hv
    | some y=>rw [e] at hv;cases hv;rfl
   have hj:j<way.length:=(List.getElem?_eq_some_iff.mp hz).1
   have hr:=hin r (List.mem_of_getElem? hz)
   have hi:r.toNat<rs.length:=by omega
   obtain ⟨v,hv',q,g,rfl,hq,hg⟩:=(hrw.keep ((jp.same s1).trans (jp.lst e2 hfo1))).at (List.getElem?_eq_getElem hi)
   have hsl:=h100 _ (List.getElem_mem hi)
   have hgl:=ud h100 (way.take j)
   have htl:(way.take j).length<=100:=by rw [List.length_take];omega
   left
   refine ⟨_,_,_,_,rfl,rfl,SqL.of (e2 _ _ (s1 _ _ hp) (j1 hp hfo)),qo hr.1 hv',?_⟩
   refine ⟨_,_,_,_,rfl,rfl,SqT.of hq,rfl,?_⟩
   refine ⟨g,rfl,⟨_,SqT.of hg⟩,uZ (K:=K) (a:=g) (xs:=(rs[r.toNat]'hi).2.map V.int) (fun i σ H3=>∃ y:Option V,σ=[some (.ref p),some (.ref a),some (.ref fo),some (.int r),y]/\H3 fo=some (.lst ((jc rs (way.take j)++(rs[r.toNat]'hi).2.take i).map V.int))/\Ext fo H2 H3) ⟨_,rfl,?_,Ext.refl⟩ ?_ ?_ ?_⟩
   ·rw [List.take_zero,List.append_nil];exact h2
   ·rintro i σ H3 hi3 ⟨y,rfl,h3,e3⟩
    exact SqT.of (jp.lst e3 h2 _ _ hg)
   ·rintro i v σ H3 hv3 ⟨y,rfl,h3,e3⟩
    obtain ⟨z,rfl⟩:=yv hv3
    have hz3:(rs[r.toNat]'hi).2[i]? = some z:=by
     rw [List.getElem?_map] at hv3
     cases e:(rs[r.toNat]'hi).2[i]? with
     | none=>rw [e] at hv3;cases hv3
     | some y=>rw [e] at hv3;cases hv3;rfl
    left
    refine ⟨.inl ⟨rfl,_,SqL.of h3⟩,?_⟩
    left
    refine ⟨fo,_,_,rfl,rfl,h3,?_,?_⟩
    ·rw [List.length_map,List.length_append,List.length_take]
     exact UQ (by omega)
    ·refine ⟨_,rfl,?_,e3.trans Ext.put⟩
     rw [j7,List.take_add_one,hz3,<- List.append_assoc,List.map_append,List.map_append,List.map_append]
     rfl
   ·rintro σ H3 ⟨y,rfl,h3,e3⟩
    refine ⟨_,_,rfl,?_,e2.trans e3⟩
    rw [h3,List.length_map,List.take_length,uP rs way j r hz,Jn (List.getElem?_eq_getElem hi)]
  ·rintro σ H2 ⟨x,y,rfl,h2,e2⟩
   rw [List.length_map,List.take_length] at h2
   left
   exact k fo H2 hfo h2 fun c o hc=>e2 _ _ (s1 _ _ hc) (j1 hc hfo)
end
section
variable {P:Program}{w:World}{K:PySem.W.Frag}{mg:Str->Option Value}{base:Heap}
def XE (Pt C:Addr):Sp:=fun vs H Q E=>∃ (p:Addr) (xs:List V) (rs:List Rch) (l:Int),vs=[.ref p,.int l]/\H p=some (.lst xs)/\jU H xs rs/\xl rs/\rs.length<=60/\qC H Pt /\
 (∀ t H' ws (i:Nat),l=i->i<ws.length->qa rs ws->H' t=some (.tup ((ws.getD i []).map V.int))->Ext Pt H H'->qC H' Pt->Q (.ref t) H')/\∀ H',(l<0\/((jt rs).length:Int)<=l)->Ext Pt H H'->qC H' Pt->E (.ref C) none H'
theorem hV:FnScope ["reaches","lane","ways"] ["reaches","lane"] (j6 wB):=by walk_at "s"
theorem ZO {f Pt C:Addr}{fd:FuncData}(nb:Nb2 mg) (e_NoLane:mg "NoLane" = some (.ref C)) (x_NoLane:PySem.W.excIn K C [.type "ValueError",.type "Exception",.type "BaseException",.type "object"] "ValueError.__new__" = true) (c_lanes:Cal P w K mg base 5 "lanes" ["reaches"] (vM K Pt)) (F:Fun K "way_of" "way_of" wB f fd):FnOk P w K mg base (CX1 P w) 6 f fd ["reaches","lane"] (XE Pt C):=by
 refine Fun.okX F hV (fun vs H Q E h=>?_) (fun cdv A outer s H vs Q E hr h=>?_)
 ·obtain ⟨p,xs,rs,l,rfl,_⟩:=h
  rfl
 ·obtain ⟨p,xs,rs,l,rfl,hp,hrw,L,h60,hT,k,kx⟩:=h
  refine ⟨_,(j5 (je (i:=2) hV.nd rfl (Or.inl rfl) (jd c_lanes (hr.mono (by decide)) rfl (j0 (pv 0) j2)))
   (j5 (jM (qJ (qy jP xX j4 (pv 1) (jf (jg K) rfl nb.b_len PySem.boot_len (j0 (pv 2) j2)))) (j9 (qQ PySem.F.excBase_ValueError x_NoLane e_NoLane rfl xu rfl (j0 jo j2))) jw)
   (j9 (jj (jn (jb K) (pv 2) (pv 1) (fun _ _=>rfl)))))),?_⟩
  left
  refine ⟨p,xs,rs,rfl,hp,hrw,L,h60,hT,fun o H1 out ws ho ho1 hw hR X1 T1=>?_⟩
  have hlen:out.length=ws.length:=hw.length
  have hws:(ws.length:Int)=((jt rs).length:Int):=by rw [hR.length]
  left
  refine jV (fun h0=>?_) (fun h0=>?_)
  ·left
   refine ⟨_,_,rfl,.inl (SqL.of ho1),?_⟩
   left
   refine x8 (fun h1=>?_) (fun h1=>?_)
   ·left
    exact ⟨by show 1<=sizeLine;decide,kx H1 (.inr (by omega)) X1 T1⟩
   ·have hi:l.toNat<out.length:=by omega
    obtain ⟨wy,hwy,a,hov,ha⟩:=Paired.get hw (List.getElem?_eq_getElem hi)
    have el:l=(l.toNat:Int):=by omega
    left
    refine ⟨_,_,_,_,rfl,rfl,SqL.of ho1,(by rw [el];exact zt (List.getElem?_eq_getElem hi)),?_⟩
    rw [hov]
    refine k a H1 ws l.toNat el (by omega) hR ?_ X1 T1
    rw [ha,List.getD_eq_getElem?_getD,hwy]
    rfl
  ·left
   refine uS ?_
   left
   exact ⟨by show 1<=sizeLine;decide,kx H1 (.inl (by omega)) X1 T1⟩
def gy (Pt C:Addr):Sp:=fun vs H Q E=>∃ (p:Addr) (xs:List V) (rs:List Rch) (l:Int),vs=[.ref p,.int l]/\H p=some (.lst xs)/\jU H xs rs/\xl rs/\rs.length<=60/\(∀ r∈rs,r.2.length<=100)/\qC H Pt /\
 (∀ t H' ws (i:Nat),l=i->i<ws.length->qa rs ws->H t=none->H' t=some (.lst ((jc rs (ws.getD i [])).map V.int))->Ext Pt H H'->qC H' Pt->Q (.ref t) H')/\∀ H',(l<0\/((jt rs).length:Int)<=l)->Ext Pt H H'->qC H' Pt->E (.ref C) none H'
theorem Xo:FnScope ["reaches","lane"] ["reaches","lane"] (j6 yH):=by walk_at "s"
theorem Ut {rs:List Rch}{ws:List (List Int)}(L:xl rs) (h:qa rs ws) {a:Nat}(ha:a<ws.length):(∀ r∈ws.getD a [],0<=r/\r<rs.length)/\(ws.getD a []).length<=rs.length:=by
 rw [List.getD_eq_getElem?_getD,List.getElem?_eq_getElem ha]
 obtain ⟨x,hx,e⟩:=h.mem (List.getElem_mem ha)
 show (∀ r∈ws[a],_)/\ws[a].length<=_
 rw [e]
 exact ⟨xS L x (xA hx),by have:=vy L x (xA hx);have:=xA hx;omega⟩
theorem ux {l:List Int}{j:Nat}{v:V}(h:(l.map V.int)[j]? = some v):∃ x,v = .int x/\l[j]? = some x:=by
 rw [List.getElem?_map] at h
 cases e:l[j]? with
 | none=>rw [e] at h;cases h
 | some y=>rw [e] at h;cases h;exact ⟨y,rfl,rfl⟩
theorem JE {H H':Hp}{Pt a:Addr}(T:qC H Pt) (e:Ext Pt H H') (T':qC H' Pt) (n:H' a=none):H a=none:=by
 cases q:H a with
 | none=>rfl
 | some o =>
  by_cases z:a=Pt
  ·obtain ⟨ps,h⟩:=T'.ne
   rw [z,h] at n
   cases n
  ·have:=e _ _ q z
   rw [n] at this
   cases this
theorem Xl {f Pt C:Addr}{fd:FuncData}(nb:Nb2 mg) (c_way_of:CalX P w K mg base 6 "way_of" ["reaches","lane"] (XE Pt C)) (F:Fun K "heights" "heights" yH f fd):FnOk P w K mg base (CX1 P w) 7 f fd ["reaches","lane"] (gy Pt C):=by
 refine Fun.okX F Xo (fun vs H Q E h=>?_) (fun cdv A outer s H vs Q E hr h=>?_)
 ·obtain ⟨p,xs,rs,l,rfl,_⟩:=h
  rfl
 ·obtain ⟨p,xs,rs,l,rfl,hp,hrw,L,h60,h100,hT,k,kx⟩:=h
  refine ⟨_,(j9 (jj (YY (osc:=(j6 yH)) (ON:=["reaches","lane"]) (N:=["reach","height","reaches"]) (own:=2) (caps:=[0]) ⟨rfl,by walk_at "k",by walk_at "k",by walk_at "k",rfl,by walk_at "k"⟩ rfl rfl rfl (zQ K (xa c_way_of (hr.mono (by decide)) qA rfl (j0 (pv 0) (j0 (pv 1) j2)))) (fun _ _ _ _ _=>(ja (i:=0) (show List.Nodup (["reach","height","reaches"]:List Str) by decide +kernel) rfl (Or.inl rfl))) (fun _ _ _ _ _=>jQ) (fun _ _ _ _ _=>(zQ K (jn (qe K) (jn (jb K) (pv 2) (pv 0) (fun _ _=>rfl)) j4 (fun _ _=>rfl)))) (fun _ _ _ _ _=>(ja (i:=1) (show List.Nodup (["reach","height","reaches"]:List Str) by decide +kernel) rfl (Or.inl rfl))) (fun _ _ _ _ _=>jQ) (fun _ _ _ _ _=>(pv 1))))),?_⟩
  obtain ⟨ps,hPt⟩:=hT.ne
  left
  refine ⟨p,xs,rs,l,rfl,hp,hrw,L,h60,hT,fun t H1 ws i ei hi hR ht1 X1 T1=>?_,fun H1 hbad X1 T1=>kx H1 hbad X1 T1⟩
  have hp1:=X1 _ _ hp (jr hp hPt (by walk_at "z"))
  have hrw1:jU H1 xs rs:=hrw.keep (jp.tbl X1 hPt)
  obtain ⟨inw,lenw⟩:=Ut L hR hi
  have kk:=fun t H'=>k t H' ws i ei hi hR
  generalize ws.getD i []=way at *
  left
  refine ⟨⟨_,SqT.of ht1⟩,fun acc hacc=>?_⟩
  refine ZP (K:=K) (a:=t) (xs:=way.map V.int) (acc:=acc) (fun j σ H2=>∃ x y:Option V,σ=[x,y,some (.ref p)]/\H2 acc=some (.lst ((jc rs (way.take j)).map V.int))/\Ext acc H1 H2) ?_ ?_ ?_ ?_
  ·exact ⟨none,none,rfl,j7,Ext.put⟩
  ·rintro j σ H2 hj ⟨x,y,rfl,h3,e3⟩
   exact SqT.of (e3 _ _ ht1 (j1 ht1 hacc))
  ·rintro j v σ H2 hv ⟨x,y,rfl,h3,e3⟩
   obtain ⟨r,rfl,hr'⟩:=ux hv
   have hin:=inw r (List.mem_of_getElem? hr')
   have hri:r.toNat<rs.length:=by omega
   obtain ⟨v,hv2,q,g,rfl,hq1,hg1⟩:=hrw1.at (List.getElem?_eq_getElem hri)
   have hp2:=e3 _ _ hp1 (j1 hp1 hacc)
   have hq:=e3 _ _ hq1 (j1 hq1 hacc)
   have gl:=ud h100 (way.take j)
   have jl:(way.take j).length<=60:=by rw [List.length_take];omega
   have hsn:=uP rs way j r hr'
   have ehs:zG rs r.toNat=(rs[r.toNat]'hri).2:=by
    unfold zG
    rw [List.getD_eq_getElem?_getD,List.getElem?_eq_getElem hri]
    rfl
   have hl100:=h100 _ (List.getElem_mem hri)
   rw [ehs] at hsn
   generalize (rs[r.toNat]'hri).2=hs at hg1 hsn hl100
   left
   refine ⟨_,_,_,_,rfl,rfl,SqL.of hp2,(by rw [show r=((r.toNat:Nat):Int) by omega];exact zt hv2),?_⟩
   refine ⟨_,_,_,_,rfl,rfl,SqT.of hq,rfl,?_⟩
   refine ⟨g,rfl,⟨_,SqT.of (e3 _ _ hg1 (j1 hg1 hacc))⟩,?_⟩
   refine UU (K:=K) (a:=g) (acc:=acc) (xs:=hs.map V.int) (fun n σ H4=>∃ y:Option V,σ=[some (.int r),y,some (.ref p)]/\H4 acc=some (.lst ((jc rs (way.take j)++hs.take n).map V.int))/\Ext acc H1 H4) ?_ ?_ ?_ ?_
   ·exact ⟨y,rfl,by rw [List.take_zero,List.append_nil];exact h3,e3⟩
   ·rintro n σ H4 hn ⟨y,rfl,h4,e4⟩
    exact SqT.of (e4 _ _ hg1 (j1 hg1 hacc))
   ·rintro n v σ H4 hv4 ⟨y,rfl,h4,e4⟩
    obtain ⟨h,rfl,hh⟩:=ux hv4
    have hnl:=(List.getElem?_eq_some_iff.mp hh).1
    left
    refine ⟨_,h4,by rw [List.length_map,List.length_append,List.length_take];exact Nat.lt_of_lt_of_le (show _<10000 by omega) (by decide),some (.int h),rfl,?_,e4.trans Ext.put⟩
    rw [j7,List.take_add_one,hh,Option.toList_some,<- List.append_assoc,List.map_append (l₁:=jc rs (way.take j)++hs.take n)]
    rfl
   ·rintro σ H4 ⟨y,rfl,h4,e4⟩
    rw [List.length_map,List.take_length,<- hsn] at h4
    exact ⟨_,_,rfl,h4,e4⟩
  ·rintro σ H2 ⟨x,y,rfl,h3,e3⟩
   rw [List.length_map,List.take_length] at h3
   exact kk acc H2 (JE hT X1 T1 hacc) h3 (fun c o hc n=>e3 _ _ (X1 _ _ hc n) (fun z=>by rw [z,JE hT X1 T1 hacc] at hc;cases hc)) (T1.extN hacc e3)
def vX (va cy sl ye le:Addr):List (Str×V):=js "leaps" (.ref le) (js "years" (.ref ye) (js "slopes" (.ref sl) (js "cycle" (.ref cy) (js "valley" (.ref va) []))))
theorem wE (va cy sl ye le:Addr):(vX va cy sl ye le).lookup ("cycle" : Str)=some (.ref cy):=by
 unfold vX
 rw [jz,if_neg (by walk_at "k"),jz,if_neg (by walk_at "k"),jz,if_neg (by walk_at "k"),jz,if_pos rfl]
theorem zo (va cy sl ye le:Addr):(vX va cy sl ye le).lookup ("slopes" : Str)=some (.ref sl):=by
 unfold vX
 rw [jz,if_neg (by walk_at "k"),jz,if_neg (by walk_at "k"),jz,if_pos rfl]
theorem wQ (va cy sl ye le:Addr):(vX va cy sl ye le).lookup ("years" : Str)=some (.ref ye):=by
 unfold vX
 rw [jz,if_neg (by walk_at "k"),jz,if_pos rfl]
theorem vk (va cy sl ye le:Addr):(vX va cy sl ye le).lookup ("leaps" : Str)=some (.ref le):=by
 unfold vX
 rw [jz,if_pos rfl]
theorem xH (va cy sl ye le:Addr) {m:Str}(h1:¬ m = "leaps") (h2:¬ m = "years") (h3:¬ m = "slopes") (h4:¬ m = "cycle") (h5:¬ m = "valley"):(vX va cy sl ye le).lookup m=none:=by
 unfold vX
 rw [jz,if_neg h1,jz,if_neg h2,jz,if_neg h3,jz,if_neg h4,jz,if_neg h5]
 rfl
structure IceC (K:PySem.W.Frag) (C:Addr):Prop where
 cl:Cls K C
 nV:zg K C "valley"
 nC:zg K C "cycle"
 nS:zg K C "slopes"
 nY:zg K C "years"
 nL:zg K C "leaps"
structure IceG where
 dx:Addr
 va:Addr
 cy:Addr
 sl:Addr
 ye:Addr
 le:Addr
 xs:List V
 ys:List V
 zs:List V
 lds:List (Addr×List (Key×V))
 kvs:List (Key×V)
 rs:List Rch
 rows:List T3
 slopes:List (List Int)
structure IceAt (C:Addr) (H:Hp) (p:Addr) (g:IceG):Prop where
 ob:H p=some (.ins C g.dx (vX g.va g.cy g.sl g.ye g.le))
 va:H g.va=some (.lst g.xs)
 rs:jU H g.xs g.rs
 cy:H g.cy=some (.lst g.ys)
 rows:qM H g.ys g.rows
 sl:H g.sl=some (.lst g.zs)
 slopes:yf H g.zs g.slopes
 ye:H g.ye=some (.dK g.kvs)
 le:H g.le=some (.lst (g.lds.map fun x=>V.ref x.1))
 lds:∀ x∈g.lds,H x.1=some (.dK x.2)
theorem IceAt.same {C:Addr}{H H':Hp}{p:Addr}{g:IceG}(I:IceAt C H p g) (s:ji H H'):IceAt C H' p g :=
 ⟨s _ _ I.ob,s _ _ I.va,I.rs.keep (jp.same s),s _ _ I.cy,I.rows.imp fun _ _ q=>s _ _ q,s _ _ I.sl,Paired.mapP I.slopes fun _ _ ⟨a,e,q⟩=>⟨a,e,s _ _ q⟩,s _ _ I.ye,s _ _ I.le,fun x hx=>s _ _ (I.lds x hx)⟩
theorem J6 {C:Addr}{H:Hp}{p:Addr}{g:IceG}(I:IceAt C H p g) {l:Int}(h0:0<=l) (h1:l<(g.slopes.length:Int)):∃ a,atI g.zs l=some (.ref a)/\H a=some (.lst ((g.slopes.getD l.toNat []).map V.int)):=by
 have hz:g.zs.length=g.slopes.length:=Paired.length I.slopes
 have hi:l.toNat<g.zs.length:=by omega
 obtain ⟨w,hw,a,e,ha⟩:=Paired.get I.slopes (List.getElem?_eq_getElem hi)
 refine ⟨a,?_,?_⟩
 ·rw [show l=((l.toNat:Nat):Int) by omega]
  refine zt ?_
  rw [List.getElem?_eq_getElem hi,e]
 ·rw [ha,List.getD_eq_getElem?_getD,hw]
  rfl
theorem Yo {l:List Int}{n:Nat}(h:n<l.length):(l.map V.int)[n]? = some (V.int (l.getD n 0)):=by
 rw [List.getElem?_map,List.getD_eq_getElem?_getD,List.getElem?_eq_getElem h]
 rfl
def xR (C CN:Addr):Sp:=fun vs H Q E=>∃ (p:Addr) (g:IceG) (l:Int),vs=[.ref p,.int l]/\IceAt C H p g/\(0<=l->l<(g.slopes.length:Int)->Q .non H)/\(l<0\/(g.slopes.length:Int)<=l->E (.ref CN) none H)
theorem vq:FnScope ["self","lane"] ["self","lane"] (j6 xq):=by walk_at "s"
theorem vj {f C CN:Addr}{fd:FuncData}(nb:Nb2 mg) (T:IceC K C) (e_NoLane:mg "NoLane" = some (.ref CN)) (x_NoLane:PySem.W.excIn K CN [.type "ValueError",.type "Exception",.type "BaseException",.type "object"] "ValueError.__new__" = true) (F:Fun K "check_lane" "Ice.check_lane" xq f fd):FnOk P w K mg base (CX1 P w) 1 f fd ["self","lane"] (xR C CN):=by
 refine Fun.okX F vq (fun vs H Q E h=>?_) (fun cdv A outer s H vs Q E hr h=>?_)
 ·obtain ⟨p,g,l,rfl,_⟩:=h
  rfl
 ·obtain ⟨p,g,l,rfl,I,k,kx⟩:=h
  have hz:g.zs.length=g.slopes.length:=Paired.length I.slopes
  refine ⟨_,(j9 (jM (qJ (qy jP xX j4 (pv 1) (jf (jg K) rfl nb.b_len PySem.boot_len (j0 (xb K (pv 0)) j2)))) (j9 (qQ PySem.F.excBase_ValueError x_NoLane e_NoLane rfl xu rfl (j0 jo j2))) jw)),?_⟩
  left
  refine jV (fun h0=>?_) (fun h0=>?_)
  ·left
   refine ⟨p,C,g.dx,_,_,rfl,I.ob,T.cl,T.nS,zo _ _ _ _ _,?_⟩
   left
   refine ⟨_,_,rfl,.inl (SqL.of I.sl),?_⟩
   rw [hz]
   left
   refine x8 (fun h1=>?_) (fun h1=>?_)
   ·left
    exact ⟨by show 1<=sizeLine;decide,kx (.inr (by omega))⟩
   ·left
    exact k h0 h1
  ·left
   refine uS ?_
   left
   exact ⟨by show 1<=sizeLine;decide,kx (.inl (by omega))⟩
def zX (C CN CP:Addr):Sp:=fun vs H Q E=>∃ (p:Addr) (g:IceG) (l n:Int),vs=[.ref p,.int l,.int n]/\IceAt C H p g/\(0<=l->l<(g.slopes.length:Int)->0<=n->n<((g.slopes.getD l.toNat []).length:Int)->Q .non H) /\
 (l<0\/(g.slopes.length:Int)<=l->E (.ref CN) none H)/\(0<=l->l<(g.slopes.length:Int)->(n<0\/((g.slopes.getD l.toNat []).length:Int)<=n)->E (.ref CP) none H)
theorem yN:FnScope ["self","lane","place"] ["self","lane","place"] (j6 xi):=by walk_at "s"
theorem yP {f C CN CP:Addr}{fd:FuncData}(nb:Nb2 mg) (T:IceC K C) (e_NoPlace:mg "NoPlace" = some (.ref CP)) (x_NoPlace:PySem.W.excIn K CP [.type "ValueError",.type "Exception",.type "BaseException",.type "object"] "ValueError.__new__" = true) (cl_Ice:Cls K C) (c_Ice__check_lane:CalMX P w K mg base 1 C "check_lane" ["self","lane"] (xR C CN)) (F:Fun K "check_place" "Ice.check_place" xi f fd):FnOk P w K mg base (CX1 P w) 2 f fd ["self","lane","place"] (zX C CN CP):=by
 refine Fun.okX F yN (fun vs H Q E h=>?_) (fun cdv A outer s H vs Q E hr h=>?_)
 ·obtain ⟨p,g,l,n,rfl,_⟩:=h
  rfl
 ·obtain ⟨p,g,l,n,rfl,I,k,kx,ky⟩:=h
  refine ⟨_,(j5 (qd (zO (pv 0) cl_Ice c_Ice__check_lane (hr.mono (by decide)) qA (j0 (pv 1) j2)))
   (j9 (jM (qJ (qy jP xX j4 (pv 2) (jf (jg K) rfl nb.b_len PySem.boot_len (j0 (jn (jb K) (xb K (pv 0)) (pv 1) (fun _ _=>rfl)) j2)))) (j9 (qQ PySem.F.excBase_ValueError x_NoPlace e_NoPlace rfl xu rfl (j0 jo j2))) jw))),?_⟩
  left
  refine ⟨p,g.dx,_,rfl,I.ob,xH _ _ _ _ _ (by walk_at "k") (by walk_at "k") (by walk_at "k") (by walk_at "k") (by walk_at "k"),?_⟩
  left
  refine ⟨p,g,l,rfl,I,fun l0 l1=>?_,fun hb=>kx hb⟩
  obtain ⟨a,ha,hla⟩:=J6 I l0 l1
  left
  refine jV (fun h0=>?_) (fun h0=>?_)
  ·left
   refine ⟨p,C,g.dx,_,_,rfl,I.ob,T.cl,T.nS,zo _ _ _ _ _,?_⟩
   left
   refine ⟨_,_,_,_,rfl,rfl,SqL.of I.sl,ha,?_⟩
   left
   refine ⟨_,_,rfl,.inl (SqL.of hla),?_⟩
   rw [List.length_map]
   left
   refine x8 (fun h1=>?_) (fun h1=>?_)
   ·left
    exact ⟨by show 1<=sizeLine;decide,ky l0 l1 (.inr (by omega))⟩
   ·left
    exact k l0 l1 h0 h1
  ·left
   refine uS ?_
   left
   exact ⟨by show 1<=sizeLine;decide,ky l0 l1 (.inl (by omega))⟩
def gA (C CN:Addr):Sp:=fun vs H Q E=>∃ (p:Addr) (g:IceG) (l:Int),vs=[.ref p,.int l]/\IceAt C H p g/\(0<=l->l<(g.slopes.length:Int)->Q (.int ((g.slopes.getD l.toNat []).length:Int)) H)/\(l<0\/(g.slopes.length:Int)<=l->E (.ref CN) none H)
theorem wO:FnScope ["self","lane"] ["self","lane"] (j6 zB):=by walk_at "s"
theorem wI {f C CN:Addr}{fd:FuncData}(nb:Nb2 mg) (T:IceC K C) (cl_Ice:Cls K C) (c_Ice__check_lane:CalMX P w K mg base 1 C "check_lane" ["self","lane"] (xR C CN)) (F:Fun K "length" "Ice.length" zB f fd):FnOk P w K mg base (CX1 P w) 2 f fd ["self","lane"] (gA C CN):=by
 refine Fun.okX F wO (fun vs H Q E h=>?_) (fun cdv A outer s H vs Q E hr h=>?_)
 ·obtain ⟨p,g,l,rfl,_⟩:=h
  rfl
 ·obtain ⟨p,g,l,rfl,I,k,kx⟩:=h
  refine ⟨_,(j5 (qd (zO (pv 0) cl_Ice c_Ice__check_lane (hr.mono (by decide)) qA (j0 (pv 1) j2)))
   (j9 (jj (jf (jg K) rfl nb.b_len PySem.boot_len (j0 (jn (jb K) (xb K (pv 0)) (pv 1) (fun _ _=>rfl)) j2))))),?_⟩
  left
  refine ⟨p,g.dx,_,rfl,I.ob,xH _ _ _ _ _ (by walk_at "k") (by walk_at "k") (by walk_at "k") (by walk_at "k") (by walk_at "k"),?_⟩
  left
  refine ⟨p,g,l,rfl,I,fun l0 l1=>?_,fun hb=>kx hb⟩
  obtain ⟨a,ha,hla⟩:=J6 I l0 l1
  left
  refine ⟨p,C,g.dx,_,_,rfl,I.ob,T.cl,T.nS,zo _ _ _ _ _,?_⟩
  left
  refine ⟨_,_,_,_,rfl,rfl,SqL.of I.sl,ha,?_⟩
  left
  refine ⟨_,_,rfl,.inl (SqL.of hla),?_⟩
  rw [List.length_map]
  exact k l0 l1
def gk (C CN CP:Addr):Sp:=fun vs H Q E=>∃ (p:Addr) (g:IceG) (l n:Int),vs=[.ref p,.int l,.int n]/\IceAt C H p g/\(0<=l->l<(g.slopes.length:Int)->0<=n->n<((g.slopes.getD l.toNat []).length:Int)->Q (.int ((g.slopes.getD l.toNat []).getD n.toNat 0)) H) /\
 (l<0\/(g.slopes.length:Int)<=l->E (.ref CN) none H)/\(0<=l->l<(g.slopes.length:Int)->(n<0\/((g.slopes.getD l.toNat []).length:Int)<=n)->E (.ref CP) none H)
theorem wf:FnScope ["self","lane","place"] ["self","lane","place"] (j6 zC):=by walk_at "s"
theorem wq {f C CN CP:Addr}{fd:FuncData}(nb:Nb2 mg) (T:IceC K C) (cl_Ice:Cls K C) (c_Ice__check_place:CalMX P w K mg base 2 C "check_place" ["self","lane","place"] (zX C CN CP)) (F:Fun K "height" "Ice.height" zC f fd):FnOk P w K mg base (CX1 P w) 3 f fd ["self","lane","place"] (gk C CN CP):=by
 refine Fun.okX F wf (fun vs H Q E h=>?_) (fun cdv A outer s H vs Q E hr h=>?_)
 ·obtain ⟨p,g,l,n,rfl,_⟩:=h
  rfl
 ·obtain ⟨p,g,l,n,rfl,I,k,kx,ky⟩:=h
  refine ⟨_,(j5 (qd (zO (pv 0) cl_Ice c_Ice__check_place (hr.mono (by decide)) qA (j0 (pv 1) (j0 (pv 2) j2))))
   (j9 (jj (jn (jb K) (jn (jb K) (xb K (pv 0)) (pv 1) (fun _ _=>rfl)) (pv 2) (fun _ _=>rfl))))),?_⟩
  left
  refine ⟨p,g.dx,_,rfl,I.ob,xH _ _ _ _ _ (by walk_at "k") (by walk_at "k") (by walk_at "k") (by walk_at "k") (by walk_at "k"),?_⟩
  left
  refine ⟨p,g,l,n,rfl,I,fun l0 l1 n0 n1=>?_,fun hb=>kx hb,fun l0 l1 hb=>ky l0 l1 hb⟩
  obtain ⟨a,ha,hla⟩:=J6 I l0 l1
  left
  refine ⟨p,C,g.dx,_,_,rfl,I.ob,T.cl,T.nS,zo _ _ _ _ _,?_⟩
  left
  refine ⟨_,_,_,_,rfl,rfl,SqL.of I.sl,ha,?_⟩
  left
  refine ⟨_,_,_,_,rfl,rfl,SqL.of hla,(by rw [show n=((n.toNat:Nat):Int) by omega];exact zt (Yo (by omega))),?_⟩
  exact k l0 l1 n0 n1
end
section
variable {P:Program}{w:World}{K:PySem.W.Frag}{mg:Str->Option Value}{base:Heap}
def vW (CR:Addr):Sp:=fun vs H Q E=>∃ (p:Addr) (xs:List V) (ts:List T3),vs=[.ref p]/\H p=some (.lst xs)/\qM H xs ts/\ts.length<=1000/\(∀ H',gr ts=true->ji H H'->Q .non H')/\∀ H',gr ts=false->ji H H'->E (.ref CR) none H'
theorem wW:FnScope ["rows"] ["rows"] (j6 zE):=by walk_at "s"
theorem kA {f CR:Addr}{fd:FuncData}(nb:Nb2 mg) (e_BadRound:mg "BadRound" = some (.ref CR)) (x_BadRound:PySem.W.excIn K CR [.type "ValueError",.type "Exception",.type "BaseException",.type "object"] "ValueError.__new__" = true) (c_is_round:Cal P w K mg base 2 "is_round" ["rows"] (Z9 K)) (F:Fun K "check_round" "check_round" zE f fd):FnOk P w K mg base (CX1 P w) 3 f fd ["rows"] (vW CR):=by
 refine Fun.okX F wW (fun vs H Q E h=>?_) (fun cdv A outer s H vs Q E hr h=>?_)
 ·obtain ⟨p,xs,ts,rfl,_⟩:=h
  rfl
 ·obtain ⟨p,xs,ts,rfl,hp,hr3,h1000,k,kx⟩:=h
  refine ⟨_,(j9 (jM (qJ (ve (jd c_is_round (hr.mono (by decide)) rfl (j0 (pv 0) j2)))) (j9 (qQ PySem.F.excBase_ValueError x_BadRound e_BadRound rfl xu rfl (j0 jo j2))) jw)),?_⟩
  left
  refine ⟨p,xs,ts,rfl,hp,hr3,h1000,fun H1 s1=>?_⟩
  cases e:gr ts with
  | true =>
   left
   exact k H1 e s1
  | false =>
   left
   exact ⟨by show 1<=sizeLine;decide,kx H1 e s1⟩
def Kp (p Pt:Addr) (H H':Hp):Prop:=∀ c o,H c=some o->c≠p->c≠Pt->H' c=some o
theorem Kp.trans {p Pt:Addr}{H H1 H2:Hp}(a:Kp p Pt H H1) (b:Kp p Pt H1 H2):Kp p Pt H H2:=fun c o h n m=>b c o (a c o h n m) n m
theorem Kp.of_same {p Pt:Addr}{H H':Hp}(s:ji H H'):Kp p Pt H H':=fun c o h _ _=>s c o h
theorem Kp.of_ext {p Pt:Addr}{H H':Hp}(s:Ext Pt H H'):Kp p Pt H H':=fun c o h _ m=>s c o h m
theorem Kp.put {p Pt:Addr}{H:Hp}{o:HO}:Kp p Pt H (upd H p o):=fun c _ h n _=>by rw [j8 n];exact h
theorem Kp.at {p Pt a:Addr}{H H':Hp}{o u:HO}{ps:Array Value}(k:Kp p Pt H H') (h:H a=some o) (hp:H p=some u) (hPt:H Pt=some (.tbl ps)) (n:o≠u) (m:o≠.tbl ps):H' a=some o:=k _ _ h (jr h hp n) (jr h hPt m)
theorem Kp.free {p Pt a:Addr}{H H':Hp}{u u':HO}(k:Kp p Pt H H') (h:H' a=none) (hp:H' p=some u) (hPt:H' Pt=some u'):H a=none:=by
 cases e:H a with
 | none=>rfl
 | some o =>
  have:=k a o e (fun z=>by rw [z,hp] at h;cases h) (fun z=>by rw [z,hPt] at h;cases h)
  rw [h] at this
  cases this
theorem vQ {H:Hp}{Pt p C dx:Addr}{fs:List (Str×V)}{o:HO}(T:qC H Pt) (hp:H p=some (.ins C dx fs)):qC (upd H p o) Pt:=by
 rcases T with h | ⟨c,h,h'⟩
 ·exact .inl (by rw [j8 (jr h hp (by walk_at "z"))];exact h)
 ·exact .inr ⟨c,by rw [j8 (jr h hp (by walk_at "z"))];exact h,by rw [j8 (jr h' hp (by walk_at "z"))];exact h'⟩
theorem jp.kp {p Pt C dx:Addr}{H H':Hp}{fs:List (Str×V)}{ps:Array Value}(k:Kp p Pt H H') (hp:H p=some (.ins C dx fs)) (hPt:H Pt=some (.tbl ps)):jp H H':=fun _ _ h=>k.at h hp hPt (by walk_at "z") (by walk_at "z")
theorem pm {α β:Type}{F:α->β->Prop}:∀ {l₁:List α}{l₂:List β},Paired F l₁ l₂->∀ v∈l₁,∃ w,F v w
 | _,_,.nil,v,h=>by cases h
 | _,_,.cons q r,v,h=>by
  rcases List.mem_cons.mp h with rfl | z
  ·exact ⟨_,q⟩
  ·exact pm r v z
theorem pmE {H H0:Hp}{a0:Addr}{zs:List V}{rows:List (List Int)}(r:Paired (fun v (w:List Int)=>∃ a,v=V.ref a/\H a=some (.lst (w.map V.int))/\H0 a=none/\a≠a0) zs rows):∀ a,V.ref a∈zs->H0 a=none/\a≠a0:=fun a h=>by
 obtain ⟨w,b,e,_,z⟩:=pm r _ h
 cases e
 exact z
structure IceNew (C Pt:Addr) (H H':Hp) (p:Addr) (g:IceG):Prop where
 at_:IceAt C H' p g
 keep:∀ c o,H c=some o->c≠p->c≠Pt->H' c=some o
 va:H g.va=none
 cy:H g.cy=none
 sl:H g.sl=none
 ye:H g.ye=none
 le:H g.le=none
 zs:∀ a,V.ref a∈g.zs->H a=none
 kvs:g.kvs=[]
 lds:∀ x∈g.lds,H x.1=none/\x.2=[]
 ll:g.lds.length=g.slopes.length
 nd:(g.lds.map (·.1)).Nodup
 ny:∀ x∈g.lds,x.1≠g.ye
 sl2:∃ ws,qa g.rs ws/\g.slopes=ws.map (jc g.rs)
def YK (C CV CR Pt:Addr):Sp:=fun vs H Q E=>∃ (p dx r q:Addr) (xs ys:List V) (rs:List Rch) (ts:List T3),vs=[.ref p,.ref r,.ref q]/\H p=some (.ins C dx [])/\H r=some (.lst xs)/\jU H xs rs/\H q=some (.lst ys)/\qM H ys ts/\(∀ r∈rs,r.2.length<=100)/\rs.length<=60/\ts.length<=1000/\qC H Pt /\
 (∀ H' g,zn rs=true->gr ts=true->IceNew C Pt H H' p g->g.rs=rs->g.rows=ts->g.xs=xs->g.ys=ys->qC H' Pt->Q .non H') /\
 (∀ H',zn rs=false->Ext Pt H H'->qC H' Pt->E (.ref CV) none H')/\(∀ H',zn rs=true->gr ts=false->Ext Pt H H'->qC H' Pt->E (.ref CR) none H')
theorem ue:FnScope ["self","reaches","rows"] ["self","reaches","rows"] (j6 qE):=by walk_at "s"
theorem uh {f C CV CR CN Pt:Addr}{fd:FuncData}(nb:Nb2 mg) (T:IceC K C) (e_BadValley:mg "BadValley" = some (.ref CV)) (x_BadValley:PySem.W.excIn K CV [.type "ValueError",.type "Exception",.type "BaseException",.type "object"] "ValueError.__new__" = true)
  (c_is_valley:Cal P w K mg base 6 "is_valley" ["reaches"] (JS K Pt)) (c_check_round:CalX P w K mg base 3 "check_round" ["rows"] (vW CR)) (c_lanes:Cal P w K mg base 5 "lanes" ["reaches"] (vM K Pt)) (c_heights:Cal P w K mg base 7 "heights" ["reaches","lane"] (fun vs H Q _=>gy Pt CN vs H Q E0))
  (F:Fun K "__init__" "Ice.__init__" qE f fd):FnOk P w K mg base (CX1 P w) 8 f fd ["self","reaches","rows"] (YK C CV CR Pt):=by
 refine Fun.okX F ue (fun vs H Q E h=>?_) (fun cdv A outer s H vs Q E hr h=>?_)
 ·obtain ⟨p,dx,r,q,xs,ys,rs,ts,rfl,_⟩:=h
  rfl
 ·obtain ⟨p,dx,r,q,xs,ys,rs,ts,rfl,hp,hr',hrw,hq,hr3,h100,h60,h1000,hT,k,kv,kr⟩:=h
  obtain ⟨ps,hPt⟩:=hT.ne
  refine ⟨_,(j5 (jM (qJ (ve (jd c_is_valley (hr.mono (by decide)) rfl (j0 (pv 1) j2)))) (j9 (qQ PySem.F.excBase_ValueError x_BadValley e_BadValley rfl xu rfl (j0 jo j2))) jw)
   (j5 (qd (xa c_check_round (hr.mono (by decide)) qA rfl (j0 (pv 2) j2)))
   (j5 (vJ K (pv 0) (qH (qP K) rfl nb.b_list PyProof.Rows.boot_list (j0 (pv 1) j2)))
   (j5 (vJ K (pv 0) (qH (qP K) rfl nb.b_list PyProof.Rows.boot_list (j0 (pv 2) j2)))
   (j5 (vJ K (pv 0) (jZ (osc:=(j6 qE)) (ON:=["self","reaches","rows"]) (N:=["lane","reaches"]) (own:=1) (caps:=[1]) ⟨rfl,by walk_at "k",by walk_at "k",by walk_at "k",rfl,by walk_at "k"⟩ rfl rfl rfl (qw rfl nb.b_range (j0 (jf (jg K) rfl nb.b_len PySem.boot_len (j0 (jd c_lanes (hr.mono (by decide)) rfl (j0 (pv 1) j2)) j2)) j2)) (fun _ _ _ _ _=>(ja (i:=0) (show List.Nodup (["lane","reaches"]:List Str) by decide +kernel) rfl (Or.inl rfl))) (fun _ _ _ _ _=>jQ) (fun _ _ _ _ _=>(jd c_heights (hr.mono (by decide)) rfl (j0 (pv 1) (j0 (pv 0) j2))))))
   (j5 (vJ K (pv 0) vK)
   (j9 (vJ K (pv 0) (jZ (osc:=(j6 qE)) (ON:=["self","reaches","rows"]) (N:=["slope"]) (own:=1) (caps:=[]) ⟨rfl,by walk_at "k",by walk_at "k",by walk_at "k",rfl,by walk_at "k"⟩ rfl rfl rfl (qc K (xb K (pv 0))) (fun _ _ _ _ _=>(ja (i:=0) (show List.Nodup (["slope"]:List Str) by decide +kernel) rfl (Or.inl rfl))) (fun _ _ _ _ _=>jQ) (fun _ _ _ _ _=>vK)))))))))),?_⟩
  left
  refine ⟨r,xs,rs,rfl,hr',hrw,h100,h60,hT,fun H1 X1 T1=>?_⟩
  cases eg:zn rs with
  | false =>
   left
   exact ⟨by show 1<=sizeLine;decide,kv H1 eg X1 T1⟩
  | true =>
   have X1':∀ {a:Addr} {o:HO},H a=some o->(∀ ps,o≠.tbl ps)->H1 a=some o:=fun {a o} h n=>X1 _ _ h (jr h hPt (n _))
   have hp1:=X1' hp (by walk_at "w")
   have hr1:=X1' hr' (by walk_at "w")
   have hq1:=X1' hq (by walk_at "w")
   have hrw1:jU H1 xs rs:=hrw.keep (jp.tbl X1 hPt)
   have hr31:qM H1 ys ts:=hr3.imp fun a t e=>X1' e (by walk_at "w")
   left
   refine ⟨q,ys,ts,rfl,hq1,hr31,h1000,fun H2 egr s2=>?_,fun H2 egr s2=>kr H2 eg egr (X1.trans (Ext.of_same s2)) (T1.same s2)⟩
   have L:xl rs:=qg (by unfold zn at eg;rw [Bool.and_eq_true,Bool.and_eq_true] at eg;exact eg.2.1)
   have k2:Kp p Pt H H2:=(Kp.of_ext X1).trans (Kp.of_same s2)
   have hp2:=s2 _ _ hp1
   have T2:=T1.same s2
   left
   refine ⟨_,_,rfl,.inl (SqL.of (s2 _ _ hr1)),fun va H3 va2 va3 s3=>?_⟩
   have hp3:=s3 _ _ hp2
   have T3':=T2.same s3
   have k3:=k2.trans (Kp.of_same s3)
   obtain ⟨_,hPt2⟩:=T2.ne
   have va0:=k2.free va2 hp2 hPt2
   left
   refine ⟨p,C,dx,_,rfl,hp3,T.cl,T.nV,by decide,?_⟩
   have Ta:qC (upd H3 p (HO.ins C dx (js "valley" (V.ref va) []))) Pt:=vQ T3' hp3
   have ka:=k3.trans (Kp.put (p:=p) (Pt:=Pt) (o:=HO.ins C dx (js "valley" (V.ref va) [])))
   have pa:upd H3 p (HO.ins C dx (js "valley" (V.ref va) [])) p=some (HO.ins C dx (js "valley" (V.ref va) [])):=j7
   have vaa:upd H3 p (HO.ins C dx (js "valley" (V.ref va) [])) va=some (HO.lst xs):=by rw [j8 (j1 hp2 va2).symm];exact va3
   clear k2 k3 hp1 hr1 hq1 hrw1 hr31 X1' X1 T1 s2 hp2 T2 s3 hp3 T3' va3 va2 hPt2
   generalize upd H3 p (HO.ins C dx (js "valley" (V.ref va) []))=Ha at *
   obtain ⟨_,hPta⟩:=Ta.ne
   have vaP:va≠Pt:=jr vaa hPta (by walk_at "z")
   have vap:va≠p:=jr vaa pa (by walk_at "z")
   left
   refine ⟨_,_,rfl,.inl (SqL.of (ka.at hq hp hPt (by walk_at "z") (by walk_at "z"))),fun cy H4 cya cy4 s4=>?_⟩
   have hp4:=s4 _ _ pa
   have T4:=Ta.same s4
   have cy0:=ka.free cya pa hPta
   left
   refine ⟨p,C,dx,_,rfl,hp4,T.cl,T.nC,Nat.lt_of_le_of_lt (jT _ _ _) (by decide),?_⟩
   have kb:=(ka.trans (Kp.of_same s4)).trans (Kp.put (p:=p) (Pt:=Pt) (o:=HO.ins C dx (js "cycle" (V.ref cy) (js "valley" (V.ref va) []))))
   have Tb:qC (upd H4 p (HO.ins C dx (js "cycle" (V.ref cy) (js "valley" (V.ref va) [])))) Pt:=vQ T4 hp4
   have pb:upd H4 p (HO.ins C dx (js "cycle" (V.ref cy) (js "valley" (V.ref va) []))) p=some (HO.ins C dx (js "cycle" (V.ref cy) (js "valley" (V.ref va) []))):=j7
   have vab:upd H4 p (HO.ins C dx (js "cycle" (V.ref cy) (js "valley" (V.ref va) []))) va=some (HO.lst xs):=by rw [j8 vap];exact s4 _ _ vaa
   have cyb:upd H4 p (HO.ins C dx (js "cycle" (V.ref cy) (js "valley" (V.ref va) []))) cy=some (HO.lst ys):=by rw [j8 (j1 pa cya).symm];exact cy4
   clear ka Ta pa vaa s4 hp4 T4 cya cy4 hPta
   generalize upd H4 p (HO.ins C dx (js "cycle" (V.ref cy) (js "valley" (V.ref va) [])))=Hb at *
   obtain ⟨_,hPtb⟩:=Tb.ne
   have cyP:cy≠Pt:=jr cyb hPtb (by walk_at "z")
   have cyp:cy≠p:=jr cyb pb (by walk_at "z")
   have pP:p≠Pt:=jr pb hPtb (by walk_at "z")
   left
   refine ⟨r,xs,rs,rfl,kb.at hr' hp hPt (by walk_at "z") (by walk_at "z"),hrw.keep (jp.kp kb hp hPt),L,h60,Tb,fun o H5 out ws ho ho5 hw hR X5 T5=>?_⟩
   left
   refine ⟨_,_,rfl,.inl (SqL.of ho5),?_⟩
   have hlen:out.length=ws.length:=hw.length
   have hws:ws.length<=60:=by
    rw [hR.length]
    unfold jt
    exact Nat.le_trans (List.length_filter_le _ _) (by rw [List.length_range];exact h60)
   refine ⟨(out.length:Int),rfl,by omega,by omega,fun acc hacc=>?_⟩
   obtain ⟨_,hPt5⟩:=T5.ne
   have kb5:Kp p Pt H H5:=kb.trans (Kp.of_ext X5)
   have hp5:=X5 _ _ pb pP
   have va5:=X5 _ _ vab vaP
   have cy5:=X5 _ _ cyb cyP
   have hr5:H5 r=some (.lst xs):=kb5.at hr' hp hPt (by walk_at "z") (by walk_at "z")
   have hrw5:jU H5 xs rs:=hrw.keep (jp.kp kb5 hp hPt)
   have accP:Pt≠acc:=j1 hPt5 hacc
   refine xC (lo:=0) (n:=((out.length:Int)).toNat) (acc:=acc) (fun i σ H6=>∃ (x:Option V) (zs:List V),σ=[x,some (.ref r)]/\H6 acc=some (.lst zs)/\zs.length=i/\Paired (fun v (w:List Int)=>∃ a,v=V.ref a/\H6 a=some (.lst (w.map V.int))/\H5 a=none/\a≠acc) zs ((ws.take i).map (jc rs))/\Kp acc Pt H5 H6/\qC H6 Pt) ?_ ?_ ?_
   ·exact ⟨none,[],rfl,j7,rfl,.nil,Kp.put,T5.extN hacc Ext.put⟩
   ·rintro i σ H6 hi ⟨x,zs,rfl,h6,hz,r6,k6,T6⟩
    obtain ⟨_,hPt6⟩:=T6.ne
    have iw:i<ws.length:=by omega
    left
    refine ⟨r,xs,rs,_,rfl,k6 _ _ hr5 (j1 hr5 hacc) (jr hr5 hPt5 (by walk_at "z")),hrw5.keep (fun a o h=>k6 _ _ h (j1 h hacc) (jr h hPt5 (by walk_at "z"))),L,h60,h100,T6,fun t H7 ws' i' ei hi' hR' ht ht7 X7 T7=>?_,fun H' hb _ _=>?_⟩
    ·obtain rfl:=hR.unique hR'
     obtain rfl:i'=i:=by omega
     have h7:=X7 _ _ h6 accP.symm
     have ta:t≠acc:=(j1 h6 ht).symm
     have tP:t≠Pt:=(j1 hPt6 ht).symm
     refine ⟨zs,h7,jm (by omega),some (.int (0+(i':Int))),zs++[.ref t],rfl,j7,by rw [List.length_append,hz];rfl,?_,?_,?_⟩
     ·rw [qx (jc rs) ws i' (ws.getD i' []) (by rw [List.getD_eq_getElem?_getD,List.getElem?_eq_getElem iw];rfl)]
      refine Paired.snoc (Paired.mapP r6 fun v wy ⟨a,e,ha,h0,na⟩=>⟨a,e,?_,h0,na⟩) ⟨t,rfl,by rw [j8 ta];exact ht7,k6.free ht h6 hPt6,ta⟩
      rw [j8 na]
      exact X7 _ _ ha (jr ha hPt6 (by walk_at "z"))
     ·exact (k6.trans (Kp.of_ext X7)).trans Kp.put
     ·exact T7.ext h7 Ext.put
    ·have:=hR.length
     exact absurd hb (by omega)
   ·rintro σ H6 ⟨x,zs,rfl,h6,hz,r6,k6,T6⟩
    rw [Int.toNat_natCast,hlen,List.take_length] at r6
    have f6:=pmE r6
    have hp6:=k6 _ _ hp5 (j1 hp5 hacc) pP
    have kc:Kp p Pt H (upd H6 p (HO.ins C dx (js "slopes" (V.ref acc) (js "cycle" (V.ref cy) (js "valley" (V.ref va) []))))):=fun c o h n m=>by
     rw [j8 n]
     have:=kb5 c o h n m
     exact k6 _ _ this (j1 this hacc) m
    have acp:acc≠p:=(j1 hp5 hacc).symm
    have acc0:=kb5.free hacc hp5 hPt5
    have zs0:∀ a,V.ref a∈zs->H a=none:=fun a z=>kb5.free (f6 a z).1 hp5 hPt5
    left
    refine ⟨p,C,dx,_,rfl,hp6,T.cl,T.nS,Nat.lt_of_le_of_lt (Nat.le_trans (jT _ _ _) (Nat.succ_le_succ (jT _ _ _))) (by decide),?_⟩
    have Tc:qC (upd H6 p (HO.ins C dx (js "slopes" (V.ref acc) (js "cycle" (V.ref cy) (js "valley" (V.ref va) []))))) Pt:=vQ T6 hp6
    have pc:upd H6 p (HO.ins C dx (js "slopes" (V.ref acc) (js "cycle" (V.ref cy) (js "valley" (V.ref va) [])))) p=some (HO.ins C dx (js "slopes" (V.ref acc) (js "cycle" (V.ref cy) (js "valley" (V.ref va) [])))):=j7
    have vac:upd H6 p (HO.ins C dx (js "slopes" (V.ref acc) (js "cycle" (V.ref cy) (js "valley" (V.ref va) [])))) va=some (HO.lst xs):=by rw [j8 vap];exact k6 _ _ va5 (j1 va5 hacc) vaP
    have cyc:upd H6 p (HO.ins C dx (js "slopes" (V.ref acc) (js "cycle" (V.ref cy) (js "valley" (V.ref va) [])))) cy=some (HO.lst ys):=by rw [j8 cyp];exact k6 _ _ cy5 (j1 cy5 hacc) cyP
    have slc:upd H6 p (HO.ins C dx (js "slopes" (V.ref acc) (js "cycle" (V.ref cy) (js "valley" (V.ref va) [])))) acc=some (HO.lst zs):=by rw [j8 acp];exact h6
    have slsc:yf (upd H6 p (HO.ins C dx (js "slopes" (V.ref acc) (js "cycle" (V.ref cy) (js "valley" (V.ref va) []))))) zs (ws.map (jc rs)):=Paired.mapP r6 fun v wy ⟨a,e,ha,h0,na⟩=>⟨a,e,by rw [j8 (j1 hp5 h0).symm];exact ha⟩
    clear r6 f6 k6 T6 h6 hp6 kb5 hp5 va5 cy5 hr5 hrw5 X5 T5 kb Tb pb vab cyb hPtb accP hacc ho ho5 hw hPt5
    generalize upd H6 p (HO.ins C dx (js "slopes" (V.ref acc) (js "cycle" (V.ref cy) (js "valley" (V.ref va) []))))=Hc at *
    left
    intro ye hye
    obtain ⟨_,hPtc⟩:=Tc.ne
    have ye0:=kc.free hye pc hPtc
    have yep:ye≠p:=(j1 pc hye).symm
    have s9:ji Hc (upd Hc ye (.dK [])):=ji.new hye
    left
    refine ⟨p,C,dx,_,rfl,s9 _ _ pc,T.cl,T.nY,Nat.lt_of_le_of_lt (Nat.le_trans (jT _ _ _) (Nat.succ_le_succ (Nat.le_trans (jT _ _ _) (Nat.succ_le_succ (jT _ _ _))))) (by decide),?_⟩
    have d_of:∀ c o,Hc c=some o->c≠p->(upd (upd Hc ye (HO.dK [])) p (HO.ins C dx (js "years" (V.ref ye) (js "slopes" (V.ref acc) (js "cycle" (V.ref cy) (js "valley" (V.ref va) [])))))) c=some o:=fun c o h n=>by rw [j8 n];exact s9 _ _ h
    have kd:Kp p Pt H (upd (upd Hc ye (HO.dK [])) p (HO.ins C dx (js "years" (V.ref ye) (js "slopes" (V.ref acc) (js "cycle" (V.ref cy) (js "valley" (V.ref va) [])))))):=(kc.trans (Kp.of_same s9)).trans Kp.put
    have Td:qC (upd (upd Hc ye (HO.dK [])) p (HO.ins C dx (js "years" (V.ref ye) (js "slopes" (V.ref acc) (js "cycle" (V.ref cy) (js "valley" (V.ref va) [])))))) Pt:=vQ (Tc.same s9) (s9 _ _ pc)
    have pd:(upd (upd Hc ye (HO.dK [])) p (HO.ins C dx (js "years" (V.ref ye) (js "slopes" (V.ref acc) (js "cycle" (V.ref cy) (js "valley" (V.ref va) [])))))) p=some (HO.ins C dx (js "years" (V.ref ye) (js "slopes" (V.ref acc) (js "cycle" (V.ref cy) (js "valley" (V.ref va) []))))):=j7
    have vad:=d_of _ _ vac vap
    have cyd:=d_of _ _ cyc cyp
    have sld:=d_of _ _ slc acp
    have yed:(upd (upd Hc ye (HO.dK [])) p (HO.ins C dx (js "years" (V.ref ye) (js "slopes" (V.ref acc) (js "cycle" (V.ref cy) (js "valley" (V.ref va) [])))))) ye=some (.dK []):=by rw [j8 yep];exact j7
    have slsd:yf (upd (upd Hc ye (HO.dK [])) p (HO.ins C dx (js "years" (V.ref ye) (js "slopes" (V.ref acc) (js "cycle" (V.ref cy) (js "valley" (V.ref va) [])))))) zs (ws.map (jc rs)):=Paired.mapP slsc fun v wy ⟨a,e,ha⟩=>⟨a,e,d_of _ _ ha (jr ha pc (by walk_at "z"))⟩
    clear d_of kc Tc pc vac cyc slc slsc hye hPtc s9
    generalize (upd (upd Hc ye (HO.dK [])) p (HO.ins C dx (js "years" (V.ref ye) (js "slopes" (V.ref acc) (js "cycle" (V.ref cy) (js "valley" (V.ref va) []))))))=Hd at *
    obtain ⟨_,hPtd⟩:=Td.ne
    left
    refine ⟨p,C,dx,_,_,rfl,pd,T.cl,T.nS,(by rw [jz,if_neg (by walk_at "k"),jz,if_pos rfl]),?_⟩
    left
    refine ⟨⟨_,SqL.of sld⟩,fun le hle=>?_⟩
    have lep:le≠p:=(j1 pd hle).symm
    have le0:=kd.free hle pd hPtd
    have zl:zs.length<=60:=by omega
    refine qf (K:=K) (a:=acc) (xs:=zs) (acc:=le) (fun i σ He=>∃ (x:Option V) (lds:List (Addr×List (Key×V))),σ=[x]/\He le=some (.lst (lds.map fun x=>V.ref x.1))/\lds.length=i/\(∀ x∈lds,He x.1=some (.dK x.2)/\x.2=[]/\Hd x.1=none/\x.1≠le)/\(lds.map (·.1)).Nodup/\Ext le Hd He) ?_ ?_ ?_ ?_
    ·exact ⟨none,[],rfl,j7,rfl,(fun x z=>by cases z),List.nodup_nil,Ext.put⟩
    ·rintro i σ He hi ⟨x,lds,rfl,he,hl,hd,nn,e⟩
     exact SqL.of (e _ _ sld (j1 sld hle))
    ·rintro i v σ He hv ⟨x,lds,rfl,he,hl,hd,nn,e⟩
     have hi:=(List.getElem?_eq_some_iff.mp hv).1
     left
     intro d hd0
     have dl:d≠le:=(j1 he hd0).symm
     refine ⟨_,(by rw [j8 (Ne.symm dl)];exact he),by rw [List.length_map];exact jm (by omega),some v,lds++[(d,[])],rfl,(by rw [j7,List.map_append];rfl),(by rw [List.length_append,hl];rfl),fun y hy=>?_,?_,fun c o hc n=>?_⟩
     ·rcases List.mem_append.mp hy with z | z
      ·obtain ⟨h1,h2,h3,h4⟩:=hd y z
       exact ⟨by rw [j8 h4,j8 (j1 h1 hd0)];exact h1,h2,h3,h4⟩
      ·obtain rfl:y=(d,[]):=by simpa using z
       exact ⟨by rw [j8 dl];exact j7,rfl,e.free hd0 dl,dl⟩
     ·rw [List.map_append]
      refine w9 nn fun z=>?_
      obtain ⟨y,hy,ey⟩:=List.mem_map.mp z
      have:=(hd y hy).1
      rw [ey,hd0] at this
      cases this
     ·rw [j8 n,j8 (j1 (e c o hc n) hd0)]
      exact e c o hc n
    ·rintro σ He ⟨x,lds,rfl,he,hl,hd,nn,e⟩
     have hpe:=e _ _ pd (j1 pd hle)
     left
     refine ⟨p,C,dx,_,rfl,hpe,T.cl,T.nL,Nat.lt_of_le_of_lt (Nat.le_trans (jT _ _ _) (Nat.succ_le_succ (Nat.le_trans (jT _ _ _) (Nat.succ_le_succ (Nat.le_trans (jT _ _ _) (Nat.succ_le_succ (jT _ _ _))))))) (by decide),?_⟩
     have f_of:∀ c o,Hd c=some o->c≠p->upd He p (HO.ins C dx (js "leaps" (V.ref le) (js "years" (V.ref ye) (js "slopes" (V.ref acc) (js "cycle" (V.ref cy) (js "valley" (V.ref va) [])))))) c=some o:=fun c o h n=>by rw [j8 n];exact e _ _ h (j1 h hle)
     have kf:Kp p Pt H (upd He p (HO.ins C dx (js "leaps" (V.ref le) (js "years" (V.ref ye) (js "slopes" (V.ref acc) (js "cycle" (V.ref cy) (js "valley" (V.ref va) []))))))):=fun c o h n m=>f_of c o (kd c o h n m) n
     have hnp:∀ x∈lds,x.1≠p:=fun x hx=>(j1 pd (hd x hx).2.2.1).symm
     refine k _ { dx:=dx,va:=va,cy:=cy,sl:=acc,ye:=ye,le:=le,xs:=xs,ys:=ys,zs:=zs,lds:=lds,kvs:=[],rs:=rs,rows:=ts,slopes:=ws.map (jc rs) } eg egr ⟨⟨j7,f_of _ _ vad vap,hrw.keep (jp.kp kf hp hPt),f_of _ _ cyd cyp,hr3.imp fun a t e=>kf.at e hp hPt (by walk_at "z") (by walk_at "z"),f_of _ _ sld acp,Paired.mapP slsd fun v wy ⟨a,e,ha⟩=>⟨a,e,f_of _ _ ha (jr ha pd (by walk_at "z"))⟩,f_of _ _ yed yep,(by rw [j8 lep];exact he),fun x hx=>by rw [j8 (hnp x hx)];exact (hd x hx).1⟩,kf,va0,cy0,acc0,ye0,le0,zs0,rfl,fun x hx=>⟨kd.free (hd x hx).2.2.1 pd hPtd,(hd x hx).2.1⟩,hl.trans (Paired.length slsd),nn,fun x hx=>(j1 yed (hd x hx).2.2.1).symm,ws,hR,rfl⟩ rfl rfl rfl rfl (vQ (Td.extN hle e) hpe)
def yB (CY:Addr):Sp:=fun vs H Q E=>∃ y:Int,vs=[.int y]/\(0<=y->y<=99->Q .non H)/\(y<0\/99<y->E (.ref CY) none H)
theorem kO:FnScope ["year"] ["year"] (j6 y4):=by walk_at "s"
theorem kU {f CY:Addr}{fd:FuncData}{u0:Tok}(g_LAST_TOLD:mg "LAST_TOLD" = some (.int 99 u0)) (e_BadYear:mg "BadYear" = some (.ref CY)) (x_BadYear:PySem.W.excIn K CY [.type "ValueError",.type "Exception",.type "BaseException",.type "object"] "ValueError.__new__" = true) (F:Fun K "check_told" "check_told" y4 f fd):FnOk P w K mg base (CX1 P w) 1 f fd ["year"] (yB CY):=by
 refine Fun.okX F kO (fun vs H Q E h=>?_) (fun cdv A outer s H vs Q E hr h=>?_)
 ·obtain ⟨y,rfl,_⟩:=h
  rfl
 ·obtain ⟨y,rfl,k,kx⟩:=h
  refine ⟨_,(j9 (jM (qJ (qy jP jP j4 (pv 0) (qv (v:=V.int 99) rfl g_LAST_TOLD ⟨_,rfl⟩))) (j9 (qQ PySem.F.excBase_ValueError x_BadYear e_BadYear rfl xu rfl (j0 jo j2))) jw)),?_⟩
  left
  refine jV (fun h0=>?_) (fun h0=>?_)
  ·left
   refine x8 (fun h1=>?_) (fun h1=>?_)
   ·left
    exact ⟨by show 1<=sizeLine;decide,kx (.inr (by omega))⟩
   ·left
    exact k h0 h1
  ·left
   refine uS ?_
   left
   exact ⟨by show 1<=sizeLine;decide,kx (.inl (by omega))⟩
theorem IceAt.years {C p:Addr}{H H':Hp}{g:IceG}{kvs:List (Key×V)}(I:IceAt C H p g) (hn:∀ x∈g.lds,x.1≠g.ye) (e:Ext g.ye H H') (h:H' g.ye=some (.dK kvs)):IceAt C H' p { g with kvs:=kvs }:=by
 have f:∀ {c:Addr} {o:HO},H c=some o->o≠.dK g.kvs->H' c=some o:=fun h n=>e _ _ h (jr h I.ye n)
 exact ⟨f I.ob (by walk_at "z"),f I.va (by walk_at "z"),I.rs.keep fun _ _ q=>f q (by walk_at "z"),f I.cy (by walk_at "z"),I.rows.imp fun _ _ q=>f q (by walk_at "z"),f I.sl (by walk_at "z"),Paired.mapP I.slopes fun v w ⟨a,ea,q⟩=>⟨a,ea,f q (by walk_at "z")⟩,h,f I.le (by walk_at "z"),fun x hx=>e _ _ (I.lds x hx) (hn x hx)⟩
def Yc (C CY CW:Addr):Sp:=fun vs H Q E=>∃ (p t:Addr) (g:IceG) (y:Int) (r:T3),vs=[.ref p,.int y,.ref t]/\IceAt C H p g/\(∀ x∈g.lds,x.1≠g.ye)/\H t=some (yM r)/\g.kvs.length<=1000 /\
 (∀ H',0<=y->y<=99->good r=true->Ext g.ye H H'->IceAt C H' p { g with kvs:=qG g.kvs (.inl y) (.ref t) }->Q .non H')/\(y<0\/99<y->E (.ref CY) none H)/\(0<=y->y<=99->good r=false->E (.ref CW) none H)
theorem Jg:FnScope ["self","year","row"] ["self","year","row"] (j6 yx):=by walk_at "s"
theorem Js {f C CY CW:Addr}{fd:FuncData}(nb:Nb2 mg) (T:IceC K C) (e_BadWeather:mg "BadWeather" = some (.ref CW)) (x_BadWeather:PySem.W.excIn K CW [.type "ValueError",.type "Exception",.type "BaseException",.type "object"] "ValueError.__new__" = true) (c_check_told:CalX P w K mg base 1 "check_told" ["year"] (yB CY)) (c_is_weather:Cal P w K mg base 1 "is_weather" ["row"] Xy) (F:Fun K "tell" "Ice.tell" yx f fd):FnOk P w K mg base (CX1 P w) 2 f fd ["self","year","row"] (Yc C CY CW):=by
 refine Fun.okX F Jg (fun vs H Q E h=>?_) (fun cdv A outer s H vs Q E hr h=>?_)
 ·obtain ⟨p,t,g,y,r,rfl,_⟩:=h
  rfl
 ·obtain ⟨p,t,g,y,r,rfl,I,hn,ht,hk,k,ky,kw⟩:=h
  refine ⟨_,(j5 (qd (xa c_check_told (hr.mono (by decide)) qA rfl (j0 (pv 1) j2)))
   (j5 (jM (qJ (ve (jd c_is_weather (hr.mono (by decide)) rfl (j0 (pv 2) j2)))) (j9 (qQ PySem.F.excBase_ValueError x_BadWeather e_BadWeather rfl xu rfl (j0 jo j2))) jw)
   (j9 (yD (jY hr) (xb K (pv 0)) (pv 1) (pv 2) rfl)))),?_⟩
  left
  refine ⟨fun h0 h1=>?_,fun hb=>ky hb⟩
  left
  refine ⟨t,r,rfl,ht,?_⟩
  cases eg:good r with
  | false =>
   left
   exact ⟨by show 1<=sizeLine;decide,kw h0 h1 eg⟩
  | true =>
   left
   refine ⟨p,C,g.dx,_,_,rfl,I.ob,T.cl,T.nY,wQ _ _ _ _ _,?_⟩
   left
   refine ⟨g.ye,_,rfl,kQ.k (k:=.inl y) I.ye (jm hk),?_⟩
   exact k _ h0 h1 eg Ext.put (I.years hn Ext.put j7)
def yy (l:List (Addr×List (Key×V))) (n:Nat) (kvs:List (Key×V)):List (Addr×List (Key×V)):=l.set n ((l.getD n (0,[])).1,kvs)
theorem Zj (l:List (Addr×List (Key×V))) (n:Nat) (kvs:List (Key×V)):(yy l n kvs).map (fun x=>V.ref x.1)=l.map fun x=>V.ref x.1:=by
 unfold yy
 rw [List.map_set]
 by_cases h:n<l.length
 ·rw [List.getD_eq_getElem?_getD,List.getElem?_eq_getElem h]
  refine List.ext_getElem? fun i=>?_
  rw [List.getElem?_set]
  by_cases e:n=i
  ·subst e
   rw [if_pos rfl,List.length_map,if_pos h,List.getElem?_map,List.getElem?_eq_getElem h]
   rfl
  ·rw [if_neg e]
 ·rw [List.set_eq_of_length_le (by rw [List.length_map];omega)]
theorem IceAt.leap {C p:Addr}{H H':Hp}{g:IceG}{n:Nat}{a:Addr}{kvs kvs':List (Key×V)}(I:IceAt C H p g) (ha:g.lds[n]? = some (a,kvs)) (hn:∀ x∈g.lds,x.1≠g.ye) (nd:(g.lds.map (·.1)).Nodup) (e:Ext a H H') (h:H' a=some (.dK kvs')):IceAt C H' p { g with lds:=yy g.lds n kvs' }:=by
 have hm:=List.mem_of_getElem? ha
 have h0:=I.lds _ hm
 have f:∀ {c:Addr} {o:HO},H c=some o->(∀ z,o≠.dK z)->H' c=some o:=fun h n=>e _ _ h (jr h h0 (n _))
 have hl:n<g.lds.length:=(List.getElem?_eq_some_iff.mp ha).1
 refine ⟨f I.ob (by walk_at "w"),f I.va (by walk_at "w"),I.rs.keep fun _ _ q=>f q (by walk_at "w"),f I.cy (by walk_at "w"),I.rows.imp fun _ _ q=>f q (by walk_at "w"),f I.sl (by walk_at "w"),Paired.mapP I.slopes fun v w ⟨a,ea,q⟩=>⟨a,ea,f q (by walk_at "w")⟩,e _ _ I.ye (fun z=>hn _ hm z.symm),(by show H' g.le=_;rw [Zj];exact f I.le (by walk_at "w")),fun x hx=>?_⟩
 have hx':x∈yy g.lds n kvs':=hx
 obtain ⟨i,hi,ex⟩:=List.mem_iff_getElem.mp hx'
 have hi2:i<g.lds.length:=by unfold yy at hi;rw [List.length_set] at hi;exact hi
 have ex2:(yy g.lds n kvs')[i]? = some x:=by rw [List.getElem?_eq_getElem hi,ex]
 unfold yy at ex2
 rw [List.getElem?_set] at ex2
 by_cases en:n=i
 ·rw [if_pos en,if_pos (by omega)] at ex2
  rw [<- Option.some.inj ex2,List.getD_eq_getElem?_getD,ha]
  exact h
 ·rw [if_neg en] at ex2
  refine e _ _ (I.lds x (List.mem_of_getElem? ex2)) fun z=>en ?_
  have h1:(g.lds.map (·.1))[n]? = some a:=by rw [List.getElem?_map,ha];rfl
  have h2:(g.lds.map (·.1))[i]? = some a:=by rw [List.getElem?_map,ex2,<- z];rfl
  have l1:=(List.getElem?_eq_some_iff.mp h1).1
  have l2:=(List.getElem?_eq_some_iff.mp h2).1
  exact (List.getElem?_inj l1 nd).mp (h1.trans h2.symm)
def XG (C CN CY CS:Addr):Sp:=fun vs H Q E=>∃ (p:Addr) (g:IceG) (l y m:Int),vs=[.ref p,.int l,.int y,.int m]/\IceAt C H p g/\g.lds.length=g.slopes.length/\(∀ x∈g.lds,x.1≠g.ye)/\(g.lds.map (·.1)).Nodup/\(∀ x∈g.lds,x.2.length<=1000) /\
 (∀ H' a kvs,0<=l->l<(g.slopes.length:Int)->0<=y->y<=99->1<=m->m<=9->g.lds[l.toNat]? = some (a,kvs)->Ext a H H'->IceAt C H' p { g with lds:=yy g.lds l.toNat (qG kvs (.inl y) (.int m)) }->Q .non H') /\
 (l<0\/(g.slopes.length:Int)<=l->E (.ref CN) none H)/\(0<=l->l<(g.slopes.length:Int)->y<0\/99<y->E (.ref CY) none H)/\(0<=l->l<(g.slopes.length:Int)->0<=y->y<=99->m<1\/9<m->E (.ref CS) none H)
theorem kJ:FnScope ["self","lane","year","many"] ["self","lane","year","many"] (j6 zU):=by walk_at "s"
theorem kT {f C CN CY CS:Addr}{fd:FuncData}{u0:Tok}(nb:Nb2 mg) (T:IceC K C) (cl_Ice:Cls K C) (g_GREATEST_SURGE:mg "GREATEST_SURGE" = some (.int 9 u0)) (e_BadSurge:mg "BadSurge" = some (.ref CS)) (x_BadSurge:PySem.W.excIn K CS [.type "ValueError",.type "Exception",.type "BaseException",.type "object"] "ValueError.__new__" = true) (c_Ice__check_lane:CalMX P w K mg base 1 C "check_lane" ["self","lane"] (xR C CN)) (c_check_told:CalX P w K mg base 1 "check_told" ["year"] (yB CY)) (F:Fun K "surge" "Ice.surge" zU f fd):FnOk P w K mg base (CX1 P w) 2 f fd ["self","lane","year","many"] (XG C CN CY CS):=by
 refine Fun.okX F kJ (fun vs H Q E h=>?_) (fun cdv A outer s H vs Q E hr h=>?_)
 ·obtain ⟨p,g,l,y,m,rfl,_⟩:=h
  rfl
 ·obtain ⟨p,g,l,y,m,rfl,I,hll,hn,nd,hk,k,kn,ky,ks⟩:=h
  refine ⟨_,(j5 (qd (zO (pv 0) cl_Ice c_Ice__check_lane (hr.mono (by decide)) qA (j0 (pv 1) j2)))
   (j5 (qd (xa c_check_told (hr.mono (by decide)) qA rfl (j0 (pv 2) j2)))
   (j5 (jM (qJ (qy jP jP j4 (pv 3) (qv (v:=V.int 9) rfl g_GREATEST_SURGE ⟨_,rfl⟩))) (j9 (qQ PySem.F.excBase_ValueError x_BadSurge e_BadSurge rfl xu rfl (j0 jo j2))) jw)
   (j9 (yD (jY hr) (jn (jb K) (xb K (pv 0)) (pv 1) (fun _ _=>rfl)) (pv 2) (pv 3) rfl))))),?_⟩
  left
  refine ⟨p,g.dx,_,rfl,I.ob,xH _ _ _ _ _ (by walk_at "k") (by walk_at "k") (by walk_at "k") (by walk_at "k") (by walk_at "k"),?_⟩
  left
  refine ⟨p,g,l,rfl,I,fun l0 l1=>?_,fun hb=>kn hb⟩
  left
  refine ⟨fun h0 h1=>?_,fun hb=>ky l0 l1 hb⟩
  have hi:l.toNat<g.lds.length:=by omega
  left
  refine jV (fun m0=>?_) (fun m0=>?_)
  ·left
   refine x8 (fun m1=>?_) (fun m1=>?_)
   ·left
    exact ⟨by show 1<=sizeLine;decide,ks l0 l1 h0 h1 (.inr (by omega))⟩
   ·left
    refine ⟨p,C,g.dx,_,_,rfl,I.ob,T.cl,T.nL,vk _ _ _ _ _,?_⟩
    left
    refine ⟨_,_,_,_,rfl,rfl,SqL.of I.le,qo l0 (v:=V.ref (g.lds[l.toNat]'hi).1) (by rw [List.getElem?_map,List.getElem?_eq_getElem hi];rfl),?_⟩
    left
    have h0':=I.lds _ (List.getElem_mem hi)
    refine ⟨_,_,rfl,kQ.k (k:=.inl y) h0' (jm (hk _ (List.getElem_mem hi))),?_⟩
    exact k _ _ _ l0 l1 h0 h1 m0 m1 (List.getElem?_eq_getElem hi) Ext.put (I.leap (List.getElem?_eq_getElem hi) hn nd Ext.put j7)
  ·left
   refine uS ?_
   left
   exact ⟨by show 1<=sizeLine;decide,ks l0 l1 h0 h1 (.inl (by omega))⟩
def kvI (q:Int×Int):Key×V:=(.inl q.1,.int q.2)
def qN:List (Int×Int)->Int->Int
 | [],_=>0
 | q::r,y=>if q.1=y then q.2 else qN r y
theorem yK:∀ (ns:List (Int×Int)) (y:Int),y∈ns.map (·.1)->qL (ns.map kvI) (.inl y)=some (.int (qN ns y))
 | [],y,h=>by cases h
 | q::r,y,h=>by
  rw [List.map_cons]
  unfold qL qN
  by_cases e:q.1=y
  ·subst e
   simp [kvI,List.find?]
  ·have h':y∈r.map (·.1):=by
    rcases List.mem_cons.mp h with z | z
    ·exact absurd z.symm e
    ·exact z
   have ih:=yK r y h'
   unfold qL at ih
   simp [kvI,List.find?,e] at ih ⊢
   exact ih
theorem Q9:∀ (ns:List (Int×Int)),(ns.map (·.1)).Nodup->(ns.map (·.1)).map (fun y=>(y,qN ns y))=ns
 | [],_=>rfl
 | q::r,nd=>by
  rw [List.map_cons] at nd ⊢
  obtain ⟨h1,h2⟩:=List.nodup_cons.mp nd
  rw [List.map_cons]
  have e:qN (q::r) q.1=q.2:=by unfold qN;rw [if_pos rfl]
  rw [e]
  refine congrArg (q :: ·) ?_
  conv=>rhs;rw [<- Q9 r h2]
  refine List.map_congr_left fun y hy=>?_
  have hne:¬ q.1=y:=fun z=>h1 (z ▸ hy)
  show (y,qN (q::r) y)=_
  conv=>lhs;unfold qN
  rw [if_neg hne]
def yF (C CN:Addr):Sp:=fun vs H Q E=>∃ (p:Addr) (g:IceG) (l:Int),vs=[.ref p,.int l]/\IceAt C H p g/\g.lds.length=g.slopes.length/\(l<0\/(g.slopes.length:Int)<=l->E (.ref CN) none H) /\
 (0<=l->l<(g.slopes.length:Int)->∃ (a:Addr) (ns:List (Int×Int)),g.lds[l.toNat]? = some (a,ns.map kvI)/\(ns.map (·.1)).Nodup/\ns.length<64 /\
  ∀ o H' out (ms:List (Int×Int)),H o=none->H' o=some (.lst out)->Paired (fun v (m:Int×Int)=>∃ b,v=V.ref b/\H' b=some (.tup [.int m.1,.int m.2])) out ms->ji H H'->ms.Perm ns->(ms.map (·.1)).Pairwise (· <= ·)->Q (.ref o) H')
theorem wX:FnScope ["self","lane"] ["self","lane"] (j6 xG):=by walk_at "s"
theorem kh {f C CN:Addr}{fd:FuncData}(nb:Nb2 mg) (T:IceC K C) (cl_Ice:Cls K C) (c_Ice__check_lane:CalMX P w K mg base 1 C "check_lane" ["self","lane"] (xR C CN)) (F:Fun K "surges" "Ice.surges" xG f fd):FnOk P w K mg base (CX1 P w) 2 f fd ["self","lane"] (yF C CN):=by
 refine Fun.okX F wX (fun vs H Q E h=>?_) (fun cdv A outer s H vs Q E hr h=>?_)
 ·obtain ⟨p,g,l,rfl,_⟩:=h
  rfl
 ·obtain ⟨p,g,l,rfl,I,hll,kx,k⟩:=h
  refine ⟨_,(j5 (qd (zO (pv 0) cl_Ice c_Ice__check_lane (hr.mono (by decide)) qA (j0 (pv 1) j2)))
   (j9 (jj (jZ (osc:=(j6 xG)) (ON:=["self","lane"]) (N:=["year","lane","self"]) (own:=1) (caps:=[1,0]) ⟨rfl,by walk_at "k",by walk_at "k",by walk_at "k",rfl,by walk_at "k"⟩ rfl rfl rfl (qc K (jf (Jq K rfl) rfl nb.b_sorted boot_sorted (j0 (jn (jb K) (xb K (pv 0)) (pv 1) (fun _ _=>rfl)) j2))) (fun _ _ _ _ _=>(ja (i:=0) (show List.Nodup (["year","lane","self"]:List Str) by decide +kernel) rfl (Or.inl rfl))) (fun _ _ _ _ _=>jQ) (fun _ _ _ _ _=>(jI (j0 (pv 0) (j0 (jH (jY hr) (jn (jb K) (xb K (pv 2)) (pv 1) (fun _ _=>rfl)) (pv 0) (fun _ _=>rfl)) j2)))))))),?_⟩
  left
  refine ⟨p,g.dx,_,rfl,I.ob,xH _ _ _ _ _ (by walk_at "k") (by walk_at "k") (by walk_at "k") (by walk_at "k") (by walk_at "k"),?_⟩
  left
  refine ⟨p,g,l,rfl,I,fun l0 l1=>?_,fun hb=>kx hb⟩
  obtain ⟨a,ns,ha,nd,h64,k⟩:=k l0 l1
  have hi:=(List.getElem?_eq_some_iff.mp ha).1
  have hm:=I.lds _ (List.mem_of_getElem? ha)
  have hat:atI (g.lds.map fun x=>V.ref x.1) l=some (.ref a):=qo l0 (by rw [List.getElem?_map,ha];rfl)
  left
  refine ⟨p,C,g.dx,_,_,rfl,I.ob,T.cl,T.nL,vk _ _ _ _ _,?_⟩
  left
  refine ⟨_,_,_,_,rfl,rfl,SqL.of I.le,hat,?_⟩
  refine ⟨a,ns.map kvI,ns.map (·.1),rfl,hm,by rw [List.map_map,List.map_map];rfl,by rw [List.length_map];exact h64,fun o H1 ks ho ho1 s1 hp hs=>?_⟩
  have hkl:ks.length<64:=by rw [hp.length_eq,List.length_map];exact h64
  refine ⟨o,rfl,⟨_,SqL.of ho1⟩,fun acc hacc=>?_⟩
  refine qf (K:=K) (a:=o) (xs:=ks.map V.int) (acc:=acc) (fun i σ H2=>∃ (x:Option V) (out:List V),σ=[x,some (.int l),some (.ref p)]/\H2 acc=some (.lst out)/\out.length=i/\Paired (fun v (m:Int×Int)=>∃ b,v=V.ref b/\H2 b=some (.tup [.int m.1,.int m.2])) out ((ks.take i).map fun y=>(y,qN ns y))/\Ext acc H1 H2) ?_ ?_ ?_ ?_
  ·exact ⟨none,[],rfl,j7,rfl,.nil,Ext.put⟩
  ·rintro i σ H2 hi ⟨x,out,rfl,h2,hz,r2,e2⟩
   exact SqL.of (e2 _ _ ho1 (j1 ho1 hacc))
  ·rintro i v σ H2 hv ⟨x,out,rfl,h2,hz,r2,e2⟩
   obtain ⟨y,rfl,hy⟩:=ux hv
   have hiy:=(List.getElem?_eq_some_iff.mp hy).1
   have hyn:y∈ns.map (·.1):=hp.mem_iff.mp (List.mem_of_getElem? hy)
   have t2:ji H H2:=fun c o hc=>e2 _ _ (s1 _ _ hc) (j1 (s1 _ _ hc) hacc)
   have I2:=I.same t2
   left
   refine ⟨p,C,g.dx,_,_,rfl,I2.ob,T.cl,T.nL,vk _ _ _ _ _,?_⟩
   left
   refine ⟨_,_,_,_,rfl,rfl,SqL.of I2.le,hat,?_⟩
   left
   refine ⟨a,.int (qN ns y),rfl,by rw [<- yK ns y hyn];exact qT.k (k:=.inl y) (t2 _ _ hm),?_⟩
   left
   refine ⟨by show 2<=sizeLine;decide,fun b H3 hb hb3 s3=>?_⟩
   have h3:=s3 _ _ h2
   have bacc:b≠acc:=(j1 h2 hb).symm
   refine ⟨out,h3,jm (by omega),some (.int y),out++[.ref b],rfl,j7,by rw [List.length_append,hz];rfl,?_,fun c o hc n=>by rw [j8 n];exact s3 _ _ (e2 c o hc n)⟩
   rw [qx (fun y=>(y,qN ns y)) ks i y hy]
   exact Paired.snoc (Paired.mapP r2 fun v m ⟨c,e,q⟩=>⟨c,e,by rw [j8 (jr (s3 _ _ q) h3 (by walk_at "z"))];exact s3 _ _ q⟩) ⟨b,rfl,by rw [j8 bacc];exact hb3⟩
  ·rintro σ H2 ⟨x,out,rfl,h2,hz,r2,e2⟩
   rw [List.length_map,List.take_length] at r2
   have t2:ji H H2:=fun c o hc=>e2 _ _ (s1 _ _ hc) (j1 (s1 _ _ hc) hacc)
   refine k acc H2 out _ (s1.free hacc) h2 r2 t2 ?_ ?_
   ·have:=hp.map fun y=>(y,qN ns y)
    rw [Q9 ns nd] at this
    exact this
   ·rw [List.map_map]
    have:((fun x:Int×Int=>x.1) ∘ fun y=>(y,qN ns y))=id:=rfl
    rw [this,List.map_id]
    exact hs
def jv (st ad:Int):List (Int×Int)->Int->Int
 | [],goal=>if goal-ad > st then goal-ad else st
 | q::r,goal=>if goal-ad<q.1 then (if goal-ad > st then goal-ad else st) else jv q.1 (ad+q.2) r goal
def kH (H:Hp) (out:List V) (ms:List (Int×Int)):Prop:=Paired (fun v (m:Int×Int)=>∃ b,v=V.ref b/\H b=some (.tup [.int m.1,.int m.2])) out ms
theorem kH.same {H H':Hp}{out:List V}{ms:List (Int×Int)}(h:kH H out ms) (s:ji H H'):kH H' out ms:=Paired.mapP h fun _ _ ⟨b,e,q⟩=>⟨b,e,s _ _ q⟩
def wD:Sp:=fun vs H Q _=>∃ (p:Addr) (out:List V) (ms:List (Int×Int)) (goal:Int),vs=[.ref p,.int goal]/\H p=some (.lst out)/\kH H out ms/\∀ H',ji H H'->Q (.int (jv 0 0 ms goal)) H'
theorem qO:FnScope ["surges","goal","start","added","year","many"] ["surges","goal"] (j6 yX):=by walk_at "s"
theorem Q3 {f:Addr}{fd:FuncData}(nb:Nb2 mg) (F:Fun K "earliest" "earliest" yX f fd):FnOk P w K mg base CX0 1 f fd ["surges","goal"] wD:=by
 refine F.ok qO (fun vs H Q E h=>?_) (fun cdv A outer s H vs Q E hr h=>?_)
 ·obtain ⟨p,out,ms,goal,rfl,_⟩:=h
  rfl
 ·obtain ⟨p,out,ms,goal,rfl,hp,hr2,k⟩:=h
  have hlen:out.length=ms.length:=Paired.length hr2
  refine ⟨_,(j5 (je (i:=2) qO.nd rfl (Or.inl rfl) j4)
   (j5 (je (i:=3) qO.nd rfl (Or.inl rfl) j4)
   (j5 (qK PassesOwn.never rfl (qc K (pv 0)) (qq (n:=2) K rfl (jk (ja (i:=4) qO.nd rfl (Or.inl rfl)) (jk (ja (i:=5) qO.nd rfl (Or.inl rfl)) qm))) (j5 (jM (jq xX (jh jE (pv 1) (pv 3)) (pv 4) (jx _)) (j9 Yd) jw)
   (j5 (je (i:=2) qO.nd rfl (Or.inl rfl) (pv 4))
   (j9 (QR (i:=3) qO.nd rfl (Or.inl rfl) (pv 5) QT)))))
   (j9 (jj (jf (zI rfl) rfl nb.b_max boot_max (j0 (pv 2) (j0 (jh jE (pv 1) (pv 3)) j2)))))))),?_⟩
  left
  refine ⟨⟨_,SqL.of hp⟩,?_⟩
  refine vH (K:=K) (a:=p) (xs:=out) (fun i σ H2=>∃ (st ad:Int) (v4 v5:Option V),σ=[some (.ref p),some (.int goal),some (.int st),some (.int ad),v4,v5]/\ji H H2/\jv st ad (ms.drop i) goal=jv 0 0 ms goal) ?_ ?_ ?_ ?_
  ·exact ⟨0,0,_,_,rfl,ji.refl _,by rw [List.drop_zero]⟩
  ·rintro i σ H2 hi ⟨st,ad,v4,v5,rfl,s2,e2⟩
   exact SqL.of (s2 _ _ hp)
  ·rintro i v σ H2 hv ⟨st,ad,v4,v5,rfl,s2,e2⟩
   obtain ⟨m,hm,b,rfl,hb⟩:=Paired.get hr2 hv
   have hi:=(List.getElem?_eq_some_iff.mp hm).1
   have ed:ms.drop i=m::ms.drop (i+1):=by
    rw [List.drop_eq_getElem_cons hi]
    have:=(List.getElem?_eq_some_iff.mp hm).2
    rw [this]
   rw [ed] at e2
   left
   refine ⟨b,_,rfl,SqT.of (s2 _ _ hb),rfl,?_⟩
   refine ⟨_,_,rfl,_,_,rfl,rfl,?_⟩
   left
   refine jV (fun h1=>?_) (fun h1=>?_)
   ·left
    refine ⟨_,_,rfl,?_⟩
    rw [show jv st ad (m::ms.drop (i+1)) goal=if goal-ad > st then goal-ad else st from by conv=>lhs;unfold jv;rw [if_pos h1]] at e2
    have k2:=k H2 s2
    rw [<- e2] at k2
    exact k2
   ·left
    refine ⟨_,_,_,_,rfl,s2,?_⟩
    rw [<- e2]
    conv=>rhs;unfold jv;rw [if_neg h1]
  ·rintro σ H2 ⟨st,ad,v4,v5,rfl,s2,e2⟩
   rw [hlen,List.drop_length] at e2
   left
   refine ⟨_,_,rfl,?_⟩
   have k2:=k H2 s2
   rw [<- e2] at k2
   exact k2
def Yr (C CN:Addr):Sp:=fun vs H Q E=>∃ (p:Addr) (g:IceG) (l mark:Int),vs=[.ref p,.int l,.int mark]/\IceAt C H p g/\g.lds.length=g.slopes.length/\(∀ H',ji H H'->l<0\/(g.slopes.length:Int)<=l->E (.ref CN) none H') /\
 (0<=l->l<(g.slopes.length:Int)->∃ (a:Addr) (ns:List (Int×Int)),g.lds[l.toNat]? = some (a,ns.map kvI)/\(ns.map (·.1)).Nodup/\ns.length<64 /\
  ∀ ms:List (Int×Int),ms.Perm ns->(ms.map (·.1)).Pairwise (· <= ·)->∀ fst gon:Int,fst=jv 0 0 ms mark->gon=jv 0 0 ms (mark+((g.slopes.getD l.toNat []).length:Int)) ->
   (fst<gon->∀ t H',ji H H'->H' t=some (.tup [.int fst,.int (gon-1)])->Q (.ref t) H')/\(¬ fst<gon->∀ H',ji H H'->Q .non H'))
theorem wd:FnScope ["ice","lane","mark","surges","first","gone"] ["ice","lane","mark"] (j6 QE):=by walk_at "s"
theorem VY {f C CN:Addr}{fd:FuncData}(cl_Ice:Cls K C) (c_Ice__surges:CalMX P w K mg base 2 C "surges" ["self","lane"] (yF C CN)) (c_Ice__length:CalMX P w K mg base 2 C "length" ["self","lane"] (gA C CN)) (c_earliest:Cal P w K mg base 1 "earliest" ["surges","goal"] wD) (F:Fun K "span" "span" QE f fd):FnOk P w K mg base (CX1 P w) 3 f fd ["ice","lane","mark"] (Yr C CN):=by
 refine Fun.okX F wd (fun vs H Q E h=>?_) (fun cdv A outer s H vs Q E hr h=>?_)
 ·obtain ⟨p,g,l,mark,rfl,_⟩:=h
  rfl
 ·obtain ⟨p,g,l,mark,rfl,I,hll,kx,k⟩:=h
  have nof:∀ {m:Str},¬ m = "leaps" -> ¬ m = "years" -> ¬ m = "slopes" -> ¬ m = "cycle" -> ¬ m = "valley" -> (vX g.va g.cy g.sl g.ye g.le).lookup m=none:=fun a b c d e=>xH _ _ _ _ _ a b c d e
  refine ⟨_,(j5 (je (i:=3) wd.nd rfl (Or.inl rfl) (zO (pv 0) cl_Ice c_Ice__surges (hr.mono (by decide)) qA (j0 (pv 1) j2)))
   (j5 (je (i:=4) wd.nd rfl (Or.inl rfl) (jd c_earliest (hr.mono (by decide)) rfl (j0 (pv 3) (j0 (pv 2) j2))))
   (j5 (je (i:=5) wd.nd rfl (Or.inl rfl) (jd c_earliest (hr.mono (by decide)) rfl (j0 (pv 3) (j0 (jh jN (pv 2) (zO (pv 0) cl_Ice c_Ice__length (hr.mono (by decide)) qA (j0 (pv 1) j2))) j2))))
   (j9 (jj (YX (jq xX (pv 4) (pv 5) (jx _)) (jI (j0 (pv 4) (j0 (jh jE (pv 5) j4) j2))) zW)))))),?_⟩
  left
  refine ⟨p,g.dx,_,rfl,I.ob,nof (by walk_at "k") (by walk_at "k") (by walk_at "k") (by walk_at "k") (by walk_at "k"),?_⟩
  left
  refine ⟨p,g,l,rfl,I,hll,fun hb=>kx H (ji.refl H) hb,fun l0 l1=>?_⟩
  obtain ⟨a,ns,ha,nd,h64,k⟩:=k l0 l1
  refine ⟨a,ns,ha,nd,h64,fun o H1 out ms ho ho1 hq s1 hp hs=>?_⟩
  have k:=k ms hp hs _ _ rfl rfl
  left
  refine ⟨o,out,ms,mark,rfl,ho1,hq,fun H2 s2=>?_⟩
  left
  have t2:=s1.trans s2
  refine ⟨p,g.dx,_,rfl,t2 _ _ I.ob,nof (by walk_at "k") (by walk_at "k") (by walk_at "k") (by walk_at "k") (by walk_at "k"),?_⟩
  left
  refine ⟨p,g,l,rfl,I.same t2,fun _ _=>?_,fun hb=>absurd hb (by omega)⟩
  left
  refine ⟨o,out,ms,_,rfl,s2 _ _ ho1,kH.same hq s2,fun H3 s3=>?_⟩
  have t3:=t2.trans s3
  left
  refine jV (fun h1=>?_) (fun h1=>?_)
  ·left
   refine ⟨by show 2<=sizeLine;decide,fun t H4 ht ht4 s4=>?_⟩
   exact k.1 h1 t H4 (t3.trans s4) ht4
  ·left
   exact k.2 h1 H3 t3
end
section
variable {P:Program}{w:World}{K:PySem.W.Frag}{mg:Str->Option Value}{base:Heap}
def QO:Sp:=fun vs H Q _=>∃ (L b:Addr),vs=[.ref b]/\jS L H b/\∀ (y:Int) (H':Hp),0<=y->y<=99->jS L H' b->Ext b H H'->Q (.int y) H'
theorem JL:FnScope ["_law_box_here"] ["_law_box_here"] (j6 yW):=by walk_at "s"
theorem VP {v a b c:Int}(h0:0<=v) (h1:v<5) (ha:0<=a/\a<=99) (hb:0<=b/\b<=99) (hc:0<=c/\c<=99):∃ n,atI [V.int a,V.int b,V.int c,V.int 99,V.int 0] v=some (V.int n)/\0<=n/\n<=99:=by
 have h:v=0\/v=1\/v=2\/v=3\/v=4:=by omega
 rcases h with rfl | rfl | rfl | rfl | rfl
 ·exact ⟨a,rfl,ha.1,ha.2⟩
 ·exact ⟨b,rfl,hb.1,hb.2⟩
 ·exact ⟨c,rfl,hc.1,hc.2⟩
 ·exact ⟨99,rfl,by decide,by decide⟩
 ·exact ⟨0,rfl,by decide,by decide⟩
theorem VT {f:Addr}{fd:FuncData}(c_law_take:Cal P w K mg base 2 "_law_take" ["_law_box_here","_law_size"] xJ) (F:Fun K "_law_year" "_law_year" yW f fd):FnOk P w K mg base CX0 3 f fd ["_law_box_here"] QO:=by
 refine F.ok JL (fun vs H Q E h=>?_) (fun cdv A outer s H vs Q E hr h=>?_)
 ·obtain ⟨L,b,rfl,_⟩:=h
  rfl
 ·obtain ⟨L,b,rfl,B,k⟩:=h
  refine ⟨_,(j9 (jj (jn (jb K) (jK (j0 (jd c_law_take (hr.mono (by decide)) rfl (j0 (pv 0) (j0 j4 j2))) (j0 (jd c_law_take (hr.mono (by decide)) rfl (j0 (pv 0) (j0 j4 j2))) (j0 (jd c_law_take (hr.mono (by decide)) rfl (j0 (pv 0) (j0 j4 j2))) (j0 j4 (j0 j4 j2)))))) (jd c_law_take (hr.mono (by decide)) rfl (j0 (pv 0) (j0 j4 j2))) (fun _ _=>rfl)))),?_⟩
  left
  refine ⟨L,b,_,rfl,B,⟨by decide,by decide⟩,fun v1 H1 p1 q1 B1 X1=>?_⟩
  left
  refine ⟨L,b,_,rfl,B1,⟨by decide,by decide⟩,fun v2 H2 p2 q2 B2 X2=>?_⟩
  left
  refine ⟨L,b,_,rfl,B2,⟨by decide,by decide⟩,fun v3 H3 p3 q3 B3 X3=>?_⟩
  left
  refine ⟨by show 5<=sizeLine;decide,fun l H4 hl hl4 s4=>?_⟩
  left
  refine ⟨L,b,_,rfl,B3.same s4,⟨by decide,by decide⟩,fun v5 H5 p5 q5 B5 X5=>?_⟩
  obtain ⟨n,en,n0,n1⟩:=VP p5 q5 (a:=v1) (b:=v2) (c:=v3) ⟨p1,by omega⟩ ⟨p2,by omega⟩ ⟨p3,by omega⟩
  refine ⟨_,_,_,_,rfl,rfl,SqL.of (X5 _ _ hl4 (B3.ne hl)),en,?_⟩
  exact k n H5 n0 n1 B5 ((((X1.trans X2).trans X3).trans (Ext.of_same s4)).trans X5)
def scK (p q sg gl ll:Addr):List (Key×V):=[(.inr "reaches",.ref p),(.inr "rows",.ref q),(.inr "single",.ref sg),(.inr "grounds",.ref gl),(.inr "leaps",.ref ll)]
theorem xp {k:Key}{v:V}{r:List (Key×V)}:qL ((k,v)::r) k=some v:=by
 unfold qL
 rw [List.find?_cons_of_pos (p:=fun kv:Key×V=>decide (kv.1=k)) (a:=(k,v)) (decide_eq_true rfl)]
 rfl
theorem jy {k k':Key}{v:V}{r:List (Key×V)}(h:k'≠k):qL ((k',v)::r) k=qL r k:=by
 unfold qL
 rw [List.find?_cons_of_neg (p:=fun kv:Key×V=>decide (kv.1=k)) (a:=(k',v)) (fun z=>h (of_decide_eq_true z))]
theorem QI (p q sg gl ll:Addr):qL (scK p q sg gl ll) (.inr "reaches")=some (.ref p):=xp
theorem Jk (p q sg gl ll:Addr):qL (scK p q sg gl ll) (.inr "rows")=some (.ref q):=(jy (show (Sum.inr (Str.ofString "reaches"):Key)≠Sum.inr (Str.ofString "rows") by decide +kernel)).trans (xp)
theorem zM (p q sg gl ll:Addr):qL (scK p q sg gl ll) (.inr "single")=some (.ref sg):=(jy (show (Sum.inr (Str.ofString "reaches"):Key)≠Sum.inr (Str.ofString "single") by decide +kernel)).trans ((jy (show (Sum.inr (Str.ofString "rows"):Key)≠Sum.inr (Str.ofString "single") by decide +kernel)).trans (xp))
theorem xD (p q sg gl ll:Addr):qL (scK p q sg gl ll) (.inr "grounds")=some (.ref gl):=(jy (show (Sum.inr (Str.ofString "reaches"):Key)≠Sum.inr (Str.ofString "grounds") by decide +kernel)).trans ((jy (show (Sum.inr (Str.ofString "rows"):Key)≠Sum.inr (Str.ofString "grounds") by decide +kernel)).trans ((jy (show (Sum.inr (Str.ofString "single"):Key)≠Sum.inr (Str.ofString "grounds") by decide +kernel)).trans (xp)))
theorem wg (p q sg gl ll:Addr):qL (scK p q sg gl ll) (.inr "leaps")=some (.ref ll):=(jy (show (Sum.inr (Str.ofString "reaches"):Key)≠Sum.inr (Str.ofString "leaps") by decide +kernel)).trans ((jy (show (Sum.inr (Str.ofString "rows"):Key)≠Sum.inr (Str.ofString "leaps") by decide +kernel)).trans ((jy (show (Sum.inr (Str.ofString "single"):Key)≠Sum.inr (Str.ofString "leaps") by decide +kernel)).trans ((jy (show (Sum.inr (Str.ofString "grounds"):Key)≠Sum.inr (Str.ofString "leaps") by decide +kernel)).trans (xp))))
def FrM (M:Addr->Prop) (H H':Hp):Prop:=∀ c o,H c=some o->H' c=some o\/(M c/\∃ ob kvs,o = .dK kvs/\H' c=some (.frz ob (.dK kvs)))
theorem FrM.of_same {M:Addr->Prop}{H H':Hp}(s:ji H H'):FrM M H H':=fun c o h=>.inl (s c o h)
theorem FrM.trans {M:Addr->Prop}{H H1 H2:Hp}(a:FrM M H H1) (b:FrM M H1 H2):FrM M H H2:=fun c o h=>by
 rcases a c o h with h1 | ⟨m,ob,kvs,e,h1⟩
 ·exact b c o h1
 ·rcases b c _ h1 with h2 | ⟨_,_,_,e2,_⟩
  ·exact .inr ⟨m,ob,kvs,e,h2⟩
  ·cases e2
theorem FrM.at {M:Addr->Prop}{H H':Hp}(f:FrM M H H') {c:Addr}{o:HO}(h:H c=some o) (n:∀ kvs,o≠.dK kvs):H' c=some o:=by
 rcases f c o h with h1 | ⟨_,ob,kvs,e,_⟩
 ·exact h1
 ·exact absurd e (n kvs)
def ju (ns:List (Int×Int)) (y:Int):Int:=((ns.filter fun q=>decide (q.1<=y)).map (·.2)).sum
theorem uc:∀ {ns:List (Int×Int)},(ns.map (·.1)).Nodup->∀ {z:Int×Int},z∈ns->qN ns z.1=z.2
 | [],_,z,h=>by cases h
 | q::r,nd,z,h=>by
  rw [List.map_cons] at nd
  obtain ⟨h1,h2⟩:=List.nodup_cons.mp nd
  unfold qN
  rcases List.mem_cons.mp h with e | e
  ·rw [e,if_pos rfl]
  ·have ne:¬ q.1=z.1:=fun w=>h1 (by rw [w];exact List.mem_map_of_mem e)
   rw [if_neg ne]
   exact uc h2 e
theorem Yg {ns:List (Int×Int)}{i:Nat}{q:Key×V}(h:(ns.map kvI)[i]? = some q):∃ z,ns[i]? = some z/\q=kvI z:=by
 rw [List.getElem?_map] at h
 cases e:ns[i]? with
 | none=>rw [e] at h;cases h
 | some z=>rw [e] at h;cases h;exact ⟨z,rfl,rfl⟩
theorem gC {a acc:Addr}{o:Obj}{ns:List (Int×Int)}{y:Int}{H:Hp}{R:Hp->Prop}(h:H a=some (.frz o (.dK (ns.map kvI)))) (nd:(ns.map (·.1)).Nodup) (hl:ns.length<=100) (hacc:H acc=none)
  (fin:∀ H',H' acc=some (.lst (((ns.filter fun q=>decide (q.1<=y)).map (·.2)).map V.int))->ji H H'->R H') :
  ∃ W:Nat->Nat->L2.St->Hp->Prop,(∃ m,W 0 m [none,some (.ref a),some (.int y)] (upd H acc (.lst [])))/\∀ i m σ' H',W i m σ' H' ->
   ((Itd a o (ns.map kvI)).stop i H'/\R H')\/((Itd a o (ns.map kvI)).go i H'/\∃ NX:L2.St->Hp->Prop,(∀ σ2 H2,NX σ2 H2->∃ m',m'<m/\W (i+1) m' σ2 H2) /\
    ∀ x H2,(Itd a o (ns.map kvI)).yld i H' x H2->wZ 0 x σ' H2 fun σ3 H3=>Qe (tOp (rI0 fun i j=>V.bl (decide (i<=j))) (vo 0) (vo 2)) σ3 H3 fun ok H4=>if ok=true then U7 (vo 1) (vo 0) σ3 H4 fun v H5=>∃ ys,H5 acc=some (.lst ys)/\ys.length<sizeLine/\NX σ3 (upd H5 acc (.lst (ys++[v]))) else NX σ3 H4):=by
 refine ZL (a:=a) (acc:=acc) (o:=o) (kvs:=ns.map kvI) (fun i σ H'=>∃ x:Option V,σ=[x,some (.ref a),some (.int y)]/\H' acc=some (.lst ((((ns.take i).filter fun q=>decide (q.1<=y)).map (·.2)).map V.int))/\Ext acc H H') ⟨none,rfl,j7,Ext.put⟩ ?_ ?_ ?_
 ·rintro i σ H' hi ⟨x,rfl,h3,e3⟩
  exact e3 _ _ h (j1 h hacc)
 ·rintro i q σ H' hq ⟨x,rfl,h3,e3⟩
  obtain ⟨z,hz,rfl⟩:=Yg hq
  have hm:=List.mem_of_getElem? hz
  have hi:i<ns.length:=(List.getElem?_eq_some_iff.mp hz).1
  have hl2:((((ns.take i).filter fun q=>decide (q.1<=y)).map (·.2)).map V.int).length<=100:=by
   rw [List.length_map,List.length_map]
   exact Nat.le_trans (List.length_filter_le _ _) (by rw [List.length_take];omega)
  have ha:=e3 _ _ h (j1 h hacc)
  show wZ 0 (V.int z.1) _ _ _
  left
  refine jV (fun le=>?_) (fun le=>?_)
  ·refine ⟨_,rfl,_,rfl,a,V.int z.2,rfl,?_,_,h3,Nat.lt_of_le_of_lt hl2 (by decide),_,rfl,?_,e3.trans Ext.put⟩
   ·have:=yK ns z.1 (List.mem_map_of_mem hm)
    rw [uc nd hm] at this
    rw [<- this]
    exact .inl ⟨_,.inl z.1,.inr ⟨o,ha⟩,rfl,rfl⟩
   ·rw [j7,List.take_add_one,hz,Option.toList_some,List.filter_append,List.filter_cons_of_pos (by rw [decide_eq_true le]),List.map_append,List.map_append]
    rfl
  ·refine ⟨_,rfl,?_,e3⟩
   rw [List.take_add_one,hz,Option.toList_some,List.filter_append,List.filter_cons_of_neg (by rw [decide_eq_false le];exact Bool.false_ne_true),List.filter_nil,List.append_nil]
   exact h3
 ·rintro σ H' ⟨x,rfl,h3,e3⟩
  rw [List.length_map,List.take_length] at h3
  exact fin H' h3 fun c u hc=>e3 c u hc (j1 hc hacc)
def V0:Sp:=fun vs H Q _=>∃ (M:Addr->Prop) (sd p q sg gl ll a:Addr) (lds:List Addr) (l y:Int) (ns:List (Int×Int)),vs=[.ref sd,.int l,.int y]/\H sd=some (.dK (scK p q sg gl ll))/\H ll=some (.lst (lds.map V.ref))/\0<=l/\lds[l.toNat]? = some a/\Rd H a (.dK (ns.map kvI))/\M a/\¬ M sd/\ns.length<=100/\(ns.map (·.1)).Nodup/\(∀ q∈ns,0<=q.2/\q.2<=9) /\
 ∀ H',FrM M H H'->Q (.int (y+ju ns y)) H'
theorem uI:FnScope ["_law_scene_here","_law_lane","_law_year_here","_law_leaps"] ["_law_scene_here","_law_lane","_law_year_here"] (j6 zZ):=by walk_at "s"
theorem Vr {f:Addr}{fd:FuncData}(nb:Nb2 mg) (F:Fun K "_law_ride" "_law_ride" zZ f fd):FnOk P w K mg base CX0 1 f fd ["_law_scene_here","_law_lane","_law_year_here"] V0:=by
 refine F.ok uI (fun vs H Q E h=>?_) (fun cdv A outer s H vs Q E hr h=>?_)
 ·obtain ⟨M,sd,p,q,sg,gl,ll,a,lds,l,y,ns,rfl,_⟩:=h
  rfl
 ·obtain ⟨M,sd,p,q,sg,gl,ll,a,lds,l,y,ns,rfl,hsd,hll,l0,ha,hra,hM,nsd,h100,nd,h9,k⟩:=h
  refine ⟨_,(j5 (je (i:=3) uI.nd rfl (Or.inr rfl) (jn (jb K) (jH (jY hr) (pv 0) jo (fun _ _=>rfl)) (pv 1) (fun _ _=>rfl)))
   (j9 (jj (jh jN (pv 2) (jf (wn K rfl) rfl nb.b_sum boot_sum (j0 (jZ (osc:=(j6 zZ)) (ON:=["_law_scene_here","_law_lane","_law_year_here","_law_leaps"]) (N:=["_law_when","_law_leaps","_law_year_here"]) (own:=1) (caps:=[3,2]) ⟨rfl,by walk_at "k",by walk_at "k",by walk_at "k",rfl,by walk_at "k"⟩ rfl rfl rfl (Jo (pv 3)) (fun _ _ _ _ _=>(ja (i:=0) (show List.Nodup (["_law_when","_law_leaps","_law_year_here"]:List Str) by decide +kernel) rfl (Or.inl rfl))) (fun _ _ _ _ _=>(zk (jq jP (pv 0) (pv 2) (jx _)))) (fun _ _ _ _ _=>(jH (jY hr) (pv 1) (pv 0) (fun _ _=>rfl)))) j2)))))),?_⟩
  left
  refine ⟨sd,.ref ll,rfl,by rw [<- wg p q sg gl ll];exact qT.k (k:=.inr "leaps") hsd,?_⟩
  left
  refine ⟨_,_,_,_,rfl,rfl,SqL.of hll,qo l0 (v:=V.ref a) (by rw [List.getElem?_map,ha];rfl),?_⟩
  left
  have fin:∀ (H1:Hp),FrM M H H1->∀ acc H2,H2 acc=some (.lst (((ns.filter fun q=>decide (q.1<=y)).map (·.2)).map V.int))->ji H1 H2->Qv [some (.ref sd),some (.int l),some (.int y),some (.ref a)] H2 fun xs H3=>(∃ (p:Addr) (ms:List Int),V.ref acc::xs=[V.ref p]/\SqL K H3 p (ms.map V.int)/\ms.length<=1000/\(∀ n∈ms,0<=n/\n<=2 ^ 20)/\rI0 (fun i j=>V.int (i+j)) (V.int y) (V.int ms.sum) H3 Q):=fun H1 f1 acc H2 h2 s2=>by
   refine ⟨acc,_,rfl,SqL.of h2,?_,fun n hn=>?_,?_⟩
   ·rw [List.length_map]
    exact Nat.le_trans (List.length_filter_le _ _) (by omega)
   ·obtain ⟨z,hz,rfl⟩:=List.mem_map.mp hn
    have:=h9 z (List.mem_filter.mp hz).1
    exact ⟨this.1,Int.le_trans this.2 (by decide)⟩
   ·exact ⟨_,_,rfl,rfl,k H2 (f1.trans (FrM.of_same s2))⟩
  rcases hra with h | ⟨o,h⟩
  ·refine ⟨a,_,rfl,.inl ⟨h,fun o acc hacc=>?_⟩⟩
   have f1:FrM M H (upd H a (.frz o (.dK (ns.map kvI)))):=fun c u hc=>by
    by_cases e:c=a
    ·subst e
     rw [h] at hc
     cases hc
     exact .inr ⟨hM,o,_,rfl,j7⟩
    ·exact .inl (by rw [j8 e];exact hc)
   exact gC (a:=a) (o:=o) j7 nd h100 hacc fun H2 h2 s2=>fin _ f1 acc H2 h2 s2
  ·refine ⟨a,_,rfl,.inr ⟨o,h,fun acc hacc=>?_⟩⟩
   exact gC (a:=a) (o:=o) h nd h100 hacc fun H2 h2 s2=>fin _ (FrM.of_same (ji.refl H)) acc H2 h2 s2
theorem ZZ (y:Int):ju [] y=0:=rfl
theorem jW (q:Int×Int) (r:List (Int×Int)) (y:Int):ju (q::r) y=(if q.1<=y then q.2 else 0)+ju r y:=by
 unfold ju
 rw [List.filter_cons]
 by_cases h:q.1<=y
 ·rw [decide_eq_true h,if_pos rfl,if_pos h,List.map_cons,List.sum_cons]
 ·rw [decide_eq_false h,if_neg Bool.false_ne_true,if_neg h,Int.zero_add]
theorem zh {ms ns:List (Int×Int)}(p:ms.Perm ns) (y:Int):ju ms y=ju ns y:=by
 induction p with
 | nil=>rfl
 | cons q _ ih=>rw [jW,jW,ih]
 | swap a b r=>rw [jW,jW,jW,jW];omega
 | trans _ _ a b=>rw [a,b]
theorem J8 {ns:List (Int×Int)}(h:∀ q∈ns,0<=q.2) (y:Int):0<=ju ns y:=by
 induction ns with
 | nil=>exact Int.le_refl _
 | cons q r ih =>
  rw [jW]
  have:=h q (List.mem_cons_self ..)
  have:=ih fun z hz=>h z (List.mem_cons_of_mem _ hz)
  by_cases e:q.1<=y
  ·rw [if_pos e];omega
  ·rw [if_neg e];omega
theorem Xx {ns:List (Int×Int)}{y:Int}(h:∀ q∈ns,y<q.1):ju ns y=0:=by
 induction ns with
 | nil=>rfl
 | cons q r ih =>
  have a:=h q (List.mem_cons_self ..)
  rw [jW,if_neg (by omega),ih fun z hz=>h z (List.mem_cons_of_mem _ hz)]
  rfl
theorem wT:∀ (ms:List (Int×Int)) (st ad goal:Int),(∀ q∈ms,st<=q.1)->(ms.map (·.1)).Pairwise (· <= ·)->st<=jv st ad ms goal
 | [],st,ad,goal,_,_=>by unfold jv;split <;> omega
 | q::r,st,ad,goal,h,p=>by
  unfold jv
  have a:=h q (List.mem_cons_self ..)
  rw [List.map_cons,List.pairwise_cons] at p
  by_cases e:goal-ad<q.1
  ·rw [if_pos e];split <;> omega
  ·rw [if_neg e]
   have:=wT r q.1 (ad+q.2) goal (fun z hz=>p.1 _ (List.mem_map_of_mem hz)) p.2
   omega
theorem ul:∀ (ms:List (Int×Int)) (st ad goal y:Int),(∀ q∈ms,st<=q.1/\0<=q.2)->(ms.map (·.1)).Pairwise (· < ·)->st<=y->(goal<=y+ad+ju ms y↔jv st ad ms goal<=y)
 | [],st,ad,goal,y,_,_,hy=>by rw [ZZ];unfold jv;split <;> omega
 | q::r,st,ad,goal,y,h,p,hy=>by
  have a:=h q (List.mem_cons_self ..)
  have hr:∀ z∈r,0<=z.2:=fun z hz=>(h z (List.mem_cons_of_mem _ hz)).2
  rw [List.map_cons,List.pairwise_cons] at p
  have gt:∀ z∈r,q.1<z.1:=fun z hz=>p.1 _ (List.mem_map_of_mem hz)
  have sn:=J8 hr y
  rw [jW]
  unfold jv
  by_cases hq:q.1<=y
  ·rw [if_pos hq]
   by_cases e:goal-ad<q.1
   ·rw [if_pos e];split <;> omega
   ·rw [if_neg e]
    have ih:=ul r q.1 (ad+q.2) goal y (fun z hz=>⟨Int.le_of_lt (gt z hz),hr z hz⟩) p.2 hq
    constructor
    ·intro z;exact ih.mp (by omega)
    ·intro z;have:=ih.mpr z;omega
  ·rw [if_neg hq,Xx fun z hz=>by have:=gt z hz;omega]
   by_cases e:goal-ad<q.1
   ·rw [if_pos e];split <;> omega
   ·rw [if_neg e]
    have g:=wT r q.1 (ad+q.2) goal (fun z hz=>Int.le_of_lt (gt z hz)) (p.2.imp fun h=>Int.le_of_lt h)
    omega
theorem qR:∀ {l:List Int},l.Pairwise (· <= ·)->l.Nodup->l.Pairwise (· < ·)
 | [],_,_=>.nil
 | x::r,p,n=>by
  rw [List.pairwise_cons] at p ⊢
  obtain ⟨n1,n2⟩:=List.nodup_cons.mp n
  refine ⟨fun y hy=>?_,qR p.2 n2⟩
  have:=p.1 y hy
  have:x≠y:=fun e=>n1 (e ▸ hy)
  omega
end
section
variable {P:Program}{w:World}{K:PySem.W.Frag}{mg:Str->Option Value}{base:Heap}
def vO (CY:Addr):Sp:=fun vs H Q E=>∃ y:Int,vs=[.int y]/\(0<=y->y<=10 ^ 40->Q .non H)/\(y<0\/10 ^ 40<y->E (.ref CY) none H)
theorem kg:FnScope ["year"] ["year"] (j6 zy):=by walk_at "s"
theorem wS {f CY:Addr}{fd:FuncData}{u0:Tok}(g_LAST_ASKED:mg "LAST_ASKED" = some (.int 10000000000000000000000000000000000000000 u0)) (e_BadYear:mg "BadYear" = some (.ref CY)) (x_BadYear:PySem.W.excIn K CY [.type "ValueError",.type "Exception",.type "BaseException",.type "object"] "ValueError.__new__" = true) (F:Fun K "check_asked" "check_asked" zy f fd):FnOk P w K mg base (CX1 P w) 1 f fd ["year"] (vO CY):=by
 refine Fun.okX F kg (fun vs H Q E h=>?_) (fun cdv A outer s H vs Q E hr h=>?_)
 ·obtain ⟨y,rfl,_⟩:=h
  rfl
 ·obtain ⟨y,rfl,k,kx⟩:=h
  refine ⟨_,(j9 (jM (qJ (qy jP jP j4 (pv 0) (qv (v:=V.int 10000000000000000000000000000000000000000) rfl g_LAST_ASKED ⟨_,rfl⟩))) (j9 (qQ PySem.F.excBase_ValueError x_BadYear e_BadYear rfl xu rfl (j0 jo j2))) jw)),?_⟩
  left
  refine jV (fun h0=>?_) (fun h0=>?_)
  ·left
   refine x8 (fun h1=>?_) (fun h1=>?_)
   ·left
    exact ⟨by show 1<=sizeLine;decide,kx (.inr (by omega))⟩
   ·left
    exact k h0 h1
  ·left
   refine uS ?_
   left
   exact ⟨by show 1<=sizeLine;decide,kx (.inl (by omega))⟩
def wF:Sp:=fun vs H Q _=>∃ (p:Addr) (out:List V) (ms:List (Int×Int)) (y:Int),vs=[.ref p,.int y]/\H p=some (.lst out)/\kH H out ms/\ms.length<=100/\(∀ q∈ms,0<=q.2/\q.2<=9)/\∀ H',ji H H'->Q (.int (y+ju ms y)) H'
theorem X0:FnScope ["surges","year"] ["surges","year"] (j6 yI):=by walk_at "s"
theorem Xv {f:Addr}{fd:FuncData}(nb:Nb2 mg) (F:Fun K "ride_by" "ride_by" yI f fd):FnOk P w K mg base CX0 1 f fd ["surges","year"] wF:=by
 refine F.ok X0 (fun vs H Q E h=>?_) (fun cdv A outer s H vs Q E hr h=>?_)
 ·obtain ⟨p,out,ms,y,rfl,_⟩:=h
  rfl
 ·obtain ⟨p,out,ms,y,rfl,hp,hq,h100,h9,k⟩:=h
  have hlen:out.length=ms.length:=Paired.length hq
  refine ⟨_,(j9 (jj (jh jN (pv 1) (jf (wn K rfl) rfl nb.b_sum boot_sum (j0 (jZ (osc:=(j6 yI)) (ON:=["surges","year"]) (N:=["when","many","year"]) (own:=2) (caps:=[1]) ⟨rfl,by walk_at "k",by walk_at "k",by walk_at "k",rfl,by walk_at "k"⟩ rfl rfl rfl (qc K (pv 0)) (fun _ _ _ _ _=>(qq (n:=2) K rfl (jk (ja (i:=0) (show List.Nodup (["when","many","year"]:List Str) by decide +kernel) rfl (Or.inl rfl)) (jk (ja (i:=1) (show List.Nodup (["when","many","year"]:List Str) by decide +kernel) rfl (Or.inl rfl)) qm)))) (fun _ _ _ _ _=>(zk (jq jP (pv 0) (pv 2) (jx _)))) (fun _ _ _ _ _=>(pv 1))) j2))))),?_⟩
  left
  refine ⟨⟨_,SqL.of hp⟩,fun acc hacc=>?_⟩
  refine qf (K:=K) (a:=p) (xs:=out) (acc:=acc) (fun i σ H2=>∃ x x2:Option V,σ=[x,x2,some (.int y)]/\H2 acc=some (.lst ((((ms.take i).filter fun q=>decide (q.1<=y)).map (·.2)).map V.int))/\Ext acc H H2) ?_ ?_ ?_ ?_
  ·exact ⟨none,none,rfl,j7,Ext.put⟩
  ·rintro i σ H2 hi ⟨x,x2,rfl,h2,e2⟩
   exact SqL.of (e2 _ _ hp (j1 hp hacc))
  ·rintro i v σ H2 hv ⟨x,x2,rfl,h2,e2⟩
   obtain ⟨m,hm,b,rfl,hb⟩:=Paired.get hq hv
   have hi:=(List.getElem?_eq_some_iff.mp hm).1
   have hl2:((((ms.take i).filter fun q=>decide (q.1<=y)).map (·.2)).map V.int).length<=100:=by
    rw [List.length_map,List.length_map]
    exact Nat.le_trans (List.length_filter_le _ _) (by rw [List.length_take];omega)
   left
   refine ⟨b,_,rfl,SqT.of (e2 _ _ hb (j1 hb hacc)),rfl,?_⟩
   refine ⟨_,_,rfl,_,_,rfl,rfl,?_⟩
   left
   refine jV (fun le=>?_) (fun le=>?_)
   ·left
    refine ⟨_,h2,Nat.lt_of_le_of_lt hl2 (by decide),_,_,rfl,?_,e2.trans Ext.put⟩
    rw [j7,List.take_add_one,hm,Option.toList_some,List.filter_append,List.filter_cons_of_pos (by rw [decide_eq_true le]),List.map_append,List.map_append]
    rfl
   ·refine ⟨_,_,rfl,?_,e2⟩
    rw [List.take_add_one,hm,Option.toList_some,List.filter_append,List.filter_cons_of_neg (by rw [decide_eq_false le];exact Bool.false_ne_true),List.filter_nil,List.append_nil]
    exact h2
  ·rintro σ H2 ⟨x,x2,rfl,h2,e2⟩
   rw [hlen,List.take_length] at h2
   left
   refine ⟨acc,_,rfl,SqL.of h2,?_,fun n hn=>?_,?_⟩
   ·rw [List.length_map]
    exact Nat.le_trans (List.length_filter_le _ _) (by omega)
   ·obtain ⟨z,hz,rfl⟩:=List.mem_map.mp hn
    have:=h9 z (List.mem_filter.mp hz).1
    exact ⟨this.1,Int.le_trans this.2 (by decide)⟩
   ·exact ⟨_,_,rfl,rfl,k H2 fun c o hc=>e2 c o hc (j1 hc hacc)⟩
def Xr (g:IceG) (l:Int) (ns:List (Int×Int)):Prop:=0<=l/\l<(g.slopes.length:Int)/\(∃ a,g.lds[l.toNat]? = some (a,ns.map kvI))/\(ns.map (·.1)).Nodup/\ns.length<64/\∀ q∈ns,0<=q.2/\q.2<=9
def Qb (C CN CY:Addr):Sp:=fun vs H Q E=>∃ (p:Addr) (g:IceG) (l y:Int),vs=[.ref p,.int l,.int y]/\IceAt C H p g/\g.lds.length=g.slopes.length/\(l<0\/(g.slopes.length:Int)<=l->E (.ref CN) none H) /\
 (0<=l->l<(g.slopes.length:Int)->∃ ns,Xr g l ns/\(∀ H',ji H H'->y<0\/10 ^ 40<y->E (.ref CY) none H')/\∀ H',ji H H'->0<=y->y<=10 ^ 40->Q (.int (y+ju ns y)) H')
theorem gR:FnScope ["ice","lane","year","surges"] ["ice","lane","year"] (j6 k7):=by walk_at "s"
theorem Zu {f C CN CY:Addr}{fd:FuncData}(cl_Ice:Cls K C) (c_Ice__surges:CalMX P w K mg base 2 C "surges" ["self","lane"] (yF C CN)) (c_check_asked:CalX P w K mg base 1 "check_asked" ["year"] (vO CY)) (c_ride_by:Cal P w K mg base 1 "ride_by" ["surges","year"] wF) (F:Fun K "ridden" "ridden" k7 f fd):FnOk P w K mg base (CX1 P w) 3 f fd ["ice","lane","year"] (Qb C CN CY):=by
 refine Fun.okX F gR (fun vs H Q E h=>?_) (fun cdv A outer s H vs Q E hr h=>?_)
 ·obtain ⟨p,g,l,y,rfl,_⟩:=h
  rfl
 ·obtain ⟨p,g,l,y,rfl,I,hll,kx,k⟩:=h
  refine ⟨_,(j5 (je (i:=3) gR.nd rfl (Or.inl rfl) (zO (pv 0) cl_Ice c_Ice__surges (hr.mono (by decide)) qA (j0 (pv 1) j2)))
   (j5 (qd (xa c_check_asked (hr.mono (by decide)) qA rfl (j0 (pv 2) j2)))
   (j9 (jj (jd c_ride_by (hr.mono (by decide)) rfl (j0 (pv 3) (j0 (pv 2) j2))))))),?_⟩
  left
  refine ⟨p,g.dx,_,rfl,I.ob,xH _ _ _ _ _ (by walk_at "k") (by walk_at "k") (by walk_at "k") (by walk_at "k") (by walk_at "k"),?_⟩
  left
  refine ⟨p,g,l,rfl,I,hll,fun hb=>kx hb,fun l0 l1=>?_⟩
  obtain ⟨ns,⟨_,_,⟨a,ha⟩,nd,h64,h9⟩,ky,k⟩:=k l0 l1
  refine ⟨a,ns,ha,nd,h64,fun o H1 out ms ho ho1 hq s1 hp hs=>?_⟩
  left
  refine ⟨fun y0 y1=>?_,fun hb=>ky H1 s1 hb⟩
  left
  refine ⟨o,out,ms,y,rfl,ho1,hq,(by rw [hp.length_eq];omega),fun q hq'=>h9 q (hp.mem_iff.mp hq'),fun H2 s2=>?_⟩
  rw [zh hp]
  exact k H2 (s1.trans s2) y0 y1
end
section
variable {P:Program}{w:World}{K:PySem.W.Frag}{mg:Str->Option Value}{base:Heap}
def kvA (z:Int×Addr):Key×V:=(.inl z.1,.ref z.2)
def xF {α:Type}(l:List (Int×α)) (y:Int) (a:α):List (Int×α):=if (l.any fun z=>decide (z.1=y))=true then l.map (fun z=>if z.1=y then (z.1,a) else z) else l++[(y,a)]
theorem kF {α:Type}(f:α->V) (l:List (Int×α)) (y:Int) (a:α):qG (l.map fun z=>((.inl z.1,f z.2):Key×V)) (.inl y) (f a)=(xF l y a).map fun z=>((.inl z.1,f z.2):Key×V):=by
 have e:∀ z:Int,decide ((Sum.inl z:Key)=Sum.inl y)=decide (z=y):=fun z=>decide_eq_decide.mpr ⟨fun h=>Sum.inl.inj h,fun h=>by rw [h]⟩
 have e1:((l.map fun z=>((.inl z.1,f z.2):Key×V)).any fun kv=>decide (kv.1=(Sum.inl y:Key)))=l.any fun z=>decide (z.1=y):=by
  rw [List.any_map]
  congr 1
  funext z
  exact e z.1
 unfold qG xF
 rw [e1]
 by_cases h:(l.any fun z=>decide (z.1=y))=true
 ·rw [if_pos h,if_pos h,List.map_map,List.map_map]
  refine List.map_congr_left fun z _=>?_
  show (if (Sum.inl z.1:Key)=Sum.inl y then _ else _)=_
  by_cases hz:z.1=y
  ·rw [if_pos (by rw [hz])]
   show _=(fun z:Int×α=>((.inl z.1,f z.2):Key×V)) (if z.1=y then (z.1,a) else z)
   rw [if_pos hz]
  ·rw [if_neg (fun w=>hz (Sum.inl.inj w))]
   show _=(fun z:Int×α=>((.inl z.1,f z.2):Key×V)) (if z.1=y then (z.1,a) else z)
   rw [if_neg hz]
 ·rw [if_neg h,if_neg h,List.map_append]
  rfl
theorem ke {α:Type}{l:List (Int×α)}{y:Int}{a:α}{z:Int×α}(h:z∈xF l y a):z∈l\/z=(y,a):=by
 unfold xF at h
 by_cases c:(l.any fun z=>decide (z.1=y))=true
 ·rw [if_pos c] at h
  obtain ⟨u,hu,e⟩:=List.mem_map.mp h
  by_cases q:u.1=y
  ·rw [if_pos q,q] at e
   exact .inr e.symm
  ·rw [if_neg q] at e
   exact .inl (e ▸ hu)
 ·rw [if_neg c] at h
  rcases List.mem_append.mp h with q | q
  ·exact .inl q
  ·exact .inr (by simpa using q)
theorem vF {α:Type}(l:List (Int×α)) (y:Int) (a:α):(xF l y a).length<=l.length+1:=by
 unfold xF
 split
 ·rw [List.length_map];omega
 ·rw [List.length_append];exact Nat.le_refl _
theorem kC {α:Type}{l:List (Int×α)}{y:Int}{a:α}(h:(l.map (·.1)).Nodup):((xF l y a).map (·.1)).Nodup:=by
 unfold xF
 by_cases c:(l.any fun z=>decide (z.1=y))=true
 ·rw [if_pos c,List.map_map]
  have:(l.map ((fun x=>x.1) ∘ fun z=>if z.1=y then (z.1,a) else z))=l.map (·.1):=List.map_congr_left fun z _=>by
   show (if z.1=y then (z.1,a) else z).1=z.1
   split <;> rfl
  rw [this]
  exact h
 ·rw [if_neg c,List.map_append]
  refine w9 h fun z=>c ?_
  obtain ⟨u,hu,e⟩:=List.mem_map.mp z
  exact List.any_eq_true.mpr ⟨u,hu,decide_eq_true e⟩
structure ScN where
 p:Addr
 q:Addr
 sg:Addr
 gl:Addr
 ll:Addr
 xs:List V
 ys:List V
 zs:List V
 rs:List Rch
 ts:List T3
 ws:List (List Int)
 sk:List (Int×Addr)
 lds:List (Addr×List (Int×Int))
structure ScAt (H:Hp) (sd:Addr) (c:ScN):Prop where
 sd:H sd=some (.dK (scK c.p c.q c.sg c.gl c.ll))
 p:H c.p=some (.lst c.xs)
 rv:jU H c.xs c.rs
 q:H c.q=some (.lst c.ys)
 r3:qM H c.ys c.ts
 gl:H c.gl=some (.lst c.zs)
 gi:yf H c.zs (c.ws.map (jc c.rs))
 ll:H c.ll=some (.lst (c.lds.map fun x=>V.ref x.1))
 sg:Rd H c.sg (.dK (c.sk.map kvA))
 sk:∀ z∈c.sk,∃ t,H z.2=some (yM t)/\good t=true
 ld:∀ x∈c.lds,Rd H x.1 (.dK (x.2.map kvI))
structure ScOk (b:Addr) (c:ScN):Prop where
 gr:Grown c.rs
 l1:1<=c.rs.length
 l8:c.rs.length<=8
 t1:1<=c.ts.length
 t2:c.ts.length<=12
 tg:c.ts.all good=true
 ro:qa c.rs c.ws
 ldl:c.lds.length=c.ws.length
 nd:(c.lds.map (·.1)).Nodup
 ns:∀ x∈c.lds,x.1≠c.sg
 pb:c.p≠b
 qb:c.q≠b
 gb:c.gl≠b
 lb:c.ll≠b
 zb:V.ref b∉c.zs
 k1:(c.sk.map (·.1)).Nodup
 k2:∀ z∈c.sk,0<=z.1/\z.1<=99
 k3:c.sk.length<=10
 m1:∀ x∈c.lds,(x.2.map (·.1)).Nodup
 m2:∀ x∈c.lds,∀ z∈x.2,0<=z.1/\z.1<=99/\1<=z.2/\z.2<=9
 m3:∀ x∈c.lds,x.2.length<=10
def Fr3 (N M:Addr->Prop) (H H':Hp):Prop:=∀ c o,H c=some o->¬ N c->H' c=some o\/(M c/\∃ ob kvs,o = .dK kvs/\H' c=some (.frz ob (.dK kvs)))
theorem Fr3.at {N M:Addr->Prop}{H H':Hp}(f:Fr3 N M H H') {c:Addr}{o:HO}(h:H c=some o) (n:¬ N c) (d:∀ kvs,o≠.dK kvs):H' c=some o:=by
 rcases f c o h n with h1 | ⟨_,ob,kvs,e,_⟩
 ·exact h1
 ·exact absurd e (d kvs)
theorem Fr3.rd {N M:Addr->Prop}{H H':Hp}(f:Fr3 N M H H') {c:Addr}{kvs:List (Key×V)}(n:¬ N c) (h:Rd H c (.dK kvs)):Rd H' c (.dK kvs):=by
 rcases h with h | ⟨o,h⟩
 ·rcases f c _ h n with h1 | ⟨_,ob,kvs',e,h1⟩
  ·exact .inl h1
  ·cases e
   exact .inr ⟨ob,h1⟩
 ·exact .inr ⟨o,f.at h n (by walk_at "w")⟩
theorem pmM {α β:Type}{F G:α->β->Prop}:∀ {l₁:List α}{l₂:List β},Paired F l₁ l₂->(∀ v∈l₁,∀ w,F v w->G v w)->Paired G l₁ l₂
 | _,_,.nil,_=>.nil
 | _,_,.cons q r,h=>.cons (h _ (List.mem_cons_self ..) _ q) (pmM r fun v hv=>h v (List.mem_cons_of_mem _ hv))
theorem ScAt.keep {N M:Addr->Prop}{H H':Hp}{sd:Addr}{c:ScN}(S:ScAt H sd c) (f:Fr3 N M H H') (nT:∀ a xs,H a=some (.tup xs)->¬ N a) (nsd:¬ N sd) (msd:¬ M sd) (np:¬ N c.p) (nq:¬ N c.q) (ng:¬ N c.gl) (nl:¬ N c.ll) (nz:∀ a,V.ref a∈c.zs->¬ N a) (ns:¬ N c.sg) (nd:∀ x∈c.lds,¬ N x.1):ScAt H' sd c:=by
 have t:∀ a xs,H a=some (.tup xs)->H' a=some (.tup xs):=fun a xs h=>f.at h (nT a xs h) (by walk_at "w")
 refine ⟨?_,f.at S.p np (by walk_at "w"),S.rv.keep t,f.at S.q nq (by walk_at "w"),S.r3.imp fun _ _ h=>t _ _ h,f.at S.gl ng (by walk_at "w"),pmM S.gi fun v hv w ⟨a,ea,q⟩=>⟨a,ea,f.at q (nz a (ea ▸ hv)) (by walk_at "w")⟩,f.at S.ll nl (by walk_at "w"),f.rd ns S.sg,fun z hz=>?_,fun x hx=>f.rd (nd x hx) (S.ld x hx)⟩
 ·rcases f _ _ S.sd nsd with z | ⟨z,_⟩
  ·exact z
  ·exact absurd z msd
 ·obtain ⟨u,hu,g⟩:=S.sk z hz
  exact ⟨u,t _ _ hu,g⟩
theorem ScAt.same {H H':Hp}{sd:Addr}{c:ScN}(S:ScAt H sd c) (s:ji H H'):ScAt H' sd c :=
 S.keep (N:=fun _=>False) (M:=fun _=>False) (fun c o h _=>.inl (s c o h)) (fun _ _ _ z=>z) id id id id id id (fun _ _=>id) id (fun _ _=>id)
theorem ScAt.ext {L b:Addr}{H H':Hp}{sd:Addr}{c:ScN}(S:ScAt H sd c) (O:ScOk b c) (B:jS L H b) (e:Ext b H H'):ScAt H' sd c:=by
 obtain ⟨_,_,_,_,_,hb,_⟩:=B
 have nr:∀ {a:Addr} {kvs:List (Key×V)},Rd H a (.dK kvs)->¬ a=b:=fun h z=>by
  rcases h with h | ⟨o,h⟩
  ·exact absurd z (jr h hb (by walk_at "z"))
  ·exact absurd z (jr h hb (by walk_at "z"))
 exact S.keep (N:=fun a=>a=b) (M:=fun _=>False) (fun c o h n=>.inl (e c o h n)) (fun a xs h z=>absurd z (jr h hb (by walk_at "z"))) (jr S.sd hb (by walk_at "z")) id O.pb O.qb O.gb O.lb (fun a h z=>O.zb (z ▸ h)) (nr S.sg) fun x hx=>nr (S.ld x hx)
def ScN.D (c:ScN) (a:Addr):Prop:=a=c.sg\/∃ x∈c.lds,x.1=a
theorem Ud {p q sg gl ll:Addr}{α:Type}{f:α->V}{l:List (Int×α)}:scK p q sg gl ll≠l.map fun z=>((.inl z.1,f z.2):Key×V):=fun z=>by
 cases l with
 | nil=>cases z
 | cons u r =>
  have:=congrArg (fun l=>l.head?.map (·.1)) z
  cases this
theorem XM {H:Hp}{sd a p q sg gl ll:Addr}{α:Type}{f:α->V}{l:List (Int×α)}(h:H sd=some (.dK (scK p q sg gl ll))) (r:Rd H a (.dK (l.map fun z=>((.inl z.1,f z.2):Key×V)))):a≠sd:=fun z=>by
 subst z
 rcases r with r | ⟨o,r⟩
 ·rw [r] at h
  have e:l.map (fun z=>((.inl z.1,f z.2):Key×V))=scK p q sg gl ll:=by injection h with h;injection h
  exact Ud e.symm
 ·rw [r] at h
  cases h
theorem ScAt.nD {H:Hp}{sd:Addr}{c:ScN}(S:ScAt H sd c):¬ c.D sd:=fun z=>by
 rcases z with z | ⟨x,hx,e⟩
 ·exact XM (f:=V.ref) S.sd S.sg z.symm
 ·exact XM (f:=V.int) S.sd (S.ld x hx) e
structure ScB (L b:Addr) (H H2:Hp) (sd:Addr) (c:ScN):Prop where
 S:ScAt H2 sd c
 O:ScOk b c
 r1:H2 c.sg=some (.dK (c.sk.map kvA))
 r2:∀ x∈c.lds,H2 x.1=some (.dK (x.2.map kvI))
 B:jS L H2 b
 X:Ext b H H2
 f1:H c.sg=none
 f2:∀ x∈c.lds,H x.1=none
theorem ScB.take {L b:Addr}{H H2 H3:Hp}{sd:Addr}{c:ScN}(S:ScB L b H H2 sd c) (B:jS L H3 b) (X:Ext b H2 H3):ScB L b H H3 sd c:=by
 have hb:∃ xs,H2 b=some (.lst xs):=by
  obtain ⟨_,_,_,_,_,hb,_⟩:=S.B
  exact ⟨_,hb⟩
 obtain ⟨_,hb⟩:=hb
 exact ⟨S.S.ext S.O S.B X,S.O,X _ _ S.r1 (jr S.r1 hb (by walk_at "z")),fun x hx=>X _ _ (S.r2 x hx) (jr (S.r2 x hx) hb (by walk_at "z")),B,S.X.trans X,S.f1,S.f2⟩
theorem ScB.same {L b:Addr}{H H2 H3:Hp}{sd:Addr}{c:ScN}(S:ScB L b H H2 sd c) (s:ji H2 H3):ScB L b H H3 sd c:=S.take (S.B.same s) (Ext.of_same s)
theorem zK {L b:Addr}{Ha Hb:Hp}(B:jS L Ha b) (e:Ext b Ha Hb):jp Ha Hb:=by
 obtain ⟨ns,a,r,c,d,h1,_⟩:=B
 exact jp.lst e h1
theorem ScB.single {L b:Addr}{H H2:Hp}{sd t:Addr}{c:ScN}{y:Int}{r:T3}(S:ScB L b H H2 sd c) (y0:0<=y) (y1:y<=99) (ht:H2 t=some (yM r)) (hg:good r=true) (hl:c.sk.length+1<=10) :
  ScB L b H (upd H2 c.sg (.dK (qG (c.sk.map kvA) (.inl y) (.ref t)))) sd { c with sk:=xF c.sk y t }:=by
 have e:qG (c.sk.map kvA) (.inl y) (.ref t)=(xF c.sk y t).map kvA:=kF V.ref c.sk y t
 rw [e]
 have nT:∀ {a:Addr} {o:HO},H2 a=some o->(∀ kvs,o≠.dK kvs)->(upd H2 c.sg (.dK ((xF c.sk y t).map kvA))) a=some o:=fun h n=>by rw [j8 (jr h S.r1 (n _))];exact h
 have sdn:sd≠c.sg:=(XM (f:=V.ref) S.S.sd S.S.sg).symm
 have hb:∃ xs,H2 b=some (.lst xs):=by
  obtain ⟨_,_,_,_,_,hb,_⟩:=S.B
  exact ⟨_,hb⟩
 obtain ⟨_,hb⟩:=hb
 have hL:∃ xs,H2 L=some (.lst xs):=by
  obtain ⟨_,_,_,_,_,_,_,hL,_⟩:=S.B
  exact ⟨_,hL⟩
 obtain ⟨_,hL⟩:=hL
 refine ⟨⟨by rw [j8 sdn];exact S.S.sd,nT S.S.p (by walk_at "w"),S.S.rv.keep fun _ _ h=>nT h (by walk_at "w"),nT S.S.q (by walk_at "w"),S.S.r3.imp fun _ _ h=>nT h (by walk_at "w"),nT S.S.gl (by walk_at "w"),pmM S.S.gi fun v hv w ⟨a,ea,q⟩=>⟨a,ea,nT q (by walk_at "w")⟩,nT S.S.ll (by walk_at "w"),.inl j7,fun z hz=>?_,fun x hx=>.inl (by rw [j8 (S.O.ns x hx)];exact S.r2 x hx)⟩,?_,j7,fun x hx=>by rw [j8 (S.O.ns x hx)];exact S.r2 x hx,S.B.put (jr S.r1 hb (by walk_at "z")) (jr S.r1 hL (by walk_at "z")),fun d o hd n=>?_,S.f1,S.f2⟩
 ·rcases ke hz with z | z
  ·obtain ⟨u,hu,g⟩:=S.S.sk _ z
   exact ⟨u,nT hu (by walk_at "w"),g⟩
  ·subst z
   exact ⟨r,nT ht (by walk_at "w"),hg⟩
 ·have O:=S.O
  exact ⟨O.gr,O.l1,O.l8,O.t1,O.t2,O.tg,O.ro,O.ldl,O.nd,O.ns,O.pb,O.qb,O.gb,O.lb,O.zb,kC O.k1,fun z hz=>by
   rcases ke hz with q | q
   ·exact O.k2 z q
   ·subst q;exact ⟨y0,y1⟩,Nat.le_trans (vF _ _ _) hl,O.m1,O.m2,O.m3⟩
 ·rw [j8 (j1 hd S.f1)]
  exact S.X d o hd n
theorem vA {α β:Type}{l:List (α×β)}{n:Nat}{a:α}{u v:β}(nd:(l.map (·.1)).Nodup) (hn:l[n]? = some (a,u)) {x:α×β}(hx:x∈l.set n (a,v)):x=(a,v)\/(x∈l/\x.1≠a):=by
 obtain ⟨i,hi,e⟩:=List.mem_iff_getElem.mp hx
 have hi':i<l.length:=by rw [List.length_set] at hi;exact hi
 obtain ⟨hn1,hn2⟩:=List.getElem?_eq_some_iff.mp hn
 by_cases q:n=i
 ·subst q
  rw [List.getElem_set_self] at e
  exact .inl e.symm
 ·rw [List.getElem_set_ne q] at e
  refine .inr ⟨e ▸ List.getElem_mem hi',fun z=>q ?_⟩
  have h1:(l.map (·.1))[n]'(by rw [List.length_map];exact hn1)=(l.map (·.1))[i]'(by rw [List.length_map];exact hi'):=by
   rw [List.getElem_map,List.getElem_map,hn2,e,z]
  rcases Nat.lt_trichotomy n i with g | g | g
  ·exact absurd h1 (List.pairwise_iff_getElem.mp nd n i _ _ g)
  ·exact g
  ·exact absurd h1.symm (List.pairwise_iff_getElem.mp nd i n _ _ g)
theorem XT {α β:Type}{l:List (α×β)}{n:Nat}{a:α}{u v:β}(hn:l[n]? = some (a,u)):(l.set n (a,v)).map (·.1)=l.map (·.1):=by
 obtain ⟨hn1,hn2⟩:=List.getElem?_eq_some_iff.mp hn
 rw [List.map_set]
 refine List.ext_getElem? fun i=>?_
 rw [List.getElem?_set]
 by_cases q:n=i
 ·subst q
  rw [if_pos rfl,if_pos (by rw [List.length_map];exact hn1),List.getElem?_map,hn]
  rfl
 ·rw [if_neg q]
theorem ScB.leap {L b:Addr}{H H2:Hp}{sd a:Addr}{c:ScN}{n:Nat}{y m:Int}{ns:List (Int×Int)}(S:ScB L b H H2 sd c) (hn:c.lds[n]? = some (a,ns)) (y0:0<=y) (y1:y<=99) (m0:1<=m) (m1:m<=9) (hl:ns.length+1<=10) :
  ScB L b H (upd H2 a (.dK (qG (ns.map kvI) (.inl y) (.int m)))) sd { c with lds:=c.lds.set n (a,xF ns y m) }:=by
 have e:qG (ns.map kvI) (.inl y) (.int m)=(xF ns y m).map kvI:=kF V.int ns y m
 rw [e]
 have hm:=List.mem_of_getElem? hn
 have ra:=S.r2 _ hm
 have nT:∀ {d:Addr} {o:HO},H2 d=some o->(∀ kvs,o≠.dK kvs)->(upd H2 a (.dK ((xF ns y m).map kvI))) d=some o:=fun h n=>by rw [j8 (jr h ra (n _))];exact h
 have sdn:sd≠a:=(XM (f:=V.int) S.S.sd (S.S.ld _ hm)).symm
 have hb:∃ xs,H2 b=some (.lst xs):=by
  obtain ⟨_,_,_,_,_,hb,_⟩:=S.B
  exact ⟨_,hb⟩
 obtain ⟨_,hb⟩:=hb
 have hL:∃ xs,H2 L=some (.lst xs):=by
  obtain ⟨_,_,_,_,_,_,_,hL,_⟩:=S.B
  exact ⟨_,hL⟩
 obtain ⟨_,hL⟩:=hL
 have fs:=XT (v:=xF ns y m) hn
 have fs2:(c.lds.set n (a,xF ns y m)).map (fun x=>V.ref x.1)=c.lds.map fun x=>V.ref x.1:=by
  have:=congrArg (List.map V.ref) fs
  rw [List.map_map,List.map_map] at this
  exact this
 have sg:c.sg≠a:=(S.O.ns _ hm).symm
 have r2:∀ x∈c.lds.set n (a,xF ns y m),(upd H2 a (.dK ((xF ns y m).map kvI))) x.1=some (.dK (x.2.map kvI)):=fun x hx=>by
  rcases vA S.O.nd hn hx with z | ⟨z,w⟩
  ·subst z
   exact j7
  ·rw [j8 w]
   exact S.r2 x z
 have mem:∀ x∈c.lds.set n (a,xF ns y m),∃ x'∈c.lds,x'.1=x.1:=fun x hx=>by
  have:x.1∈(c.lds.set n (a,xF ns y m)).map (·.1):=List.mem_map_of_mem hx
  rw [fs] at this
  exact List.mem_map.mp this
 have O:=S.O
 refine ⟨⟨by rw [j8 sdn];exact S.S.sd,nT S.S.p (by walk_at "w"),S.S.rv.keep fun _ _ h=>nT h (by walk_at "w"),nT S.S.q (by walk_at "w"),S.S.r3.imp fun _ _ h=>nT h (by walk_at "w"),nT S.S.gl (by walk_at "w"),pmM S.S.gi fun v hv w ⟨a,ea,q⟩=>⟨a,ea,nT q (by walk_at "w")⟩,?_,.inl (by show upd _ _ _ c.sg=_;rw [j8 sg];exact S.r1),fun z hz=>?_,fun x hx=>.inl (r2 x hx)⟩,⟨O.gr,O.l1,O.l8,O.t1,O.t2,O.tg,O.ro,?_,?_,?_,O.pb,O.qb,O.gb,O.lb,O.zb,O.k1,O.k2,O.k3,?_,?_,?_⟩,(by show upd _ _ _ c.sg=_;rw [j8 sg];exact S.r1),r2,S.B.put (jr ra hb (by walk_at "z")) (jr ra hL (by walk_at "z")),fun d o hd n=>?_,S.f1,?_⟩
 ·show _=some (HO.lst ((c.lds.set n (a,xF ns y m)).map fun x=>V.ref x.1))
  rw [fs2]
  exact nT S.S.ll (by walk_at "w")
 ·obtain ⟨u,hu,g⟩:=S.S.sk _ hz
  exact ⟨u,nT hu (by walk_at "w"),g⟩
 ·show (c.lds.set n (a,xF ns y m)).length=_
  rw [List.length_set]
  exact O.ldl
 ·show ((c.lds.set n (a,xF ns y m)).map (·.1)).Nodup
  rw [fs]
  exact O.nd
 ·intro x hx
  obtain ⟨x',h1,h2⟩:=mem x hx
  rw [<- h2]
  exact O.ns x' h1
 ·intro x hx
  rcases vA S.O.nd hn hx with z | ⟨z,w⟩
  ·subst z;exact kC (O.m1 _ hm)
  ·exact O.m1 x z
 ·intro x hx
  rcases vA S.O.nd hn hx with z | ⟨z,w⟩
  ·subst z
   intro u hu
   rcases ke hu with q | q
   ·exact O.m2 _ hm u q
   ·subst q;exact ⟨y0,y1,m0,m1⟩
  ·exact O.m2 x z
 ·intro x hx
  rcases vA S.O.nd hn hx with z | ⟨z,w⟩
  ·subst z;exact Nat.le_trans (vF _ _ _) hl
  ·exact O.m3 x z
 ·rw [j8 (j1 hd (S.f2 _ hm))]
  exact S.X d o hd n
 ·intro x hx
  obtain ⟨x',h1,h2⟩:=mem x hx
  rw [<- h2]
  exact S.f2 x' h1
theorem put4 {p q sg gl:Addr}:qG (x3 [] [(.inr "reaches",.ref p),(.inr "rows",.ref q),(.inr "single",.ref sg)]) (.inr "grounds") (.ref gl)=[((.inr "reaches",.ref p):Key×V),(.inr "rows",.ref q),(.inr "single",.ref sg),(.inr "grounds",.ref gl)]:=by
 have e1:(qG [] (.inr "reaches") (.ref p):List (Key×V))=[(.inr "reaches",.ref p)]:=yk _ yi
 have e2:qG [((.inr "reaches",.ref p):Key×V)] (.inr "rows") (.ref q)=[(.inr "reaches",.ref p),(.inr "rows",.ref q)]:=yk _ ((jy (show (Sum.inr (Str.ofString "reaches"):Key)≠Sum.inr (Str.ofString "rows") by decide +kernel)).trans yi)
 have e3:qG [((.inr "reaches",.ref p):Key×V),(.inr "rows",.ref q)] (.inr "single") (.ref sg)=[(.inr "reaches",.ref p),(.inr "rows",.ref q),(.inr "single",.ref sg)]:=yk _ ((jy (show (Sum.inr (Str.ofString "reaches"):Key)≠Sum.inr (Str.ofString "single") by decide +kernel)).trans ((jy (show (Sum.inr (Str.ofString "rows"):Key)≠Sum.inr (Str.ofString "single") by decide +kernel)).trans yi))
 have e4:qG [((.inr "reaches",.ref p):Key×V),(.inr "rows",.ref q),(.inr "single",.ref sg)] (.inr "grounds") (.ref gl)=[((.inr "reaches",.ref p):Key×V),(.inr "rows",.ref q),(.inr "single",.ref sg),(.inr "grounds",.ref gl)]:=yk _ ((jy (show (Sum.inr (Str.ofString "reaches"):Key)≠Sum.inr (Str.ofString "grounds") by decide +kernel)).trans ((jy (show (Sum.inr (Str.ofString "rows"):Key)≠Sum.inr (Str.ofString "grounds") by decide +kernel)).trans ((jy (show (Sum.inr (Str.ofString "single"):Key)≠Sum.inr (Str.ofString "grounds") by decide +kernel)).trans yi)))
 have e:x3 [] [((.inr "reaches",.ref p):Key×V),(.inr "rows",.ref q),(.inr "single",.ref sg)]=[(.inr "reaches",.ref p),(.inr "rows",.ref q),(.inr "single",.ref sg)]:=by
  show qG (qG (qG ([]:List (Key×V)) (.inr "reaches") (.ref p)) (.inr "rows") (.ref q)) (.inr "single") (.ref sg)=_
  rw [e1,e2,e3]
 rw [e,e4]
theorem put5 {p q sg gl ll:Addr}:qG [((.inr "reaches",.ref p):Key×V),(.inr "rows",.ref q),(.inr "single",.ref sg),(.inr "grounds",.ref gl)] (.inr "leaps") (.ref ll)=scK p q sg gl ll :=
 yk _ ((jy (show (Sum.inr (Str.ofString "reaches"):Key)≠Sum.inr (Str.ofString "leaps") by decide +kernel)).trans ((jy (show (Sum.inr (Str.ofString "rows"):Key)≠Sum.inr (Str.ofString "leaps") by decide +kernel)).trans ((jy (show (Sum.inr (Str.ofString "single"):Key)≠Sum.inr (Str.ofString "leaps") by decide +kernel)).trans ((jy (show (Sum.inr (Str.ofString "grounds"):Key)≠Sum.inr (Str.ofString "leaps") by decide +kernel)).trans yi))))
theorem Q8 (p q sg gl:Addr):qL [((.inr "reaches",.ref p):Key×V),(.inr "rows",.ref q),(.inr "single",.ref sg),(.inr "grounds",.ref gl)] (.inr "grounds")=some (.ref gl):=(jy (show (Sum.inr (Str.ofString "reaches"):Key)≠Sum.inr (Str.ofString "grounds") by decide +kernel)).trans ((jy (show (Sum.inr (Str.ofString "rows"):Key)≠Sum.inr (Str.ofString "grounds") by decide +kernel)).trans ((jy (show (Sum.inr (Str.ofString "single"):Key)≠Sum.inr (Str.ofString "grounds") by decide +kernel)).trans xp))
theorem XJ {rs:List Rch}(G:Grown rs):∀ r∈rs,r.2.length<=12:=fun r hr=>by
 obtain ⟨i,hi,e⟩:=List.mem_iff_getElem.mp hr
 have:=Jp G.ok (List.getElem?_eq_getElem hi)
 rw [e] at this
 unfold okR at this
 rw [Bool.and_eq_true,Bool.and_eq_true] at this
 have:=of_decide_eq_true this.1.2
 omega
theorem VS {v:Int}(a:0<=v) (b:v<3):∃ n,atI [V.int 1,V.int 4,V.int 9] v=some (V.int n)/\0<n/\n<=9:=by
 have h:v=0\/v=1\/v=2:=by omega
 rcases h with rfl | rfl | rfl
 ·exact ⟨1,rfl,by omega,by omega⟩
 ·exact ⟨4,rfl,by omega,by omega⟩
 ·exact ⟨9,rfl,by omega,by omega⟩
theorem Vf {v:Int}(a:0<=v) (b:v<3):∃ n,atI [V.int 1,V.int 3,V.int 7] v=some (V.int n)/\0<n/\n<=7:=by
 have h:v=0\/v=1\/v=2:=by omega
 rcases h with rfl | rfl | rfl
 ·exact ⟨1,rfl,by omega,by omega⟩
 ·exact ⟨3,rfl,by omega,by omega⟩
 ·exact ⟨7,rfl,by omega,by omega⟩
theorem WB {v:Int}(a:0<=v) (b:v<2):∃ n,atI [V.int 2,V.int 9] v=some (V.int n)/\0<n/\n<=9:=by
 have h:v=0\/v=1:=by omega
 rcases h with rfl | rfl
 ·exact ⟨2,rfl,by omega,by omega⟩
 ·exact ⟨9,rfl,by omega,by omega⟩
theorem hX {rs:List Rch}(L:xl rs) (h:1<=rs.length):1<=(jt rs).length:=by
 have:(rs.length-1)∈jt rs:=by
  refine List.mem_filter.mpr ⟨List.mem_range.mpr (by omega),?_⟩
  unfold jO
  rw [decide_eq_false]
  ·rfl
  ·intro z
   have:=QF L z
   omega
 exact List.length_pos_of_mem this
def XI:Sp:=fun vs H Q _=>∃ (L b:Addr),vs=[.ref b]/\jS L H b/\∀ sd H' c,jS L H' b->Ext b H H'->ScAt H' sd c->ScOk b c->Q (.ref sd) H'
theorem qS:FnScope ["_law_box_here","_law_reaches_here","_law_scene_here","_law_turn","_law_lane"] ["_law_box_here"] (j6 xT):=by walk_at "s"
theorem YI {f:Addr}{fd:FuncData}(nb:Nb2 mg) (c_law_take:Cal P w K mg base 2 "_law_take" ["_law_box_here","_law_size"] xJ) (c_law_reaches:Cal P w K mg base 4 "_law_reaches" ["_law_box_here"] k8) (c_law_round:Cal P w K mg base 4 "_law_round" ["_law_box_here"] uJ) (c_law_ground:Cal P w K mg base 1 "_law_ground" ["_law_reaches_here","_law_road"] (Q7 K)) (c_law_roads:Cal P w K mg base 1 "_law_roads" ["_law_reaches_here"] (Qk K)) (c_law_year:Cal P w K mg base 3 "_law_year" ["_law_box_here"] QO) (c_law_weather:Cal P w K mg base 3 "_law_weather" ["_law_box_here"] ub)
  (F:Fun K "_law_scene" "_law_scene" xT f fd):FnOk P w K mg base CX0 5 f fd ["_law_box_here"] XI:=by
 refine F.ok qS (fun vs H Q E h=>?_) (fun cdv A outer s H vs Q E hr h=>?_)
 ·obtain ⟨L,b,rfl,_⟩:=h
  rfl
 ·obtain ⟨L,b,rfl,B,k⟩:=h
  refine ⟨_,(j5 (je (i:=1) qS.nd rfl (Or.inr rfl) (jd c_law_reaches (hr.mono (by decide)) rfl (j0 (pv 0) j2)))
   (j5 (je (i:=2) qS.nd rfl (Or.inl rfl) (VJ (wu jo (pv 1) (wu jo (jd c_law_round (hr.mono (by decide)) rfl (j0 (pv 0) j2)) (wu jo vK Vw))) rfl rfl (fun z=>by cases z) (by decide)))
   (j5 (yD (jY hr) (pv 2) jo (jZ (osc:=(j6 xT)) (ON:=["_law_box_here","_law_reaches_here","_law_scene_here","_law_turn","_law_lane"]) (N:=["_law_road","_law_reaches_here"]) (own:=1) (caps:=[1]) ⟨rfl,by walk_at "k",by walk_at "k",by walk_at "k",rfl,by walk_at "k"⟩ rfl rfl rfl (qc K (jd c_law_roads (hr.mono (by decide)) rfl (j0 (pv 1) j2))) (fun _ _ _ _ _=>(ja (i:=0) (show List.Nodup (["_law_road","_law_reaches_here"]:List Str) by decide +kernel) rfl (Or.inl rfl))) (fun _ _ _ _ _=>jQ) (fun _ _ _ _ _=>(jd c_law_ground (hr.mono (by decide)) rfl (j0 (pv 1) (j0 (pv 0) j2))))) rfl)
   (xc (yD (jY hr) (pv 2) jo (jZ (osc:=(j6 xT)) (ON:=["_law_box_here","_law_reaches_here","_law_scene_here","_law_turn","_law_lane"]) (N:=["_law_ground_here"]) (own:=1) (caps:=[]) ⟨rfl,by walk_at "k",by walk_at "k",by walk_at "k",rfl,by walk_at "k"⟩ rfl rfl rfl (qc K (jH (jY hr) (pv 2) jo (fun _ _=>rfl))) (fun _ _ _ _ _=>(ja (i:=0) (show List.Nodup (["_law_ground_here"]:List Str) by decide +kernel) rfl (Or.inl rfl))) (fun _ _ _ _ _=>jQ) (fun _ _ _ _ _=>vK)) rfl)
   (xc (qK PassesOwn.never rfl (qw rfl nb.b_range (j0 (jd c_law_take (hr.mono (by decide)) rfl (j0 (pv 0) (j0 (jn (jb K) (jK (j0 j4 (j0 j4 (j0 j4 j2)))) (jd c_law_take (hr.mono (by decide)) rfl (j0 (pv 0) (j0 j4 j2))) (fun _ _=>rfl)) j2))) j2)) (ja (i:=3) qS.nd rfl (Or.inl rfl)) (j9 (yD (jY hr) (jH (jY hr) (pv 2) jo (fun _ _=>rfl)) (jd c_law_year (hr.mono (by decide)) rfl (j0 (pv 0) j2)) (jd c_law_weather (hr.mono (by decide)) rfl (j0 (pv 0) j2)) rfl)))
   (j5 (qK PassesOwn.never rfl (qw rfl nb.b_range (j0 (jd c_law_take (hr.mono (by decide)) rfl (j0 (pv 0) (j0 (jn (jb K) (jK (j0 j4 (j0 j4 (j0 j4 j2)))) (jd c_law_take (hr.mono (by decide)) rfl (j0 (pv 0) (j0 j4 j2))) (fun _ _=>rfl)) j2))) j2)) (ja (i:=3) qS.nd rfl (Or.inl rfl)) (j5 (je (i:=4) qS.nd rfl (Or.inl rfl) (jd c_law_take (hr.mono (by decide)) rfl (j0 (pv 0) (j0 (jf (jg K) rfl nb.b_len PySem.boot_len (j0 (jH (jY hr) (pv 2) jo (fun _ _=>rfl)) j2)) j2))))
   (j9 (yD (jY hr) (jn (jb K) (jH (jY hr) (pv 2) jo (fun _ _=>rfl)) (pv 4) (fun _ _=>rfl)) (jd c_law_year (hr.mono (by decide)) rfl (j0 (pv 0) j2)) (jh jN j4 (jd c_law_take (hr.mono (by decide)) rfl (j0 (pv 0) (j0 (jn (jb K) (jK (j0 j4 (j0 j4 j2))) (jd c_law_take (hr.mono (by decide)) rfl (j0 (pv 0) (j0 j4 j2))) (fun _ _=>rfl)) j2)))) rfl))))
   (j9 (jj (pv 2))))))))),?_⟩
  left
  refine ⟨L,b,rfl,B,fun p H1 xs rs B1 X1 hp hp1 r1 g1 l1 l8=>?_⟩
  have pb:p≠b:=B.ne hp
  left
  intro sd hsd
  have sdb:sd≠b:=B1.ne hsd
  have sd0:H sd=none:=X1.free hsd sdb
  left
  have Ba:jS L (upd H1 sd (.dK [])) b:=B1.put sdb (B1.neL hsd)
  refine ⟨L,b,rfl,Ba,fun q Hb ys ts Bb Xb hq hqb r3b ht12 htg=>?_⟩
  have qb:q≠b:=Ba.ne hq
  have qsd:q≠sd:=fun z=>by rw [z,j7] at hq;cases hq
  have sdB:Hb sd=some (.dK []):=Xb _ _ j7 sdb
  have pB:Hb p=some (.lst xs):=Xb _ _ (by rw [j8 (j1 hp1 hsd)];exact hp1) pb
  have rB:jU Hb xs rs:=(r1.keep (jp.same (ji.new hsd))).keep (zK Ba Xb)
  have XB:Ext b H Hb:=(X1.trans (Ext.new hsd)).trans Xb
  left
  intro sg hsg
  have sgb:sg≠b:=Bb.ne hsg
  have sg0:H sg=none:=XB.free hsg sgb
  have sgsd:sg≠sd:=(j1 sdB hsg).symm
  left
  refine ⟨by rw [j8 sgsd.symm];exact sdB,[(.inr "reaches",.ref p),(.inr "rows",.ref q),(.inr "single",.ref sg)],rfl,by show 3<=15;decide,?_⟩
  have sC:ji Hb (upd Hb sg (.dK [])):=ji.new hsg
  have nD:∀ {a:Addr} {o:HO},Hb a=some o->a≠sd->(upd (upd Hb sg (.dK [])) sd (.dK (x3 [] [(.inr "reaches",.ref p),(.inr "rows",.ref q),(.inr "single",.ref sg)]))) a=some o:=fun h n=>by rw [j8 n];exact sC _ _ h
  have dD:(upd (upd Hb sg (.dK [])) sd (.dK (x3 [] [(.inr "reaches",.ref p),(.inr "rows",.ref q),(.inr "single",.ref sg)]))) sd=some (.dK (x3 [] [(.inr "reaches",.ref p),(.inr "rows",.ref q),(.inr "single",.ref sg)])):=j7
  have pD:=nD pB (jr pB sdB (by walk_at "z"))
  have rD:jU (upd (upd Hb sg (.dK [])) sd (.dK (x3 [] [(.inr "reaches",.ref p),(.inr "rows",.ref q),(.inr "single",.ref sg)]))) xs rs:=rB.keep fun _ _ h=>nD h (jr h sdB (by walk_at "z"))
  have qD:=nD hqb qsd
  have r3D:qM (upd (upd Hb sg (.dK [])) sd (.dK (x3 [] [(.inr "reaches",.ref p),(.inr "rows",.ref q),(.inr "single",.ref sg)]))) ys ts:=r3b.imp fun _ _ h=>nD h (jr h sdB (by walk_at "z"))
  have sgD:(upd (upd Hb sg (.dK [])) sd (.dK (x3 [] [(.inr "reaches",.ref p),(.inr "rows",.ref q),(.inr "single",.ref sg)]))) sg=some (.dK []):=by rw [j8 sgsd];exact j7
  have BD:jS L (upd (upd Hb sg (.dK [])) sd (.dK (x3 [] [(.inr "reaches",.ref p),(.inr "rows",.ref q),(.inr "single",.ref sg)]))) b:=(Bb.same sC).put sdb (B1.neL hsd)
  have XD:Ext b H (upd (upd Hb sg (.dK [])) sd (.dK (x3 [] [(.inr "reaches",.ref p),(.inr "rows",.ref q),(.inr "single",.ref sg)]))):=fun c o h n=>nD (XB c o h n) (j1 h sd0)
  clear nD sC hsg sdB pB rB XB hqb r3b Bb Xb hq Ba
  generalize (upd (upd Hb sg (.dK [])) sd (.dK (x3 [] [(.inr "reaches",.ref p),(.inr "rows",.ref q),(.inr "single",.ref sg)])))=Hd at *
  have Ld:=qg g1.ok
  left
  refine ⟨p,xs,rs,rfl,pD,rD,Ld,by omega,fun l He out ws hl hle w1 hR s1=>?_⟩
  left
  refine ⟨⟨_,SqL.of hle⟩,fun gl hgl=>?_⟩
  have hlw:out.length=ws.length:=Paired.length w1
  have hws:ws.length<=6:=by rw [hR.length];exact g1.heads
  have h100:∀ r∈rs,r.2.length<=100:=fun r hr=>Nat.le_trans (XJ g1 r hr) (by decide)
  have BE:=BD.same s1
  have glb:gl≠b:=BE.ne hgl
  refine qf (K:=K) (a:=l) (xs:=out) (acc:=gl) (fun i σ H2=>∃ (x:Option V) (zs:List V),σ=[x,some (.ref p)]/\H2 gl=some (.lst zs)/\zs.length=i/\Paired (fun v (w:List Int)=>∃ a,v=V.ref a/\H2 a=some (.lst (w.map V.int))/\He a=none/\a≠gl) zs ((ws.take i).map (jc rs))/\Ext gl He H2) ?_ ?_ ?_ ?_
  ·exact ⟨none,[],rfl,j7,rfl,.nil,Ext.put⟩
  ·rintro i σ H2 hi ⟨x,zs,rfl,h2,hz,r2,e2⟩
   exact SqL.of (e2 _ _ hle (j1 hle hgl))
  ·rintro i v σ H2 hv ⟨x,zs,rfl,h2,hz,r2,e2⟩
   obtain ⟨wy,hwy,a,rfl,ha1⟩:=Paired.get w1 hv
   have hi:=(List.getElem?_eq_some_iff.mp hwy).1
   obtain ⟨x',hx',ewy⟩:=hR.mem (List.mem_of_getElem? hwy)
   have ha2:=e2 _ _ ha1 (j1 ha1 hgl)
   have hr1:=s1 _ _ pD
   have hl':=vy Ld x' (xA hx')
   have:=xA hx'
   left
   refine ⟨p,a,xs,rs,wy,rfl,e2 _ _ hr1 (j1 hr1 hgl),(rD.keep (jp.same s1)).keep (jp.new e2 hgl),h100,ha2,by rw [ewy];exact xS Ld x' (xA hx'),by rw [ewy];omega,fun t H3 ht ht3 s3=>?_⟩
   have ta:t≠gl:=(j1 h2 ht).symm
   refine ⟨zs,s3 _ _ h2,jm (by omega),some (.ref a),zs++[.ref t],rfl,j7,by rw [List.length_append,hz];rfl,?_,fun c o hc n=>by rw [j8 n];exact s3 _ _ (e2 c o hc n)⟩
   rw [qx (jc rs) ws i wy hwy]
   exact Paired.snoc (Paired.mapP r2 fun v wy ⟨a,e,ha,h0,na⟩=>⟨a,e,by rw [j8 na];exact s3 _ _ ha,h0,na⟩) ⟨t,rfl,by rw [j8 ta];exact ht3,e2.free ht ta,ta⟩
  rintro σ H2 ⟨x,zs,rfl,h2,hz,r2,e2⟩
  rw [hlw,List.take_length] at r2
  have gi2:yf H2 zs (ws.map (jc rs)):=Paired.mapP r2 fun v wy ⟨a,e,ha,h0,na⟩=>⟨a,e,ha⟩
  have zb:V.ref b∉zs:=fun z=>by
   obtain ⟨_,a,e,_,h0,_⟩:=pm r2 _ z
   cases e
   exact absurd rfl (BE.ne h0)
  have s2:ji Hd H2:=fun c o hc=>e2 _ _ (s1 _ _ hc) (j1 (s1 _ _ hc) hgl)
  have gl0:Hd gl=none:=s1.free hgl
  left
  refine ⟨sd,_,rfl,kQ.k (k:=.inr "grounds") (s2 _ _ dD) (jm (Nat.le_trans (zH _ _) (by show 0+3<=1000;decide))),?_⟩
  rw [put4]
  have nF:∀ {a:Addr} {o:HO},H2 a=some o->(∀ kvs,o≠.dK kvs)->(upd H2 sd (.dK [((.inr "reaches",.ref p):Key×V),(.inr "rows",.ref q),(.inr "single",.ref sg),(.inr "grounds",.ref gl)])) a=some o:=fun h n=>by rw [j8 (jr h (s2 _ _ dD) (n _))];exact h
  have dF:(upd H2 sd (.dK [((.inr "reaches",.ref p):Key×V),(.inr "rows",.ref q),(.inr "single",.ref sg),(.inr "grounds",.ref gl)])) sd=some (.dK [((.inr "reaches",.ref p):Key×V),(.inr "rows",.ref q),(.inr "single",.ref sg),(.inr "grounds",.ref gl)]):=j7
  have pF:=nF (s2 _ _ pD) (by walk_at "w")
  have qF:=nF (s2 _ _ qD) (by walk_at "w")
  have rF:jU (upd H2 sd (.dK [((.inr "reaches",.ref p):Key×V),(.inr "rows",.ref q),(.inr "single",.ref sg),(.inr "grounds",.ref gl)])) xs rs:=rD.keep fun _ _ h=>nF (s2 _ _ h) (by walk_at "w")
  have r3F:qM (upd H2 sd (.dK [((.inr "reaches",.ref p):Key×V),(.inr "rows",.ref q),(.inr "single",.ref sg),(.inr "grounds",.ref gl)])) ys ts:=r3D.imp fun _ _ h=>nF (s2 _ _ h) (by walk_at "w")
  have gF:=nF h2 (by walk_at "w")
  have giF:yf (upd H2 sd (.dK [((.inr "reaches",.ref p):Key×V),(.inr "rows",.ref q),(.inr "single",.ref sg),(.inr "grounds",.ref gl)])) zs (ws.map (jc rs)):=Paired.mapP gi2 fun v wy ⟨a,e,ha⟩=>⟨a,e,nF ha (by walk_at "w")⟩
  have sgF:(upd H2 sd (.dK [((.inr "reaches",.ref p):Key×V),(.inr "rows",.ref q),(.inr "single",.ref sg),(.inr "grounds",.ref gl)])) sg=some (.dK []):=by rw [j8 sgsd];exact s2 _ _ sgD
  have BF:jS L (upd H2 sd (.dK [((.inr "reaches",.ref p):Key×V),(.inr "rows",.ref q),(.inr "single",.ref sg),(.inr "grounds",.ref gl)])) b:=(BD.same s2).put sdb (B1.neL hsd)
  have XF:Ext b H (upd H2 sd (.dK [((.inr "reaches",.ref p):Key×V),(.inr "rows",.ref q),(.inr "single",.ref sg),(.inr "grounds",.ref gl)])):=fun c o h n=>by rw [j8 (j1 h sd0)];exact s2 _ _ (XD c o h n)
  clear nF gi2 s2 h2 r2 e2 BE hgl s1 w1 hle hl pD rD qD r3D sgD BD XD dD h100
  generalize (upd H2 sd (.dK [((.inr "reaches",.ref p):Key×V),(.inr "rows",.ref q),(.inr "single",.ref sg),(.inr "grounds",.ref gl)]))=Hf at *
  have hzw:zs.length<=6:=by omega
  refine ⟨fun σ H5=>∃ c,σ=[some (.ref b),some (.ref p),some (.ref sd),none,none]/\ScB L b H H5 sd c/\c.sk=[]/\∀ x∈c.lds,x.2=[],?_,?_⟩
  ·left
   refine ⟨sd,.ref gl,rfl,by rw [<- Q8 p q sg gl];exact qT.k (k:=.inr "grounds") dF,?_⟩
   left
   refine ⟨⟨_,SqL.of gF⟩,fun le hle=>?_⟩
   have leb:le≠b:=BF.ne hle
   refine qf (K:=K) (a:=gl) (xs:=zs) (acc:=le) (fun i σ He=>∃ (x:Option V) (lds:List (Addr×List (Int×Int))),σ=[x]/\He le=some (.lst (lds.map fun x=>V.ref x.1))/\lds.length=i/\(∀ x∈lds,He x.1=some (.dK [])/\x.2=[]/\Hf x.1=none/\x.1≠le)/\(lds.map (·.1)).Nodup/\Ext le Hf He) ?_ ?_ ?_ ?_
   ·exact ⟨none,[],rfl,j7,rfl,(fun x z=>by cases z),List.nodup_nil,Ext.put⟩
   ·rintro i σ He hi ⟨x,lds,rfl,he,hl,hd,nn,e⟩
    exact SqL.of (e _ _ gF (j1 gF hle))
   ·rintro i v σ He hv ⟨x,lds,rfl,he,hl,hd,nn,e⟩
    have hi:=(List.getElem?_eq_some_iff.mp hv).1
    left
    intro d hd0
    have dl:d≠le:=(j1 he hd0).symm
    refine ⟨_,(by rw [j8 (Ne.symm dl)];exact he),by rw [List.length_map];exact jm (by omega),some v,lds++[(d,[])],rfl,(by rw [j7,List.map_append];rfl),(by rw [List.length_append,hl];rfl),fun y hy=>?_,?_,fun c o hc n=>?_⟩
    ·rcases List.mem_append.mp hy with z | z
     ·obtain ⟨h1,h2,h3,h4⟩:=hd y z
      exact ⟨by rw [j8 h4,j8 (j1 h1 hd0)];exact h1,h2,h3,h4⟩
     ·obtain rfl:y=(d,[]):=by simpa using z
      exact ⟨by rw [j8 dl];exact j7,rfl,e.free hd0 dl,dl⟩
    ·rw [List.map_append]
     refine w9 nn fun z=>?_
     obtain ⟨y,hy,ey⟩:=List.mem_map.mp z
     have:=(hd y hy).1
     rw [ey,hd0] at this
     cases this
    ·rw [j8 n,j8 (j1 (e c o hc n) hd0)]
     exact e c o hc n
   ·rintro σ He ⟨x,lds,rfl,he,hl,hd,nn,e⟩
    have sE:ji Hf He:=fun c o h=>e c o h (j1 h hle)
    left
    refine ⟨sd,_,rfl,kQ.k (k:=.inr "leaps") (sE _ _ dF) (by show 4<sizeLine;decide),?_⟩
    rw [put5]
    have nG:∀ {a:Addr} {o:HO},He a=some o->(∀ kvs,o≠.dK kvs)->(upd He sd (.dK (scK p q sg gl le))) a=some o:=fun h n=>by rw [j8 (jr h (sE _ _ dF) (n _))];exact h
    have lG:∀ x∈lds,(upd He sd (.dK (scK p q sg gl le))) x.1=some (.dK (x.2.map kvI)):=fun x hx=>by
     obtain ⟨h1,h2,h3,h4⟩:=hd x hx
     rw [j8 (j1 dF h3).symm,h2]
     exact h1
    have sgG:(upd He sd (.dK (scK p q sg gl le))) sg=some (.dK []):=by rw [j8 sgsd];exact sE _ _ sgF
    refine ⟨⟨p,q,sg,gl,le,xs,ys,zs,rs,ts,ws,[],lds⟩,rfl,⟨⟨j7,nG (sE _ _ pF) (by walk_at "w"),rF.keep fun _ _ h=>nG (sE _ _ h) (by walk_at "w"),nG (sE _ _ qF) (by walk_at "w"),r3F.imp fun _ _ h=>nG (sE _ _ h) (by walk_at "w"),nG (sE _ _ gF) (by walk_at "w"),Paired.mapP giF fun v wy ⟨a,e,ha⟩=>⟨a,e,nG (sE _ _ ha) (by walk_at "w")⟩,nG he (by walk_at "w"),.inl sgG,(fun z hz=>by cases hz),fun x hx=>.inl (lG x hx)⟩,
     ⟨g1,l1,l8,ht12.1,ht12.2,htg,hR,hl.trans (hz.trans hlw),nn,fun x hx=>(j1 sgF (hd x hx).2.2.1).symm,pb,qb,glb,leb,zb,List.nodup_nil,(fun z hz=>by cases hz),Nat.zero_le _,(fun x hx=>by rw [(hd x hx).2.1];exact List.nodup_nil),(fun x hx=>by rw [(hd x hx).2.1];intro z hz;cases hz),(fun x hx=>by rw [(hd x hx).2.1];exact Nat.zero_le _)⟩,sgG,lG,(BF.same sE).put sdb (B1.neL hsd),fun c o h n=>?_,sg0,fun x hx=>?_⟩,rfl,fun x hx=>(hd x hx).2.1⟩
    ·rw [j8 (j1 h sd0)]
     exact sE _ _ (XF c o h n)
    ·exact XF.free (hd x hx).2.2.1 (BF.ne (hd x hx).2.2.1)
  rintro σ H5 ⟨c,rfl,S5,k5,l5⟩
  clear dF pF qF rF r3F gF giF sgF BF XF zb hlw hws hz hzw
  refine ⟨fun σ H6=>∃ (x:Option V) (c:ScN),σ=[some (.ref b),some (.ref p),some (.ref sd),x,none]/\ScB L b H H6 sd c/\∀ x∈c.lds,x.2=[],?_,?_⟩
  ·left
   refine ⟨by show 3<=sizeLine;decide,fun l6 H6 hl6 hl66 s6=>?_⟩
   have S6:=S5.same s6
   have l6b:l6≠b:=S5.B.ne hl6
   left
   refine ⟨L,b,_,rfl,S6.B,⟨by decide,by decide⟩,fun v7 H7 p7 q7 B7 X7=>?_⟩
   have S7:=S6.take B7 X7
   obtain ⟨n,hn,n0,n1⟩:=VS p7 q7
   refine ⟨_,_,_,_,rfl,rfl,SqL.of (X7 _ _ hl66 l6b),hn,?_⟩
   left
   refine ⟨L,b,_,rfl,S7.B,⟨n0,by omega⟩,fun v8 H8 p8 q8 B8 X8=>?_⟩
   have S8:=S7.take B8 X8
   left
   refine ⟨by omega,by omega,?_⟩
   refine xk (fun i σ H2=>∃ (x:Option V) (c:ScN),σ=[some (.ref b),some (.ref p),some (.ref sd),x,none]/\ScB L b H H2 sd c/\c.sk.length<=i/\∀ x∈c.lds,x.2=[]) ?_ ?_ ?_
   ·exact ⟨none,c,rfl,S8,by rw [k5];exact Nat.le_refl _,l5⟩
   ·rintro i σ H2 hi ⟨x,c,rfl,S,hk,hl⟩
    left
    refine ⟨L,b,rfl,S.B,fun t H9 r B9 X9 ht hg=>?_⟩
    have S9:=S.take B9 X9
    left
    refine ⟨sd,.ref c.sg,rfl,by rw [<- zM c.p c.q c.sg c.gl c.ll];exact qT.k (k:=.inr "single") S9.S.sd,?_⟩
    left
    refine ⟨L,b,rfl,S9.B,fun y H10 y0 y1 B10 X10=>?_⟩
    have S10:=S9.take B10 X10
    refine ⟨c.sg,_,rfl,kQ.k (k:=.inl y) S10.r1 (by rw [List.length_map];exact jm (by have:=S10.O.k3;omega)),?_⟩
    exact ⟨_,{ c with sk:=xF c.sk y t },rfl,S10.single y0 y1 (X10 _ _ ht (S9.B.ne_tup ht)) hg (by omega),Nat.le_trans (vF _ _ _) (by omega),hl⟩
   ·rintro σ H2 ⟨x,c,rfl,S,hk,hl⟩
    exact ⟨x,c,rfl,S,hl⟩
  clear S5 k5 l5
  rintro σ H6 ⟨x,c,rfl,S6,l6⟩
  left
  refine ⟨by show 3<=sizeLine;decide,fun l7 H7 hl7 hl77 s7=>?_⟩
  have S7:=S6.same s7
  have l7b:l7≠b:=S6.B.ne hl7
  left
  refine ⟨L,b,_,rfl,S7.B,⟨by decide,by decide⟩,fun v8 H8 p8 q8 B8 X8=>?_⟩
  have S8:=S7.take B8 X8
  obtain ⟨n,hn,n0,n1⟩:=Vf p8 q8
  refine ⟨_,_,_,_,rfl,rfl,SqL.of (X8 _ _ hl77 l7b),hn,?_⟩
  left
  refine ⟨L,b,_,rfl,S8.B,⟨n0,by omega⟩,fun v9 H9 p9 q9 B9 X9=>?_⟩
  have S9:=S8.take B9 X9
  left
  refine ⟨by omega,by omega,?_⟩
  refine xk (fun i σ H2=>∃ (x y:Option V) (c:ScN),σ=[some (.ref b),some (.ref p),some (.ref sd),x,y]/\ScB L b H H2 sd c/\∀ x∈c.lds,x.2.length<=i) ?_ ?_ ?_
  ·exact ⟨x,none,c,rfl,S9,fun x hx=>by rw [l6 x hx];exact Nat.le_refl _⟩
  ·rintro i σ H2 hi ⟨x,y',c,rfl,S,hl⟩
   have hw1:1<=c.ws.length:=by
    rw [S.O.ro.length]
    exact hX (qg S.O.gr.ok) S.O.l1
   have hzl:c.zs.length=c.ws.length:=(Paired.length S.S.gi).trans (List.length_map _)
   have hw6:c.ws.length<=6:=by rw [S.O.ro.length];exact S.O.gr.heads
   left
   refine ⟨sd,.ref c.gl,rfl,by rw [<- xD c.p c.q c.sg c.gl c.ll];exact qT.k (k:=.inr "grounds") S.S.sd,?_⟩
   left
   refine ⟨c.gl,_,rfl,.inl (SqL.of S.S.gl),?_⟩
   left
   refine ⟨L,b,_,rfl,S.B,⟨by omega,by omega⟩,fun ln H10 ln0 ln1 B10 X10=>?_⟩
   have S10:=S.take B10 X10
   left
   refine ⟨by show 2<=sizeLine;decide,fun l11 H11 hl11 hl11' s11=>?_⟩
   have S11:=S10.same s11
   have l11b:l11≠b:=S10.B.ne hl11
   left
   refine ⟨L,b,_,rfl,S11.B,⟨by decide,by decide⟩,fun v12 H12 p12 q12 B12 X12=>?_⟩
   have S12:=S11.take B12 X12
   obtain ⟨n,hn,n0,n1⟩:=WB p12 q12
   refine ⟨_,_,_,_,rfl,rfl,SqL.of (X12 _ _ hl11' l11b),hn,?_⟩
   left
   refine ⟨L,b,_,rfl,S12.B,⟨n0,by omega⟩,fun v13 H13 p13 q13 B13 X13=>?_⟩
   have S13:=S12.take B13 X13
   left
   have hll:ln.toNat<c.lds.length:=by rw [S.O.ldl];omega
   obtain ⟨⟨a,ns⟩,ha⟩:∃ z,c.lds[ln.toNat]? = some z:=⟨_,List.getElem?_eq_getElem hll⟩
   refine ⟨sd,.ref c.ll,rfl,by rw [<- wg c.p c.q c.sg c.gl c.ll];exact qT.k (k:=.inr "leaps") S13.S.sd,?_⟩
   left
   refine ⟨_,_,_,_,rfl,rfl,SqL.of S13.S.ll,qo ln0 (v:=V.ref a) (by rw [List.getElem?_map,ha];rfl),?_⟩
   left
   refine ⟨L,b,rfl,S13.B,fun y H14 y0 y1 B14 X14=>?_⟩
   have S14:=S13.take B14 X14
   have hns:=hl _ (List.mem_of_getElem? ha)
   refine ⟨a,_,rfl,kQ.k (k:=.inl y) (S14.r2 _ (List.mem_of_getElem? ha)) (by rw [List.length_map];exact jm (by have:ns.length<=i:=hns;omega)),?_⟩
   have hns:ns.length<=i:=hns
   refine ⟨_,_,{ c with lds:=c.lds.set ln.toNat (a,xF ns y (1+v13)) },rfl,S14.leap ha y0 y1 (by omega) (by omega) (by omega),fun x hx=>?_⟩
   rcases vA S.O.nd ha hx with z | ⟨z,_⟩
   ·subst z
    exact Nat.le_trans (vF _ _ _) (by omega)
   ·exact Nat.le_succ_of_le (hl x z)
  ·rintro σ H2 ⟨x,y',c,rfl,S,hl⟩
   left
   exact k sd H2 c S.B S.X S.S S.O
end
section
variable {P:Program}{w:World}{K:PySem.W.Frag}{mg:Str->Option Value}{base:Heap}
theorem IceNew.made {C Pt p dx:Addr}{H H':Hp}{g:IceG}{o o':HO}(hp:H p=none) (hd:H dx=none) (I:IceNew C Pt (upd (upd H dx o) p o') H' p g):IceNew C Pt H H' p g:=by
 have s:ji H (upd (upd H dx o) p o'):=fun c u h=>by rw [j8 (j1 h hp),j8 (j1 h hd)];exact h
 exact ⟨I.at_,fun c u h n m=>I.keep c u (s c u h) n m,s.free I.va,s.free I.cy,s.free I.sl,s.free I.ye,s.free I.le,fun a z=>s.free (I.zs a z),I.kvs,fun x hx=>⟨s.free (I.lds x hx).1,(I.lds x hx).2⟩,I.ll,I.nd,I.ny,I.sl2⟩
structure IceFr (H:Hp) (p:Addr) (g:IceG):Prop where
 p:H p=none
 va:H g.va=none
 cy:H g.cy=none
 sl:H g.sl=none
 ye:H g.ye=none
 le:H g.le=none
 zs:∀ a,V.ref a∈g.zs->H a=none
 lds:∀ x∈g.lds,H x.1=none
theorem IceAt.stay {C p:Addr}{H H2 H3:Hp}{g:IceG}(I:IceAt C H2 p g) (F:IceFr H p g) (f:∀ a o,H2 a=some o->H a=none->H3 a=some o) (t:jp H2 H3):IceAt C H3 p g :=
 ⟨f _ _ I.ob F.p,f _ _ I.va F.va,I.rs.keep t,f _ _ I.cy F.cy,I.rows.imp fun _ _ q=>t _ _ q,f _ _ I.sl F.sl,pmM I.slopes fun v hv w ⟨a,ea,q⟩=>⟨a,ea,f _ _ q (F.zs a (ea ▸ hv))⟩,f _ _ I.ye F.ye,f _ _ I.le F.le,fun x hx=>f _ _ (I.lds x hx) (F.lds x hx)⟩
theorem Fr3.ext {N M:Addr->Prop}{H H2 H3:Hp}{a:Addr}(f:Fr3 N M H H2) (e:Ext a H2 H3) (ha:H a=none):Fr3 N M H H3:=fun c o h n=>by
 have ca:c≠a:=j1 h ha
 rcases f c o h n with q | ⟨m,ob,kvs,eo,q⟩
 ·exact .inl (e _ _ q ca)
 ·exact .inr ⟨m,ob,kvs,eo,e _ _ q ca⟩
theorem Fr3.same {N M:Addr->Prop}{H H2 H3:Hp}(f:Fr3 N M H H2) (e:ji H2 H3):Fr3 N M H H3:=fun c o h n=>by
 rcases f c o h n with q | ⟨m,ob,kvs,eo,q⟩
 ·exact .inl (e _ _ q)
 ·exact .inr ⟨m,ob,kvs,eo,e _ _ q⟩
theorem Fr3.frz {N M:Addr->Prop}{H H2:Hp}{a:Addr}{ob:Obj}{kvs:List (Key×V)}(f:Fr3 N M H H2) (h:H2 a=some (.dK kvs)) (m:M a):Fr3 N M H (upd H2 a (.frz ob (.dK kvs))):=fun c o hc n=>by
 by_cases e:c=a
 ·subst e
  rcases f c o hc n with q | ⟨_,ob',kvs',eo,q⟩
  ·rw [h] at q
   cases q
   exact .inr ⟨m,ob,kvs,rfl,j7⟩
  ·rw [h] at q
   cases q
 ·rw [j8 e]
  exact f c o hc n
theorem ZT {H:Hp}{a:Addr}{ob:Obj}{kvs:List (Key×V)}(h:H a=some (.dK kvs)):jp H (upd H a (.frz ob (.dK kvs))):=fun c xs q=>by rw [j8 (jr q h (by walk_at "z"))];exact q
theorem Ve {H:Hp}{a Pt:Addr}{ob:Obj}{kvs:List (Key×V)}(T:qC H Pt) (h:H a=some (.dK kvs)):qC (upd H a (.frz ob (.dK kvs))) Pt:=by
 rcases T with q | ⟨c,q,q'⟩
 ·exact .inl (by rw [j8 (jr q h (by walk_at "z"))];exact q)
 ·exact .inr ⟨c,by rw [j8 (jr q h (by walk_at "z"))];exact q,by rw [j8 (jr q' h (by walk_at "z"))];exact q'⟩
theorem Qp {H H':Hp}{a Pt:Addr}{kvs:List (Key×V)}(T:qC H Pt) (h:H a=some (.dK kvs)) (e:Ext a H H'):qC H' Pt:=by
 rcases T with q | ⟨c,q,q'⟩
 ·exact .inl (e _ _ q (jr q h (by walk_at "z")))
 ·exact .inr ⟨c,e _ _ q (jr q h (by walk_at "z")),e _ _ q' (jr q' h (by walk_at "z"))⟩
theorem UZ {ns:List (Int×Addr)}{i:Nat}{q:Key×V}(h:(ns.map kvA)[i]? = some q):∃ z,ns[i]? = some z/\q=kvA z:=by
 rw [List.getElem?_map] at h
 cases e:ns[i]? with
 | none=>rw [e] at h;cases h
 | some z=>rw [e] at h;cases h;exact ⟨z,rfl,rfl⟩
theorem hE:∀ {ns:List (Int×Addr)},(ns.map (·.1)).Nodup->∀ {z:Int×Addr},z∈ns->qL (ns.map kvA) (.inl z.1)=some (.ref z.2)
 | [],_,z,h=>by cases h
 | q::r,nd,z,h=>by
  rw [List.map_cons] at nd
  obtain ⟨h1,h2⟩:=List.nodup_cons.mp nd
  rw [List.map_cons]
  rcases List.mem_cons.mp h with e | e
  ·subst e
   exact xp
  ·have ne:¬ q.1=z.1:=fun w=>h1 (by rw [w];exact List.mem_map_of_mem e)
   show qL ((.inl q.1,.ref q.2)::r.map kvA) (.inl z.1)=_
   rw [jy (fun w=>ne (Sum.inl.inj w))]
   exact hE h2 e
theorem YR {α:Type}{l:List (Int×α)}{y:Int}{a:α}(h:y∉l.map (·.1)):xF l y a=l++[(y,a)]:=by
 unfold xF
 rw [if_neg]
 intro z
 obtain ⟨u,hu,e⟩:=List.any_eq_true.mp z
 exact h (of_decide_eq_true e ▸ List.mem_map_of_mem hu)
theorem QU {α:Type}{l:List (Int×α)}(nd:(l.map (·.1)).Nodup) {i:Nat}{z:Int×α}(h:l[i]? = some z):z.1∉(l.take i).map (·.1):=fun m=>by
 obtain ⟨hi,e⟩:=List.getElem?_eq_some_iff.mp h
 obtain ⟨u,hu,eu⟩:=List.mem_map.mp m
 obtain ⟨j,hj,ej⟩:=List.mem_iff_getElem.mp hu
 rw [List.length_take] at hj
 rw [List.getElem_take] at ej
 have h1:(l.map (·.1))[j]'(by rw [List.length_map];omega)=(l.map (·.1))[i]'(by rw [List.length_map];exact hi):=by rw [List.getElem_map,List.getElem_map,ej,e,eu]
 exact absurd h1 (List.pairwise_iff_getElem.mp nd j i _ _ (by omega))
theorem JV {α:Type}{f:α->V}{l:List (Int×α)}(nd:(l.map (·.1)).Nodup) {i:Nat}{z:Int×α}(h:l[i]? = some z):qG ((l.take i).map fun z=>((.inl z.1,f z.2):Key×V)) (.inl z.1) (f z.2)=(l.take (i+1)).map fun z=>((.inl z.1,f z.2):Key×V):=by
 rw [kF f,YR (QU nd h),List.take_add_one,h]
 rfl
structure LdN (g0:List (Addr×List (Key×V))) (cl:List (Addr×List (Int×Int))) (i n:Nat) (lds:List (Addr×List (Key×V))):Prop where
 fst:lds.map (·.1)=g0.map (·.1)
 at_:∀ j x,lds[j]? = some x->∃ y,cl[j]? = some y/\x.2=(if j<i then y.2 else if j=i then y.2.take n else []).map kvI
theorem LdN.len {g0 lds:List (Addr×List (Key×V))}{cl:List (Addr×List (Int×Int))}{i n:Nat}(h:LdN g0 cl i n lds):lds.length=g0.length:=by
 have:=congrArg List.length h.fst
 rwa [List.length_map,List.length_map] at this
theorem LdN.next {g0 lds:List (Addr×List (Key×V))}{cl:List (Addr×List (Int×Int))}{i n:Nat}{y:Addr×List (Int×Int)}(h:LdN g0 cl i n lds) (hy:cl[i]? = some y) (hn:y.2.length<=n):LdN g0 cl (i+1) 0 lds:=⟨h.fst,fun j x hx=>by
 obtain ⟨u,hu,e⟩:=h.at_ j x hx
 refine ⟨u,hu,?_⟩
 rw [e]
 by_cases a:j<i
 ·rw [if_pos a,if_pos (by omega)]
 ·rw [if_neg a]
  by_cases b:j=i
  ·subst b
   rw [hy] at hu
   cases hu
   rw [if_pos rfl,if_pos (by omega),List.take_of_length_le hn]
  ·rw [if_neg b,if_neg (by omega)]
   split
   ·rfl
   ·rfl⟩
theorem LdN.put {g0 lds:List (Addr×List (Key×V))}{cl:List (Addr×List (Int×Int))}{i n:Nat}{y:Addr×List (Int×Int)}{z:Int×Int}{a:Addr}{kvs:List (Key×V)}(h:LdN g0 cl i n lds) (hy:cl[i]? = some y) (nd:(y.2.map (·.1)).Nodup) (hz:y.2[n]? = some z) (ha:lds[i]? = some (a,kvs)):LdN g0 cl i (n+1) (yy lds i (qG kvs (.inl z.1) (.int z.2))):=by
 obtain ⟨u,hu,e⟩:=h.at_ i _ ha
 rw [hy] at hu
 cases hu
 rw [if_neg (Nat.lt_irrefl i),if_pos rfl] at e
 have e2:qG kvs (.inl z.1) (.int z.2)=(y.2.take (n+1)).map kvI:=by
  rw [show kvs=(y.2.take n).map kvI from e]
  exact JV (f:=V.int) nd hz
 refine ⟨?_,fun j x hx=>?_⟩
 ·rw [<- h.fst]
  unfold yy
  rw [List.getD_eq_getElem?_getD,ha]
  exact XT ha
 ·unfold yy at hx
  rw [List.getElem?_set] at hx
  by_cases b:i=j
  ·subst b
   rw [if_pos rfl,if_pos (List.getElem?_eq_some_iff.mp ha).1] at hx
   cases hx
   exact ⟨y,hy,by rw [if_neg (Nat.lt_irrefl i),if_pos rfl];exact e2⟩
  ·rw [if_neg b] at hx
   obtain ⟨u,hu,e⟩:=h.at_ j x hx
   refine ⟨u,hu,?_⟩
   rw [e]
   by_cases c:j<i
   ·rw [if_pos c,if_pos c]
   ·rw [if_neg c,if_neg c,if_neg (fun q=>b q.symm),if_neg (fun q=>b q.symm)]
theorem ScAt.fr {Pt sd:Addr}{H H':Hp}{c:ScN}(S:ScAt H sd c) (T:qC H Pt) (f:Fr3 (fun a=>a=Pt) c.D H H'):ScAt H' sd c:=by
 obtain ⟨ps,hP⟩:=T.ne
 have n:∀ {a:Addr} {o:HO},H a=some o->(∀ ps,o≠.tbl ps)->¬ a=Pt:=fun h q=>jr h hP (q _)
 have nr:∀ {a:Addr} {kvs:List (Key×V)},Rd H a (.dK kvs)->¬ a=Pt:=fun h=>by
  rcases h with h | ⟨o,h⟩
  ·exact n h (by walk_at "w")
  ·exact n h (by walk_at "w")
 exact S.keep f (fun a xs h=>n h (by walk_at "w")) (n S.sd (by walk_at "w")) S.nD (n S.p (by walk_at "w")) (n S.q (by walk_at "w")) (n S.gl (by walk_at "w")) (n S.ll (by walk_at "w")) (fun a h=>by
  obtain ⟨w,a',e,q⟩:=pm S.gi _ h
  cases e
  exact n q (by walk_at "w")) (nr S.sg) fun x hx=>nr (S.ld x hx)
theorem ScAt.inD {H:Hp}{sd a:Addr}{c:ScN}(S:ScAt H sd c) (h:c.D a):∃ o,H a=some o:=by
 have r:∃ kvs,Rd H a (.dK kvs):=by
  rcases h with h | ⟨x,hx,e⟩
  ·exact ⟨_,h ▸ S.sg⟩
  ·exact ⟨_,e ▸ S.ld x hx⟩
 obtain ⟨_,r | ⟨o,r⟩⟩:=r
 ·exact ⟨_,r⟩
 ·exact ⟨_,r⟩
theorem YT {a:Addr}{kvs:List (Key×V)}{o:Obj}{H H4:Hp}(f:Fz a kvs o H H4):jp H H4:=fun c xs q=>by
 rcases f.2 with rfl | ⟨h,rfl⟩
 ·exact q
 ·exact ZT h c xs q
theorem WL {N M:Addr->Prop}{a:Addr}{kvs:List (Key×V)}{o:Obj}{H H2 H4:Hp}(f:Fz a kvs o H2 H4) (r:Fr3 N M H H2) (m:M a):Fr3 N M H H4:=by
 rcases f.2 with rfl | ⟨h,rfl⟩
 ·exact r
 ·exact r.frz h m
theorem UR {a Pt:Addr}{kvs:List (Key×V)}{o:Obj}{H H4:Hp}(f:Fz a kvs o H H4) (T:qC H Pt):qC H4 Pt:=by
 rcases f.2 with rfl | ⟨h,rfl⟩
 ·exact T
 ·exact Ve T h
structure MdI (C Pt p:Addr) (c:ScN) (H H2:Hp) (g:IceG):Prop where
 I:IceAt C H2 p g
 F:IceFr H p g
 R:Fr3 (fun a=>a=Pt) c.D H H2
 T:qC H2 Pt
theorem MdI.frz {C Pt p sd a:Addr}{c:ScN}{H H2 H4:Hp}{g:IceG}{kvs:List (Key×V)}{o:Obj}(M:MdI C Pt p c H H2 g) (S:ScAt H sd c) (h:c.D a) (f:Fz a kvs o H2 H4):MdI C Pt p c H H4 g:=by
 obtain ⟨_,ha⟩:=S.inD h
 exact ⟨M.I.stay M.F (fun b u hb n=>f.at hb (j1 ha n).symm) (YT f),M.F,WL f M.R h,UR f M.T⟩
theorem MdI.same {C Pt p:Addr}{c:ScN}{H H2 H4:Hp}{g:IceG}(M:MdI C Pt p c H H2 g) (s:ji H2 H4):MdI C Pt p c H H4 g:=⟨M.I.same s,M.F,M.R.same s,M.T.same s⟩
theorem LdN.mem {g0 lds:List (Addr×List (Key×V))}{cl:List (Addr×List (Int×Int))}{i n:Nat}(h:LdN g0 cl i n lds) {x:Addr×List (Key×V)}(hx:x∈lds):∃ y∈g0,y.1=x.1:=by
 have:x.1∈g0.map (·.1):=h.fst ▸ List.mem_map_of_mem hx
 obtain ⟨y,hy,e⟩:=List.mem_map.mp this
 exact ⟨y,hy,e⟩
def Y9 (C Pt:Addr):Sp:=fun vs H Q _=>∃ (sd b:Addr) (c:ScN),vs=[.ref sd]/\ScAt H sd c/\ScOk b c/\qC H Pt /\
 ∀ p H' g,IceAt C H' p g->IceFr H p g->Fr3 (fun a=>a=Pt) c.D H H'->qC H' Pt->g.rs=c.rs->g.rows=c.ts->g.slopes=c.ws.map (jc c.rs)->g.kvs=c.sk.map kvA->g.lds.length=c.lds.length->(∀ (l:Nat) x,g.lds[l]? = some x->∃ y,c.lds[l]? = some y/\x.2=y.2.map kvI)->(∀ x∈g.lds,x.1≠g.ye)->(g.lds.map (·.1)).Nodup->Q (.ref p) H'
theorem xj:FnScope ["_law_scene_here","_law_ice","_law_year_here","_law_lane","_law_leaps"] ["_law_scene_here"] (j6 vh):=by walk_at "s"
theorem Vg {f C CV CR CN CY CW CS Pt:Addr}{fd:FuncData}(nb:Nb2 mg) (cl_Ice:Cls K C) (c_Ice:MakX P w K mg base 8 C "Ice" ["self","reaches","rows"] (YK C CV CR Pt)) (c_Ice__tell:CalMX P w K mg base 2 C "tell" ["self","year","row"] (Yc C CY CW)) (c_Ice__surge:CalMX P w K mg base 2 C "surge" ["self","lane","year","many"] (XG C CN CY CS)) (F:Fun K "_law_made" "_law_made" vh f fd):FnOk P w K mg base CX0 10 f fd ["_law_scene_here"] (Y9 C Pt):=by
 refine F.ok xj (fun vs H Q E h=>?_) (fun cdv A outer s H vs Q E hr h=>?_)
 ·obtain ⟨sd,b,c,rfl,_⟩:=h
  rfl
 ·obtain ⟨sd,b,c,rfl,S,O,T,k⟩:=h
  refine ⟨_,(j5 (je (i:=1) xj.nd rfl (Or.inl rfl) (Vt c_Ice (hr.mono (by decide)) Jh rfl (j0 (qH (qP K) rfl nb.b_list PyProof.Rows.boot_list (j0 (jH (jY hr) (pv 0) jo (fun _ _=>rfl)) j2)) (j0 (qH (qP K) rfl nb.b_list PyProof.Rows.boot_list (j0 (jH (jY hr) (pv 0) jo (fun _ _=>rfl)) j2)) j2))))
   (j5 (qK PassesOwn.never rfl (Jo (jH (jY hr) (pv 0) jo (fun _ _=>rfl))) (ja (i:=2) xj.nd rfl (Or.inl rfl)) (j9 (qd (zO (pv 1) cl_Ice c_Ice__tell (hr.mono (by decide)) Jh (j0 (pv 2) (j0 (jH (jY hr) (jH (jY hr) (pv 0) jo (fun _ _=>rfl)) (pv 2) (fun _ _=>rfl)) j2))))))
   (j5 (qK PassesOwn.never rfl (Z1 K rfl nb.b_enumerate (j0 (jH (jY hr) (pv 0) jo (fun _ _=>rfl)) j2)) (qq (n:=2) K rfl (jk (ja (i:=3) xj.nd rfl (Or.inl rfl)) (jk (ja (i:=4) xj.nd rfl (Or.inl rfl)) qm))) (j9 (qK PassesOwn.never rfl (Jo (pv 4)) (ja (i:=2) xj.nd rfl (Or.inl rfl)) (j9 (qd (zO (pv 1) cl_Ice c_Ice__surge (hr.mono (by decide)) Jh (j0 (pv 3) (j0 (pv 2) (j0 (jH (jY hr) (pv 4) (pv 2) (fun _ _=>rfl)) j2)))))))))
   (j9 (jj (pv 1)))))),?_⟩
  left
  refine ⟨sd,.ref c.p,rfl,by rw [<- QI c.p c.q c.sg c.gl c.ll];exact qT.k (k:=.inr "reaches") S.sd,?_⟩
  refine ⟨_,_,rfl,.inl (SqL.of S.p),fun l1 H1 hl1 hl11 s1=>?_⟩
  have S1:=S.same s1
  left
  refine ⟨sd,.ref c.q,rfl,by rw [<- Jk c.p c.q c.sg c.gl c.ll];exact qT.k (k:=.inr "rows") S1.sd,?_⟩
  refine ⟨_,_,rfl,.inl (SqL.of S1.q),fun l2 H2 hl2 hl22 s2=>?_⟩
  have S2:=S1.same s2
  have s12:=s1.trans s2
  left
  intro p dx hp hd hdp
  have s3:ji H2 (upd (upd H2 dx (.own p)) p (.ins C dx [])):=fun c u h=>by rw [j8 (j1 h hp),j8 (j1 h hd)];exact h
  have S3:=S2.same s3
  have egr:gr c.ts=true:=by
   have:=O.t1
   have:=O.t2
   unfold gr
   rw [decide_eq_true (by omega),O.tg]
   rfl
  have eg:=O.gr.good O.l1 O.l8
  refine ⟨p,dx,l1,l2,c.xs,c.ys,c.rs,c.ts,rfl,j7,s3 _ _ (s2 _ _ hl11),S3.rv,s3 _ _ hl22,S3.r3,fun r hr=>Nat.le_trans (XJ O.gr r hr) (by decide),Nat.le_trans O.l8 (by decide),Nat.le_trans O.t2 (by decide),(T.same s12).same s3,fun H4 g _ _ I e1 e2 e3 e4 T4=>?_,(fun H' z _ _=>by rw [eg] at z;cases z),(fun H' _ z _ _=>by rw [egr] at z;cases z)⟩
  have I:=I.made hp hd
  obtain ⟨ws,hR,esl⟩:=I.sl2
  rw [e1] at hR esl
  obtain rfl:=hR.unique O.ro
  have F4:IceFr H p g:=⟨s12.free hp,s12.free I.va,s12.free I.cy,s12.free I.sl,s12.free I.ye,s12.free I.le,fun a z=>s12.free (I.zs a z),fun x hx=>s12.free (I.lds x hx).1⟩
  have M4:MdI C Pt p c H H4 g:=⟨I.at_,F4,fun a o h n=>.inl (I.keep a o (s12 _ _ h) (j1 h F4.p) n),T4⟩
  have ll4:g.lds.length=c.lds.length:=by rw [I.ll,esl,List.length_map,O.ldl]
  have nd4:=I.nd
  have ny4:=I.ny
  have kv4:=I.kvs
  have ld4:∀ x∈g.lds,x.2=[]:=fun x hx=>(I.lds x hx).2
  clear I S3 s3 S2 hl22 hl11 S1 T4
  refine ⟨rfl,?_⟩
  have nof:∀ {m:Str},¬ m = "leaps" -> ¬ m = "years" -> ¬ m = "slopes" -> ¬ m = "cycle" -> ¬ m = "valley" -> (vX g.va g.cy g.sl g.ye g.le).lookup m=none:=fun a b c d e=>xH _ _ _ _ _ a b c d e
  have S4:=S.fr T M4.R
  left
  refine ⟨sd,.ref c.sg,rfl,by rw [<- zM c.p c.q c.sg c.gl c.ll];exact qT.k (k:=.inr "single") S4.sd,?_⟩
  have hsgD:c.D c.sg:=.inl rfl
  refine gm (kvs:=c.sk.map kvA) S4.sg (fun o i σ H5=>∃ x:Option V,σ=[some (.ref sd),some (.ref p),x,none,none]/\H5 c.sg=some (.frz o (.dK (c.sk.map kvA)))/\MdI C Pt p c H H5 { g with kvs:=(c.sk.take i).map kvA }) ?_ ?_ ?_ ?_
  ·intro o H5 f5
   refine ⟨none,rfl,f5.1,?_⟩
   have:=M4.frz S hsgD f5
   have e:g={ g with kvs:=(c.sk.take 0).map kvA }:=by
    show g={ g with kvs:=[] }
    rw [<- kv4]
   rw [<- e]
   exact this
  ·rintro o i σ H5 hi ⟨x,rfl,h5,M5⟩
   exact h5
  ·rintro o i u σ H5 hq ⟨x,rfl,h5,M5⟩
   obtain ⟨z,hz,rfl⟩:=UZ hq
   have hm:=List.mem_of_getElem? hz
   have hi:i<c.sk.length:=(List.getElem?_eq_some_iff.mp hz).1
   have h10:=O.k3
   have S5:=S.fr T M5.R
   obtain ⟨r,hr3,hgr⟩:=S5.sk z hm
   obtain ⟨y0,y1⟩:=O.k2 z hm
   show wZ 2 (V.int z.1) _ _ _
   left
   refine ⟨p,g.dx,_,rfl,M5.I.ob,nof (by walk_at "k") (by walk_at "k") (by walk_at "k") (by walk_at "k") (by walk_at "k"),?_⟩
   left
   refine ⟨sd,.ref c.sg,rfl,by rw [<- zM c.p c.q c.sg c.gl c.ll];exact qT.k (k:=.inr "single") S5.sd,?_⟩
   left
   refine ⟨c.sg,.ref z.2,rfl,(by rw [<- hE O.k1 hm];exact .inl ⟨_,.inl z.1,.inr ⟨o,h5⟩,rfl,rfl⟩),?_⟩
   refine ⟨p,z.2,_,z.1,r,rfl,M5.I,ny4,hr3,(by rw [List.length_map,List.length_take];omega),fun H6 _ _ _ X6 I6=>?_,fun hb=>absurd hb (by omega),fun _ _ hb=>by rw [hgr] at hb;cases hb⟩
   have e:qG ((c.sk.take i).map kvA) (.inl z.1) (.ref z.2)=(c.sk.take (i+1)).map kvA:=JV (f:=V.ref) O.k1 hz
   obtain ⟨_,hsg0⟩:=S.inD hsgD
   refine ⟨_,rfl,X6 _ _ h5 (j1 hsg0 F4.ye),?_⟩
   rw [<- e]
   exact ⟨I6,⟨F4.p,F4.va,F4.cy,F4.sl,F4.ye,F4.le,F4.zs,F4.lds⟩,M5.R.ext X6 F4.ye,Qp M5.T M5.I.ye X6⟩
  ·rintro o σ H5 ⟨x,rfl,h5,M5⟩
   rw [List.length_map,List.take_length] at M5
   have S5:=S.fr T M5.R
   left
   refine ⟨sd,.ref c.ll,rfl,by rw [<- wg c.p c.q c.sg c.gl c.ll];exact qT.k (k:=.inr "leaps") S5.sd,?_⟩
   left
   refine ⟨⟨_,SqL.of S5.ll⟩,?_⟩
   refine Yx (K:=K) (a:=c.ll) (xs:=c.lds.map fun x=>V.ref x.1) (fun i σ H6=>∃ (x y z:Option V) (lds:List (Addr×List (Key×V))),σ=[some (.ref sd),some (.ref p),x,y,z]/\MdI C Pt p c H H6 { g with kvs:=c.sk.map kvA,lds:=lds }/\LdN g.lds c.lds i 0 lds) ?_ ?_ ?_ ?_
   ·refine ⟨x,none,none,g.lds,rfl,M5,rfl,fun j x hx=>?_⟩
    have hj:=(List.getElem?_eq_some_iff.mp hx).1
    obtain ⟨y,hy⟩:∃ y,c.lds[j]? = some y:=⟨_,List.getElem?_eq_getElem (by omega)⟩
    refine ⟨y,hy,?_⟩
    rw [ld4 x (List.mem_of_getElem? hx),if_neg (Nat.not_lt_zero _)]
    split <;> rfl
   ·rintro i σ H6 hi ⟨x,y,z,lds,rfl,M6,L6⟩
    exact SqL.of (S.fr T M6.R).ll
   ·rintro i v σ H6 t hv ⟨x,y,z,lds,rfl,M6,L6⟩ ht
    rw [List.getElem?_map] at hv
    obtain ⟨⟨a,ns⟩,hy,ev⟩:=Option.map_eq_some_iff.mp hv
    subst ev
    have M7:=M6.same (ji.new (o:=.tup [.int i,.ref a]) ht)
    left
    refine ⟨t,_,rfl,SqT.of j7,rfl,?_⟩
    refine ⟨_,_,rfl,_,_,rfl,rfl,?_⟩
    left
    clear M6
    generalize upd H6 t (.tup [.int i,.ref a])=H7 at *
    have S7:=S.fr T M7.R
    have hm:=List.mem_of_getElem? hy
    have haD:c.D a:=.inr ⟨_,hm,rfl⟩
    obtain ⟨_,ha0⟩:=S.inD haD
    refine gm (kvs:=ns.map kvI) (S7.ld _ hm) (fun o n σ H8=>∃ (x:Option V) (lds:List (Addr×List (Key×V))),σ=[some (.ref sd),some (.ref p),x,some (.int i),some (.ref a)]/\H8 a=some (.frz o (.dK (ns.map kvI)))/\MdI C Pt p c H H8 { g with kvs:=c.sk.map kvA,lds:=lds }/\LdN g.lds c.lds i n lds) ?_ ?_ ?_ ?_
    ·intro o H8 f8
     exact ⟨x,lds,rfl,f8.1,M7.frz S haD f8,L6⟩
    ·rintro o n σ H8 hn ⟨x,lds,rfl,h8,M8,L8⟩
     exact h8
    ·clear L6 M7 S7
     rintro o n u σ H8 hq ⟨x,lds,rfl,h8,M8,L8⟩
     obtain ⟨z,hz,rfl⟩:=Yg hq
     have hzm:=List.mem_of_getElem? hz
     obtain ⟨y0,y1,m0,m1⟩:=O.m2 _ hm z hzm
     have hl8:=L8.len
     have hi8:i<lds.length:=by
      have:=(List.getElem?_eq_some_iff.mp hy).1
      omega
     have hsl:g.slopes.length=lds.length:=by rw [esl,List.length_map,hl8,ll4,O.ldl]
     show wZ 2 (V.int z.1) _ _ _
     left
     refine ⟨p,g.dx,_,rfl,M8.I.ob,nof (by walk_at "k") (by walk_at "k") (by walk_at "k") (by walk_at "k") (by walk_at "k"),?_⟩
     left
     refine ⟨a,.int z.2,rfl,(by rw [<- uc (O.m1 _ hm) hzm,<- yK ns z.1 (List.mem_map_of_mem hzm)];exact .inl ⟨_,.inl z.1,.inr ⟨o,h8⟩,rfl,rfl⟩),?_⟩
     refine ⟨p,_,(i:Int),z.1,z.2,rfl,M8.I,hsl.symm,(fun x hx=>by obtain ⟨y,hy,e⟩:=L8.mem hx;rw [<- e];exact ny4 y hy),(by show (lds.map (·.1)).Nodup;rw [L8.fst];exact nd4),(fun x hx=>?_),fun H9 a9 kvs9 _ _ _ _ _ _ ha9 X9 I9=>?_,(fun hb=>absurd hb (by show ¬ ((i:Int)<0\/(g.slopes.length:Int)<=i);omega)),(fun _ _ hb=>absurd hb (by omega)),fun _ _ _ _ hb=>absurd hb (by omega)⟩
     ·obtain ⟨j,hj,ex⟩:=List.mem_iff_getElem.mp hx
      obtain ⟨y,hy,e⟩:=L8.at_ j x (by rw [List.getElem?_eq_getElem hj,ex])
      have h10:=O.m3 y (List.mem_of_getElem? hy)
      rw [e,List.length_map]
      split
      ·omega
      ·split
       ·rw [List.length_take];omega
       ·exact Nat.zero_le _
     ·have ha9:lds[i]? = some (a9,kvs9):=ha9
      have L9:=L8.put hy (O.m1 _ hm) hz ha9
      have a90:H a9=none:=M8.F.lds _ (List.mem_of_getElem? ha9)
      refine ⟨_,_,rfl,X9 _ _ h8 (j1 ha0 a90),⟨I9,⟨F4.p,F4.va,F4.cy,F4.sl,F4.ye,F4.le,F4.zs,fun x hx=>?_⟩,M8.R.ext X9 a90,Qp M8.T (M8.I.lds _ (List.mem_of_getElem? ha9)) X9⟩,L9⟩
      obtain ⟨y,hy,e⟩:=L9.mem hx
      rw [<- e]
      exact F4.lds y hy
    ·rintro o σ H8 ⟨x,lds,rfl,h8,M8,L8⟩
     exact ⟨x,_,_,lds,rfl,M8,L8.next hy (by rw [List.length_map];exact Nat.le_refl _)⟩
   ·rintro σ H6 ⟨x,y,z,lds,rfl,M6,L6⟩
    left
    refine k p H6 _ M6.I M6.F M6.R M6.T e1 e2 esl rfl (L6.len.trans ll4) (fun l x hx=>?_) (fun x hx=>?_) (by show (lds.map (·.1)).Nodup;rw [L6.fst];exact nd4)
    ·obtain ⟨y,hy,e⟩:=L6.at_ l x hx
     refine ⟨y,hy,?_⟩
     rw [e,if_pos (by rw [List.length_map];exact (List.getElem?_eq_some_iff.mp hy).1)]
    ·obtain ⟨y,hy,e⟩:=L6.mem hx
     rw [<- e]
     exact ny4 y hy
theorem uK {rs:List Rch}(h:zn rs=true):1<=rs.length/\rs.length<=8/\ui rs=true/\∀ ws,qa rs ws->∀ w∈ws,(jc rs w).length<=30:=by
 unfold zn at h
 rw [Bool.and_eq_true,Bool.and_eq_true,Bool.and_eq_true] at h
 obtain ⟨h1,h2,_,h4⟩:=h
 have h1:=of_decide_eq_true h1
 refine ⟨by omega,by omega,h2,fun ws hR w hw=>?_⟩
 obtain ⟨x,hx,e⟩:=hR.mem hw
 have:=of_decide_eq_true (List.all_eq_true.mp h4 x hx)
 have g:=wN rs w
 rw [<- e] at this
 omega
theorem wA {rs:List Rch}(G:Grown rs) {ws:List (List Int)}(R:qa rs ws) {w:List Int}(hw:w∈ws):1<=(jc rs w).length:=by
 obtain ⟨x,hx,e⟩:=R.mem hw
 have hl:=xA hx
 have o:=Jp G.ok (List.getElem?_eq_getElem hl)
 unfold okR at o
 rw [Bool.and_eq_true,Bool.and_eq_true] at o
 have o:=of_decide_eq_true o.1.2
 have eh:zG rs ((x:Int)).toNat=(rs[x]'hl).2:=by
  unfold zG
  rw [Int.toNat_natCast,List.getD_eq_getElem?_getD,List.getElem?_eq_getElem hl]
  rfl
 rw [e,zr (qg G.ok) hl]
 unfold jc
 rw [List.map_cons,List.flatten_cons,List.length_append,eh]
 omega
theorem VR {L b Pt:Addr}{Ha Hb:Hp}(B:jS L Ha b) (e:Ext b Ha Hb) (T:qC Ha Pt):qC Hb Pt:=by
 obtain ⟨ns,a,r,c,d,h1,_⟩:=B
 exact T.ext h1 e
structure Lw (C L b sd p:Addr) (c:ScN) (g:IceG) (H0 H:Hp):Prop where
 B:jS L H b
 S:ScAt H sd c
 I:IceAt C H p g
 O:ScOk b c
 F:IceFr H0 p g
 B0:jS L H0 b
 S0:ScAt H0 sd c
theorem Lw.same {C L b sd p:Addr}{c:ScN}{g:IceG}{H0 H H':Hp}(W:Lw C L b sd p c g H0 H) (s:ji H H'):Lw C L b sd p c g H0 H':=⟨W.B.same s,W.S.same s,W.I.same s,W.O,W.F,W.B0,W.S0⟩
theorem Lw.take {C L b sd p:Addr}{c:ScN}{g:IceG}{H0 H H':Hp}(W:Lw C L b sd p c g H0 H) (B:jS L H' b) (X:Ext b H H'):Lw C L b sd p c g H0 H' :=
 ⟨B,W.S.ext W.O W.B X,W.I.stay W.F (fun a o h n=>X a o h (W.B0.ne n)) (zK W.B X),W.O,W.F,W.B0,W.S0⟩
theorem Lw.fr {C L b sd p:Addr}{c:ScN}{g:IceG}{H0 H H':Hp}(W:Lw C L b sd p c g H0 H) (f:FrM c.D H H'):Lw C L b sd p c g H0 H':=by
 refine ⟨?_,?_,W.I.stay W.F (fun a o h n=>?_) (fun a xs h=>f.at h (by walk_at "w")),W.O,W.F,W.B0,W.S0⟩
 ·obtain ⟨ns,a,r,c,d,h1,h2,h3,h4⟩:=W.B
  exact ⟨ns,a,r,c,d,f.at h1 (by walk_at "w"),h2,f.at h3 (by walk_at "w"),h4⟩
 ·exact W.S.keep (N:=fun _=>False) (fun c o h _=>f c o h) (fun _ _ _ z=>z) id W.S.nD id id id id (fun _ _=>id) id (fun _ _=>id)
 ·rcases f a o h with z | ⟨m,_⟩
  ·exact z
  ·obtain ⟨_,q⟩:=W.S0.inD m
   rw [n] at q
   cases q
theorem Lw.start {C L b sd p Pt:Addr}{c:ScN}{g:IceG}{H2 H3:Hp}(S2:ScAt H2 sd c) (O:ScOk b c) (B2:jS L H2 b) (T2:qC H2 Pt) (I3:IceAt C H3 p g) (F3:IceFr H2 p g) (R3:Fr3 (fun a=>a=Pt) c.D H2 H3):Lw C L b sd p c g H2 H3:=by
 refine ⟨?_,S2.fr T2 R3,I3,O,F3,B2,S2⟩
 obtain ⟨ps,hP⟩:=T2.ne
 obtain ⟨ns,a,r,c,d,h1,h2,h3,h4⟩:=B2
 exact ⟨ns,a,r,c,d,R3.at h1 (jr h1 hP (by walk_at "z")) (by walk_at "w"),h2,R3.at h3 (jr h3 hP (by walk_at "z")) (by walk_at "w"),h4⟩
structure Lk (c:ScN) (g:IceG):Prop where
 rs:g.rs=c.rs
 rows:g.rows=c.ts
 sl:g.slopes=c.ws.map (jc c.rs)
 kv:g.kvs=c.sk.map kvA
 ll:g.lds.length=c.lds.length
 ld:∀ (l:Nat) x,g.lds[l]? = some x->∃ y,c.lds[l]? = some y/\x.2=y.2.map kvI
 ny:∀ x∈g.lds,x.1≠g.ye
 nd:(g.lds.map (·.1)).Nodup
structure LaneF (c:ScN) (g:IceG) (ln:Int) (wy:List Int) (da:Addr) (dn:List (Int×Int)):Prop where
 way:c.ws[ln.toNat]? = some wy
 sl:g.slopes.getD ln.toNat []=jc c.rs wy
 g1:1<=(jc c.rs wy).length
 g30:(jc c.rs wy).length<=30
 cd:c.lds[ln.toNat]? = some (da,dn)
 D:c.D da
 nd:(dn.map (·.1)).Nodup
 b:∀ q∈dn,0<=q.1/\q.1<=99/\1<=q.2/\q.2<=9
 l10:dn.length<=10
 at_:Xr g ln dn
 l0:0<=ln
 l1:ln<(g.slopes.length:Int)
theorem Lk.lane {b:Addr}{c:ScN}{g:IceG}(k:Lk c g) (O:ScOk b c) {ln:Int}(h0:0<=ln) (h1:ln<(c.ws.length:Int)):∃ wy da dn,LaneF c g ln wy da dn:=by
 have hi:ln.toNat<c.ws.length:=by omega
 have hwy:=List.getElem?_eq_getElem hi
 have hgs:g.slopes[ln.toNat]? = some (jc c.rs (c.ws[ln.toNat]'hi)):=by rw [k.sl,List.getElem?_map,hwy];rfl
 have hl:g.slopes.length=c.ws.length:=by rw [k.sl,List.length_map]
 obtain ⟨⟨da,dn⟩,hda⟩:∃ z,c.lds[ln.toNat]? = some z:=⟨_,List.getElem?_eq_getElem (by rw [O.ldl];omega)⟩
 have hdm:=List.mem_of_getElem? hda
 obtain ⟨⟨da2,dk⟩,hda2⟩:∃ z,g.lds[ln.toNat]? = some z:=⟨_,List.getElem?_eq_getElem (by rw [k.ll,O.ldl];omega)⟩
 obtain ⟨_,q1,q2⟩:=k.ld _ _ hda2
 rw [hda] at q1
 cases q1
 obtain rfl:dk=dn.map kvI:=q2
 have hm:=List.getElem_mem hi
 have h10:dn.length<=10:=O.m3 _ hdm
 exact ⟨_,da,dn,hwy,by rw [List.getD_eq_getElem?_getD,hgs];rfl,wA O.gr O.ro hm,(uK (O.gr.good O.l1 O.l8)).2.2.2 c.ws O.ro _ hm,hda,.inr ⟨_,hdm,rfl⟩,O.m1 _ hdm,O.m2 _ hdm,h10,⟨h0,by omega,⟨da2,hda2⟩,O.m1 _ hdm,by omega,fun q hq=>by have:=O.m2 _ hdm q hq;omega⟩,h0,by omega⟩
theorem LaneF.pos {c:ScN}{g:IceG}{ln:Int}{wy:List Int}{da:Addr}{dn:List (Int×Int)}(L:LaneF c g ln wy da dn):∀ q∈dn,0<=q.1/\0<=q.2:=fun q hq=>by have:=L.b q hq;omega
theorem QP {ns:List (Int×Int)}(h:∀ q∈ns,0<=q.2) {y z:Int}(yz:y<=z):ju ns y<=ju ns z:=by
 induction ns with
 | nil=>exact Int.le_refl _
 | cons q r ih =>
  rw [jW,jW]
  have a:=h q (List.mem_cons_self ..)
  have b:=ih fun z hz=>h z (List.mem_cons_of_mem _ hz)
  by_cases e:q.1<=y
  ·rw [if_pos e,if_pos (by omega)];omega
  ·rw [if_neg e]
   split <;> omega
theorem zu {ns ms:List (Int×Int)}(p:ms.Perm ns) (s:(ms.map (·.1)).Pairwise (· <= ·)) (nd:(ns.map (·.1)).Nodup) (h:∀ q∈ns,0<=q.1/\0<=q.2) (one len y:Int) (hy:0<=y):(0<=y+ju ns y-one/\y+ju ns y-one<len)↔(jv 0 0 ms one<=y/\y<jv 0 0 ms (one+len)):=by
 have hm:∀ q∈ms,0<=q.1/\0<=q.2:=fun q hq=>h q (p.mem_iff.mp hq)
 have ndm:(ms.map (·.1)).Nodup:=(p.map (·.1)).nodup_iff.mpr nd
 have st:=qR s ndm
 have key:∀ goal:Int,(goal<=y+ju ns y↔jv 0 0 ms goal<=y):=fun goal=>by
  have:=ul ms 0 0 goal y hm st hy
  rw [zh p,Int.add_zero] at this
  exact this
 have a:=key one
 have b:=key (one+len)
 constructor
 ·rintro ⟨c,d⟩
  refine ⟨a.mp (by omega),?_⟩
  have:=mt b.mpr (by omega)
  omega
 ·rintro ⟨c,d⟩
  have a':=a.mpr c
  have b':=mt b.mp (by omega)
  omega
theorem yw {ns ms:List (Int×Int)}(p:ms.Perm ns) (s:(ms.map (·.1)).Pairwise (· <= ·)) (h:∀ q∈ns,0<=q.1/\0<=q.2) (goal:Int):0<=jv 0 0 ms goal:=wT ms 0 0 goal (fun q hq=>(h q (p.mem_iff.mp hq)).1) s
theorem vT {ns ms:List (Int×Int)}(p:ms.Perm ns) (s:(ms.map (·.1)).Pairwise (· <= ·)) (nd:(ns.map (·.1)).Nodup) (h:∀ q∈ns,0<=q.1/\0<=q.2) (one len:Int) (hl:jv 0 0 ms one<jv 0 0 ms (one+len)):jv 0 0 ms (one+len)-1-jv 0 0 ms one<len:=by
 have f0:=yw p s h one
 have a:=(zu p s nd h one len _ f0).mpr ⟨Int.le_refl _,hl⟩
 have b:=(zu p s nd h one len (jv 0 0 ms (one+len)-1) (by omega)).mpr ⟨by omega,by omega⟩
 have m:=QP (fun q hq=>(h q hq).2) (y:=jv 0 0 ms one) (z:=jv 0 0 ms (one+len)-1) (by omega)
 omega
def YA:Sp:=fun vs H Q _=>∃ (L b sd:Addr) (c:ScN),vs=[.ref b,.ref sd]/\jS L H b/\ScAt H sd c/\ScOk b c/\1<=c.ws.length/\c.ws.length<=6/\(∀ w∈c.ws,1<=(jc c.rs w).length/\(jc c.rs w).length<=30) /\
 ∀ (ln n:Int) (w:List Int) (t:Addr) (H':Hp),0<=ln->ln<(c.ws.length:Int)->c.ws[ln.toNat]? = some w->0<=n->n<((jc c.rs w).length:Int)->jS L H' b->Ext b H H'->H t=none->H' t=some (.tup [.int ln,.int n])->Q (.ref t) H'
theorem uD:FnScope ["_law_box_here","_law_scene_here","_law_lane"] ["_law_box_here","_law_scene_here"] (j6 vt):=by walk_at "s"
theorem V9 {f:Addr}{fd:FuncData}(nb:Nb2 mg) (c_law_take:Cal P w K mg base 2 "_law_take" ["_law_box_here","_law_size"] xJ) (F:Fun K "_law_spot" "_law_spot" vt f fd):FnOk P w K mg base CX0 3 f fd ["_law_box_here","_law_scene_here"] YA:=by
 refine F.ok uD (fun vs H Q E h=>?_) (fun cdv A outer s H vs Q E hr h=>?_)
 ·obtain ⟨L,b,sd,c,rfl,_⟩:=h
  rfl
 ·obtain ⟨L,b,sd,c,rfl,B,S,O,hw1,hw6,hg,k⟩:=h
  have hzl:c.zs.length=c.ws.length:=(Paired.length S.gi).trans (List.length_map _)
  refine ⟨_,(j5 (je (i:=2) uD.nd rfl (Or.inl rfl) (jd c_law_take (hr.mono (by decide)) rfl (j0 (pv 0) (j0 (jf (jg K) rfl nb.b_len PySem.boot_len (j0 (jH (jY hr) (pv 1) jo (fun _ _=>rfl)) j2)) j2))))
   (j9 (jj (jI (j0 (pv 2) (j0 (jd c_law_take (hr.mono (by decide)) rfl (j0 (pv 0) (j0 (jf (jg K) rfl nb.b_len PySem.boot_len (j0 (jn (jb K) (jH (jY hr) (pv 1) jo (fun _ _=>rfl)) (pv 2) (fun _ _=>rfl)) j2)) j2))) j2)))))),?_⟩
  left
  refine ⟨sd,.ref c.gl,rfl,by rw [<- xD c.p c.q c.sg c.gl c.ll];exact qT.k (k:=.inr "grounds") S.sd,?_⟩
  left
  refine ⟨c.gl,_,rfl,.inl (SqL.of S.gl),?_⟩
  left
  refine ⟨L,b,_,rfl,B,⟨by omega,by omega⟩,fun ln H1 ln0 ln1 B1 X1=>?_⟩
  have S1:=S.ext O B X1
  have hi:ln.toNat<c.zs.length:=by omega
  obtain ⟨gw,hgw,ga,ega,hga⟩:=Paired.get S1.gi (List.getElem?_eq_getElem hi)
  rw [List.getElem?_map] at hgw
  obtain ⟨wy,hwy,rfl⟩:=Option.map_eq_some_iff.mp hgw
  have hgb:=hg wy (List.mem_of_getElem? hwy)
  left
  refine ⟨sd,.ref c.gl,rfl,by rw [<- xD c.p c.q c.sg c.gl c.ll];exact qT.k (k:=.inr "grounds") S1.sd,?_⟩
  left
  refine ⟨_,_,_,_,rfl,rfl,SqL.of S1.gl,qo ln0 (v:=V.ref ga) (by rw [List.getElem?_eq_getElem hi,ega]),?_⟩
  left
  refine ⟨ga,_,rfl,.inl (SqL.of hga),?_⟩
  rw [List.length_map]
  left
  refine ⟨L,b,_,rfl,B1,⟨by omega,by omega⟩,fun n H2 n0 n1 B2 X2=>?_⟩
  left
  refine ⟨by show 2<=sizeLine;decide,fun t H3 ht ht3 s3=>?_⟩
  have tb:t≠b:=B2.ne ht
  exact k ln n wy t H3 ln0 (by omega) hwy n0 n1 (B2.same s3) ((X1.trans X2).trans (Ext.of_same s3)) (X1.free (X2.free ht tb) tb) ht3
end
section
variable {P:Program}{w:World}{K:PySem.W.Frag}{mg:Str->Option Value}{base:Heap}
def chg (t:T3) (h:Int):Int:=if t.1<=h then t.2.1 else-t.2.2
def Qj:Sp:=fun vs H Q _=>∃ (p:Addr) (t:T3) (h:Int),vs=[.ref p,.int h]/\H p=some (yM t)/\Q (.int (chg t h)) H
theorem yC:FnScope ["row","height","line","snow","sun"] ["row","height"] (j6 we):=by walk_at "s"
theorem ZF {f:Addr}{fd:FuncData}(F:Fun K "change" "change" we f fd):FnOk P w K mg base CX0 1 f fd ["row","height"] Qj:=by
 refine F.ok yC (fun vs H Q E h=>?_) (fun cdv A outer s H vs Q E hr h=>?_)
 ·obtain ⟨p,t,h,rfl,_⟩:=h
  rfl
 ·obtain ⟨p,t,h,rfl,hp,k⟩:=h
  unfold chg at k
  refine ⟨_,(j5 (xy (pv 0) (qq (n:=3) K rfl (jk (ja (i:=2) yC.nd rfl (Or.inl rfl)) (jk (ja (i:=3) yC.nd rfl (Or.inl rfl)) (jk (ja (i:=4) yC.nd rfl (Or.inl rfl)) qm)))))
   (j5 (jM (jq XZ (pv 1) (pv 2) (jx _)) (j9 (jj (pv 3))) jw)
   (j9 (jj (vz zR (pv 4)))))),?_⟩
  left
  refine ⟨p,_,rfl,SqT.of hp,rfl,?_⟩
  refine ⟨_,_,rfl,_,_,rfl,_,_,rfl,rfl,?_⟩
  left
  refine jV (fun h1=>?_) (fun h1=>?_)
  ·left
   rw [if_pos h1] at k
   exact k
  ·left
   rw [if_neg h1] at k
   exact k
def YV:Sp:=fun vs H Q _=>∃ (p:Addr) (t:T3) (h:Int),vs=[.ref p,.int h]/\H p=some (yM t)/\Q (.int (chg t h)) H
theorem Qf:FnScope ["_law_row_here","_law_height"] ["_law_row_here","_law_height"] (j6 vd):=by walk_at "s"
theorem Vp {f:Addr}{fd:FuncData}(F:Fun K "_law_wish" "_law_wish" vd f fd):FnOk P w K mg base CX0 1 f fd ["_law_row_here","_law_height"] YV:=by
 refine F.ok Qf (fun vs H Q E h=>?_) (fun cdv A outer s H vs Q E hr h=>?_)
 ·obtain ⟨p,t,h,rfl,_⟩:=h
  rfl
 ·obtain ⟨p,t,h,rfl,hp,k⟩:=h
  unfold chg at k
  have hp:H p=some (.tup [.int t.1,.int t.2.1,.int t.2.2]):=hp
  refine ⟨_,(j5 (jM (jq xX (pv 1) (jn (qe K) (pv 0) j4 (fun _ _=>rfl)) (jx _)) (j9 (jj (jh jE j4 (jn (qe K) (pv 0) j4 (fun _ _=>rfl))))) jw)
   (j9 (jj (jn (qe K) (pv 0) j4 (fun _ _=>rfl))))),?_⟩
  left
  refine jV (fun h1=>?_) (fun h1=>?_)
  ·left
   rw [if_neg (by omega),show-t.2.2=0-t.2.2 by omega] at k
   exact k
  ·left
   rw [if_pos (by omega)] at k
   exact k
def zJ (H:Hp) (sk:List (Int×Addr)) (wr:List (Int×T3)):Prop:=Paired (fun (z:Int×Addr) (q:Int×T3)=>z.1=q.1/\H z.2=some (yM q.2)) sk wr
theorem zJ.keep {H H':Hp}{sk:List (Int×Addr)}{wr:List (Int×T3)}(h:zJ H sk wr) (t:jp H H'):zJ H' sk wr:=Paired.mapP h fun _ _ ⟨e,q⟩=>⟨e,t _ _ q⟩
theorem zJ.of {H:Hp}:∀ {sk:List (Int×Addr)},(∀ z∈sk,∃ t,H z.2=some (yM t)/\good t=true)->∃ wr,zJ H sk wr
 | [],_=>⟨[],.nil⟩
 | z::r,h=>by
  obtain ⟨t,ht,_⟩:=h z (List.mem_cons_self ..)
  obtain ⟨wr,hw⟩:=zJ.of (sk:=r) fun u hu=>h u (List.mem_cons_of_mem _ hu)
  exact ⟨(z.1,t)::wr,.cons ⟨rfl,ht⟩ hw⟩
def QJ (wr:List (Int×T3)) (ts:List T3) (y:Int):T3 :=
 match wr.find? fun q=>decide (q.1=y) with
 | some q=>q.2
 | none=>ts.getD (y % (ts.length:Int)).toNat (0,0,0)
theorem wR {H:Hp}:∀ {sk:List (Int×Addr)}{wr:List (Int×T3)},zJ H sk wr->∀ y:Int,
  (∃ a q,qL (sk.map kvA) (.inl y)=some (.ref a)/\(wr.find? fun q=>decide (q.1=y))=some q/\H a=some (yM q.2))\/(qL (sk.map kvA) (.inl y)=none/\(wr.find? fun q=>decide (q.1=y))=none)
 | _,_,.nil,y=>.inr ⟨rfl,rfl⟩
 | z::sk,q::wr,.cons ⟨e,h⟩ r,y=>by
  rw [List.map_cons]
  by_cases c:z.1=y
  ·subst c
   exact .inl ⟨z.2,q,xp,by rw [List.find?_cons_of_pos (by rw [decide_eq_true e.symm])],h⟩
  ·have e1:qL (kvA z::sk.map kvA) (.inl y)=qL (sk.map kvA) (.inl y):=jy fun w=>c (Sum.inl.inj w)
   have e2:((q::wr).find? fun q=>decide (q.1=y))=wr.find? fun q=>decide (q.1=y):=List.find?_cons_of_neg (by rw [decide_eq_false (by rw [<- e];exact c)];exact Bool.false_ne_true)
   rw [e1,e2]
   exact wR r y
theorem Yq {H:Hp}{ys:List V}{ts:List T3}(r:qM H ys ts) (h1:1<=ts.length) (y:Int):∃ a,atI ys (y % (ys.length:Int))=some (.ref a)/\H a=some (yM (ts.getD (y % (ts.length:Int)).toNat (0,0,0))):=by
 have hl:ys.length=ts.length:=r.length
 have n0:(0:Int)<ts.length:=by omega
 have m0:=Int.emod_nonneg y (show (ts.length:Int)≠0 by omega)
 have m1:=Int.emod_lt_of_pos y n0
 have hi:(y % (ts.length:Int)).toNat<ys.length:=by omega
 obtain ⟨t,ht,a,ea,ha⟩:=r.get (List.getElem?_eq_getElem hi)
 refine ⟨a,?_,?_⟩
 ·rw [hl]
  exact qo m0 (by rw [List.getElem?_eq_getElem hi,ea])
 ·rw [List.getD_eq_getElem?_getD,ht]
  exact ha
def U6 (C:Addr):Sp:=fun vs H Q _=>∃ (p:Addr) (g:IceG) (y:Int) (sk:List (Int×Addr)) (wr:List (Int×T3)),vs=[.ref p,.int y]/\IceAt C H p g/\g.kvs=sk.map kvA/\zJ H sk wr/\1<=g.rows.length/\g.rows.length<=1000/\∀ t,H t=some (yM (QJ wr g.rows y))->Q (.ref t) H
theorem JN:FnScope ["self","year"] ["self","year"] (j6 vn):=by walk_at "s"
theorem JX {f C:Addr}{fd:FuncData}(nb:Nb2 mg) (T:IceC K C) (F:Fun K "sky" "Ice.sky" vn f fd):FnOk P w K mg base CX0 1 f fd ["self","year"] (U6 C):=by
 refine F.ok JN (fun vs H Q E h=>?_) (fun cdv A outer s H vs Q E hr h=>?_)
 ·obtain ⟨p,g,y,sk,wr,rfl,_⟩:=h
  rfl
 ·obtain ⟨p,g,y,sk,wr,rfl,I,ek,hw,h1,h2,k⟩:=h
  have hye:H g.ye=some (.dK (sk.map kvA)):=by rw [<- ek];exact I.ye
  obtain ⟨ra,hra,hrow⟩:=Yq I.rows h1 y
  refine ⟨_,(j9 (jj (JR (jY hr) (xb K (pv 0)) (pv 1) (jn (jb K) (xb K (pv 0)) (jh xV (pv 1) (jf (jg K) rfl nb.b_len PySem.boot_len (j0 (xb K (pv 0)) j2))) (fun _ _=>rfl)) ⟨rfl,rfl,rfl,rfl⟩))),?_⟩
  left
  refine ⟨p,C,g.dx,_,_,rfl,I.ob,T.cl,T.nY,wQ _ _ _ _ _,?_⟩
  left
  refine ⟨.inl ⟨_,.inl hye⟩,?_⟩
  left
  refine ⟨p,C,g.dx,_,_,rfl,I.ob,T.cl,T.nC,wE _ _ _ _ _,?_⟩
  left
  refine ⟨p,C,g.dx,_,_,rfl,I.ob,T.cl,T.nC,wE _ _ _ _ _,?_⟩
  left
  refine ⟨g.cy,_,rfl,.inl (SqL.of I.cy),?_⟩
  have hl:g.ys.length=g.rows.length:=I.rows.length
  left
  refine ⟨_,_,_,_,rfl,rfl,SqL.of I.cy,hra,?_⟩
  rcases wR hw y with ⟨a,q,e1,e2,h⟩ | ⟨e1,e2⟩
  ·refine ⟨some (.ref a),by rw [<- e1];exact qT.k (k:=.inl y) hye,?_⟩
   exact k a (by unfold QJ;rw [e2];exact h)
  ·refine ⟨none,by rw [<- e1];exact qT.k (k:=.inl y) hye,?_⟩
   exact k ra (by unfold QJ;rw [e2];exact hrow)
def Yu:Sp:=fun vs H Q _=>∃ (sd:Addr) (c:ScN) (y:Int) (wr:List (Int×T3)),vs=[.ref sd,.int y]/\ScAt H sd c/\zJ H c.sk wr/\1<=c.ts.length/\c.ts.length<=1000/\∀ t,H t=some (yM (QJ wr c.ts y))->Q (.ref t) H
theorem Qx:FnScope ["_law_scene_here","_law_year_here"] ["_law_scene_here","_law_year_here"] (j6 ua):=by walk_at "s"
theorem Wi {f:Addr}{fd:FuncData}(nb:Nb2 mg) (F:Fun K "_law_row" "_law_row" ua f fd):FnOk P w K mg base CX0 1 f fd ["_law_scene_here","_law_year_here"] Yu:=by
 refine F.ok Qx (fun vs H Q E h=>?_) (fun cdv A outer s H vs Q E hr h=>?_)
 ·obtain ⟨sd,c,y,wr,rfl,_⟩:=h
  rfl
 ·obtain ⟨sd,c,y,wr,rfl,S,hw,h1,h2,k⟩:=h
  refine ⟨_,(j5 (jM (UE (Wa (jY hr) (pv 1) (jH (jY hr) (pv 0) jo (fun _ _=>rfl))) (by with_unfolding_all rfl)) (j9 (jj (jH (jY hr) (jH (jY hr) (pv 0) jo (fun _ _=>rfl)) (pv 1) (fun _ _=>rfl)))) jw)
   (j9 (jj (jn (jb K) (jH (jY hr) (pv 0) jo (fun _ _=>rfl)) (jh xV (pv 1) (jf (jg K) rfl nb.b_len PySem.boot_len (j0 (jH (jY hr) (pv 0) jo (fun _ _=>rfl)) j2))) (fun _ _=>rfl))))),?_⟩
  obtain ⟨ra,hra,hrow⟩:=Yq S.r3 h1 y
  left
  refine ⟨sd,.ref c.sg,rfl,by rw [<- zM c.p c.q c.sg c.gl c.ll];exact qT.k (k:=.inr "single") S.sd,?_⟩
  rcases wR hw y with ⟨a,q,e1,e2,h⟩ | ⟨e1,e2⟩
  ·refine ⟨c.sg,some (.ref a),rfl,.inl ⟨_,.inl y,S.sg,rfl,e1.symm⟩,?_⟩
   left
   refine ⟨sd,.ref c.sg,rfl,by rw [<- zM c.p c.q c.sg c.gl c.ll];exact qT.k (k:=.inr "single") S.sd,?_⟩
   left
   refine ⟨c.sg,.ref a,rfl,.inl ⟨_,.inl y,S.sg,rfl,e1.symm⟩,?_⟩
   exact k a (by unfold QJ;rw [e2];exact h)
  ·refine ⟨c.sg,none,rfl,.inl ⟨_,.inl y,S.sg,rfl,e1.symm⟩,?_⟩
   have hl:c.ys.length=c.ts.length:=S.r3.length
   left
   refine ⟨sd,.ref c.q,rfl,by rw [<- Jk c.p c.q c.sg c.gl c.ll];exact qT.k (k:=.inr "rows") S.sd,?_⟩
   left
   refine ⟨sd,.ref c.q,rfl,by rw [<- Jk c.p c.q c.sg c.gl c.ll];exact qT.k (k:=.inr "rows") S.sd,?_⟩
   left
   refine ⟨c.q,_,rfl,.inl (SqL.of S.q),?_⟩
   left
   refine ⟨_,_,_,_,rfl,rfl,SqL.of S.q,hra,?_⟩
   exact k ra (by unfold QJ;rw [e2];exact hrow)
end
end K23
end
section
namespace L2
open PySem PySem.Spec PySem.W PyProof.Rows
abbrev Cx.noX (X:Cx):Cx:={ X with xe:=fun _ _=>False }
section
variable {X:Cx}{pins:List (Addr×Obj)}{σ:St}{H:Hp}{s:Shared}
theorem Inv.toNoX (I:Inv X pins σ H s):Inv X.noX pins σ H s:=⟨okP I.ok _ rfl,I.os,I.bare,I.base,I.loc,I.cell,I.free,I.freeC,I.pin,I.hok,I.len⟩
theorem Inv.ofNoX (I:Inv X.noX pins σ H s):Inv X pins σ H s:=⟨okP I.ok _ rfl,I.os,I.bare,I.base,I.loc,I.cell,I.free,I.freeC,I.pin,I.hok,I.len⟩
theorem YD {st:Stmt}{t:TS}(h:PS X.noX st t):PS X st t:=fun pins s σ H D I q=>thn (wpAny_noRaise (h pins s σ H D I.toNoX q)) fun _ _ z=>WG (fun I=>I.ofNoX) z
end
end L2
end
section
namespace K23
open PySem PySem.Spec PyProof.Rows L2
local macro_rules | `(tactic| walk_at "hp")=>`(tactic| first | assumption | exact j7 | (rw [j8 (by first | assumption | (apply Ne.symm;assumption))];first | assumption | exact j7))
local macro_rules | `(tactic| walk_at "num")=>`(tactic| first | decide | omega)
local macro_rules | `(tactic| walk_at "rd1")=>`(tactic| first | refine ⟨_,rfl,?_⟩ | refine ⟨_,_,rfl,rfl,?_⟩ | refine And.intro (show J4 _ _ from Or.inr ⟨by walk_at "num",by walk_at "num"⟩) ?_ | refine And.intro (show J4 _ _ from Or.inl ⟨by walk_at "num",by walk_at "num"⟩) ?_ | refine And.intro (show Z7 _ _ from ⟨by walk_at "num",by walk_at "num"⟩) ?_ | refine And.intro (show Vi _ _ from ⟨by walk_at "num",by walk_at "num",by walk_at "num"⟩) ?_ | refine And.intro (show (0:Int)<_ by walk_at "num") ?_ | refine ⟨_,_,_,_,rfl,rfl,SqL.of (by walk_at "hp"),(by rfl),?_⟩ | refine ⟨_,_,_,_,rfl,rfl,SqT.of (by walk_at "hp"),(by rfl),?_⟩ | refine ⟨_,_,_,_,rfl,rfl,(by assumption),(by rfl),?_⟩ | refine ⟨_,_,_,_,rfl,rfl,(by walk_at "hp"),(by rfl),?_⟩ | refine ⟨rfl,?_⟩)
local macro_rules | `(tactic| walk_at "r")=>`(tactic| repeat walk_at "rd1")
local macro_rules | `(tactic| walk_at "s")=>`(tactic| exact ⟨rfl,rfl,rfl,by decide +kernel,rfl,by decide +kernel,by decide +kernel⟩)
local macro_rules | `(tactic| walk_at "k")=>`(tactic| decide +kernel)
local macro_rules | `(tactic| walk_at "w")=>`(tactic| (intro _ z;cases z))
local macro_rules | `(tactic| walk_at "z")=>`(tactic| (intro z;cases z))
local macro_rules | `(tactic| left)=>`(tactic| walk_at "r")
section
variable {P:Program}{w:World}{K:PySem.W.Frag}{mg:Str->Option Value}{base:Heap}
abbrev Q4:=Int×Int×Int×Int
abbrev tup4 (q:Q4):HO:=.tup [.int q.1,.int q.2.1,.int q.2.2.1,.int q.2.2.2]
def x4 (H:Hp) (out:List V) (qs:List Q4):Prop:=Paired (fun v (q:Q4)=>∃ b,v=V.ref b/\H b=some (tup4 q)) out qs
theorem x4.keep {H H':Hp}{out:List V}{qs:List Q4}(h:x4 H out qs) (t:jp H H'):x4 H' out qs:=Paired.mapP h fun _ _ ⟨b,e,q⟩=>⟨b,e,t _ _ q⟩
def plc (ns:List (Int×Int)) (m y:Int):Int:=y+ju ns y-m
def xr (ns:List (Int×Int)) (gd:List Int) (wr:List (Int×T3)) (ts:List T3) (m y:Int):Int:=chg (QJ wr ts y) (gd.getD (plc ns m y).toNat 0)
def xL (ns:List (Int×Int)) (gd:List Int) (wr:List (Int×T3)) (ts:List T3) (m fst:Int):Nat->Int
 | 0=>0
 | i+1=>xL ns gd wr ts m fst i+(if xr ns gd wr ts m (fst+(i:Int)) > - xL ns gd wr ts m fst i then xr ns gd wr ts m (fst+(i:Int)) else-xL ns gd wr ts m fst i)
def yE (ns:List (Int×Int)) (gd:List Int) (wr:List (Int×T3)) (ts:List T3) (m fst:Int) (i:Nat):Q4 :=
 (fst+(i:Int),plc ns m (fst+(i:Int)),(if xr ns gd wr ts m (fst+(i:Int)) > - xL ns gd wr ts m fst i then xr ns gd wr ts m (fst+(i:Int)) else-xL ns gd wr ts m fst i),xL ns gd wr ts m fst (i+1))
def uC (ns:List (Int×Int)) (gd:List Int) (wr:List (Int×T3)) (ts:List T3) (m fst:Int) (n:Nat):List Q4:=(List.range n).map (yE ns gd wr ts m fst)
def qh (ms:List (Int×Int)) (gd:List Int) (wr:List (Int×T3)) (ts:List T3) (m:Int):List Q4:=uC ms gd wr ts m (jv 0 0 ms m) (jv 0 0 ms (m+(gd.length:Int))-jv 0 0 ms m).toNat
theorem ww (ns:List (Int×Int)) (gd:List Int) (wr:List (Int×T3)) (ts:List T3) (m fst:Int) (n:Nat):uC ns gd wr ts m fst (n+1)=uC ns gd wr ts m fst n++[yE ns gd wr ts m fst n]:=by
 unfold uC
 rw [List.range_succ,List.map_append]
 rfl
theorem uE:∀ {xs ys:List (Int×Int)},xs.Perm ys->(xs.map (·.1)).Pairwise (· < ·)->(ys.map (·.1)).Pairwise (· < ·)->xs=ys
 | [],ys,p,_,_=>p.nil_eq
 | x::r,[],p,_,_=>absurd p.length_eq (by simp)
 | x::r,y::t,p,hx,hy=>by
  rw [List.map_cons,List.pairwise_cons] at hx hy
  have e:x=y:=by
   rcases List.mem_cons.mp (p.mem_iff.mpr (List.mem_cons_self (a:=y) (l:=t))) with e | e
   ·exact e.symm
   ·rcases List.mem_cons.mp (p.mem_iff.mp (List.mem_cons_self (a:=x) (l:=r))) with e2 | e2
    ·exact e2
    ·have a:=hx.1 _ (List.mem_map_of_mem e)
     have b:=hy.1 _ (List.mem_map_of_mem e2)
     omega
  subst e
  rw [uE (List.Perm.cons_inv p) hx.2 hy.2]
theorem yQ {ns ms os:List (Int×Int)}(nd:(ns.map (·.1)).Nodup) (p:ms.Perm ns) (s:(ms.map (·.1)).Pairwise (· <= ·)) (q:os.Perm ns) (t:(os.map (·.1)).Pairwise (· <= ·)):os=ms :=
 uE (q.trans p.symm) (qR t ((q.map (·.1)).nodup_iff.mpr nd)) (qR s ((p.map (·.1)).nodup_iff.mpr nd))
theorem wx:∀ {ns:List (Int×Int)},(ns.map (·.1)).Nodup->∀ y:Int,ju ns (y+1)=ju ns y+qN ns (y+1)
 | [],_,y=>rfl
 | q::r,nd,y=>by
  rw [List.map_cons] at nd
  obtain ⟨h1,h2⟩:=List.nodup_cons.mp nd
  have ih:=wx h2 y
  rw [jW,jW]
  unfold qN
  by_cases e:q.1=y+1
  ·have z:qN r (y+1)=0:=by
    have:∀ {l:List (Int×Int)} {y:Int},y∉l.map (·.1)->qN l y=0:=fun {l}=>by
     induction l with
     | nil=>intro _ _;rfl
     | cons a t ih2 =>
      intro y hy
      rw [List.map_cons,List.mem_cons,not_or] at hy
      unfold qN
      rw [if_neg (fun z=>hy.1 z.symm)]
      exact ih2 hy.2
    exact this (by rw [<- e];exact h1)
   rw [if_pos e,if_pos (by omega),if_neg (by omega)]
   omega
  ·rw [if_neg e]
   by_cases l:q.1<=y
   ·rw [if_pos l,if_pos (by omega)];omega
   ·rw [if_neg l,if_neg (by omega)];omega
theorem gg:∀ (ns:List (Int×Int)) (y:Int),(qL (ns.map kvI) (.inl y)).getD (.int 0) = .int (qN ns y)
 | [],y=>rfl
 | q::r,y=>by
  rw [List.map_cons]
  unfold qN
  by_cases e:q.1=y
  ·subst e
   rw [if_pos rfl,show qL (kvI q::r.map kvI) (.inl q.1)=some (.int q.2) from xp]
   rfl
  ·rw [if_neg e,show qL (kvI q::r.map kvI) (.inl y)=qL (r.map kvI) (.inl y) from jy fun w=>e (Sum.inl.inj w)]
   exact gg r y
def Yp (C CN:Addr):Sp:=fun vs H Q E=>∃ (p:Addr) (g:IceG) (l m:Int) (sk:List (Int×Addr)) (wr:List (Int×T3)),vs=[.ref p,.int l,.int m]/\IceAt C H p g/\g.lds.length=g.slopes.length/\g.kvs=sk.map kvA/\zJ H sk wr/\1<=g.rows.length/\g.rows.length<=1000 /\
 (∀ H',ji H H'->l<0\/(g.slopes.length:Int)<=l->E (.ref CN) none H') /\
 (0<=l->l<(g.slopes.length:Int)->∃ ns ms,Xr g l ns/\(∀ q∈ns,0<=q.1)/\(g.slopes.getD l.toNat []).length<=100/\ms.Perm ns/\(ms.map (·.1)).Pairwise (· <= ·) /\
  ∀ o H' out,H o=none->H' o=some (.lst out)->x4 H' out (qh ms (g.slopes.getD l.toNat []) wr g.rows m)->ji H H'->Q (.ref o) H')
theorem qV:FnScope ["ice","lane","mark","years","first","last","surges","leaps","place","rows","lying","year","moved"] ["ice","lane","mark"] (j6 QS):=by walk_at "s"
theorem VX {f C CN CP:Addr}{fd:FuncData}(nb:Nb2 mg) (b_dict:mg "dict" = none) (cl_Ice:Cls K C) (c_span:CalX P w K mg base 3 "span" ["ice","lane","mark"] (Yr C CN)) (c_Ice__surges:CalMX P w K mg base 2 C "surges" ["self","lane"] (yF C CN)) (c_ride_by:Cal P w K mg base 1 "ride_by" ["surges","year"] wF)
  (c_change:Cal P w K mg base 1 "change" ["row","height"] Qj) (c_Ice__sky:CalM P w K mg base 1 C "sky" ["self","year"] (U6 C)) (c_Ice__height:CalMX P w K mg base 3 C "height" ["self","lane","place"] (gk C CN CP))
  (F:Fun K "life" "life" QS f fd):FnOk P w K mg base (CX1 P w) 4 f fd ["ice","lane","mark"] (Yp C CN):=by
 refine Fun.okX F qV (fun vs H Q E h=>?_) (fun cdv A outer s H vs Q E hr h=>?_)
 ·obtain ⟨p,g,l,m,sk,wr,rfl,_⟩:=h
  rfl
 ·obtain ⟨p,g,l,m,sk,wr,rfl,I,hll,ek,hw,hr1,hr2,kx,k⟩:=h
  have nof:∀ {m:Str},¬ m = "leaps" -> ¬ m = "years" -> ¬ m = "slopes" -> ¬ m = "cycle" -> ¬ m = "valley" -> (vX g.va g.cy g.sl g.ye g.le).lookup m=none:=fun a b c d e=>xH _ _ _ _ _ a b c d e
  refine ⟨_,(j5 (je (i:=3) qV.nd rfl (Or.inl rfl) (xa c_span (hr.mono (by decide)) qA rfl (j0 (pv 0) (j0 (pv 1) (j0 (pv 2) j2)))))
   (j5 (jM (jq kj (pv 3) zW (jx _)) (j9 (jj (jK j2))) jw)
   (j5 (xy (pv 3) (qq (n:=2) K rfl (jk (ja (i:=4) qV.nd rfl (Or.inl rfl)) (jk (ja (i:=5) qV.nd rfl (Or.inl rfl)) qm))))
   (j5 (je (i:=6) qV.nd rfl (Or.inl rfl) (zO (pv 0) cl_Ice c_Ice__surges (hr.mono (by decide)) qA (j0 (pv 1) j2)))
   (j5 (je (i:=7) qV.nd rfl (Or.inl rfl) (qH (QV K rfl) rfl b_dict PyProof.Rows.boot_dict (j0 (pv 6) j2)))
   (j5 (je (i:=8) qV.nd rfl (Or.inl rfl) (jh jE (jd c_ride_by (hr.mono (by decide)) rfl (j0 (pv 6) (j0 (pv 4) j2))) (pv 2)))
   (j5 (je (i:=9) qV.nd rfl (Or.inl rfl) (jK j2))
   (j5 (je (i:=10) qV.nd rfl (Or.inl rfl) j4)
   (j5 (YD (qK PassesOwn.never rfl (gQ rfl nb.b_range (j0 (pv 4) (j0 (jh jN (pv 5) j4) j2))) (ja (i:=11) qV.nd rfl (Or.inl rfl)) (j5 (je (i:=12) qV.nd rfl (Or.inl rfl) (jf (zI rfl) rfl nb.b_max boot_max (j0 (vz zR (pv 10)) (j0 (jd c_change (hr.mono (by decide)) rfl (j0 (pe_m (pv 0) cl_Ice c_Ice__sky (hr.mono (by decide)) (j0 (pv 11) j2)) (j0 (zO (pv 0) cl_Ice c_Ice__height (hr.mono (by decide)) Jh (j0 (pv 1) (j0 (pv 8) j2))) j2))) j2))))
   (j5 (QR (i:=10) qV.nd rfl (Or.inl rfl) (pv 12) QT)
   (j5 (qd (yq K PySem.F.plainAttrs_list PySem.F.slot_list_append PySem.F.type_list_append qz (pv 9) (j0 (jI (j0 (pv 11) (j0 (pv 8) (j0 (pv 12) (j0 (pv 10) j2))))) j2)))
   (j9 (QR (i:=8) qV.nd rfl (Or.inl rfl) (jh jN j4 (JR (jY hr) (pv 7) (jh jN (pv 11) j4) j4 ⟨rfl,rfl,rfl,rfl⟩)) QT)))))))
   (j9 (jj (pv 9)))))))))))),?_⟩
  left
  refine ⟨p,g,l,m,rfl,I,hll,kx,fun l0 l1=>?_⟩
  obtain ⟨ns,ms,⟨_,_,⟨a,ha⟩,nd,h64,h9⟩,hp0,g100,hp,hs,k⟩:=k l0 l1
  have hpos:∀ q∈ns,0<=q.1/\0<=q.2:=fun q hq=>⟨hp0 q hq,(h9 q hq).1⟩
  refine ⟨a,ns,ha,nd,h64,fun os hos hss fst gon e1 e2=>?_⟩
  obtain rfl:=yQ nd hp hs hos hss
  clear hos hss
  refine ⟨fun hlt t H1 s1 ht1=>?_,fun hlt H1 s1=>?_⟩
  ·have hn:(gon-1+1-fst).toNat=(gon-fst).toNat:=by omega
   have on:=fun w hw=>zu hp hs nd hpos m (g.slopes.getD l.toNat []).length w hw
   have f0:=yw hp hs hpos m
   have spl:=vT hp hs nd hpos m (g.slopes.getD l.toNat []).length (by rw [<- e1,<- e2];exact hlt)
   unfold qh at k
   rw [<- e1,<- e2] at k spl
   rw [<- e1] at f0
   rw [<- e1,<- e2] at on
   have sper:=fun y=>zh hp y
   have ndm:(os.map (·.1)).Nodup:=(hp.map (·.1)).nodup_iff.mpr nd
   have h9m:∀ q∈os,0<=q.2/\q.2<=9:=fun q hq=>h9 q (hp.mem_iff.mp hq)
   have hlm:os.length<64:=by rw [hp.length_eq];exact h64
   clear e1 e2
   generalize hgd:g.slopes.getD l.toNat []=gd at *
   left
   refine ⟨t,_,rfl,SqT.of ht1,rfl,?_⟩
   refine ⟨_,_,rfl,_,_,rfl,rfl,?_⟩
   left
   refine ⟨p,g.dx,_,rfl,s1 _ _ I.ob,nof (by walk_at "k") (by walk_at "k") (by walk_at "k") (by walk_at "k") (by walk_at "k"),?_⟩
   left
   refine ⟨p,g,l,rfl,I.same s1,hll,(fun hb=>absurd hb (by omega)),fun _ _=>⟨a,ns,ha,nd,h64,fun so H2 out ms2 hso hso2 hq2 s2 hp2 hs2=>?_⟩⟩
   obtain rfl:=yQ nd hp hs hp2 hs2
   left
   refine ⟨so,out,ms2,rfl,SqL.of hso2,hq2,ndm,by omega,fun d H3 hd hd3 s3=>?_⟩
   have hd3:H3 d=some (.dK (ms2.map kvI)):=hd3
   left
   refine ⟨so,out,ms2,fst,rfl,s3 _ _ hso2,kH.same hq2 s3,by omega,h9m,fun H4 s4=>?_⟩
   left
   refine ⟨Nat.zero_le _,fun rw_ H5 hrw hrw5 s5=>?_⟩
   have S4:ji H H4:=((s1.trans s2).trans s3).trans s4
   have d4:=s4 _ _ hd3
   have rw0:H rw_=none:=S4.free hrw
   left
   refine ⟨_,_,rfl,?_⟩
   refine xk (fun i σ H6=>∃ (x y:Option V) (out6:List V),σ=[some (.ref p),some (.int l),some (.int m),some (.ref t),some (.int fst),some (.int (gon-1)),some (.ref so),some (.ref d),some (.int (plc ms2 m (fst+(i:Int)))),some (.ref rw_),some (.int (xL ms2 gd wr g.rows m fst i)),x,y]/\H6 rw_=some (.lst out6)/\out6.length=i/\x4 H6 out6 (uC ms2 gd wr g.rows m fst i)/\Ext rw_ H4 H6) ?_ ?_ ?_
   ·refine ⟨none,none,[],?_,hrw5,rfl,.nil,fun c o hc _=>s5 _ _ hc⟩
    rw [show fst+((0:Nat):Int)=fst by omega]
    rfl
   ·rintro i σ H6 hi ⟨x,y,out6,rfl,h6,hl6,r6,e6⟩
    rw [hn] at hi
    have y0:0<=fst+(i:Int):=by omega
    have onp:=(on _ y0).mpr ⟨by omega,by omega⟩
    rw [<- sper] at onp
    have onp:0<=plc ms2 m (fst+(i:Int))/\plc ms2 m (fst+(i:Int))<(gd.length:Int):=onp
    have s6:ji H4 H6:=fun c o hc=>e6 c o hc (j1 hc hrw)
    have I6:=I.same (S4.trans s6)
    have hw6:zJ H6 sk wr:=hw.keep (jp.same (S4.trans s6))
    left
    refine ⟨p,g.dx,_,rfl,I6.ob,nof (by walk_at "k") (by walk_at "k") (by walk_at "k") (by walk_at "k") (by walk_at "k"),?_⟩
    left
    refine ⟨p,g,fst+(i:Int),sk,wr,rfl,I6,ek,hw6,hr1,hr2,fun tr htr=>?_⟩
    left
    refine ⟨p,g.dx,_,rfl,I6.ob,nof (by walk_at "k") (by walk_at "k") (by walk_at "k") (by walk_at "k") (by walk_at "k"),?_⟩
    left
    refine ⟨p,g,l,plc ms2 m (fst+(i:Int)),rfl,I6,fun _ _ _ _=>?_,(fun hb=>absurd hb (by omega)),fun _ _ hb=>absurd hb (by rw [hgd];omega)⟩
    rw [hgd]
    left
    refine ⟨tr,_,_,rfl,htr,?_⟩
    left
    refine ⟨_,_,rfl,?_⟩
    left
    refine ⟨.inl ⟨rfl,_,SqL.of h6⟩,?_⟩
    left
    refine ⟨by show 4<=sizeLine;decide,fun tq H7 htq htq7 s7=>?_⟩
    refine ⟨_,_,_,rfl,rfl,s7 _ _ h6,jm (by omega),?_⟩
    have d7:upd H7 rw_ (.lst (out6++[.ref tq])) d=some (.dK (ms2.map kvI)):=by rw [j8 (j1 d4 hrw)];exact s7 _ _ (s6 _ _ d4)
    have tqr:tq≠rw_:=(j1 h6 htq).symm
    left
    refine ⟨.inl ⟨_,.inl d7⟩,?_⟩
    left
    refine ⟨_,qT.k (k:=.inl (fst+(i:Int)+1)) d7,?_⟩
    rw [gg]
    left
    have epl:plc ms2 m (fst+((i+1:Nat):Int))=plc ms2 m (fst+(i:Int))+(1+qN ms2 (fst+(i:Int)+1)):=by
     have:=wx ndm (fst+(i:Int))
     rw [show fst+((i+1:Nat):Int)=fst+(i:Int)+1 by omega]
     unfold plc
     omega
    refine ⟨_,_,out6++[.ref tq],by rw [epl];rfl,j7,by rw [List.length_append,hl6];rfl,?_,fun c o hc n=>by rw [j8 n];exact s7 _ _ (e6 c o hc n)⟩
    rw [ww]
    exact Paired.snoc (r6.keep fun a xs q=>by rw [j8 (jr (s7 _ _ q) (s7 _ _ h6) (by walk_at "z"))];exact s7 _ _ q) ⟨tq,rfl,by rw [j8 tqr];exact htq7⟩
   ·rintro σ H6 ⟨x,y,out6,rfl,h6,hl6,r6,e6⟩
    rw [hn] at r6
    left
    exact k rw_ H6 out6 rw0 h6 r6 (S4.trans fun c o hc=>e6 c o hc (j1 hc hrw))
  ·have hz:(gon-fst).toNat=0:=by omega
   unfold qh at k
   rw [<- e1,<- e2,hz] at k
   left
   refine ⟨Nat.zero_le _,fun o H2 ho ho2 s2=>?_⟩
   exact k o H2 [] (s1.free ho) ho2 .nil (s1.trans s2)
end
section
variable {P:Program}{w:World}{K:PySem.W.Frag}{mg:Str->Option Value}{base:Heap}
theorem VO (xs:List V) (k:Nat):uQ xs none (some (k:Int))=xs.take k:=by
 unfold uQ
 rw [HT.sIx_none,HT.sIx_nat,List.drop_zero,Nat.sub_zero]
 by_cases h:k<=xs.length
 ·rw [Nat.min_eq_left h]
 ·rw [Nat.min_eq_right (by omega),List.take_of_length_le (Nat.le_refl _)]
  exact (List.take_of_length_le (by omega)).symm
theorem ZQ (xs:List V) (k:Nat):uQ xs (some (k:Int)) none=xs.drop k:=by
 unfold uQ
 rw [HT.sIx_none,HT.sIx_nat]
 by_cases h:k<=xs.length
 ·rw [Nat.min_eq_left h]
  exact List.take_of_length_le (by rw [List.length_drop];omega)
 ·rw [Nat.min_eq_right (by omega),List.drop_eq_nil_of_le (Nat.le_refl _),List.take_nil]
  exact (List.drop_eq_nil_of_le (by omega)).symm
theorem x4.drop {H:Hp}:∀ (n:Nat) {out:List V}{qs:List Q4},x4 H out qs->x4 H (out.drop n) (qs.drop n)
 | 0,_,_,r=>r
 | _+1,_,_,.nil=>.nil
 | n+1,_,_,.cons _ r=>x4.drop n r
theorem vc {ms:List (Int×Int)}{gd:List Int}{wr:List (Int×T3)}{ts:List T3}{m:Int}{i:Nat}(h:i<(jv 0 0 ms (m+(gd.length:Int))-jv 0 0 ms m).toNat):(qh ms gd wr ts m)[i]? = some (yE ms gd wr ts m (jv 0 0 ms m) i):=by
 unfold qh uC
 rw [List.getElem?_map,List.getElem?_range h]
 rfl
theorem zc (ms:List (Int×Int)) (gd:List Int) (wr:List (Int×T3)) (ts:List T3) (m:Int):(qh ms gd wr ts m).length=(jv 0 0 ms (m+(gd.length:Int))-jv 0 0 ms m).toNat:=by
 unfold qh uC
 rw [List.length_map,List.length_range]
def wP (C CN CP CY:Addr):Sp:=fun vs H Q E=>∃ (p:Addr) (g:IceG) (l n y:Int) (sk:List (Int×Addr)) (wr:List (Int×T3)),vs=[.ref p,.int l,.int n,.int y]/\IceAt C H p g/\g.lds.length=g.slopes.length/\g.kvs=sk.map kvA/\zJ H sk wr/\1<=g.rows.length/\g.rows.length<=1000 /\
 (l<0\/(g.slopes.length:Int)<=l->E (.ref CN) none H)/\(0<=l->l<(g.slopes.length:Int)->n<0\/((g.slopes.getD l.toNat []).length:Int)<=n->E (.ref CP) none H) /\
 (0<=l->l<(g.slopes.length:Int)->0<=n->n<((g.slopes.getD l.toNat []).length:Int)->∃ ns ms,Xr g l ns/\(∀ q∈ns,0<=q.1)/\(g.slopes.getD l.toNat []).length<=100/\ms.Perm ns/\(ms.map (·.1)).Pairwise (· <= ·)/\(∀ H',ji H H'->y<0\/10 ^ 40<y->E (.ref CY) none H') /\
  (0<=y->y<=10 ^ 40->∀ t a1 a2 out H',H t=none->H a1=none->H a2=none->H' t=some (.tup [.ref a1,.ref a2])->H' a1=some (.lst (out.take (y-jv 0 0 ms (y+ju ns y-n)).toNat))->H' a2=some (.lst (out.drop (y-jv 0 0 ms (y+ju ns y-n)).toNat))->x4 H' out (qh ms (g.slopes.getD l.toNat []) wr g.rows (y+ju ns y-n))->ji H H'->Q (.ref t) H'))
theorem uu:FnScope ["ice","lane","place","year","rows","lived"] ["ice","lane","place","year"] (j6 wz):=by walk_at "s"
theorem Za {f C CN CP CY:Addr}{fd:FuncData}(cl_Ice:Cls K C) (c_Ice__check_place:CalMX P w K mg base 2 C "check_place" ["self","lane","place"] (zX C CN CP)) (c_ridden:CalX P w K mg base 3 "ridden" ["ice","lane","year"] (Qb C CN CY)) (c_life:CalX P w K mg base 4 "life" ["ice","lane","mark"] (Yp C CN))
  (F:Fun K "parted" "parted" wz f fd):FnOk P w K mg base (CX1 P w) 5 f fd ["ice","lane","place","year"] (wP C CN CP CY):=by
 refine Fun.okX F uu (fun vs H Q E h=>?_) (fun cdv A outer s H vs Q E hr h=>?_)
 ·obtain ⟨p,g,l,n,y,sk,wr,rfl,_⟩:=h
  rfl
 ·obtain ⟨p,g,l,n,y,sk,wr,rfl,I,hll,ek,hw,hr1,hr2,kl,kp,k⟩:=h
  refine ⟨_,(j5 (qd (zO (pv 0) cl_Ice c_Ice__check_place (hr.mono (by decide)) qA (j0 (pv 1) (j0 (pv 2) j2))))
   (j5 (je (i:=4) uu.nd rfl (Or.inl rfl) (xa c_life (hr.mono (by decide)) qA rfl (j0 (pv 0) (j0 (pv 1) (j0 (jh jE (xa c_ridden (hr.mono (by decide)) qA rfl (j0 (pv 0) (j0 (pv 1) (j0 (pv 3) j2)))) (pv 2)) j2)))))
   (j5 (je (i:=5) uu.nd rfl (Or.inl rfl) (jh jE (pv 3) (jn (qe K) (jn (jb K) (pv 4) j4 (fun _ _=>rfl)) j4 (fun _ _=>rfl))))
   (j9 (jj (jI (j0 (vC (gz K) (pv 4) wb (wc (pv 5))) (j0 (vC (gz K) (pv 4) (wc (pv 5)) wb) j2)))))))),?_⟩
  left
  refine ⟨p,g.dx,_,rfl,I.ob,xH _ _ _ _ _ (by walk_at "k") (by walk_at "k") (by walk_at "k") (by walk_at "k") (by walk_at "k"),?_⟩
  left
  refine ⟨p,g,l,n,rfl,I,fun l0 l1 n0 n1=>?_,fun hb=>kl hb,fun l0 l1 hb=>kp l0 l1 hb⟩
  obtain ⟨ns,ms,hL,hp0,g100,hp,hs,ky,k⟩:=k l0 l1 n0 n1
  have hpos:∀ q∈ns,0<=q.1/\0<=q.2:=fun q hq=>⟨hp0 q hq,(hL.2.2.2.2.2 q hq).1⟩
  have nd:(ns.map (·.1)).Nodup:=hL.2.2.2.1
  left
  refine ⟨p,g,l,y,rfl,I,hll,(fun hb=>absurd hb (by omega)),fun _ _=>⟨ns,hL,ky,fun H1 s1 y0 y1=>?_⟩⟩
  have k:=k y0 y1
  have e0:y+ju ns y-(y+ju ns y-n)=n:=by omega
  have onm:=(zu hp hs nd hpos (y+ju ns y-n) (g.slopes.getD l.toNat []).length y y0).mp (by rw [e0];exact ⟨n0,n1⟩)
  have hlo:=zc ms (g.slopes.getD l.toNat []) wr g.rows (y+ju ns y-n)
  have hg0:=vc (ms:=ms) (gd:=g.slopes.getD l.toNat []) (wr:=wr) (ts:=g.rows) (m:=y+ju ns y-n) (i:=0) (by omega)
  obtain ⟨m,em⟩:∃ m,y+ju ns y-n=m:=⟨_,rfl⟩
  rw [em] at k onm hlo hg0
  left
  refine ⟨p,g,l,m,sk,wr,by rw [<- em],I.same s1,hll,ek,hw.keep (jp.same s1),hr1,hr2,(fun H' _ hb=>absurd hb (by omega)),fun _ _=>⟨ns,ms,hL,hp0,g100,hp,hs,fun o H2 out ho ho2 r2 s2=>?_⟩⟩
  have hol:out.length=(qh ms (g.slopes.getD l.toNat []) wr g.rows m).length:=Paired.length r2
  have h0:0<out.length:=by omega
  obtain ⟨q0,hq0,b0,ev0,hb0⟩:=Paired.get r2 (List.getElem?_eq_getElem h0)
  rw [hg0] at hq0
  have eq0:q0.1=jv 0 0 ms m:=by
   cases hq0
   show jv 0 0 ms m+((0:Nat):Int)=_
   omega
  have hb0:H2 b0=some (.tup [.int q0.1,.int q0.2.1,.int q0.2.2.1,.int q0.2.2.2]):=hb0
  left
  refine ⟨_,_,_,_,rfl,rfl,SqL.of ho2,qo (by decide) (v:=V.ref b0) (by show out[0]? = _;rw [List.getElem?_eq_getElem h0,ev0]),?_⟩
  left
  have ek2:y-q0.1=(((y-jv 0 0 ms m).toNat:Nat):Int):=by rw [eq0];omega
  refine ⟨_,_,rfl,SqL.of ho2,fun a1 H3 ha1 ha13 s3=>?_⟩
  left
  refine ⟨_,_,rfl,SqL.of (s3 _ _ ho2),fun a2 H4 ha2 ha24 s4=>?_⟩
  have ha13:H3 a1=some (.lst (out.take (y-jv 0 0 ms m).toNat)):=by rw [ha13,<- VO,<- ek2]
  have ha24:H4 a2=some (.lst (out.drop (y-jv 0 0 ms m).toNat)):=by rw [ha24,<- ZQ,<- ek2]
  left
  refine ⟨by show 2<=sizeLine;decide,fun t H5 ht ht5 s5=>?_⟩
  have t2:=s1.trans s2
  have t3:=t2.trans s3
  exact k t a1 a2 out H5 ((t3.trans s4).free ht) (t2.free ha1) (t3.free ha2) ht5 (s5 _ _ (s4 _ _ ha13)) (s5 _ _ ha24) (r2.keep (jp.same (s3.trans (s4.trans s5)))) (t3.trans (s4.trans s5))
def ZA (rows:List Q4) (b:Int):List V :=
 match rows.find? fun q=>decide (q.2.2.2<=b) with
 | some q=>[.str "melt",.int q.1,.int q.2.1,.int (q.2.2.2-q.2.2.1-1-b)]
 | none=>[.str "off",.int ((rows.getLastD (0,0,0,0)).1+1)]
theorem wK {rows:List Q4}{b:Int}{i:Nat}{q:Q4}(h:rows[i]? = some q) (n:∀ j x,j<i->rows[j]? = some x->¬ x.2.2.2<=b) (c:q.2.2.2<=b):(rows.find? fun q=>decide (q.2.2.2<=b))=some q:=by
 induction rows generalizing i with
 | nil=>simp at h
 | cons x r ih =>
  cases i with
  | zero =>
   simp at h
   subst h
   exact List.find?_cons_of_pos (by rw [decide_eq_true c])
  | succ i =>
   rw [List.find?_cons_of_neg (by rw [decide_eq_false (n 0 x (by omega) rfl)];exact Bool.false_ne_true)]
   exact ih (by simpa using h) fun j y hj hy=>n (j+1) y (by omega) (by simpa using hy)
def Z6 (C CN CP CY CB:Addr):Sp:=fun vs H Q E=>∃ (p:Addr) (g:IceG) (l n y layer:Int) (sk:List (Int×Addr)) (wr:List (Int×T3)),vs=[.ref p,.int l,.int n,.int y,.int layer]/\IceAt C H p g/\g.lds.length=g.slopes.length/\g.kvs=sk.map kvA/\zJ H sk wr/\1<=g.rows.length/\g.rows.length<=1000 /\
 (l<0\/(g.slopes.length:Int)<=l->E (.ref CN) none H)/\(0<=l->l<(g.slopes.length:Int)->n<0\/((g.slopes.getD l.toNat []).length:Int)<=n->E (.ref CP) none H) /\
 (0<=l->l<(g.slopes.length:Int)->0<=n->n<((g.slopes.getD l.toNat []).length:Int)->∃ ns ms,Xr g l ns/\(∀ q∈ns,0<=q.1)/\(g.slopes.getD l.toNat []).length<=100/\ms.Perm ns/\(ms.map (·.1)).Pairwise (· <= ·)/\(∀ H',ji H H'->y<0\/10 ^ 40<y->E (.ref CY) none H') /\
  (0<=y->y<=10 ^ 40->∀ (q0:Q4) rows,rows=(qh ms (g.slopes.getD l.toNat []) wr g.rows (y+ju ns y-n)).drop (y-jv 0 0 ms (y+ju ns y-n)).toNat->rows[0]? = some q0 ->
   (layer<0\/q0.2.2.1<=layer->∀ H',ji H H'->E (.ref CB) none H')/\(0<=layer->layer<q0.2.2.1->∀ t H',H t=none->H' t=some (.tup (ZA rows (q0.2.2.2-q0.2.2.1+layer)))->ji H H'->Q (.ref t) H')))
theorem qY:FnScope ["ice","lane","place","year","layer","onward","fell","lying","beneath","when","where","moved","left"] ["ice","lane","place","year","layer"] (j6 km):=by walk_at "s"
theorem ZS {f C CN CP CY CB:Addr}{fd:FuncData}(e_BadHand:mg "BadHand" = some (.ref CB)) (x_BadHand:PySem.W.excIn K CB [.type "ValueError",.type "Exception",.type "BaseException",.type "object"] "ValueError.__new__" = true) (c_parted:CalX P w K mg base 5 "parted" ["ice","lane","place","year"] (wP C CN CP CY))
  (F:Fun K "end_of" "end_of" km f fd):FnOk P w K mg base (CX1 P w) 6 f fd ["ice","lane","place","year","layer"] (Z6 C CN CP CY CB):=by
 refine Fun.okX F qY (fun vs H Q E h=>?_) (fun cdv A outer s H vs Q E hr h=>?_)
 ·obtain ⟨p,g,l,n,y,layer,sk,wr,rfl,_⟩:=h
  rfl
 ·obtain ⟨p,g,l,n,y,layer,sk,wr,rfl,I,hll,ek,hw,hr1,hr2,kl,kp,k⟩:=h
  refine ⟨_,(j5 (je (i:=5) qY.nd rfl (Or.inl rfl) (jn (qe K) (xa c_parted (hr.mono (by decide)) qA rfl (j0 (pv 0) (j0 (pv 1) (j0 (pv 2) (j0 (pv 3) j2))))) j4 (fun _ _=>rfl)))
   (j5 (xy (vC (Qu K) (jn (jb K) (pv 5) j4 (fun _ _=>rfl)) (wc j4) wb) (qq (n:=2) K rfl (jk (ja (i:=6) qY.nd rfl (Or.inl rfl)) (jk (ja (i:=7) qY.nd rfl (Or.inl rfl)) qm))))
   (j5 (jM (qJ (qy jP xX j4 (pv 4) (pv 6))) (j9 (qQ PySem.F.excBase_ValueError x_BadHand e_BadHand rfl xu rfl (j0 jo j2))) jw)
   (j5 (je (i:=8) qY.nd rfl (Or.inl rfl) (jh jN (jh jE (pv 7) (pv 6)) (pv 4)))
   (j5 (YD (qK PassesOwn.never rfl (qc K (pv 5)) (qq (n:=4) K rfl (jk (ja (i:=9) qY.nd rfl (Or.inl rfl)) (jk (ja (i:=10) qY.nd rfl (Or.inl rfl)) (jk (ja (i:=11) qY.nd rfl (Or.inl rfl)) (jk (ja (i:=12) qY.nd rfl (Or.inl rfl)) qm))))) (j9 (jM (jq jP (pv 12) (pv 8) (jx _)) (j9 (jj (jI (j0 jo (j0 (pv 9) (j0 (pv 10) (j0 (jh jE (jh jE (jh jE (pv 12) (pv 11)) j4) (pv 8)) j2))))))) jw))))
   (j9 (jj (jI (j0 jo (j0 (jh jN (jn (qe K) (jn (jb K) (pv 5) (vz zR j4) (fun _ _=>rfl)) j4 (fun _ _=>rfl)) j4) j2)))))))))),?_⟩
  left
  refine ⟨p,g,l,n,y,sk,wr,rfl,I,hll,ek,hw,hr1,hr2,kl,kp,fun l0 l1 n0 n1=>?_⟩
  obtain ⟨ns,ms,hL,hp0,g100,hp,hs,ky,k⟩:=k l0 l1 n0 n1
  refine ⟨ns,ms,hL,hp0,g100,hp,hs,ky,fun y0 y1 t a1 a2 out H1 ht ha1 ha2 ht1 ha11 ha21 r1 s1=>?_⟩
  have hpos:∀ q∈ns,0<=q.1/\0<=q.2:=fun q hq=>⟨hp0 q hq,(hL.2.2.2.2.2 q hq).1⟩
  have nd:(ns.map (·.1)).Nodup:=hL.2.2.2.1
  have e0:y+ju ns y-(y+ju ns y-n)=n:=by omega
  have onm:=(zu hp hs nd hpos (y+ju ns y-n) (g.slopes.getD l.toNat []).length y y0).mp (by rw [e0];exact ⟨n0,n1⟩)
  have hlo:=zc ms (g.slopes.getD l.toNat []) wr g.rows (y+ju ns y-n)
  have spl:=vT hp hs nd hpos (y+ju ns y-n) (g.slopes.getD l.toNat []).length (by omega)
  have k:=k y0 y1
  have r2:x4 H1 (out.drop (y-jv 0 0 ms (y+ju ns y-n)).toNat) ((qh ms (g.slopes.getD l.toNat []) wr g.rows (y+ju ns y-n)).drop (y-jv 0 0 ms (y+ju ns y-n)).toNat):=x4.drop _ r1
  generalize y+ju ns y-n=m at *
  generalize hkk:(y-jv 0 0 ms m).toNat=kk at *
  generalize hrw:(qh ms (g.slopes.getD l.toNat []) wr g.rows m).drop kk=rows at *
  have hrl:0<rows.length:=by rw [<- hrw,List.length_drop];omega
  have hr100:rows.length<=100:=by rw [<- hrw,List.length_drop];omega
  obtain ⟨q0,hq0⟩:∃ q,rows[0]? = some q:=⟨_,List.getElem?_eq_getElem hrl⟩
  obtain ⟨kb,k⟩:=k q0 rows rfl hq0
  generalize hov:out.drop kk=ov at *
  have hol:ov.length=rows.length:=Paired.length r2
  obtain ⟨v0,hv0⟩:∃ v,ov[0]? = some v:=⟨_,List.getElem?_eq_getElem (by omega)⟩
  obtain ⟨q0',hq0',b0,rfl,hb0⟩:=Paired.get r2 hv0
  rw [hq0] at hq0'
  cases hq0'
  have hb0:H1 b0=some (.tup [.int q0.1,.int q0.2.1,.int q0.2.2.1,.int q0.2.2.2]):=hb0
  left
  refine ⟨_,_,_,_,rfl,rfl,SqL.of ha21,qo (by decide) (v:=V.ref b0) hv0,?_⟩
  left
  refine ⟨b0,_,rfl,SqT.of hb0,(by show ¬ ((2:Nat)=0/\_);exact fun z=>absurd z.1 (by decide)),fun ts H2 hts hts2 s2=>?_⟩
  have hts2:H2 ts=some (.tup [.int q0.2.2.1,.int q0.2.2.2]):=hts2
  left
  refine ⟨ts,_,rfl,SqT.of hts2,rfl,?_⟩
  refine ⟨_,_,rfl,_,_,rfl,rfl,?_⟩
  left
  have kx:layer<0\/q0.2.2.1<=layer->E (.ref CB) none H2:=fun z=>kb z H2 (s1.trans s2)
  have main:0<=layer->layer<q0.2.2.1->∀ t H',H t=none->H' t=some (.tup (ZA rows (q0.2.2.2-q0.2.2.1+layer)))->ji H H'->Q (.ref t) H':=k
  refine jV (fun h0=>?_) (fun h0=>?_)
  ·left
   refine x8 (fun h1=>?_) (fun h1=>?_)
   ·left
    exact ⟨by show 1<=sizeLine;decide,kx (.inr (by omega))⟩
   ·have k:=k h0 h1
    clear main kb kx
    left
    refine ⟨⟨_,SqL.of (s2 _ _ ha21)⟩,?_⟩
    refine vH (K:=K) (a:=a2) (xs:=ov) (fun i σ H3=>∃ v9 v10 v11 v12:Option V,σ=[some (.ref p),some (.int l),some (.int n),some (.int y),some (.int layer),some (.ref a2),some (.int q0.2.2.1),some (.int q0.2.2.2),some (.int (q0.2.2.2-q0.2.2.1+layer)),v9,v10,v11,v12]/\ji H2 H3/\∀ j x,j<i->rows[j]? = some x->¬ x.2.2.2<=q0.2.2.2-q0.2.2.1+layer) ?_ ?_ ?_ ?_
    ·exact ⟨_,_,_,_,rfl,ji.refl _,fun j x h=>by omega⟩
    ·rintro i σ H3 hi ⟨v9,v10,v11,v12,rfl,s3,hno⟩
     exact SqL.of (s3 _ _ (s2 _ _ ha21))
    ·rintro i v σ H3 hv ⟨v9,v10,v11,v12,rfl,s3,hno⟩
     obtain ⟨q,hq,b,rfl,hb⟩:=Paired.get r2 hv
     have hb:H1 b=some (.tup [.int q.1,.int q.2.1,.int q.2.2.1,.int q.2.2.2]):=hb
     left
     refine ⟨b,_,rfl,SqT.of (s3 _ _ (s2 _ _ hb)),rfl,?_⟩
     refine ⟨_,_,rfl,_,_,rfl,_,_,rfl,_,_,rfl,rfl,?_⟩
     left
     refine jV (fun hle=>?_) (fun hle=>?_)
     ·left
      refine ⟨by show 4<=sizeLine;decide,fun t4 H4 ht4 ht44 s4=>?_⟩
      refine k t4 H4 ((s1.trans (s2.trans s3)).free ht4) ?_ (s1.trans (s2.trans (s3.trans s4)))
      rw [ht44]
      unfold ZA
      rw [wK hq hno hle]
     ·left
      refine ⟨_,_,_,_,rfl,s3,fun j x hj hx=>?_⟩
      by_cases e:j=i
      ·subst e
       rw [hq] at hx
       cases hx
       exact hle
      ·exact hno j x (by omega) hx
    ·rintro σ H3 ⟨v9,v10,v11,v12,rfl,s3,hno⟩
     have hnone:(rows.find? fun q=>decide (q.2.2.2<=q0.2.2.2-q0.2.2.1+layer))=none:=by
      rw [List.find?_eq_none]
      intro x hx
      obtain ⟨j,hj,ej⟩:=List.mem_iff_getElem.mp hx
      have:=hno j x (by omega) (by rw [List.getElem?_eq_getElem hj,ej])
      rw [decide_eq_false this]
      exact Bool.false_ne_true
     have hn0:ov≠[]:=fun z=>by rw [z] at hol;simp at hol;omega
     obtain ⟨ini,vl,eov⟩:∃ ini vl,ov=ini++[vl]:=⟨_,_,(List.dropLast_concat_getLast hn0).symm⟩
     have hvl:ov[ini.length]? = some vl:=by rw [eov,List.getElem?_append_right (Nat.le_refl _),Nat.sub_self];rfl
     obtain ⟨ql,hql,bl,rfl,hbl⟩:=Paired.get r2 hvl
     have elast:rows.getLastD (0,0,0,0)=ql:=by
      have e1:rows.length=ini.length+1:=by rw [<- hol,eov,List.length_append];rfl
      rw [List.getLastD_eq_getLast?,List.getLast?_eq_getElem?,e1,Nat.add_sub_cancel,hql]
      rfl
     have hbl:H1 bl=some (.tup [.int ql.1,.int ql.2.1,.int ql.2.2.1,.int ql.2.2.2]):=hbl
     have h23:=s3 _ _ (s2 _ _ ha21)
     rw [eov] at h23
     left
     refine ⟨_,_,_,_,rfl,rfl,SqL.of h23,kz _ _,?_⟩
     have hbl3:=s3 _ _ (s2 _ _ hbl)
     left
     refine ⟨by show 2<=sizeLine;decide,fun t4 H4 ht4 ht44 s4=>?_⟩
     refine k t4 H4 ((s1.trans (s2.trans s3)).free ht4) ?_ (s1.trans (s2.trans (s3.trans s4)))
     rw [ht44]
     unfold ZA
     rw [hnone,elast]
  ·left
   refine uS ?_
   left
   exact ⟨by show 1<=sizeLine;decide,kx (.inl (by omega))⟩
end
section
variable {P:Program}{w:World}{K:PySem.W.Frag}{mg:Str->Option Value}{base:Heap}
theorem ScAt.frM {H H':Hp}{sd:Addr}{c:ScN}(S:ScAt H sd c) (f:FrM c.D H H'):ScAt H' sd c:=S.keep (N:=fun _=>False) (fun c o h _=>f c o h) (fun _ _ _ z=>z) id S.nD id id id id (fun _ _=>id) id (fun _ _=>id)
theorem FrM.keepT {M:Addr->Prop}{H H':Hp}(f:FrM M H H'):jp H H':=fun a xs h=>f.at h (by walk_at "w")
theorem FrM.put {M:Addr->Prop}{H H':Hp}{c:Addr}{o:HO}(f:FrM M H H') (n:H c=none):FrM M H (upd H' c o):=fun d u hd=>by
 have:d≠c:=fun e=>by rw [e,n] at hd;cases hd
 rw [j8 this]
 exact f d u hd
theorem FrM.no {M:Addr->Prop}{H H':Hp}{c:Addr}(f:FrM M H H') (n:H' c=none):H c=none:=by
 cases e:H c with
 | none=>rfl
 | some o =>
  rcases f c o e with h | ⟨_,_,_,_,h⟩
  ·rw [n] at h;cases h
  ·rw [n] at h;cases h
def JK:Sp:=fun vs H Q _=>∃ (sd:Addr) (c:ScN) (l n y:Int) (wy:List Int) (da:Addr) (dn ms:List (Int×Int)) (wr:List (Int×T3)),vs=[.ref sd,.int l,.int n,.int y]/\ScAt H sd c/\0<=l/\c.ws[l.toNat]? = some wy/\0<=n/\n<((jc c.rs wy).length:Int)/\(jc c.rs wy).length<=100/\0<=y/\c.lds[l.toNat]? = some (da,dn)/\dn.length<=100/\(dn.map (·.1)).Nodup/\(∀ q∈dn,0<=q.1/\0<=q.2/\q.2<=9)/\ms.Perm dn/\(ms.map (·.1)).Pairwise (· <= ·)/\zJ H c.sk wr/\1<=c.ts.length/\c.ts.length<=1000 /\
 ∀ o H' out,H o=none->H' o=some (.lst out)->x4 H' out (qh ms (jc c.rs wy) wr c.ts (y+ju dn y-n))->FrM c.D H H'->Q (.ref o) H'
theorem jD:FnScope ["_law_scene_here","_law_lane","_law_place","_law_year_here","_law_ground_here","_law_one","_law_first","_law_step","_law_rows","_law_high","_law_when","_law_spot_here","_law_later"] ["_law_scene_here","_law_lane","_law_place","_law_year_here"] (j6 zD):=by walk_at "s"
theorem Xw {f:Addr}{fd:FuncData}(nb:Nb2 mg) (c_law_ride:Cal P w K mg base 1 "_law_ride" ["_law_scene_here","_law_lane","_law_year_here"] V0) (c_law_wish:Cal P w K mg base 1 "_law_wish" ["_law_row_here","_law_height"] YV) (c_law_row:Cal P w K mg base 1 "_law_row" ["_law_scene_here","_law_year_here"] Yu)
  (F:Fun K "_law_life_at" "_law_life_at" zD f fd):FnOk P w K mg base CX0 2 f fd ["_law_scene_here","_law_lane","_law_place","_law_year_here"] JK:=by
 refine F.ok jD (fun vs H Q E h=>?_) (fun cdv A outer s H vs Q E hr h=>?_)
 ·obtain ⟨sd,c,l,n,y,wy,da,dn,ms,wr,rfl,_⟩:=h
  rfl
 ·obtain ⟨sd,c,l,n,y,wy,da,dn,ms,wr,rfl,S,l0,hwy,n0,n1,len100,y0,hda,dn100,nd,dnb,hp,hs,hw,t1,t2,k⟩:=h
  have hdm:=List.mem_of_getElem? hda
  have haD:c.D da:=.inr ⟨_,hdm,rfl⟩
  have ell:c.lds.map (fun x=>V.ref x.1)=(c.lds.map (·.1)).map V.ref:=by rw [List.map_map];rfl
  have eda:(c.lds.map (·.1))[l.toNat]? = some da:=by rw [List.getElem?_map,hda];rfl
  have dn9:∀ q∈dn,0<=q.2/\q.2<=9:=fun q hq=>⟨(dnb q hq).2.1,(dnb q hq).2.2⟩
  have dnn:∀ q∈dn,0<=q.1/\0<=q.2:=fun q hq=>⟨(dnb q hq).1,(dnb q hq).2.1⟩
  obtain ⟨one,eone⟩:∃ one,y+ju dn y-n=one:=⟨_,rfl⟩
  rw [eone] at k
  unfold qh at k
  have sper:=fun y=>zh hp y
  have on:=fun w hw=>zu hp hs nd dnn one (jc c.rs wy).length w hw
  have onl:∀ w,0<=w->(one<=w+ju dn w↔jv 0 0 ms one<=w):=fun w hw=>by
   have:=ul ms 0 0 one w (fun q hq=>dnn q (hp.mem_iff.mp hq)) (qR hs ((hp.map (·.1)).nodup_iff.mpr nd)) hw
   rw [zh hp,Int.add_zero] at this
   exact this
  have f0:=yw hp hs dnn one
  have onm:=(on y y0).mp ⟨by omega,by omega⟩
  have spl:=vT hp hs nd dnn one (jc c.rs wy).length (by omega)
  generalize jv 0 0 ms one=fst at *
  generalize jv 0 0 ms (one+((jc c.rs wy).length:Int))=gon at *
  have hzl:c.zs.length=c.ws.length:=(Paired.length S.gi).trans (List.length_map _)
  have hli:l.toNat<c.zs.length:=by rw [hzl];exact (List.getElem?_eq_some_iff.mp hwy).1
  obtain ⟨gw',hgw',ga,ega,hga⟩:=Paired.get S.gi (List.getElem?_eq_getElem hli)
  have:gw'=jc c.rs wy:=by
   rw [List.getElem?_map,hwy] at hgw'
   exact (Option.some.inj hgw').symm
  subst this
  generalize hgd:jc c.rs wy=gd at *
  refine ⟨_,(j5 (je (i:=4) jD.nd rfl (Or.inl rfl) (jn (jb K) (jH (jY hr) (pv 0) jo (fun _ _=>rfl)) (pv 1) (fun _ _=>rfl)))
   (j5 (je (i:=5) jD.nd rfl (Or.inl rfl) (jh jE (jd c_law_ride (hr.mono (by decide)) rfl (j0 (pv 0) (j0 (pv 1) (j0 (pv 3) j2)))) (pv 2)))
   (j5 (je (i:=6) jD.nd rfl (Or.inl rfl) (pv 3))
   (j5 (qK PassesOwn.never rfl (qw rfl nb.b_range (j0 (jf (jg K) rfl nb.b_len PySem.boot_len (j0 (pv 4) j2)) j2)) (ja (i:=7) jD.nd rfl (Or.inl rfl)) (j9 (jM (PW.pt (zF (jq Ub (pv 6) j4 (jx _)) (zS (jq XZ (jd c_law_ride (hr.mono (by decide)) rfl (j0 (pv 0) (j0 (pv 1) (j0 (jh jE (pv 6) j4) j2)))) (pv 5) (jx _))))) (j9 (je (i:=6) jD.nd rfl (Or.inl rfl) (jh jE (pv 6) j4))) jw)))
   (j5 (je (i:=8) jD.nd rfl (Or.inl rfl) (jK j2))
   (j5 (je (i:=9) jD.nd rfl (Or.inl rfl) j4)
   (j5 (qK PassesOwn.never rfl (gQ rfl nb.b_range (j0 (pv 6) (j0 (jh jN (pv 3) (jf (jg K) rfl nb.b_len PySem.boot_len (j0 (pv 4) j2))) j2))) (ja (i:=10) jD.nd rfl (Or.inl rfl)) (j5 (je (i:=11) jD.nd rfl (Or.inl rfl) (jh jE (jd c_law_ride (hr.mono (by decide)) rfl (j0 (pv 0) (j0 (pv 1) (j0 (pv 10) j2)))) (pv 5)))
   (j9 (jM (jq xX (pv 11) (jf (jg K) rfl nb.b_len PySem.boot_len (j0 (pv 4) j2)) (jx _)) (j5 (je (i:=12) jD.nd rfl (Or.inl rfl) (jf (zI rfl) rfl nb.b_max boot_max (j0 j4 (j0 (jh jN (pv 9) (jd c_law_wish (hr.mono (by decide)) rfl (j0 (jd c_law_row (hr.mono (by decide)) rfl (j0 (pv 0) (j0 (pv 10) j2))) (j0 (jn (jb K) (pv 4) (pv 11) (fun _ _=>rfl)) j2)))) j2))))
   (j5 (qd (yq K PySem.F.plainAttrs_list PySem.F.slot_list_append PySem.F.type_list_append qz (pv 8) (j0 (jI (j0 (pv 10) (j0 (pv 11) (j0 (jh jE (pv 12) (pv 9)) (j0 (pv 12) j2))))) j2)))
   (j9 (je (i:=9) jD.nd rfl (Or.inl rfl) (pv 12))))) jw))))
   (j9 (jj (pv 8)))))))))),?_⟩
  left
  refine ⟨sd,.ref c.gl,rfl,by rw [<- xD c.p c.q c.sg c.gl c.ll];exact qT.k (k:=.inr "grounds") S.sd,?_⟩
  left
  refine ⟨_,_,_,_,rfl,rfl,SqL.of S.gl,qo l0 (v:=V.ref ga) (by rw [List.getElem?_eq_getElem hli,ega]),?_⟩
  left
  refine ⟨c.D,sd,c.p,c.q,c.sg,c.gl,c.ll,da,c.lds.map (·.1),l,_,dn,rfl,S.sd,(by rw [<- ell];exact S.ll),l0,eda,S.ld _ hdm,haD,S.nD,dn100,nd,dn9,fun H1 f1=>?_⟩
  left
  refine ⟨_,_,rfl,.inl (SqL.of (f1.at hga (by walk_at "w"))),?_⟩
  rw [List.length_map]
  left
  refine ⟨by omega,by omega,?_⟩
  refine xk (lo:=0) (n:=((gd.length:Int)).toNat) (fun i σ H2=>∃ x:Option V,σ=[some (.ref sd),some (.int l),some (.int n),some (.int y),some (.ref ga),some (.int one),some (.int (max fst (y-(i:Int)))),x,none,none,none,none,none]/\FrM c.D H H2) ?_ ?_ ?_
  ·refine ⟨none,?_,f1⟩
   rw [show max fst (y-((0:Nat):Int))=y by omega,<- eone]
   rfl
  ·rintro i σ H2 hi ⟨x,rfl,f2⟩
   have S2:=S.frM f2
   left
   refine jV (fun hpos=>?_) (fun hpos=>?_)
   ·left
    refine ⟨c.D,sd,c.p,c.q,c.sg,c.gl,c.ll,da,c.lds.map (·.1),l,_,dn,rfl,S2.sd,(by rw [<- ell];exact S2.ll),l0,eda,S2.ld _ hdm,haD,S2.nD,dn100,nd,dn9,fun H3 f3=>?_⟩
    left
    have hiff:=onl (max fst (y-(i:Int))-1) (by omega)
    refine jV (fun hge=>?_) (fun hge=>?_)
    ·have h1:=hiff.mp hge
     left
     refine ⟨some (.int (0+(i:Int))),?_,f2.trans f3⟩
     rw [show max fst (y-((i+1:Nat):Int))=max fst (y-(i:Int))-1 by omega]
     rfl
    ·have h1:=mt hiff.mpr hge
     left
     refine ⟨some (.int (0+(i:Int))),?_,f2.trans f3⟩
     rw [show max fst (y-((i+1:Nat):Int))=max fst (y-(i:Int)) by omega]
     rfl
   ·left
    refine ⟨some (.int (0+(i:Int))),?_,f2⟩
    rw [show max fst (y-((i+1:Nat):Int))=max fst (y-(i:Int)) by omega]
    rfl
  rintro σ H2 ⟨x,rfl,f2⟩
  rw [show max fst (y-((((gd.length:Int)).toNat:Nat):Int))=fst by omega]
  left
  refine ⟨Nat.zero_le _,fun fo H3 hfo hfo3 s3=>?_⟩
  have hfoH:H fo=none:=f2.no hfo
  have f3:=f2.trans (FrM.of_same s3)
  left
  refine ⟨_,_,rfl,.inl (SqL.of (f3.at hga (by walk_at "w"))),?_⟩
  rw [List.length_map]
  left
  refine ⟨_,_,rfl,?_⟩
  refine xk (fun i σ H4=>∃ (x10 x11 x12:Option V) (out:List V),σ=[some (.ref sd),some (.int l),some (.int n),some (.int y),some (.ref ga),some (.int one),some (.int fst),x,some (.ref fo),some (.int (xL ms gd wr c.ts one fst (min i (gon-fst).toNat))),x10,x11,x12]/\H4 fo=some (.lst out)/\out.length=min i (gon-fst).toNat/\x4 H4 out (uC ms gd wr c.ts one fst (min i (gon-fst).toNat))/\FrM c.D H H4) ?_ ?_ ?_
  ·refine ⟨none,none,none,[],?_,hfo3,by rw [Nat.zero_min];rfl,by rw [Nat.zero_min];exact .nil,f3⟩
   rw [Nat.zero_min]
   rfl
  ·rintro i σ H4 hi ⟨x10,x11,x12,out,rfl,h4,hl4,r4,f4⟩
   have w0:0<=fst+(i:Int):=by omega
   have S4:=S.frM f4
   left
   refine ⟨c.D,sd,c.p,c.q,c.sg,c.gl,c.ll,da,c.lds.map (·.1),l,_,dn,rfl,S4.sd,(by rw [<- ell];exact S4.ll),l0,eda,S4.ld _ hdm,haD,S4.nD,dn100,nd,dn9,fun H5 f5=>?_⟩
   rw [<- sper]
   have f05:=f4.trans f5
   have S5:=S.frM f05
   have h5:=f5.at h4 (by walk_at "w")
   have r5:=r4.keep (FrM.keepT f5)
   have hw5:=hw.keep (FrM.keepT f05)
   have onw:=on _ w0
   rw [<- sper] at onw
   left
   refine ⟨_,_,rfl,.inl (SqL.of (f05.at hga (by walk_at "w"))),?_⟩
   rw [List.length_map]
   left
   have onp:=(onl _ w0).mpr (by omega)
   rw [<- sper] at onp
   refine jV (fun hlt=>?_) (fun hlt=>?_)
   ·have hlt:fst+(i:Int)+ju ms (fst+(i:Int))-one<(gd.length:Int):=hlt
    have hN:=(onw.mp ⟨by omega,hlt⟩).2
    have hplc:0<=plc ms one (fst+(i:Int))/\plc ms one (fst+(i:Int))<(gd.length:Int):=⟨by unfold plc;omega,hlt⟩
    have emin:min i (gon-fst).toNat=i:=by omega
    have emin1:min (i+1) (gon-fst).toNat=i+1:=by omega
    rw [emin] at hl4 r5
    rw [emin]
    left
    refine ⟨sd,c,fst+(i:Int),wr,rfl,S5,hw5,t1,t2,fun tr htr=>?_⟩
    left
    refine ⟨_,_,_,_,rfl,rfl,SqL.of (f05.at hga (by walk_at "w")),qo hplc.1 (Yo (by omega)),?_⟩
    left
    refine ⟨tr,_,_,rfl,htr,?_⟩
    left
    refine ⟨_,_,rfl,?_⟩
    left
    refine ⟨.inl ⟨rfl,_,SqL.of h5⟩,?_⟩
    left
    refine ⟨by show 4<=sizeLine;decide,fun tq H6 htq htq6 s6=>?_⟩
    refine ⟨_,_,_,rfl,rfl,s6 _ _ h5,jm (by omega),?_⟩
    have tqf:tq≠fo:=(j1 h5 htq).symm
    have edep:xL ms gd wr c.ts one fst (i+1)=(if xL ms gd wr c.ts one fst i+xr ms gd wr c.ts one (fst+(i:Int)) > 0 then xL ms gd wr c.ts one fst i+xr ms gd wr c.ts one (fst+(i:Int)) else 0):=by
     show xL ms gd wr c.ts one fst i+(if xr ms gd wr c.ts one (fst+(i:Int)) > - xL ms gd wr c.ts one fst i then xr ms gd wr c.ts one (fst+(i:Int)) else-xL ms gd wr c.ts one fst i)=_
     split <;> split <;> omega
    have emov:(if xr ms gd wr c.ts one (fst+(i:Int)) > - xL ms gd wr c.ts one fst i then xr ms gd wr c.ts one (fst+(i:Int)) else-xL ms gd wr c.ts one fst i)=(if xL ms gd wr c.ts one fst i+xr ms gd wr c.ts one (fst+(i:Int)) > 0 then xL ms gd wr c.ts one fst i+xr ms gd wr c.ts one (fst+(i:Int)) else 0)-xL ms gd wr c.ts one fst i:=by split <;> split <;> omega
    left
    rw [emin1]
    refine ⟨some (.int (fst+(i:Int))),some (.int (plc ms one (fst+(i:Int)))),_,out++[.ref tq],by rw [edep];rfl,j7,by rw [List.length_append,hl4];rfl,?_,(f05.trans (FrM.of_same s6)).put hfoH⟩
    rw [ww]
    refine Paired.snoc (r5.keep fun a xs q=>by rw [j8 (jr (s6 _ _ q) (s6 _ _ h5) (by walk_at "z"))];exact s6 _ _ q) ⟨tq,rfl,?_⟩
    rw [j8 tqf,htq6]
    unfold yE
    rw [edep,emov]
    rfl
   ·have hlt:¬ fst+(i:Int)+ju ms (fst+(i:Int))-one<(gd.length:Int):=hlt
    have hN:=mt onw.mpr (fun z=>hlt z.2)
    have emin:min (i+1) (gon-fst).toNat=min i (gon-fst).toNat:=by omega
    left
    rw [emin]
    exact ⟨_,_,_,out,rfl,h5,hl4,r5,f05⟩
  ·rintro σ H4 ⟨x10,x11,x12,out,rfl,h4,hl4,r4,f4⟩
   rw [show min (y+(gd.length:Int)-fst).toNat (gon-fst).toNat=(gon-fst).toNat by omega] at r4
   left
   exact k fo H4 out hfoH h4 r4 f4
section
variable {L:List Q4}{dp mv pl:Nat->Int}{fst:Int}{n:Nat}
structure Col (L:List Q4) (dp mv pl:Nat->Int) (fst:Int) (n:Nat):Prop where
 len:L.length=n
 at_:∀ i,i<n->L[i]? = some (fst+(i:Int),pl i,mv i,dp (i+1))
 step:∀ i,dp (i+1)=dp i+mv i
end
theorem Qg (ms:List (Int×Int)) (gd:List Int) (wr:List (Int×T3)) (ts:List T3) (m:Int):Col (qh ms gd wr ts m) (xL ms gd wr ts m (jv 0 0 ms m)) (fun i=>(yE ms gd wr ts m (jv 0 0 ms m) i).2.2.1) (fun i=>plc ms m (jv 0 0 ms m+(i:Int))) (jv 0 0 ms m) (jv 0 0 ms (m+(gd.length:Int))-jv 0 0 ms m).toNat :=
 ⟨zc _ _ _ _ _,fun i hi=>vc hi,fun i=>rfl⟩
theorem yT (ns:List (Int×Int)):∃ ms:List (Int×Int),ms.Perm ns/\(ms.map (·.1)).Pairwise (· <= ·):=by
 refine ⟨ns.mergeSort (fun a b=>decide (a.1<=b.1)),List.mergeSort_perm _ _,?_⟩
 rw [List.pairwise_map]
 exact (List.pairwise_mergeSort (fun a b c h1 h2=>by simp at *;omega) (fun a b=>by simp;omega) ns).imp fun h=>by simpa using h
theorem uN (ns:List (Int×Int)) (gd:List Int) (wr:List (Int×T3)) (ts:List T3) (m fst:Int):∀ i,0<=xL ns gd wr ts m fst i
 | 0=>Int.le_refl _
 | i+1=>by
  have:=uN ns gd wr ts m fst i
  show 0<=xL ns gd wr ts m fst i+(if xr ns gd wr ts m (fst+(i:Int)) > - xL ns gd wr ts m fst i then xr ns gd wr ts m (fst+(i:Int)) else-xL ns gd wr ts m fst i)
  split <;> omega
end
section
variable {P:Program}{w:World}{K:PySem.W.Frag}{mg:Str->Option Value}{base:Heap}
def gu (rows:List Q4) (b:Int):Option Q4:=(rows.filter fun q=>decide (q.2.2.2-q.2.2.1<=b)).getLast?
def gI (C CN CP CY CB:Addr):Sp:=fun vs H Q E=>∃ (p:Addr) (g:IceG) (l n y turn:Int) (sk:List (Int×Addr)) (wr:List (Int×T3)),vs=[.ref p,.int l,.int n,.int y,.int turn]/\IceAt C H p g/\g.lds.length=g.slopes.length/\g.kvs=sk.map kvA/\zJ H sk wr/\1<=g.rows.length/\g.rows.length<=1000 /\
 (l<0\/(g.slopes.length:Int)<=l->E (.ref CN) none H)/\(0<=l->l<(g.slopes.length:Int)->n<0\/((g.slopes.getD l.toNat []).length:Int)<=n->E (.ref CP) none H) /\
 (0<=l->l<(g.slopes.length:Int)->0<=n->n<((g.slopes.getD l.toNat []).length:Int)->∃ ns ms,Xr g l ns/\(∀ q∈ns,0<=q.1)/\(g.slopes.getD l.toNat []).length<=100/\ms.Perm ns/\(ms.map (·.1)).Pairwise (· <= ·)/\(∀ H',ji H H'->y<0\/10 ^ 40<y->E (.ref CY) none H') /\
  (0<=y->y<=10 ^ 40->∀ (q0:Q4) L i,L=qh ms (g.slopes.getD l.toNat []) wr g.rows (y+ju ns y-n)->i=(y-jv 0 0 ms (y+ju ns y-n)).toNat->L[i]? = some q0 ->
   (turn<0 \/ - q0.2.2.1<=turn->∀ H',ji H H'->E (.ref CB) none H')/\(0<=turn->turn < - q0.2.2.1->∃ qb,gu (L.take i) (q0.2.2.2-q0.2.2.1-1-turn)=some qb/\∀ t H',H t=none->H' t=some (.tup [.int qb.1,.int qb.2.1,.int (q0.2.2.2-q0.2.2.1-1-turn-(qb.2.2.2-qb.2.2.1))])->ji H H'->Q (.ref t) H')))
theorem qi:FnScope ["ice","lane","place","year","turn","ahead","onward","moved","left","beneath","when","where","fell","lying"] ["ice","lane","place","year","turn"] (j6 y3):=by walk_at "s"
theorem x4.take {H:Hp}:∀ (n:Nat) {out:List V}{qs:List Q4},x4 H out qs->x4 H (out.take n) (qs.take n)
 | 0,_,_,_=>.nil
 | _+1,_,_,.nil=>.nil
 | n+1,_,_,.cons a r=>.cons a (x4.take n r)
theorem JF {f C CN CP CY CB:Addr}{fd:FuncData}(e_BadHand:mg "BadHand" = some (.ref CB)) (x_BadHand:PySem.W.excIn K CB [.type "ValueError",.type "Exception",.type "BaseException",.type "object"] "ValueError.__new__" = true) (c_parted:CalX P w K mg base 5 "parted" ["ice","lane","place","year"] (wP C CN CP CY))
  (F:Fun K "birth_of" "birth_of" y3 f fd):FnOk P w K mg base (CX1 P w) 6 f fd ["ice","lane","place","year","turn"] (gI C CN CP CY CB):=by
 refine Fun.okX F qi (fun vs H Q E h=>?_) (fun cdv A outer s H vs Q E hr h=>?_)
 ·obtain ⟨p,g,l,n,y,turn,sk,wr,rfl,_⟩:=h
  rfl
 ·obtain ⟨p,g,l,n,y,turn,sk,wr,rfl,I,hll,ek,hw,hr1,hr2,kl,kp,k⟩:=h
  refine ⟨_,(j5 (xy (xa c_parted (hr.mono (by decide)) qA rfl (j0 (pv 0) (j0 (pv 1) (j0 (pv 2) (j0 (pv 3) j2))))) (qq (n:=2) K rfl (jk (ja (i:=5) qi.nd rfl (Or.inl rfl)) (jk (ja (i:=6) qi.nd rfl (Or.inl rfl)) qm))))
   (j5 (xy (vC (Qu K) (jn (jb K) (pv 6) j4 (fun _ _=>rfl)) (wc j4) wb) (qq (n:=2) K rfl (jk (ja (i:=7) qi.nd rfl (Or.inl rfl)) (jk (ja (i:=8) qi.nd rfl (Or.inl rfl)) qm))))
   (j5 (jM (qJ (qy jP xX j4 (pv 4) (vz zR (pv 7)))) (j9 (qQ PySem.F.excBase_ValueError x_BadHand e_BadHand rfl xu rfl (j0 jo j2))) jw)
   (j5 (je (i:=9) qi.nd rfl (Or.inr rfl) (jh jE (jh jE (jh jE (pv 8) (pv 7)) j4) (pv 4)))
   (j5 (xy (jn (jb K) (jZ (osc:=(j6 y3)) (ON:=["ice","lane","place","year","turn","ahead","onward","moved","left","beneath","when","where","fell","lying"]) (N:=["row","beneath"]) (own:=1) (caps:=[9]) ⟨rfl,by walk_at "k",by walk_at "k",by walk_at "k",rfl,by walk_at "k"⟩ rfl rfl rfl (qc K (pv 5)) (fun _ _ _ _ _=>(ja (i:=0) (show List.Nodup (["row","beneath"]:List Str) by decide +kernel) rfl (Or.inl rfl))) (fun _ _ _ _ _=>(zk (jq jP (jh jE (jn (qe K) (pv 0) j4 (fun _ _=>rfl)) (jn (qe K) (pv 0) j4 (fun _ _=>rfl))) (pv 1) (jx _)))) (fun _ _ _ _ _=>(pv 0))) (vz zR j4) (fun _ _=>rfl)) (qq (n:=4) K rfl (jk (ja (i:=10) qi.nd rfl (Or.inl rfl)) (jk (ja (i:=11) qi.nd rfl (Or.inl rfl)) (jk (ja (i:=12) qi.nd rfl (Or.inl rfl)) (jk (ja (i:=13) qi.nd rfl (Or.inl rfl)) qm))))))
   (j9 (jj (jI (j0 (pv 10) (j0 (pv 11) (j0 (jh jE (pv 9) (jh jE (pv 13) (pv 12))) j2))))))))))),?_⟩
  left
  refine ⟨p,g,l,n,y,sk,wr,rfl,I,hll,ek,hw,hr1,hr2,kl,kp,fun l0 l1 n0 n1=>?_⟩
  obtain ⟨ns,ms,hL,hp0,g100,hp,hs,ky,k⟩:=k l0 l1 n0 n1
  refine ⟨ns,ms,hL,hp0,g100,hp,hs,ky,fun y0 y1 t a1 a2 out H1 ht ha1 ha2 ht1 ha11 ha21 r1 s1=>?_⟩
  have hpos:∀ q∈ns,0<=q.1/\0<=q.2:=fun q hq=>⟨hp0 q hq,(hL.2.2.2.2.2 q hq).1⟩
  have nd:(ns.map (·.1)).Nodup:=hL.2.2.2.1
  have e0:y+ju ns y-(y+ju ns y-n)=n:=by omega
  have onm:=(zu hp hs nd hpos (y+ju ns y-n) (g.slopes.getD l.toNat []).length y y0).mp (by rw [e0];exact ⟨n0,n1⟩)
  have hlo:=zc ms (g.slopes.getD l.toNat []) wr g.rows (y+ju ns y-n)
  have spl:=vT hp hs nd hpos (y+ju ns y-n) (g.slopes.getD l.toNat []).length (by omega)
  have k:=k y0 y1
  generalize y+ju ns y-n=m at *
  generalize hkk:(y-jv 0 0 ms m).toNat=kk at *
  generalize hrw:qh ms (g.slopes.getD l.toNat []) wr g.rows m=L at *
  have hkL:kk<L.length:=by omega
  have hL100:L.length<=100:=by omega
  obtain ⟨q0,hq0⟩:∃ q,L[kk]? = some q:=⟨_,List.getElem?_eq_getElem hkL⟩
  obtain ⟨kb,k⟩:=k q0 L kk rfl rfl hq0
  have hol:out.length=L.length:=Paired.length r1
  obtain ⟨v0,hv0⟩:∃ v,out[kk]? = some v:=⟨_,List.getElem?_eq_getElem (by omega)⟩
  obtain ⟨q0',hq0',b0,rfl,hb0⟩:=Paired.get r1 hv0
  rw [hq0] at hq0'
  cases hq0'
  have hv0:(out.drop kk)[0]? = some (V.ref b0):=by rw [List.getElem?_drop];exact hv0
  have hb0:H1 b0=some (.tup [.int q0.1,.int q0.2.1,.int q0.2.2.1,.int q0.2.2.2]):=hb0
  left
  refine ⟨t,_,rfl,SqT.of ht1,rfl,?_⟩
  refine ⟨_,_,rfl,_,_,rfl,rfl,?_⟩
  left
  refine ⟨_,_,_,_,rfl,rfl,SqL.of ha21,qo (by decide) (v:=V.ref b0) hv0,?_⟩
  left
  refine ⟨b0,_,rfl,SqT.of hb0,(by show ¬ ((2:Nat)=0/\_);exact fun z=>absurd z.1 (by decide)),fun ts H2 hts hts2 s2=>?_⟩
  have hts2:H2 ts=some (.tup [.int q0.2.2.1,.int q0.2.2.2]):=hts2
  left
  refine ⟨ts,_,rfl,SqT.of hts2,rfl,?_⟩
  refine ⟨_,_,rfl,_,_,rfl,rfl,?_⟩
  left
  have kx:turn<0 \/ - q0.2.2.1<=turn->E (.ref CB) none H2:=fun z=>kb z H2 (s1.trans s2)
  refine jV (fun h0=>?_) (fun h0=>?_)
  ·left
   refine x8 (fun h1=>?_) (fun h1=>?_)
   ·left
    exact ⟨by show 1<=sizeLine;decide,kx (.inr (by omega))⟩
   ·obtain ⟨qb,hqb,k⟩:=k h0 h1
    clear kb kx
    left
    obtain ⟨bn,ebn⟩:∃ bn,q0.2.2.2-q0.2.2.1-1-turn=bn:=⟨_,rfl⟩
    rw [ebn] at hqb k
    have rt:x4 H2 (out.take kk) (L.take kk):=(x4.take _ r1).keep (jp.same s2)
    have hat:=s2 _ _ ha11
    have hll':(out.take kk).length=(L.take kk).length:=Paired.length rt
    refine ⟨⟨_,SqL.of hat⟩,fun acc hacc=>?_⟩
    refine qf (K:=K) (a:=a1) (xs:=out.take kk) (acc:=acc) (fun i σ H3=>∃ (x:Option V) (vs:List V),σ=[x,some (.int bn)]/\H3 acc=some (.lst vs)/\x4 H3 vs (((L.take kk).take i).filter fun q=>decide (q.2.2.2-q.2.2.1<=bn))/\vs.length<=i/\Ext acc H2 H3) ?_ ?_ ?_ ?_
    ·refine ⟨none,[],?_,j7,.nil,Nat.le_refl _,Ext.put⟩
     rw [<- ebn]
     rfl
    ·rintro i σ H3 hi ⟨x,vs,rfl,h3,r3,hl3,e3⟩
     exact SqL.of (e3 _ _ hat (j1 hat hacc))
    ·rintro i v σ H3 hv ⟨x,vs,rfl,h3,r3,hl3,e3⟩
     obtain ⟨q,hq,bq,rfl,hbq⟩:=Paired.get rt hv
     have hi:=(List.getElem?_eq_some_iff.mp hv).1
     have hi100:i<100:=by rw [List.length_take] at hi;omega
     have hbq:H2 bq=some (.tup [.int q.1,.int q.2.1,.int q.2.2.1,.int q.2.2.2]):=hbq
     have hbq3:=e3 _ _ hbq (j1 hbq hacc)
     have etk:(L.take kk).take (i+1)=(L.take kk).take i++[q]:=by rw [List.take_add_one,hq];rfl
     left
     refine jV (fun hle=>?_) (fun hle=>?_)
     ·left
      refine ⟨_,h3,jm (by omega),some (.ref bq),vs++[.ref bq],rfl,j7,?_,by rw [List.length_append];show _+1<=_;omega,e3.trans Ext.put⟩
      rw [etk,List.filter_append,List.filter_cons_of_pos (by rw [decide_eq_true hle])]
      exact Paired.snoc (r3.keep fun a xs z=>by rw [j8 (jr z h3 (by walk_at "z"))];exact z) ⟨bq,rfl,by rw [j8 (jr hbq3 h3 (by walk_at "z"))];exact hbq3⟩
     ·refine ⟨some (.ref bq),vs,rfl,h3,?_,by omega,e3⟩
      rw [etk,List.filter_append,List.filter_cons_of_neg (by rw [decide_eq_false hle];exact Bool.false_ne_true),List.filter_nil,List.append_nil]
      exact r3
    ·rintro σ H3 ⟨x,vs,rfl,h3,r3,hl3,e3⟩
     have s3:ji H2 H3:=fun c o hc=>e3 c o hc (j1 hc hacc)
     rw [hll',List.take_length] at r3
     unfold gu at hqb
     obtain ⟨fl,hfl⟩:∃ fl,((L.take kk).filter fun q=>decide (q.2.2.2-q.2.2.1<=bn))=fl:=⟨_,rfl⟩
     rw [hfl] at r3 hqb
     have hvl:vs.length=fl.length:=Paired.length r3
     have hfn:fl≠[]:=fun z=>by rw [z] at hqb;cases hqb
     have hvn:vs≠[]:=fun z=>hfn (by rw [z] at hvl;exact List.length_eq_zero_iff.mp hvl.symm)
     obtain ⟨ini,vl,evs⟩:∃ ini vl,vs=ini++[vl]:=⟨_,_,(List.dropLast_concat_getLast hvn).symm⟩
     have hvl2:vs[ini.length]? = some vl:=by rw [evs,List.getElem?_append_right (Nat.le_refl _),Nat.sub_self];rfl
     obtain ⟨ql,hql,bl,rfl,hbl⟩:=Paired.get r3 hvl2
     have elast:ql=qb:=by
      have e1:fl.length=ini.length+1:=by rw [<- hvl,evs,List.length_append];rfl
      rw [List.getLast?_eq_getElem?,e1,Nat.add_sub_cancel,hql] at hqb
      exact Option.some.inj hqb
     subst elast
     have hbl:H3 bl=some (.tup [.int ql.1,.int ql.2.1,.int ql.2.2.1,.int ql.2.2.2]):=hbl
     rw [evs] at h3
     left
     refine ⟨_,_,_,_,rfl,rfl,SqL.of h3,kz _ _,?_⟩
     left
     refine ⟨bl,_,rfl,SqT.of hbl,rfl,?_⟩
     refine ⟨_,_,rfl,_,_,rfl,_,_,rfl,_,_,rfl,rfl,?_⟩
     left
     refine ⟨by show 3<=sizeLine;decide,fun t4 H4 ht4 ht44 s4=>?_⟩
     have s14:=s1.trans (s2.trans s3)
     refine k t4 H4 (s14.free ht4) ?_ (s14.trans s4)
     rw [ht44,<- ebn]
  ·left
   refine uS ?_
   left
   exact ⟨by show 1<=sizeLine;decide,kx (.inl (by omega))⟩
section
variable {L:List Q4}{dp mv pl:Nat->Int}{fst:Int}{n:Nat}
theorem Col.born (C:Col L dp mv pl fst n) {i j:Nat}{b:Int}(hj:j<=n) (hi:i<j) (h1:dp i<=b) (h2:∀ k,i<k->k<j->b<dp k):gu (L.take j) b=some (fst+(i:Int),pl i,mv i,dp (i+1)):=by
 have at_:∀ k,k<j->(L.take j)[k]? = some (fst+(k:Int),pl k,mv k,dp (k+1)):=fun k hk=>by
  rw [List.getElem?_take,if_pos hk]
  exact C.at_ k (by omega)
 have dif:∀ k,dp (k+1)-mv k=dp k:=fun k=>by have:=C.step k;omega
 have e:L.take j=(L.take j).take i++(fst+(i:Int),pl i,mv i,dp (i+1))::(L.take j).drop (i+1):=by
  have hl:i<(L.take j).length:=(List.getElem?_eq_some_iff.mp (at_ i hi)).1
  have:=(List.getElem?_eq_some_iff.mp (at_ i hi)).2
  rw [<- this,<- List.drop_eq_getElem_cons hl,List.take_append_drop]
 unfold gu
 rw [e,List.filter_append,List.filter_cons_of_pos (by rw [decide_eq_true];show dp (i+1)-mv i<=b;rw [dif];exact h1)]
 have hnil:((L.take j).drop (i+1)).filter (fun q=>decide (q.2.2.2-q.2.2.1<=b))=[]:=by
  rw [List.filter_eq_nil_iff]
  intro x hx
  obtain ⟨k,hk,ek⟩:=List.mem_iff_getElem.mp hx
  have hkj:i+1+k<j:=by
   rw [List.length_drop,List.length_take] at hk
   omega
  have ex:((L.take j).drop (i+1))[k]? = some x:=by rw [List.getElem?_eq_getElem hk,ek]
  rw [List.getElem?_drop,at_ _ hkj] at ex
  have ex:=Option.some.inj ex
  subst ex
  have:=h2 (i+1+k) (by omega) hkj
  have hd:=dif (i+1+k)
  simp
  omega
 rw [hnil]
 simp
theorem Col.last (C:Col L dp mv pl fst n) {b:Int}(d0:dp 0<=b):∀ j,0<j->∃ i,i<j/\dp i<=b/\∀ k,i<k->k<j->b<dp k
 | 0,h=>by omega
 | j+1,_=>by
  by_cases c:dp j<=b
  ·exact ⟨j,by omega,c,fun k h1 h2=>by omega⟩
  ·have hj:0<j:=by
    rcases Nat.eq_zero_or_pos j with z | z
    ·rw [z] at c;exact absurd d0 c
    ·exact z
   obtain ⟨i,h1,h2,h3⟩:=Col.last C d0 j hj
   refine ⟨i,by omega,h2,fun k h4 h5=>?_⟩
   by_cases e:k=j
   ·rw [e];omega
   ·exact h3 k h4 (by omega)
end
theorem Zx {ms:List (Int×Int)}{gd:List Int}{wr:List (Int×T3)}{ts:List T3}{m turn:Int}{i:Nat}{q0:Q4}(hq:(qh ms gd wr ts m)[i]? = some q0) (h0:0<=turn) (h1:turn < - q0.2.2.1):∃ qb,gu ((qh ms gd wr ts m).take i) (q0.2.2.2-q0.2.2.1-1-turn)=some qb:=by
 have CL:=Qg ms gd wr ts m
 have dp0:=uN ms gd wr ts m (jv 0 0 ms m)
 have d00:xL ms gd wr ts m (jv 0 0 ms m) 0=0:=rfl
 generalize hL:qh ms gd wr ts m=L at *
 generalize xL ms gd wr ts m (jv 0 0 ms m)=dp at *
 generalize (fun i=>(yE ms gd wr ts m (jv 0 0 ms m) i).2.2.1)=mv at *
 generalize (fun i:Nat=>plc ms m (jv 0 0 ms m+(i:Int)))=pl at *
 have hi:=(List.getElem?_eq_some_iff.mp hq).1
 rw [CL.len] at hi
 rw [CL.at_ i hi] at hq
 have hq:=Option.some.inj hq
 subst hq
 have st:=CL.step i
 have di:=dp0 (i+1)
 have h1:turn < - mv i:=h1
 show ∃ qb,gu (L.take i) (dp (i+1)-mv i-1-turn)=some qb
 have hi0:0<i:=by
  rcases Nat.eq_zero_or_pos i with z | z
  ·subst z
   omega
  ·exact z
 obtain ⟨k,hk,h2,h3⟩:=CL.last (b:=dp (i+1)-mv i-1-turn) (by omega) i hi0
 exact ⟨_,CL.born (by omega) hk h2 h3⟩
end
section
variable {P:Program}{w:World}{K:PySem.W.Frag}{mg:Str->Option Value}{base:Heap}
theorem uT:bootBuiltins "ValueError" = some (.type "ValueError"):=by walk_at "k"
theorem Zf {X:Cx}{tg:Expr}{l:Expr}{tl:TE}(K:PySem.W.Frag) (hl:PE X l tl) (hK:X.K=K:=by rfl):PIH X tg l (XN K tl):=by subst hK;exact YM hl
theorem xm:FnScope ["_law_e","_law_known"] ["_law_e"] (j6 qI):=by walk_at "s"
def uf (b0 b1 b2 b3:Bool):List (Str×Bool):=[("BadYear",b0),("NoLane",b1),("NoPlace",b2),("BadHand",b3),("ValueError",true)]
def uO (ws:List (Str×Bool)) (i:Nat):List V:=((ws.take i).filter (·.2)).map fun q=>V.str q.1
theorem YW {ws:List (Str×Bool)}{i:Nat}{nm:Str}{b:Bool}(h:ws[i]? = some (nm,b)):uO ws (i+1)=uO ws i++(if b=true then [V.str nm] else []):=by
 unfold uO
 rw [List.take_add_one,h,Option.toList_some,List.filter_append,List.map_append]
 cases b <;> rfl
theorem gJ (ws:List (Str×Bool)) (i:Nat):(uO ws i).length<=i:=by
 unfold uO
 rw [List.length_map]
 exact Nat.le_trans (List.length_filter_le _ _) (List.length_take_le _ _)
structure RefK (K:PySem.W.Frag) (C0 C1 C2 C3 D:Addr) (b0 b1 b2 b3:Bool):Prop where
 ek:ExK K D
 k0:PySem.W.kitOne K (.ref D) (.ref C0)=some b0
 k1:PySem.W.kitOne K (.ref D) (.ref C1)=some b1
 k2:PySem.W.kitOne K (.ref D) (.ref C2)=some b2
 k3:PySem.W.kitOne K (.ref D) (.ref C3)=some b3
 k4:PySem.W.kitOne K (.ref D) (.type "ValueError")=some true
def gO (K:PySem.W.Frag) (C0 C1 C2 C3:Addr):Addr->Value->List V->Hp->VK->Prop:=fun a cls vs H Q=>∃ D b0 b1 b2 b3,vs=[.ref a]/\cls = .ref D/\RefK K C0 C1 C2 C3 D b0 b1 b2 b3/\∀ t H',H' t=some (.tup (.str "no" :: uO (uf b0 b1 b2 b3) 5))->ji H H'->Q (.ref t) H'
theorem Xn {f C0 C1 C2 C3:Addr}{fd:FuncData}(nb:Nb2 mg) (b_ValueError:mg "ValueError" = none) (e_BadYear:mg "BadYear" = some (.ref C0)) (e_NoLane:mg "NoLane" = some (.ref C1)) (e_NoPlace:mg "NoPlace" = some (.ref C2)) (e_BadHand:mg "BadHand" = some (.ref C3))
  (F:Fun K "_law_refused" "_law_refused" qI f fd):FnH P w K mg base 1 f fd ["_law_e"] (gO K C0 C1 C2 C3):=by
 refine F.okH xm (fun cdv A outer s H vs Q a oe cls ae h=>?_)
 obtain ⟨D,b0,b1,b2,b3,rfl,rfl,⟨ek,k0,k1,k2,k3,k4⟩,k⟩:=h
 have hu:Hu (cxH P w K mg base ["_law_e","_law_known"] "_law_refused" (j6 qI) f cdv A outer s H):=Um ae
 have isx:=V1 (X:=cxH P w K mg base ["_law_e","_law_known"] "_law_refused" (j6 qI) f cdv A outer s H) K ek ae.at_ ae.free ae.out (fun z=>by cases z) ae.ex
 refine ⟨_,(j5 (je (i:=1) xm.nd rfl (Or.inl rfl) (jK (j0 (jI (j0 jo (j0 (jf isx rfl nb.b_isinstance boot_isinstance (j0 (pv 0) (j0 (qv (v:=V.ref _) rfl e_BadYear rfl) j2))) j2))) (j0 (jI (j0 jo (j0 (jf isx rfl nb.b_isinstance boot_isinstance (j0 (pv 0) (j0 (qv (v:=V.ref _) rfl e_NoLane rfl) j2))) j2))) j2))))
   (j5 (je (i:=1) xm.nd rfl (Or.inl rfl) (jh Jb (pv 1) (jK (j0 (jI (j0 jo (j0 (jf isx rfl nb.b_isinstance boot_isinstance (j0 (pv 0) (j0 (qv (v:=V.ref _) rfl e_NoPlace rfl) j2))) j2))) (j0 (jI (j0 jo (j0 (jf isx rfl nb.b_isinstance boot_isinstance (j0 (pv 0) (j0 (qv (v:=V.ref _) rfl e_BadHand rfl) j2))) j2))) j2)))))
   (j5 (je (i:=1) xm.nd rfl (Or.inl rfl) (jh Jb (pv 1) (jK (j0 (jI (j0 jo (j0 (jf isx rfl nb.b_isinstance boot_isinstance (j0 (pv 0) (j0 (V7 (v:=V.ty "ValueError") rfl b_ValueError uT rfl) j2))) j2))) j2))))
   (j9 (jj (jh YH (jI (j0 jo j2)) (qH (xn K) rfl nb.b_tuple PyProof.Rows.boot_tuple (j0 (Yv (osc:=(j6 qI)) (ON:=["_law_e","_law_known"]) (N:=["_law_name","_law_so"]) (own:=2) (caps:=[]) ⟨rfl,by walk_at "k",by walk_at "k",by walk_at "k",rfl,by walk_at "k"⟩ hu rfl rfl (Zf K (pv 1)) (fun _ _ _ _ _ hub=>(Vq (n:=2) K hub (jk (ja (i:=0) (show List.Nodup (["_law_name","_law_so"]:List Str) by decide +kernel) rfl (Or.inl rfl)) (jk (ja (i:=1) (show List.Nodup (["_law_name","_law_so"]:List Str) by decide +kernel) rfl (Or.inl rfl)) qm)))) (fun _ _ _ _ _ hub=>(zk (ve (pv 1)))) (fun _ _ _ _ _ hub=>(pv 0))) j2)))))))),?_⟩
 left
 refine ⟨_,_,_,rfl,fun u h=>h,k0,?_⟩
 left
 refine ⟨by show 2<=sizeLine;decide,fun t0 H0 n0 h0 s0=>?_⟩
 left
 refine ⟨_,_,_,rfl,fun u h=>h,k1,?_⟩
 left
 refine ⟨by show 2<=sizeLine;decide,fun t1 H1 n1 h1 s1=>?_⟩
 left
 refine ⟨by show 2<=sizeLine;decide,fun l1 H2 n2 h2 s2=>?_⟩
 left
 refine ⟨_,_,_,rfl,fun u h=>h,k2,?_⟩
 left
 refine ⟨by show 2<=sizeLine;decide,fun t2 H3 n3 h3 s3=>?_⟩
 left
 refine ⟨_,_,_,rfl,fun u h=>h,k3,?_⟩
 left
 refine ⟨by show 2<=sizeLine;decide,fun t3 H4 n4 h4 s4=>?_⟩
 left
 refine ⟨by show 2<=sizeLine;decide,fun l2 H5 n5 h5 s5=>?_⟩
 refine ⟨l1,l2,_,_,rfl,rfl,s5 _ _ (s4 _ _ (s3 _ _ h2)),h5,by show 4<=sizeLine;decide,fun l3 H6 n6 h6 s6=>?_⟩
 left
 refine ⟨_,_,_,rfl,fun u h=>h,k4,?_⟩
 left
 refine ⟨by show 2<=sizeLine;decide,fun t4 H7 n7 h7 s7=>?_⟩
 left
 refine ⟨by show 1<=sizeLine;decide,fun l4 H8 n8 h8 s8=>?_⟩
 refine ⟨l3,l4,_,_,rfl,rfl,s8 _ _ (s7 _ _ h6),h8,by show 5<=sizeLine;decide,fun l5 H9 n9 h9 s9=>?_⟩
 left
 refine ⟨by show 1<=sizeLine;decide,fun tn H10 n10 h10 s10=>?_⟩
 left
 have up8:∀ {p o},H8 p=some o->H10 p=some o:=fun h=>s10 _ _ (s9 _ _ h)
 have up3:∀ {p o},H3 p=some o->H10 p=some o:=fun h=>up8 (s8 _ _ (s7 _ _ (s6 _ _ (s5 _ _ (s4 _ _ h)))))
 have p0:H10 t0=some (.tup [.str "BadYear",.bl b0]):=up3 (s3 _ _ (s2 _ _ (s1 _ _ h0)))
 have p1:H10 t1=some (.tup [.str "NoLane",.bl b1]):=up3 (s3 _ _ (s2 _ _ h1))
 have p2:H10 t2=some (.tup [.str "NoPlace",.bl b2]):=up3 h3
 have p3:H10 t3=some (.tup [.str "BadHand",.bl b3]):=up8 (s8 _ _ (s7 _ _ (s6 _ _ (s5 _ _ h4))))
 have p4:H10 t4=some (.tup [.str "ValueError",.bl true]):=up8 (s8 _ _ h7)
 have p5:H10 l5=some (.lst [.ref t0,.ref t1,.ref t2,.ref t3,.ref t4]):=s10 _ _ h9
 have all:ji H H10:=((((((((((s0.trans s1).trans s2).trans s3).trans s4).trans s5).trans s6).trans s7).trans s8).trans s9).trans s10)
 clear up8 up3 h0 h1 h2 h3 h4 h5 h6 h7 h8 h9 s0 s1 s2 s3 s4 s5 s6 s7 s8 s9 n0 n1 n2 n3 n4 n5 n6 n7 n8 n9
 have pr:∀ (i:Nat) (v:V),[V.ref t0,.ref t1,.ref t2,.ref t3,.ref t4][i]? = some v->∃ t nm b,v = .ref t/\(uf b0 b1 b2 b3)[i]? = some (nm,b)/\H10 t=some (.tup [.str nm,.bl b]):=fun i v hv=>by
  match i,hv with
  | 0,hv=>cases hv;exact ⟨_,_,_,rfl,rfl,p0⟩
  | 1,hv=>cases hv;exact ⟨_,_,_,rfl,rfl,p1⟩
  | 2,hv=>cases hv;exact ⟨_,_,_,rfl,rfl,p2⟩
  | 3,hv=>cases hv;exact ⟨_,_,_,rfl,rfl,p3⟩
  | 4,hv=>cases hv;exact ⟨_,_,_,rfl,rfl,p4⟩
  | n+5,hv=>cases hv
 refine ⟨⟨_,SqL.of p5⟩,fun acc hacc=>?_⟩
 refine qf (K:=K) (a:=l5) (acc:=acc) (xs:=[V.ref t0,.ref t1,.ref t2,.ref t3,.ref t4]) (fun i σ H'=>∃ x y:Option V,σ=[x,y]/\H' acc=some (.lst (uO (uf b0 b1 b2 b3) i))/\Ext acc H10 H') ?_ ?_ ?_ ?_
 ·exact ⟨none,none,rfl,j7,Ext.put⟩
 ·rintro i σ H' hi ⟨x,y,rfl,h3,e3⟩
  exact SqL.of (e3 _ _ p5 (j1 p5 hacc))
 ·rintro i v σ H' hv ⟨x,y,rfl,h3,e3⟩
  obtain ⟨t,nm,b,rfl,hw,ht⟩:=pr i v hv
  have kk:=YW hw
  have hi5:i<5:=(List.getElem?_eq_some_iff.mp hv).1
  have kl:=gJ (uf b0 b1 b2 b3) i
  refine ⟨t,_,rfl,SqT.of (e3 _ _ ht (j1 ht hacc)),rfl,?_⟩
  cases b with
  | false =>
   rw [if_neg Bool.false_ne_true,List.append_nil] at kk
   refine ⟨_,_,rfl,_,_,rfl,rfl,_,rfl,_,rfl,?_⟩
   dsimp only
   rw [if_neg Bool.false_ne_true]
   exact ⟨_,_,rfl,by rw [kk];exact h3,e3⟩
  | true =>
   rw [if_pos rfl] at kk
   refine ⟨_,_,rfl,_,_,rfl,rfl,_,rfl,_,rfl,?_⟩
   dsimp only
   rw [if_pos rfl]
   refine ⟨_,rfl,_,h3,Nat.lt_of_le_of_lt kl (by show i<16777216;omega),_,_,rfl,?_,e3.trans Ext.put⟩
   rw [j7,kk]
 ·rintro σ H' ⟨x,y,rfl,h3,e3⟩
  refine ⟨acc,_,rfl,SqL.of h3,fun tt H11 n11 h11 s11=>?_⟩
  have z:Ext acc H10 H11:=e3.trans (Ext.of_same s11)
  refine ⟨tn,tt,_,_,rfl,rfl,z _ _ h10 (j1 h10 hacc),h11,by have:=gJ (uf b0 b1 b2 b3) 5;show 1+(uO (uf b0 b1 b2 b3) 5).length<=16777216;omega,fun tf H12 s12 h12=>?_⟩
  refine k tf H12 h12 fun b o hb=>s12 _ _ (z _ _ (all _ _ hb) (j1 (all _ _ hb) hacc))
def noT (w:Str):List V:=[.str "no",.str w,.str "ValueError"]
def yb (c:ScN) (l n y:Int):Option Str :=
 if 0<=l/\l<(c.ws.length:Int) then (if 0<=n/\n<((jc c.rs (c.ws.getD l.toNat [])).length:Int) then (if 0<=y/\y<=10 ^ 40 then none else some "BadYear") else some "NoPlace") else some "NoLane"
def U2:Sp:=fun vs H Q _=>∃ (sd:Addr) (c:ScN) (l n y:Int),vs=[.ref sd,.int l,.int n,.int y]/\ScAt H sd c/\(yb c l n y=none->Q .non H)/\∀ w t H',yb c l n y=some w->H t=none->H' t=some (.tup (noT w))->ji H H'->Q (.ref t) H'
theorem uW:FnScope ["_law_scene_here","_law_lane","_law_place","_law_year_here"] ["_law_scene_here","_law_lane","_law_place","_law_year_here"] (j6 zj):=by walk_at "s"
theorem UH {f:Addr}{fd:FuncData}(nb:Nb2 mg) (F:Fun K "_law_due_spot" "_law_due_spot" zj f fd):FnOk P w K mg base CX0 1 f fd ["_law_scene_here","_law_lane","_law_place","_law_year_here"] U2:=by
 refine F.ok uW (fun vs H Q E h=>?_) (fun cdv A outer s H vs Q E hr h=>?_)
 ·obtain ⟨sd,c,l,n,y,rfl,_⟩:=h
  rfl
 ·obtain ⟨sd,c,l,n,y,rfl,S,k,kn⟩:=h
  have hzl:c.zs.length=c.ws.length:=(Paired.length S.gi).trans (List.length_map _)
  have hgd:qT H sd (.str "grounds") (some (.ref c.gl)):=by rw [<- xD c.p c.q c.sg c.gl c.ll];exact qT.k (k:=.inr "grounds") S.sd
  have kl:¬ (0<=l/\l<(c.ws.length:Int))->∀ t H',H t=none->H' t=some (.tup (noT "NoLane"))->ji H H'->Q (.ref t) H':=fun z t H'=>kn _ t H' (by unfold yb;rw [if_neg z])
  refine ⟨_,(j5 (jM (qJ (qy jP xX j4 (pv 1) (jf (jg K) rfl nb.b_len PySem.boot_len (j0 (jH (jY hr) (pv 0) jo (fun _ _=>rfl)) j2)))) (j9 (jj (jI (j0 jo (j0 jo (j0 jo j2)))))) jw)
   (j5 (jM (qJ (qy jP xX j4 (pv 2) (jf (jg K) rfl nb.b_len PySem.boot_len (j0 (jn (jb K) (jH (jY hr) (pv 0) jo (fun _ _=>rfl)) (pv 1) (fun _ _=>rfl)) j2)))) (j9 (jj (jI (j0 jo (j0 jo (j0 jo j2)))))) jw)
   (j5 (jM (qJ (qy jP jP j4 (pv 3) (jh yY j4 j4))) (j9 (jj (jI (j0 jo (j0 jo (j0 jo j2)))))) jw)
   (j9 (jj zW))))),?_⟩
  left
  refine jV (fun h0=>?_) (fun h0=>?_)
  ·left
   refine ⟨sd,.ref c.gl,rfl,hgd,?_⟩
   left
   refine ⟨c.gl,_,rfl,.inl (SqL.of S.gl),?_⟩
   rw [hzl]
   left
   refine x8 (fun h1=>?_) (fun h1=>?_)
   ·left
    refine ⟨by show 3<=sizeLine;decide,fun t H3 ht ht3 s3=>?_⟩
    exact kl (fun z=>h1 z.2) t H3 ht ht3 s3
   ·clear kl
    have hi:l.toNat<c.zs.length:=by omega
    obtain ⟨gw,hgw,ga,ega,hga⟩:=Paired.get S.gi (List.getElem?_eq_getElem hi)
    rw [List.getElem?_map] at hgw
    obtain ⟨wy,hwy,rfl⟩:=Option.map_eq_some_iff.mp hgw
    have ew:c.ws.getD l.toNat []=wy:=by rw [List.getD_eq_getElem?_getD,hwy];rfl
    have kp:¬ (0<=n/\n<((jc c.rs wy).length:Int))->∀ t H',H t=none->H' t=some (.tup (noT "NoPlace"))->ji H H'->Q (.ref t) H':=fun z t H'=>kn _ t H' (by unfold yb;rw [ew,if_pos ⟨h0,h1⟩,if_neg z])
    left
    refine jV (fun n0=>?_) (fun n0=>?_)
    ·left
     refine ⟨sd,.ref c.gl,rfl,hgd,?_⟩
     left
     refine ⟨_,_,_,_,rfl,rfl,SqL.of S.gl,qo h0 (v:=V.ref ga) (by rw [List.getElem?_eq_getElem hi,ega]),?_⟩
     left
     refine ⟨ga,_,rfl,.inl (SqL.of hga),?_⟩
     rw [List.length_map]
     left
     refine x8 (fun n1=>?_) (fun n1=>?_)
     ·left
      refine ⟨by show 3<=sizeLine;decide,fun t H3 ht ht3 s3=>?_⟩
      exact kp (fun z=>n1 z.2) t H3 ht ht3 s3
     ·clear kp
      have ky:¬ (0<=y/\y<=10 ^ 40)->∀ t H',H t=none->H' t=some (.tup (noT "BadYear"))->ji H H'->Q (.ref t) H':=fun z t H'=>kn _ t H' (by unfold yb;rw [ew,if_pos ⟨h0,h1⟩,if_pos ⟨n0,n1⟩,if_neg z])
      left
      refine jV (fun y0=>?_) (fun y0=>?_)
      ·left
       refine x8 (fun y1=>?_) (fun y1=>?_)
       ·left
        refine ⟨by show 3<=sizeLine;decide,fun t H3 ht ht3 s3=>?_⟩
        exact ky (fun z=>y1 z.2) t H3 ht ht3 s3
       ·left
        exact k (by unfold yb;rw [ew,if_pos ⟨h0,h1⟩,if_pos ⟨n0,n1⟩,if_pos ⟨y0,y1⟩])
      ·left
       refine ⟨by show 3<=sizeLine;decide,fun t H3 ht ht3 s3=>?_⟩
       exact ky (fun z=>y0 z.1) t H3 ht ht3 s3
    ·left
     refine ⟨by show 3<=sizeLine;decide,fun t H3 ht ht3 s3=>?_⟩
     exact kp (fun z=>n0 z.1) t H3 ht ht3 s3
  ·left
   refine ⟨by show 3<=sizeLine;decide,fun t H3 ht ht3 s3=>?_⟩
   exact kl (fun z=>h0 z.1) t H3 ht ht3 s3
def Yz:Sp:=fun vs H Q _=>∃ (L b sd:Addr) (c:ScN) (y:Int),vs=[.ref b,.ref sd,.int y]/\jS L H b/\ScAt H sd c/\ScOk b c/\1<=c.ws.length/\c.ws.length<=6/\(∀ w∈c.ws,1<=(jc c.rs w).length/\(jc c.rs w).length<=30) /\
 ∀ (l n y':Int) (t:Addr) (H':Hp),jS L H' b->Ext b H H'->H t=none->H' t=some (.tup [.int l,.int n,.int y'])->Q (.ref t) H'
theorem jX:FnScope ["_law_box_here","_law_scene_here","_law_year_here","_law_lane","_law_place","_law_pick"] ["_law_box_here","_law_scene_here","_law_year_here"] (j6 xW):=by walk_at "s"
theorem Vm {f:Addr}{fd:FuncData}(nb:Nb2 mg) (c_law_take:Cal P w K mg base 2 "_law_take" ["_law_box_here","_law_size"] xJ) (c_law_odd:Cal P w K mg base 3 "_law_odd" ["_law_box_here"] Y3) (c_law_spot:Cal P w K mg base 3 "_law_spot" ["_law_box_here","_law_scene_here"] YA)
  (F:Fun K "_law_bent_spot" "_law_bent_spot" xW f fd):FnOk P w K mg base CX0 4 f fd ["_law_box_here","_law_scene_here","_law_year_here"] Yz:=by
 refine F.ok jX (fun vs H Q E h=>?_) (fun cdv A outer s H vs Q E hr h=>?_)
 ·obtain ⟨L,b,sd,c,y,rfl,_⟩:=h
  rfl
 ·obtain ⟨L,b,sd,c,y,rfl,B,S,O,hw1,hw6,hg,k⟩:=h
  have hzl:c.zs.length=c.ws.length:=(Paired.length S.gi).trans (List.length_map _)
  have Q6:∀ {z a b c:Int},0<=z->z<3->∃ n,atI [V.int a,V.int b,V.int c] z=some (V.int n):=fun {z a b c} h0 h1=>by
   have:z=0\/z=1\/z=2:=by omega
   rcases this with rfl | rfl | rfl
   ·exact ⟨a,rfl⟩
   ·exact ⟨b,rfl⟩
   ·exact ⟨c,rfl⟩
  have hgd:∀ {H':Hp},ScAt H' sd c->qT H' sd (.str "grounds") (some (.ref c.gl)):=fun S'=>by rw [<- xD c.p c.q c.sg c.gl c.ll];exact qT.k (k:=.inr "grounds") S'.sd
  refine ⟨_,(j5 (xy (jd c_law_spot (hr.mono (by decide)) rfl (j0 (pv 0) (j0 (pv 1) j2))) (qq (n:=2) K rfl (jk (ja (i:=3) jX.nd rfl (Or.inl rfl)) (jk (ja (i:=4) jX.nd rfl (Or.inl rfl)) qm))))
   (j5 (je (i:=5) jX.nd rfl (Or.inl rfl) (jd c_law_take (hr.mono (by decide)) rfl (j0 (pv 0) (j0 j4 j2))))
   (xc (jM (PW.pt (Qn (jq zd (pv 5) j4 (jx _)) (Ji (jq zd (pv 5) j4 (jx _))))) (j9 (je (i:=3) jX.nd rfl (Or.inl rfl) (jn (jb K) (jK (j0 (jh jE j4 j4) (j0 (jf (jg K) rfl nb.b_len PySem.boot_len (j0 (jH (jY hr) (pv 1) jo (fun _ _=>rfl)) j2)) (j0 (jd c_law_odd (hr.mono (by decide)) rfl (j0 (pv 0) j2)) j2)))) (jd c_law_take (hr.mono (by decide)) rfl (j0 (pv 0) (j0 j4 j2))) (fun _ _=>rfl)))) jw)
   (xc (jM (PW.pt (Qn (jq zd (pv 5) j4 (jx _)) (Qn (jq zd (pv 5) j4 (jx _)) (Ji (jq zd (pv 5) j4 (jx _)))))) (j9 (je (i:=4) jX.nd rfl (Or.inl rfl) (jn (jb K) (jK (j0 (jh jE j4 j4) (j0 (jf (jg K) rfl nb.b_len PySem.boot_len (j0 (jn (jb K) (jH (jY hr) (pv 1) jo (fun _ _=>rfl)) (jf (uA rfl) rfl nb.b_min boot_min (j0 (jf (zI rfl) rfl nb.b_max boot_max (j0 (pv 3) (j0 j4 j2))) (j0 (jh jE (jf (jg K) rfl nb.b_len PySem.boot_len (j0 (jH (jY hr) (pv 1) jo (fun _ _=>rfl)) j2)) j4) j2))) (fun _ _=>rfl)) j2)) (j0 j4 j2)))) (jd c_law_take (hr.mono (by decide)) rfl (j0 (pv 0) (j0 j4 j2))) (fun _ _=>rfl)))) jw)
   (xc (jM (PW.pt (Qn (jq zd (pv 5) j4 (jx _)) (Ji (jq zd (pv 5) j4 (jx _))))) (j9 (je (i:=2) jX.nd rfl (Or.inl rfl) (jn (jb K) (jK (j0 (jh jE j4 j4) (j0 (jh jN (jh yY j4 j4) j4) (j0 (jh yY j4 j4) j2)))) (jd c_law_take (hr.mono (by decide)) rfl (j0 (pv 0) (j0 j4 j2))) (fun _ _=>rfl)))) jw)
   (j9 (jj (jI (j0 (pv 3) (j0 (pv 4) (j0 (pv 2) j2))))))))))),?_⟩
  left
  refine ⟨L,b,sd,c,rfl,B,S,O,hw1,hw6,hg,fun ln n wy t H1 ln0 ln1 hwy n0 n1 B1 X1 ht ht1=>?_⟩
  left
  refine ⟨t,_,rfl,SqT.of ht1,rfl,?_⟩
  refine ⟨_,_,rfl,_,_,rfl,rfl,?_⟩
  left
  refine ⟨L,b,_,rfl,B1,⟨by decide,by decide⟩,fun pk H2 pk0 pk1 B2 X2=>?_⟩
  have S1:=S.ext O B X1
  have S2:=S1.ext O B1 X2
  have X2':=X1.trans X2
  clear B1 X1 X2 S1 ht1
  left
  refine ⟨fun σ H3=>∃ l:Int,σ=[some (.ref b),some (.ref sd),some (.int y),some (.int l),some (.int n),some (.int pk)]/\jS L H3 b/\Ext b H H3/\ScAt H3 sd c,?_,?_⟩
  ·have fin:∃ l:Int,[some (V.ref b),some (.ref sd),some (.int y),some (.int ln),some (.int n),some (.int pk)]=[some (.ref b),some (.ref sd),some (.int y),some (.int l),some (.int n),some (.int pk)]/\jS L H2 b/\Ext b H H2/\ScAt H2 sd c:=⟨ln,rfl,B2,X2',S2⟩
   left
   refine jV (fun _=>?_) (fun _=>?_)
   rotate_left
   left
   refine jV (fun _=>?_) (fun _=>fin)
   all_goals
    left
    refine ⟨sd,.ref c.gl,rfl,hgd S2,?_⟩
    left
    refine ⟨c.gl,_,rfl,.inl (SqL.of S2.gl),?_⟩
    left
    refine ⟨L,b,rfl,B2,fun z H3 B3 X3=>?_⟩
    left
    refine ⟨by show 3<=sizeLine;decide,fun lq H4 hlq hlq4 s4=>?_⟩
    left
    refine ⟨L,b,_,rfl,B3.same s4,⟨by decide,by decide⟩,fun v H5 v0 v1 B5 X5=>?_⟩
    obtain ⟨m,hm⟩:=Q6 (a:=0-1) (b:=(c.zs.length:Int)) (c:=z) v0 v1
    refine ⟨_,_,_,_,rfl,rfl,SqL.of (X5 _ _ hlq4 (B3.ne hlq)),hm,?_⟩
    exact ⟨m,rfl,B5,(X2'.trans X3).trans ((Ext.of_same s4).trans X5),((S2.ext O B2 X3).same s4).ext O (B3.same s4) X5⟩
  rintro σ H3 ⟨l,rfl,B3,X3,S3⟩
  clear B2 X2' S2
  refine ⟨fun σ H3=>∃ l n:Int,σ=[some (.ref b),some (.ref sd),some (.int y),some (.int l),some (.int n),some (.int pk)]/\jS L H3 b/\Ext b H H3/\ScAt H3 sd c,?_,?_⟩
  ·have fin:∃ l' n':Int,[some (V.ref b),some (.ref sd),some (.int y),some (.int l),some (.int n),some (.int pk)]=[some (.ref b),some (.ref sd),some (.int y),some (.int l'),some (.int n'),some (.int pk)]/\jS L H3 b/\Ext b H H3/\ScAt H3 sd c:=⟨l,n,rfl,B3,X3,S3⟩
   left
   refine jV (fun _=>?_) (fun _=>?_)
   rotate_left
   left
   refine jV (fun _=>?_) (fun _=>?_)
   rotate_left
   left
   refine jV (fun _=>?_) (fun _=>fin)
   all_goals
    left
    refine ⟨sd,.ref c.gl,rfl,hgd S3,?_⟩
    left
    refine ⟨_,_,rfl,?_⟩
    left
    refine ⟨sd,.ref c.gl,rfl,hgd S3,?_⟩
    left
    refine ⟨c.gl,_,rfl,.inl (SqL.of S3.gl),?_⟩
    left
    refine ⟨_,_,rfl,?_⟩
    obtain ⟨ix,eix,x0,x1⟩:∃ ix:Int,(if (c.zs.length:Int)-1<if 0 > l then 0 else l then (c.zs.length:Int)-1 else if 0 > l then 0 else l)=ix/\0<=ix/\ix<(c.zs.length:Int):=⟨_,rfl,by split <;> split <;> omega,by split <;> split <;> omega⟩
    rw [eix]
    have hi:ix.toNat<c.zs.length:=by omega
    obtain ⟨gw,hgw,ga,ega,hga⟩:=Paired.get S3.gi (List.getElem?_eq_getElem hi)
    refine ⟨_,_,_,_,rfl,rfl,SqL.of S3.gl,qo x0 (v:=V.ref ga) (by rw [List.getElem?_eq_getElem hi,ega]),?_⟩
    left
    refine ⟨ga,_,rfl,.inl (SqL.of hga),?_⟩
    left
    refine ⟨by show 3<=sizeLine;decide,fun lq H4 hlq hlq4 s4=>?_⟩
    left
    refine ⟨L,b,_,rfl,B3.same s4,⟨by decide,by decide⟩,fun v H5 v0 v1 B5 X5=>?_⟩
    obtain ⟨m,hm⟩:=Q6 (a:=0-1) (b:=((gw.map V.int).length:Int)) (c:=31) v0 v1
    refine ⟨_,_,_,_,rfl,rfl,SqL.of (X5 _ _ hlq4 (B3.ne hlq)),hm,?_⟩
    exact ⟨l,m,rfl,B5,X3.trans ((Ext.of_same s4).trans X5),(S3.same s4).ext O (B3.same s4) X5⟩
  rintro σ H3 ⟨l,n,rfl,B3,X3,S3⟩
  refine ⟨fun σ H3=>∃ l n y:Int,σ=[some (.ref b),some (.ref sd),some (.int y),some (.int l),some (.int n),some (.int pk)]/\jS L H3 b/\Ext b H H3,?_,?_⟩
  ·have fin:∃ l' n' y':Int,[some (V.ref b),some (.ref sd),some (.int y),some (.int l),some (.int n),some (.int pk)]=[some (.ref b),some (.ref sd),some (.int y'),some (.int l'),some (.int n'),some (.int pk)]/\jS L H3 b/\Ext b H H3:=⟨l,n,y,rfl,B3,X3⟩
   left
   refine jV (fun _=>?_) (fun _=>?_)
   rotate_left
   left
   refine jV (fun _=>?_) (fun _=>fin)
   all_goals
    left
    refine ⟨by show 3<=sizeLine;decide,fun lq H4 hlq hlq4 s4=>?_⟩
    left
    refine ⟨L,b,_,rfl,B3.same s4,⟨by decide,by decide⟩,fun v H5 v0 v1 B5 X5=>?_⟩
    obtain ⟨m,hm⟩:=Q6 (a:=0-1) (b:=10 ^ (40:Int).toNat+1) (c:=10 ^ (40:Int).toNat) v0 v1
    refine ⟨_,_,_,_,rfl,rfl,SqL.of (X5 _ _ hlq4 (B3.ne hlq)),hm,?_⟩
    exact ⟨l,n,m,rfl,B5,X3.trans ((Ext.of_same s4).trans X5)⟩
  rintro σ H4 ⟨l,n,y',rfl,B4,X4⟩
  left
  refine ⟨by show 3<=sizeLine;decide,fun t' H5 ht5 ht55 s5=>?_⟩
  have tb:t'≠b:=B4.ne ht5
  exact k l n y' t' H5 (B4.same s5) (X4.trans (Ext.of_same s5)) (X4.free ht5 tb) ht55
end
section
variable {P:Program}{w:World}{K:PySem.W.Frag}{mg:Str->Option Value}{base:Heap}
def OkV (v:V):Prop:=v = .str "melt" \/ v = .str "off" \/ ∃ z,v = .int z
theorem Uo (rows:List Q4) (b:Int):∃ v xs,ZA rows b=v::xs/\OkV v:=by
 unfold ZA
 split
 ·exact ⟨_,_,rfl,.inl rfl⟩
 ·exact ⟨_,_,rfl,.inr (.inl rfl)⟩
def gY (C:Addr):Sp:=fun vs H Q _=>∃ (p:Addr) (g:IceG) (be:Bool) (l n y nm:Int) (sk:List (Int×Addr)) (wr:List (Int×T3)),vs=[.ref p,.bl be,.int l,.int n,.int y,.int nm]/\IceAt C H p g/\g.lds.length=g.slopes.length/\g.kvs=sk.map kvA/\zJ H sk wr/\1<=g.rows.length/\g.rows.length<=1000 /\
 (l<0\/(g.slopes.length:Int)<=l->∀ t H',H' t=some (.tup (noT "NoLane"))->ji H H'->Q (.ref t) H')/\(0<=l->l<(g.slopes.length:Int)->n<0\/((g.slopes.getD l.toNat []).length:Int)<=n->∀ t H',H' t=some (.tup (noT "NoPlace"))->ji H H'->Q (.ref t) H') /\
 (0<=l->l<(g.slopes.length:Int)->0<=n->n<((g.slopes.getD l.toNat []).length:Int)->∃ ns ms,Xr g l ns/\(∀ q∈ns,0<=q.1)/\(g.slopes.getD l.toNat []).length<=100/\ms.Perm ns/\(ms.map (·.1)).Pairwise (· <= ·)/\(y<0\/10 ^ 40<y->∀ t H',H' t=some (.tup (noT "BadYear"))->ji H H'->Q (.ref t) H') /\
  (0<=y->y<=10 ^ 40->∀ q0:Q4,(qh ms (g.slopes.getD l.toNat []) wr g.rows (y+ju ns y-n))[(y-jv 0 0 ms (y+ju ns y-n)).toNat]? = some q0 ->
   (¬ (0<=nm/\nm<(if be=true then q0.2.2.1 else 0-q0.2.2.1))->∀ t H',H' t=some (.tup (noT "BadHand"))->ji H H'->Q (.ref t) H')/\(0<=nm->nm<(if be=true then q0.2.2.1 else 0-q0.2.2.1)->∀ t v xs H',OkV v->H' t=some (.tup (v::xs))->ji H H'->Q (.ref t) H')))
theorem qp:FnScope ["_law_ice","_law_end","_law_lane","_law_place","_law_year_here","_law_number","_law_found","_law_e"] ["_law_ice","_law_end","_law_lane","_law_place","_law_year_here","_law_number"] (j6 zi):=by walk_at "s"
theorem Vv {f C CN CP CY CB CF:Addr}{fd:FuncData}(e_FirnError:mg "FirnError" = some (.ref CF)) (m_NoLane:PySem.W.exmOne K (.ref CN) (.ref CF)=some true) (m_NoPlace:PySem.W.exmOne K (.ref CP) (.ref CF)=some true) (m_BadYear:PySem.W.exmOne K (.ref CY) (.ref CF)=some true) (m_BadHand:PySem.W.exmOne K (.ref CB) (.ref CF)=some true)
  (rN:RefK K CY CN CP CB CN false true false false) (rP:RefK K CY CN CP CB CP false false true false) (rY:RefK K CY CN CP CB CY true false false false) (rB:RefK K CY CN CP CB CB false false false true)
  (c_end_of:CalX P w K mg base 6 "end_of" ["ice","lane","place","year","layer"] (Z6 C CN CP CY CB)) (c_birth_of:CalX P w K mg base 6 "birth_of" ["ice","lane","place","year","turn"] (gI C CN CP CY CB)) (c_law_refused:CalH P w K mg base 1 "_law_refused" ["_law_e"] (gO K CY CN CP CB))
  (F:Fun K "_law_try_hand" "_law_try_hand" zi f fd):FnOk P w K mg base CX0 7 f fd ["_law_ice","_law_end","_law_lane","_law_place","_law_year_here","_law_number"] (gY C):=by
 refine F.ok qp (fun vs H Q E h=>?_) (fun cdv A outer s H vs Q E hr h=>?_)
 ·obtain ⟨p,g,be,l,n,y,nm,sk,wr,rfl,_⟩:=h
  rfl
 ·obtain ⟨p,g,be,l,n,y,nm,sk,wr,rfl,I,hll,ek,hw,hr1,hr2,kN,kP,k⟩:=h
  refine ⟨_,(j5 (je (i:=6) qp.nd rfl (Or.inl rfl) zW)
   (j5 (Y6 (i:=7) K rfl rfl e_FirnError rfl qp.nd rfl rfl (fun pn J=>(j9 (jM (ve (pv 1)) (j9 (je (i:=6) qp.nd rfl (Or.inl rfl) (xa c_end_of (hr.mono (by decide)) XH rfl (j0 (pv 0) (j0 (pv 2) (j0 (pv 3) (j0 (pv 4) (j0 (pv 5) j2)))))))) (j9 (je (i:=6) qp.nd rfl (Or.inl rfl) (xa c_birth_of (hr.mono (by decide)) XH rfl (j0 (pv 0) (j0 (pv 2) (j0 (pv 3) (j0 (pv 4) (j0 (pv 5) j2))))))))))) (fun a oe pn=>(j9 (je (i:=6) qp.nd rfl (Or.inl rfl) (VG c_law_refused (hr.mono (j:=1) (by decide)).dp (hr.mono (j:=1) (by decide)).un rfl (List.mem_append_right _ (List.mem_singleton.mpr rfl)) rfl (j0 (pv 7) j2))))))
   (j9 (jj (pv 6))))),?_⟩
  cases be with
  | true =>
   left
   refine ⟨p,g,l,n,y,nm,sk,wr,rfl,I,hll,ek,hw,hr1,hr2,(fun hb=>⟨m_NoLane,fun a oe eo ha=>?_⟩),(fun l0 l1 hb=>⟨m_NoPlace,fun a oe eo ha=>?_⟩),fun l0 l1 n0 n1=>?_⟩
   ·left
    refine ⟨_,eo,CN,_,_,_,_,rfl,rfl,rN,fun t H2 ht s2=>?_⟩
    show Ju (vo 6) _ _ _
    left
    exact kN hb t H2 ht s2
   ·left
    refine ⟨_,eo,CP,_,_,_,_,rfl,rfl,rP,fun t H2 ht s2=>?_⟩
    show Ju (vo 6) _ _ _
    left
    exact kP l0 l1 hb t H2 ht s2
   ·obtain ⟨ns,ms,hL,hp0,g100,hp,hs,kY,k⟩:=k l0 l1 n0 n1
    refine ⟨ns,ms,hL,hp0,g100,hp,hs,(fun H' s' hb=>⟨m_BadYear,fun a oe eo ha=>?_⟩),fun y0 y1 q0 rows er hq0=>?_⟩
    ·left
     refine ⟨_,eo,CY,_,_,_,_,rfl,rfl,rY,fun t H2 ht s2=>?_⟩
     show Ju (vo 6) _ _ _
     left
     exact kY hb t H2 ht (s'.trans s2)
    ·obtain ⟨kB,k⟩:=k y0 y1 q0 (by rw [er,List.getElem?_drop] at hq0;exact hq0)
     rw [if_pos rfl] at kB k
     refine ⟨fun hb H' s'=>⟨m_BadHand,fun a oe eo ha=>?_⟩,fun k0 k1 t H' ht ht' s'=>?_⟩
     ·left
      refine ⟨_,eo,CB,_,_,_,_,rfl,rfl,rB,fun t H2 ht s2=>?_⟩
      show Ju (vo 6) _ _ _
      left
      exact kB (by omega) t H2 ht (s'.trans s2)
     ·obtain ⟨v,xs,ev,ov⟩:=Uo rows (q0.2.2.2-q0.2.2.1+nm)
      rw [ev] at ht'
      left
      exact k k0 k1 t v xs H' ov ht' s'
  | false =>
   left
   refine ⟨p,g,l,n,y,nm,sk,wr,rfl,I,hll,ek,hw,hr1,hr2,(fun hb=>⟨m_NoLane,fun a oe eo ha=>?_⟩),(fun l0 l1 hb=>⟨m_NoPlace,fun a oe eo ha=>?_⟩),fun l0 l1 n0 n1=>?_⟩
   ·left
    refine ⟨_,eo,CN,_,_,_,_,rfl,rfl,rN,fun t H2 ht s2=>?_⟩
    show Ju (vo 6) _ _ _
    left
    exact kN hb t H2 ht s2
   ·left
    refine ⟨_,eo,CP,_,_,_,_,rfl,rfl,rP,fun t H2 ht s2=>?_⟩
    show Ju (vo 6) _ _ _
    left
    exact kP l0 l1 hb t H2 ht s2
   ·obtain ⟨ns,ms,hL,hp0,g100,hp,hs,kY,k⟩:=k l0 l1 n0 n1
    refine ⟨ns,ms,hL,hp0,g100,hp,hs,(fun H' s' hb=>⟨m_BadYear,fun a oe eo ha=>?_⟩),fun y0 y1 q0 L i eL ei hq0=>?_⟩
    ·left
     refine ⟨_,eo,CY,_,_,_,_,rfl,rfl,rY,fun t H2 ht s2=>?_⟩
     show Ju (vo 6) _ _ _
     left
     exact kY hb t H2 ht (s'.trans s2)
    ·subst eL ei
     obtain ⟨kB,k⟩:=k y0 y1 q0 hq0
     rw [if_neg Bool.false_ne_true] at kB k
     refine ⟨fun hb H' s'=>⟨m_BadHand,fun a oe eo ha=>?_⟩,fun k0 k1=>?_⟩
     ·left
      refine ⟨_,eo,CB,_,_,_,_,rfl,rfl,rB,fun t H2 ht s2=>?_⟩
      show Ju (vo 6) _ _ _
      left
      exact kB (by omega) t H2 ht (s'.trans s2)
     ·obtain ⟨qb,hqb⟩:=Zx hq0 k0 k1
      refine ⟨qb,hqb,fun t H' ht ht' s'=>?_⟩
      left
      exact k k0 (by omega) t _ _ H' (.inr (.inr ⟨_,rfl⟩)) ht' s'
end
section
variable {P:Program}{w:World}{K:PySem.W.Frag}{mg:Str->Option Value}{base:Heap}
theorem wH {w:Str}(h:PyData.strOk w=true):SeqAt.shaped (.tuple [.str "no",.str w,.str "ValueError"])=true:=by
 simp [SeqAt.shaped,PyData.canLay0,PyData.canLayAll0,PyData.depth,PyData.depthAll]
 exact ⟨by walk_at "k",h,by walk_at "k"⟩
theorem Vz {c:ScN}{l n y:Int}{w:Str}(h:yb c l n y=some w):PyData.strOk w=true:=by
 unfold yb at h
 split at h
 ·split at h
  ·split at h
   ·cases h
   ·cases h;decide +kernel
  ·cases h;decide +kernel
 ·cases h;decide +kernel
theorem Ja {H:Hp}{t:Addr}{w:Str}(h:H t=some (.tup (noT w))):Dat H (.ref t) (.tuple [.str "no",.str w,.str "ValueError"]):=.tup h (.cons (.str _) (.cons (.str _) (.cons (.str _) .nil)))
theorem Zm {c:ScN}{l n y:Int}{wy:List Int}(l0:0<=l) (l1:l<(c.ws.length:Int)) (hw:c.ws[l.toNat]? = some wy) (n0:0<=n) (n1:n<((jc c.rs wy).length:Int)):yb c l n y=if 0<=y/\y<=10 ^ 40 then none else some ("BadYear" : Str):=by
 have ew:c.ws.getD l.toNat []=wy:=by rw [List.getD_eq_getElem?_getD,hw];rfl
 unfold yb
 rw [ew,if_pos ⟨l0,l1⟩,if_pos ⟨n0,n1⟩]
theorem QB {c:ScN}{l n y:Int}{wy:List Int}(l0:0<=l) (l1:l<(c.ws.length:Int)) (hw:c.ws[l.toNat]? = some wy) (hn:n<0\/((jc c.rs wy).length:Int)<=n):yb c l n y=some ("NoPlace" : Str):=by
 have ew:c.ws.getD l.toNat []=wy:=by rw [List.getD_eq_getElem?_getD,hw];rfl
 unfold yb
 rw [ew,if_pos ⟨l0,l1⟩,if_neg (by omega)]
theorem ZG {c:ScN}{l n y:Int}(h:l<0\/(c.ws.length:Int)<=l):yb c l n y=some ("NoLane" : Str):=by
 unfold yb
 rw [if_neg (by omega)]
theorem um {w:Str}(h:PyData.strOk w=true):SeqAt.shaped (.tuple [.tuple [.str "no",.str w,.str "ValueError"],.tuple [.str "no",.str w,.str "ValueError"]])=true:=by
 have:PyData.strOk "no" = true/\PyData.strOk "ValueError" = true:=by walk_at "k"
 simp [SeqAt.shaped,PyData.canLay0,PyData.canLayAll0,PyData.depth,PyData.depthAll,h,this]
structure NbB (mg:Str->Option Value):Prop extends Nb2 mg where
 b_abs:mg "abs" = none
theorem Col.year {L:List Q4}{dp mv pl:Nat->Int}{fst:Int}{n:Nat}(C:Col L dp mv pl fst n) {k:Nat}{q:Q4}(h:L[k]? = some q):q.1=fst+(k:Int):=by
 have hk:k<n:=by rw [<- C.len];exact (List.getElem?_eq_some_iff.mp h).1
 rw [C.at_ k hk] at h
 rw [<- Option.some.inj h]
theorem Col.only {L:List Q4}{dp mv pl:Nat->Int}{fst:Int}{n:Nat}(C:Col L dp mv pl fst n) {i:Nat}{q:Q4}(h:L[i]? = some q):(L.filter fun x=>decide (x.1=q.1))=[q]:=by
 have hi:=(List.getElem?_eq_some_iff.mp h).1
 have hy:=C.year h
 have e:L=L.take i++(q::L.drop (i+1)):=by
  rw [<- (List.getElem?_eq_some_iff.mp h).2,<- List.drop_eq_getElem_cons hi,List.take_append_drop]
 conv=>lhs;rw [e]
 rw [List.filter_append,List.filter_cons_of_pos (by simp),List.filter_eq_nil_iff.mpr,List.filter_eq_nil_iff.mpr,List.nil_append]
 ·intro x hx
  obtain ⟨k,hk⟩:=List.mem_iff_getElem?.mp hx
  rw [List.getElem?_drop] at hk
  have:=C.year hk
  exact fun z=>absurd (of_decide_eq_true z) (by omega)
 ·intro x hx
  obtain ⟨k,hk⟩:=List.mem_iff_getElem?.mp hx
  have hki:k<i:=Nat.lt_of_lt_of_le (List.getElem?_eq_some_iff.mp hk).1 (by rw [List.length_take];omega)
  rw [List.getElem?_take_of_lt hki] at hk
  have:=C.year hk
  exact fun z=>absurd (of_decide_eq_true z) (by omega)
theorem OkV.no {v:V}(h:OkV v):¬ v = .str "no":=by
 rcases h with rfl | rfl | ⟨z,rfl⟩
 ·intro z;exact absurd (V.str.inj z) (by walk_at "k")
 ·intro z;exact absurd (V.str.inj z) (by walk_at "k")
 ·intro z;cases z
theorem OkV.sc {v:V}(h:OkV v) (x:Str):We v (.str x)=true:=by
 rcases h with rfl | rfl | ⟨z,rfl⟩ <;> rfl
def Yt (c:ScN) (l n y:Int) (H:Hp) (dv:V):Prop:=(yb c l n y=none/\dv = .non)\/∃ w t,yb c l n y=some w/\dv = .ref t/\H t=some (.tup (noT w))
theorem Yt.keep {c:ScN}{l n y:Int}{H H':Hp}{dv:V}(h:Yt c l n y H dv) (k:jp H H'):Yt c l n y H' dv:=by
 rcases h with h | ⟨w,t,h1,h2,h3⟩
 ·exact .inl h
 ·exact .inr ⟨w,t,h1,h2,k _ _ h3⟩
def MvN (c:ScN) (g:IceG) (wr:List (Int×T3)) (l n y mn:Int):Prop:=yb c l n y=none->∃ wy da dn ms q0,LaneF c g l wy da dn/\0<=n/\n<((jc c.rs wy).length:Int)/\0<=y/\y<=10 ^ 40/\ms.Perm dn/\(ms.map (·.1)).Pairwise (· <= ·)/\(qh ms (jc c.rs wy) wr c.ts (y+ju dn y-n))[(y-jv 0 0 ms (y+ju dn y-n)).toNat]? = some q0/\(y<=200->mn=q0.2.2.1)
theorem ZV {c:ScN}{l n y:Int}(h:yb c l n y=none):0<=l/\l<(c.ws.length:Int)/\0<=n/\n<((jc c.rs (c.ws.getD l.toNat [])).length:Int)/\0<=y/\y<=10 ^ 40:=by
 unfold yb at h
 split at h
 ·split at h
  ·split at h
   ·rename_i h1 h2 h3
    exact ⟨h1.1,h1.2,h2.1,h2.2,h3.1,h3.2⟩
   ·cases h
  ·cases h
 ·cases h
theorem Uv {wr:List (Int×T3)}{ts:List T3}{gd:List Int}{dn ms:List (Int×Int)}{n y:Int}(hp:ms.Perm dn) (hs:(ms.map (·.1)).Pairwise (· <= ·)) (nd:(dn.map (·.1)).Nodup) (dnn:∀ q∈dn,0<=q.1/\0<=q.2) (n0:0<=n) (n1:n<(gd.length:Int)) (y0:0<=y):∃ q0,(qh ms gd wr ts (y+ju dn y-n))[(y-jv 0 0 ms (y+ju dn y-n)).toNat]? = some q0/\q0.1=y/\jv 0 0 ms (y+ju dn y-n)<=y/\y<jv 0 0 ms (y+ju dn y-n+(gd.length:Int)):=by
 have e0:y+ju dn y-(y+ju dn y-n)=n:=by omega
 have onm:=(zu hp hs nd dnn (y+ju dn y-n) gd.length y y0).mp (by rw [e0];exact ⟨n0,n1⟩)
 refine ⟨_,vc (by omega),?_,by omega,by omega⟩
 show jv 0 0 ms (y+ju dn y-n)+(((y-jv 0 0 ms (y+ju dn y-n)).toNat:Nat):Int)=y
 omega
theorem xh:FnScope ["_law_script","_law_box_here","_law_scene_here","_law_ice","_law_turn","_law_lane","_law_place","_law_year_here","_law_due","_law_many","_law_number","_law_found","_law_other","_law_told"] ["_law_script"] (j6 yU):=by walk_at "s"
theorem Ux {f C Pt:Addr}{fd:FuncData}(nb2:Nb2 mg) (b_abs:mg "abs" = none)
  (c_law_box:Cal P w K mg base 1 "_law_box" ["_law_script"] (V5 K)) (c_law_scene:Cal P w K mg base 5 "_law_scene" ["_law_box_here"] XI) (c_law_made:Cal P w K mg base 10 "_law_made" ["_law_scene_here"] (Y9 C Pt))
  (c_law_year:Cal P w K mg base 3 "_law_year" ["_law_box_here"] QO) (c_law_odd:Cal P w K mg base 3 "_law_odd" ["_law_box_here"] Y3) (c_law_life_at:Cal P w K mg base 2 "_law_life_at" ["_law_scene_here","_law_lane","_law_place","_law_year_here"] JK)
  (c_law_due_spot:Cal P w K mg base 1 "_law_due_spot" ["_law_scene_here","_law_lane","_law_place","_law_year_here"] U2) (c_law_bent_spot:Cal P w K mg base 4 "_law_bent_spot" ["_law_box_here","_law_scene_here","_law_year_here"] Yz) (c_law_try_hand:Cal P w K mg base 7 "_law_try_hand" ["_law_ice","_law_end","_law_lane","_law_place","_law_year_here","_law_number"] (gY C))
  (F:Fun K "law" "law" yU f fd):FnOk P w K mg base CX0 11 f fd ["_law_script"] (QW K Pt):=by
 have nb:NbB mg:={ toNb2:=nb2,b_abs:=b_abs }
 refine F.ok xh (fun vs H Q E h=>?_) (fun cdv A outer s H vs Q E hr h=>?_)
 ·obtain ⟨a,ns,rfl,_⟩:=h
  rfl
 ·obtain ⟨a,ns,rfl,hS,h63,hPt,k⟩:=h
  have T0:qC H Pt:=.inl hPt
  refine ⟨_,(j5 (je (i:=1) xh.nd rfl (Or.inl rfl) (jd c_law_box (hr.mono (by decide)) rfl (j0 (pv 0) j2)))
   (j5 (je (i:=2) xh.nd rfl (Or.inl rfl) (jd c_law_scene (hr.mono (by decide)) rfl (j0 (pv 1) j2)))
   (j5 (je (i:=3) xh.nd rfl (Or.inl rfl) (jd c_law_made (hr.mono (by decide)) rfl (j0 (pv 2) j2)))
   (xc (qK PassesOwn.never rfl (qw rfl nb.b_range (j0 j4 j2)) (ja (i:=4) xh.nd rfl (Or.inl rfl)) (j5 (xy (jd c_law_bent_spot (hr.mono (by decide)) rfl (j0 (pv 1) (j0 (pv 2) (j0 (jd c_law_year (hr.mono (by decide)) rfl (j0 (pv 1) j2)) j2)))) (qq (n:=3) K rfl (jk (ja (i:=5) xh.nd rfl (Or.inl rfl)) (jk (ja (i:=6) xh.nd rfl (Or.inl rfl)) (jk (ja (i:=7) xh.nd rfl (Or.inr rfl)) qm)))))
   (xc (je (i:=8) xh.nd rfl (Or.inl rfl) (jd c_law_due_spot (hr.mono (by decide)) rfl (j0 (pv 2) (j0 (pv 5) (j0 (pv 6) (j0 (pv 7) j2))))))
   (j5 (je (i:=9) xh.nd rfl (Or.inl rfl) j4)
   (xc (jM (PW.pt (zF (jq kj (pv 8) zW (jx _)) (zS (jq jP (pv 7) j4 (jx _))))) (j9 (je (i:=9) xh.nd rfl (Or.inl rfl) (jn (jb K) (jZ (osc:=(j6 yU)) (ON:=["_law_script","_law_box_here","_law_scene_here","_law_ice","_law_turn","_law_lane","_law_place","_law_year_here","_law_due","_law_many","_law_number","_law_found","_law_other","_law_told"]) (N:=["_law_row_here","_law_year_here"]) (own:=1) (caps:=[7]) ⟨rfl,by walk_at "k",by walk_at "k",by walk_at "k",rfl,by walk_at "k"⟩ rfl rfl rfl (qc K (jd c_law_life_at (hr.mono (by decide)) rfl (j0 (pv 2) (j0 (pv 5) (j0 (pv 6) (j0 (pv 7) j2)))))) (fun _ _ _ _ _=>(ja (i:=0) (show List.Nodup (["_law_row_here","_law_year_here"]:List Str) by decide +kernel) rfl (Or.inl rfl))) (fun _ _ _ _ _=>(zk (jq zd (jn (qe K) (pv 0) j4 (fun _ _=>rfl)) (pv 1) (jx _)))) (fun _ _ _ _ _=>(jn (qe K) (pv 0) j4 (fun _ _=>rfl)))) j4 (fun _ _=>rfl)))) jw)
   (j9 (qK PassesOwn.never rfl (zQ K (jI (j0 (jh jE j4 j4) (j0 j4 (j0 (jh jE (jf Qt rfl nb.b_abs boot_abs (j0 (pv 9) j2)) j4) (j0 (jf Qt rfl nb.b_abs boot_abs (j0 (pv 9) j2)) (j0 (jd c_law_odd (hr.mono (by decide)) rfl (j0 (pv 1) j2)) j2))))))) (ja (i:=10) xh.nd rfl (Or.inl rfl)) (j5 (je (i:=11) xh.nd rfl (Or.inl rfl) (jd c_law_try_hand (hr.mono (by decide)) rfl (j0 (pv 3) (j0 yS (j0 (pv 5) (j0 (pv 6) (j0 (pv 7) (j0 (pv 10) j2))))))))
   (j5 (je (i:=12) xh.nd rfl (Or.inl rfl) (jd c_law_try_hand (hr.mono (by decide)) rfl (j0 (pv 3) (j0 yS (j0 (pv 5) (j0 (pv 6) (j0 (pv 7) (j0 (pv 10) j2))))))))
   (xc (jM (PW.pt (zF (jq VU (pv 8) zW (jx _)) (zS (jq (XA K hr.units) (jI (j0 (pv 11) (j0 (pv 12) j2))) (jI (j0 (pv 8) (j0 (pv 8) j2))) (jx _))))) (j9 (jj yS)) jw)
   (xc (jM (PW.pt (zF (jq kj (pv 8) zW (jx _)) (zF (jq jP (pv 7) j4 (jx _)) (zS (jq Yl (vV zd (jn (qe K) (pv 11) j4 (fun _ _=>rfl)) jo (jx _)) (Yb (xO jP xX j4 (pv 10) (pv 9))) (jx _)))))) (j9 (jj yS)) jw)
   (xc (jM (PW.pt (zF (jq kj (pv 8) zW (jx _)) (zF (jq jP (pv 7) j4 (jx _)) (zS (jq Yl (vV zd (jn (qe K) (pv 12) j4 (fun _ _=>rfl)) jo (jx _)) (Yb (xO jP xX j4 (pv 10) (jh jE j4 (pv 9)))) (jx _)))))) (j9 (jj yS)) jw)
   (j9 (qK PassesOwn.never rfl (zQ K (jI (j0 (pv 11) (j0 (pv 12) j2)))) (ja (i:=13) xh.nd rfl (Or.inl rfl)) (j9 (jM (PW.pt (zF (jq zd (jn (qe K) (pv 13) j4 (fun _ _=>rfl)) jo (jx _)) (zF (jq kj (pv 8) zW (jx _)) (zS (jq (XA K hr.units) (pv 13) (jI (j0 jo (j0 jo (j0 jo j2)))) (jx _)))))) (j9 (jj yS)) jw))))))))))))))))
   (j9 (jj yS)))))),?_⟩
  left
  refine ⟨a,ns,rfl,hS,fun L b H1 hb B1 s1=>?_⟩
  have T1:=T0.same s1
  left
  refine ⟨L,b,rfl,B1,fun sd H2 c B2 X2 S2 O=>?_⟩
  have T2:=VR B1 X2 T1
  left
  refine ⟨sd,b,c,rfl,S2,O,T2,fun p H3 g I3 F3 R3 T3 er et es ek el ld ny nd=>?_⟩
  have W3:Lw C L b sd p c g H2 H3:=Lw.start S2 O B2 T2 I3 F3 R3
  have kk:Lk c g:=⟨er,et,es,ek,el,ld,ny,nd⟩
  clear I3 R3 T3 er et es ek el ld ny nd
  have hw1:1<=c.ws.length:=by
   rw [O.ro.length]
   exact hX (qg O.gr.ok) O.l1
  have hw6:c.ws.length<=6:=by rw [O.ro.length];exact O.gr.heads
  have hg30:∀ w∈c.ws,1<=(jc c.rs w).length/\(jc c.rs w).length<=30:=fun w hw=>⟨wA O.gr O.ro hw,(uK (O.gr.good O.l1 O.l8)).2.2.2 c.ws O.ro w hw⟩
  have hll:g.lds.length=g.slopes.length:=by rw [kk.ll,O.ldl,kk.sl,List.length_map]
  have t1:=O.t1
  have t2:=O.t2
  obtain ⟨wr,hwr⟩:=zJ.of W3.S.sk
  left
  refine ⟨fun σ H9=>True,?_,?_⟩
  ·left
   refine ⟨by decide,by decide,?_⟩
   refine xk (fun i σ H4=>∃ v4 v5 v6 v7 v8 v9 v10 v11 v12 v13:Option V,σ=[some (.ref a),some (.ref b),some (.ref sd),some (.ref p),v4,v5,v6,v7,v8,v9,v10,v11,v12,v13]/\Lw C L b sd p c g H2 H4/\zJ H4 c.sk wr) ?_ ?_ ?_
   ·exact ⟨_,_,_,_,_,_,_,_,_,_,rfl,W3,hwr⟩
   ·clear W3 hwr
    rintro i σ H4 hi ⟨v4,v5,v6,v7,v8,v9,v10,v11,v12,v13,rfl,W4,hw4⟩
    have hsl:g.slopes.length=c.ws.length:=by rw [kk.sl,List.length_map]
    left
    refine ⟨L,b,rfl,W4.B,fun y1 H5 y10 y11 B5 X5=>?_⟩
    have W5:=W4.take B5 X5
    have hw5:=hw4.keep (zK W4.B X5)
    clear W4 hw4
    left
    refine ⟨L,b,sd,c,y1,rfl,W5.B,W5.S,O,hw1,hw6,hg30,fun l2 n2 y2 t2 H6 B6 X6 ht2 ht6=>?_⟩
    have W6:=W5.take B6 X6
    have hw6':=hw5.keep (zK W5.B X6)
    clear W5 hw5 B6 X6
    left
    refine ⟨t2,_,rfl,SqT.of ht6,rfl,?_⟩
    refine ⟨_,_,rfl,_,_,rfl,_,_,rfl,rfl,?_⟩
    clear ht6
    refine ⟨fun σ H8=>∃ dv,σ=[some (.ref a),some (.ref b),some (.ref sd),some (.ref p),some (.int (0+(i:Int))),some (.int l2),some (.int n2),some (.int y2),some dv,v9,v10,v11,v12,v13]/\Lw C L b sd p c g H2 H8/\zJ H8 c.sk wr/\Yt c l2 n2 y2 H8 dv,?_,?_⟩
    ·left
     simp only [Qv,List.append_nil]
     refine ⟨sd,c,l2,n2,y2,rfl,W6.S,fun hd=>?_,fun w t3 H7 hd ht3 ht7 s7=>?_⟩
     ·exact ⟨_,rfl,W6,hw6',.inl ⟨hd,rfl⟩⟩
     ·exact ⟨_,rfl,W6.same s7,hw6'.keep (jp.same s7),.inr ⟨w,t3,hd,rfl,ht7⟩⟩
    clear W6 hw6'
    rintro σ H8 ⟨dv,rfl,W8,hw8,hdv⟩
    left
    refine ⟨fun σ H9=>∃ mn,σ=[some (.ref a),some (.ref b),some (.ref sd),some (.ref p),some (.int (0+(i:Int))),some (.int l2),some (.int n2),some (.int y2),some dv,some (.int mn),v10,v11,v12,v13]/\Lw C L b sd p c g H2 H9/\zJ H9 c.sk wr/\Yt c l2 n2 y2 H9 dv/\MvN c g wr l2 n2 y2 mn,?_,?_⟩
    ·rcases hdv with ⟨hd,rfl⟩ | ⟨w,t,hd,rfl,ht⟩
     ·obtain ⟨l20,l21,n20,n21,y20,y21⟩:=ZV hd
      obtain ⟨wy,da,dn,LF⟩:=kk.lane O l20 l21
      have ew:c.ws.getD l2.toNat []=wy:=by rw [List.getD_eq_getElem?_getD,LF.way];rfl
      rw [ew] at n21
      obtain ⟨ms,hp,hs⟩:=yT dn
      have dnb:∀ q∈dn,0<=q.1/\0<=q.2/\q.2<=9:=fun q hq=>by have:=LF.b q hq;omega
      obtain ⟨q0,hq0,hqy,ea1,ea2⟩:=Uv (wr:=wr) (ts:=c.ts) hp hs LF.nd LF.pos n20 n21 y20
      have l10:=LF.l10
      have g30:=LF.g30
      left
      refine jV (fun h200=>?_) (fun h200=>?_)
      ·left
       simp only [Qv,List.append_nil]
       refine ⟨sd,c,l2,n2,y2,wy,da,dn,ms,wr,rfl,W8.S,l20,LF.way,n20,n21,by omega,y20,LF.cd,by omega,LF.nd,dnb,hp,hs,hw8,t1,by omega,fun lr H11 out hlr hlr11 r11 f11=>?_⟩
       have CL:=Qg ms (jc c.rs wy) wr c.ts (y2+ju dn y2-n2)
       have fl:=CL.only hq0
       rw [hqy] at fl
       have hol:out.length=_:=Paired.length r11
       have hlo:=zc ms (jc c.rs wy) wr c.ts (y2+ju dn y2-n2)
       have spl:=vT hp hs LF.nd LF.pos (y2+ju dn y2-n2) (jc c.rs wy).length (by omega)
       have hol1:out.length<=100:=by omega
       clear CL hlo spl
       generalize qh ms (jc c.rs wy) wr c.ts (y2+ju dn y2-n2)=Li at r11 fl hol
       left
       refine ⟨⟨_,SqL.of hlr11⟩,fun acc hacc=>?_⟩
       refine qf (K:=K) (a:=lr) (xs:=out) (acc:=acc) (fun j σ H3=>∃ (x:Option V),σ=[x,some (.int y2)]/\H3 acc=some (.lst ((((Li.take j).filter fun q=>decide (q.1=y2)).map (·.2.2.1)).map V.int))/\Ext acc H11 H3) ?_ ?_ ?_ ?_
       ·exact ⟨none,rfl,j7,Ext.put⟩
       ·rintro j σ H3 hj ⟨x,rfl,h3,e3⟩
        exact SqL.of (e3 _ _ hlr11 (j1 hlr11 hacc))
       ·rintro j v σ H3 hv ⟨x,rfl,h3,e3⟩
        obtain ⟨q,hq,bq,rfl,hbq⟩:=Paired.get r11 hv
        have hj:j<out.length:=(List.getElem?_eq_some_iff.mp hv).1
        have hbq:H11 bq=some (.tup [.int q.1,.int q.2.1,.int q.2.2.1,.int q.2.2.2]):=hbq
        have hbq3:=e3 _ _ hbq (j1 hbq hacc)
        have etk:Li.take (j+1)=Li.take j++[q]:=by rw [List.take_add_one,hq];rfl
        left
        refine jV (fun hle=>?_) (fun hle=>?_)
        ·left
         refine ⟨_,h3,by rw [List.length_map,List.length_map];exact Nat.lt_of_le_of_lt (List.length_filter_le _ _) (jm (by rw [List.length_take];omega)),some (.ref bq),rfl,?_,e3.trans Ext.put⟩
         rw [j7,etk,List.filter_append,List.filter_cons_of_pos (by rw [decide_eq_true (V.int.inj hle)]),List.map_append,List.map_append]
         rfl
        ·refine ⟨some (.ref bq),rfl,?_,e3⟩
         rw [etk,List.filter_append,List.filter_cons_of_neg (by rw [decide_eq_false fun e=>hle (congrArg V.int e)];exact Bool.false_ne_true),List.filter_nil,List.append_nil]
         exact h3
       ·rintro σ H3 ⟨x,rfl,h3,e3⟩
        have s3:ji H11 H3:=fun c o hc=>e3 c o hc (j1 hc hacc)
        rw [List.take_of_length_le (by omega),fl] at h3
        have f3:=f11.trans (FrM.of_same s3)
        left
        exact ⟨W8.fr f3,hw8.keep (FrM.keepT f3),.inl ⟨hd,rfl⟩,fun _=>⟨wy,da,dn,ms,q0,LF,n20,n21,y20,y21,hp,hs,hq0,fun _=>rfl⟩⟩
      ·exact ⟨0,rfl,W8,hw8,.inl ⟨hd,rfl⟩,fun _=>⟨wy,da,dn,ms,q0,LF,n20,n21,y20,y21,hp,hs,hq0,fun z=>absurd z h200⟩⟩
     ·left
      exact ⟨W8,hw8,.inr ⟨w,t,hd,rfl,ht⟩,fun z=>by rw [hd] at z;cases z⟩
    clear W8 hw8 hdv
    rintro σ H9 ⟨mn,rfl,W9,hw9,hdv,hmv⟩
    left
    refine ⟨L,b,rfl,W9.B,fun z H10 B10 X10=>?_⟩
    have W10:=W9.take B10 X10
    have kt:=zK W9.B X10
    have hw10:=hw9.keep kt
    have hdv:=hdv.keep kt
    clear W9 hw9 B10 X10 kt
    left
    refine ⟨by show 5<=sizeLine;decide,fun tt H11 htt htt1 s11=>?_⟩
    have W11:=W10.same s11
    have hw11:=hw10.keep (jp.same s11)
    have hdv:=hdv.keep (jp.same s11)
    clear W10 hw10
    left
    refine ⟨⟨_,SqT.of htt1⟩,?_⟩
    refine uZ (K:=K) (a:=tt) (xs:=[V.int (0-1),.int 0,.int ((if mn<0 then -mn else mn)-1),.int (if mn<0 then -mn else mn),.int z]) (fun j σ H12=>∃ v10 v11 v12 v13:Option V,σ=[some (.ref a),some (.ref b),some (.ref sd),some (.ref p),some (.int (0+(i:Int))),some (.int l2),some (.int n2),some (.int y2),some dv,some (.int mn),v10,v11,v12,v13]/\ji H11 H12) ?_ ?_ ?_ ?_
    ·exact ⟨_,_,_,_,rfl,ji.refl _⟩
    ·rintro j σ H12 hj ⟨v10,v11,v12,v13,rfl,s12⟩
     exact SqT.of (s12 _ _ htt1)
    ·rintro j v σ H12 hv ⟨v10,v11,v12,v13,rfl,s12⟩
     obtain ⟨nm,rfl⟩:∃ nm,v=V.int nm:=by
      have:=List.mem_of_getElem? hv
      simp only [List.mem_cons,List.not_mem_nil,or_false] at this
      rcases this with h | h | h | h | h
      ·exact ⟨_,h⟩
      ·exact ⟨_,h⟩
      ·exact ⟨_,h⟩
      ·exact ⟨_,h⟩
      ·exact ⟨_,h⟩
     clear hv
     have W12:=W11.same s12
     have hw12:=hw11.keep (jp.same s12)
     rcases hdv with ⟨hd,rfl⟩ | ⟨w,t,hd,rfl,ht⟩
     ·obtain ⟨wy,da,dn,ms,q0,LF,n20,n21,y20,y21,hp,hs,hq0,hmn⟩:=hmv hd
      have thC:∀ (H3:Hp) (be:Bool) (Q':VK),ji H12 H3->(∀ t v xs H4,(v = .str "no" /\ xs=[.str "BadHand",.str "ValueError"]/\¬ (0<=nm/\nm<(if be=true then q0.2.2.1 else 0-q0.2.2.1)))\/(OkV v/\0<=nm/\nm<(if be=true then q0.2.2.1 else 0-q0.2.2.1))->H4 t=some (.tup (v::xs))->ji H3 H4->Q' (.ref t) H4)->gY C [.ref p,.bl be,.int l2,.int n2,.int y2,.int nm] H3 Q' E0:=fun H3 be Q' s3 kq=>by
       have l1:=LF.l1
       have l0:=LF.l0
       have g30:=LF.g30
       refine ⟨p,g,be,l2,n2,y2,nm,c.sk,wr,rfl,W12.I.same s3,hll,kk.kv,hw12.keep (jp.same s3),by rw [kk.rows];exact t1,by rw [kk.rows];omega,(fun hb=>absurd hb (by omega)),(fun _ _ hb=>absurd hb (by rw [LF.sl];omega)),fun _ _ _ _=>⟨dn,ms,LF.at_,(fun q hq=>(LF.pos q hq).1),by rw [LF.sl];omega,hp,hs,(fun hb=>absurd hb (by omega)),fun _ _ q1 hq1=>?_⟩⟩
       rw [LF.sl,kk.rows,hq0] at hq1
       have:=Option.some.inj hq1
       subst this
       exact ⟨fun hb t H' ht s'=>kq t _ _ H' (.inl ⟨rfl,rfl,hb⟩) ht s',fun h0 h1 t v xs H' ov ht s'=>kq t v xs H' (.inr ⟨ov,h0,h1⟩) ht s'⟩
      left
      simp only [Qv,List.append_nil]
      refine thC H12 true _ (ji.refl _) fun tf vf xf H13 hf htf s13=>?_
      rw [if_pos rfl] at hf
      left
      simp only [Qv,List.append_nil]
      refine thC H13 false _ s13 fun tg vg xg H14 hg htg s14=>?_
      rw [if_neg Bool.false_ne_true] at hg
      have htf4:=s14 _ _ htf
      clear thC htf
      refine ⟨fun σ H15=>σ=[some (.ref a),some (.ref b),some (.ref sd),some (.ref p),some (.int (0+(i:Int))),some (.int l2),some (.int n2),some (.int y2),some .non,some (.int mn),some (.int nm),some (.ref tf),some (.ref tg),v13]/\ji H14 H15,?_,?_⟩
      ·left
       exact ji.refl _
      rintro σ H15 ⟨rfl,s15⟩
      have htf5:=s15 _ _ htf4
      have htg5:=s15 _ _ htg
      refine ⟨fun σ H16=>σ=[some (.ref a),some (.ref b),some (.ref sd),some (.ref p),some (.int (0+(i:Int))),some (.int l2),some (.int n2),some (.int y2),some .non,some (.int mn),some (.int nm),some (.ref tf),some (.ref tg),v13]/\ji H14 H16,?_,?_⟩
      ·left
       refine jV (fun h200=>?_) (fun _=>⟨rfl,s15⟩)
       have em:=hmn h200
       rcases hf with ⟨rfl,rfl,hno⟩ | ⟨ov,h0,h1⟩
       ·left
        refine jV (fun h0=>?_) (fun h0=>?_)
        ·left
         refine x8 (fun z=>absurd (congrArg V.bl ?_) z) (fun _=>⟨rfl,s15⟩)
         rw [decide_eq_true rfl,decide_eq_false (by omega)]
         rfl
        ·left
         exact s15
       ·left
        refine ⟨_,_,_,_,rfl,rfl,SqT.of htf5,qo (Int.le_refl 0) rfl,?_⟩
        refine ⟨ov.sc _,?_⟩
        left
        refine jV (fun _=>?_) (fun z=>absurd h0 z)
        left
        refine x8 (fun z=>absurd (congrArg V.bl ?_) z) (fun _=>⟨rfl,s15⟩)
        rw [decide_eq_false ov.no,decide_eq_true (by omega)]
        rfl
      rintro σ H16 ⟨rfl,s16⟩
      have htf6:=s16 _ _ htf4
      have htg6:=s16 _ _ htg
      clear htf5 htg5 s15
      refine ⟨fun σ H17=>σ=[some (.ref a),some (.ref b),some (.ref sd),some (.ref p),some (.int (0+(i:Int))),some (.int l2),some (.int n2),some (.int y2),some .non,some (.int mn),some (.int nm),some (.ref tf),some (.ref tg),v13]/\ji H14 H17,?_,?_⟩
      ·left
       refine jV (fun h200=>?_) (fun _=>⟨rfl,s16⟩)
       have em:=hmn h200
       rcases hg with ⟨rfl,rfl,hno⟩ | ⟨ov,h0,h1⟩
       ·left
        refine jV (fun h0=>?_) (fun h0=>?_)
        ·left
         refine x8 (fun z=>absurd (congrArg V.bl ?_) z) (fun _=>⟨rfl,s16⟩)
         rw [decide_eq_true rfl,decide_eq_false (by omega)]
         rfl
        ·left
         exact s16
       ·left
        refine ⟨_,_,_,_,rfl,rfl,SqT.of htg6,qo (Int.le_refl 0) rfl,?_⟩
        refine ⟨ov.sc _,?_⟩
        left
        refine jV (fun _=>?_) (fun z=>absurd h0 z)
        left
        refine x8 (fun z=>absurd (congrArg V.bl ?_) z) (fun _=>⟨rfl,s16⟩)
        rw [decide_eq_false ov.no,decide_eq_true (by omega)]
        rfl
      rintro σ H17 ⟨rfl,s17⟩
      have htf7:=s17 _ _ htf4
      have htg7:=s17 _ _ htg
      clear htf6 htg6 s16 htf4 htg
      left
      refine ⟨by show 2<=sizeLine;decide,fun tu H18 htu htu8 s18=>?_⟩
      left
      refine ⟨⟨_,SqT.of htu8⟩,?_⟩
      have s18':ji H14 H18:=s17.trans s18
      refine uZ (K:=K) (a:=tu) (xs:=[V.ref tf,.ref tg]) (fun j σ H19=>∃ v13:Option V,σ=[some (.ref a),some (.ref b),some (.ref sd),some (.ref p),some (.int (0+(i:Int))),some (.int l2),some (.int n2),some (.int y2),some .non,some (.int mn),some (.int nm),some (.ref tf),some (.ref tg),v13]/\ji H18 H19) ?_ ?_ ?_ ?_
      ·exact ⟨_,rfl,ji.refl _⟩
      ·rintro j σ H19 hj ⟨v13,rfl,s19⟩
       exact SqT.of (s19 _ _ htu8)
      ·rintro j v σ H19 hv ⟨v13,rfl,s19⟩
       obtain ⟨tx,vx,xx,rfl,htx,hx⟩:∃ tx vx xx,v=V.ref tx/\H19 tx=some (.tup (vx::xx))/\((vx = .str "no" /\ xx=[.str "BadHand",.str "ValueError"])\/OkV vx):=by
        have:=List.mem_of_getElem? hv
        simp only [List.mem_cons,List.not_mem_nil,or_false] at this
        rcases this with rfl | rfl
        ·exact ⟨tf,vf,xf,rfl,s19 _ _ (s18 _ _ htf7),hf.elim (fun h=>.inl ⟨h.1,h.2.1⟩) fun h=>.inr h.1⟩
        ·exact ⟨tg,vg,xg,rfl,s19 _ _ (s18 _ _ htg7),hg.elim (fun h=>.inl ⟨h.1,h.2.1⟩) fun h=>.inr h.1⟩
       rcases hx with ⟨rfl,rfl⟩ | ov
       ·left
        refine ⟨by show 3<=sizeLine;decide,fun tw H20 htw htw0 s20=>?_⟩
        have hok:PyData.strOk "BadHand" = true:=by walk_at "k"
        left
        refine ⟨fun _=>False,fun _=>False,_,_,Dat.rep (fun _=>id) (Ja (w:="BadHand") (s20 _ _ htx)),Dat.rep (fun _=>id) (Ja (w:="BadHand") htw0),wH hok,wH hok,_,rfl,U9 (SeqAt.eqv_refl _ (SeqAt.canLay_of_shaped (wH hok))) ?_⟩
        exact ⟨_,rfl,s19.trans s20⟩
       ·left
        refine ⟨_,_,_,_,rfl,rfl,SqT.of htx,qo (Int.le_refl 0) rfl,?_⟩
        refine ⟨ov.sc _,?_⟩
        left
        refine jV (fun z=>absurd z ov.no) (fun _=>⟨_,rfl,s19⟩)
      ·rintro σ H19 ⟨v13,rfl,s19⟩
       exact ⟨_,_,_,_,rfl,s12.trans (s13.trans (s14.trans (s18'.trans s19)))⟩
     ·have hok:=Vz hd
      have thA:∀ (H3:Hp) (be:Bool) (Q':VK),ji H12 H3->(∀ t H4,H4 t=some (.tup (noT w))->ji H3 H4->Q' (.ref t) H4)->gY C [.ref p,.bl be,.int l2,.int n2,.int y2,.int nm] H3 Q' E0:=fun H3 be Q' s3 kq=>by
       refine ⟨p,g,be,l2,n2,y2,nm,c.sk,wr,rfl,W12.I.same s3,hll,kk.kv,hw12.keep (jp.same s3),by rw [kk.rows];exact t1,by rw [kk.rows];omega,(fun hb t' H' ht' s'=>?_),(fun l0 l1 hb t' H' ht' s'=>?_),fun l0 l1 n0 n1=>?_⟩
       ·rw [ZG (by rw [<- hsl];exact hb)] at hd
        cases hd
        exact kq t' H' ht' s'
       ·obtain ⟨wy,da,dn,LF⟩:=kk.lane O l0 (by omega)
        rw [QB l0 (by omega) LF.way (by rw [<- LF.sl];exact hb)] at hd
        cases hd
        exact kq t' H' ht' s'
       ·obtain ⟨wy,da,dn,LF⟩:=kk.lane O l0 (by omega)
        obtain ⟨ms,hp,hs⟩:=yT dn
        have g30:=LF.g30
        rw [LF.sl] at n1
        rw [Zm l0 (by omega) LF.way n0 n1] at hd
        by_cases hy:0<=y2/\y2<=10 ^ 40
        ·rw [if_pos hy] at hd;cases hd
        ·rw [if_neg hy] at hd
         cases hd
         exact ⟨dn,ms,LF.at_,(fun q hq=>(LF.pos q hq).1),by rw [LF.sl];omega,hp,hs,(fun _ t H' ht s'=>kq t H' ht s'),fun y0 y1=>absurd ⟨y0,y1⟩ hy⟩
      left
      simp only [Qv,List.append_nil]
      refine thA H12 true _ (ji.refl _) fun tf H13 htf s13=>?_
      left
      simp only [Qv,List.append_nil]
      refine thA H13 false _ s13 fun tg H14 htg s14=>?_
      have htf4:=s14 _ _ htf
      have s04:ji H11 H14:=s12.trans (s13.trans s14)
      have ht4:=s04 _ _ ht
      clear thA htf
      refine ⟨fun σ H15=>σ=[some (.ref a),some (.ref b),some (.ref sd),some (.ref p),some (.int (0+(i:Int))),some (.int l2),some (.int n2),some (.int y2),some (.ref t),some (.int mn),some (.int nm),some (.ref tf),some (.ref tg),v13]/\ji H14 H15,?_,?_⟩
      ·left
       refine ⟨by show 2<=sizeLine;decide,fun ta H15 hta hta5 s15=>?_⟩
       left
       refine ⟨by show 2<=sizeLine;decide,fun tb H16 htb htb6 s16=>?_⟩
       have up:∀ {t:Addr},H14 t=some (.tup (noT w))->Dat H16 (.ref t) (.tuple [.str "no",.str w,.str "ValueError"]):=fun h=>Ja (s16 _ _ (s15 _ _ h))
       left
       refine ⟨fun _=>False,fun _=>False,_,_,Dat.rep (fun _=>id) (.tup (s16 _ _ hta5) (.cons (up htf4) (.cons (up htg) .nil))),Dat.rep (fun _=>id) (.tup htb6 (.cons (up ht4) (.cons (up ht4) .nil))),um hok,um hok,_,rfl,U9 (SeqAt.eqv_refl _ (SeqAt.canLay_of_shaped (um hok))) ?_⟩
       exact ⟨rfl,s15.trans s16⟩
      rintro σ H15 ⟨rfl,s15⟩
      refine ⟨fun σ H16=>σ=[some (.ref a),some (.ref b),some (.ref sd),some (.ref p),some (.int (0+(i:Int))),some (.int l2),some (.int n2),some (.int y2),some (.ref t),some (.int mn),some (.int nm),some (.ref tf),some (.ref tg),v13]/\ji H14 H16,?_,?_⟩
      ·left
       exact s15
      rintro σ H16 ⟨rfl,s16⟩
      refine ⟨fun σ H16=>σ=[some (.ref a),some (.ref b),some (.ref sd),some (.ref p),some (.int (0+(i:Int))),some (.int l2),some (.int n2),some (.int y2),some (.ref t),some (.int mn),some (.int nm),some (.ref tf),some (.ref tg),v13]/\ji H14 H16,?_,?_⟩
      ·left
       exact s16
      rintro σ H17 ⟨rfl,s17⟩
      left
      refine ⟨by show 2<=sizeLine;decide,fun tu H18 htu htu8 s18=>?_⟩
      left
      refine ⟨⟨_,SqT.of htu8⟩,?_⟩
      have s18':ji H14 H18:=s17.trans s18
      refine uZ (K:=K) (a:=tu) (xs:=[V.ref tf,.ref tg]) (fun j σ H19=>∃ v13:Option V,σ=[some (.ref a),some (.ref b),some (.ref sd),some (.ref p),some (.int (0+(i:Int))),some (.int l2),some (.int n2),some (.int y2),some (.ref t),some (.int mn),some (.int nm),some (.ref tf),some (.ref tg),v13]/\ji H18 H19) ?_ ?_ ?_ ?_
      ·exact ⟨_,rfl,ji.refl _⟩
      ·rintro j σ H19 hj ⟨v13,rfl,s19⟩
       exact SqT.of (s19 _ _ htu8)
      ·rintro j v σ H19 hv ⟨v13,rfl,s19⟩
       obtain ⟨tx,rfl,htx⟩:∃ tx,v=V.ref tx/\H19 tx=some (.tup [.str "no",.str w,.str "ValueError"]):=by
        have:=List.mem_of_getElem? hv
        simp only [List.mem_cons,List.not_mem_nil,or_false] at this
        rcases this with rfl | rfl
        ·exact ⟨tf,rfl,s19 _ _ (s18' _ _ htf4)⟩
        ·exact ⟨tg,rfl,s19 _ _ (s18' _ _ htg)⟩
       left
       exact s19
      ·rintro σ H19 ⟨v13,rfl,s19⟩
       exact ⟨_,_,_,_,rfl,s04.trans (s18'.trans s19)⟩
    ·rintro σ H12 ⟨v10,v11,v12,v13,rfl,s12⟩
     exact ⟨_,_,_,_,_,_,_,_,_,_,rfl,W11.same s12,hw11.keep (jp.same s12)⟩
   ·exact fun _ _ _=>trivial
  ·rintro σ H9 -
   left
   exact k H9
end
end K23
end
namespace K23
open PySem PySem.Spec PyProof.Rows L2
local macro_rules | `(tactic| walk_at "hp")=>`(tactic| first | assumption | exact j7 | (rw [j8 (by first | assumption | (apply Ne.symm;assumption))];first | assumption | exact j7))
local macro_rules | `(tactic| walk_at "num")=>`(tactic| first | decide | omega)
local macro_rules | `(tactic| walk_at "rd1")=>`(tactic| first | refine ⟨_,rfl,?_⟩ | refine ⟨_,_,rfl,rfl,?_⟩ | refine And.intro (show J4 _ _ from Or.inr ⟨by walk_at "num",by walk_at "num"⟩) ?_ | refine And.intro (show J4 _ _ from Or.inl ⟨by walk_at "num",by walk_at "num"⟩) ?_ | refine And.intro (show Z7 _ _ from ⟨by walk_at "num",by walk_at "num"⟩) ?_ | refine And.intro (show Vi _ _ from ⟨by walk_at "num",by walk_at "num",by walk_at "num"⟩) ?_ | refine And.intro (show (0:Int)<_ by walk_at "num") ?_ | refine ⟨_,_,_,_,rfl,rfl,SqL.of (by walk_at "hp"),(by rfl),?_⟩ | refine ⟨_,_,_,_,rfl,rfl,SqT.of (by walk_at "hp"),(by rfl),?_⟩ | refine ⟨_,_,_,_,rfl,rfl,(by assumption),(by rfl),?_⟩ | refine ⟨_,_,_,_,rfl,rfl,(by walk_at "hp"),(by rfl),?_⟩ | refine ⟨rfl,?_⟩)
local macro_rules | `(tactic| walk_at "r")=>`(tactic| repeat walk_at "rd1")
local macro_rules | `(tactic| walk_at "s")=>`(tactic| exact ⟨rfl,rfl,rfl,by decide +kernel,rfl,by decide +kernel,by decide +kernel⟩)
local macro_rules | `(tactic| walk_at "k")=>`(tactic| decide +kernel)
local macro_rules | `(tactic| walk_at "w")=>`(tactic| (intro _ z;cases z))
local macro_rules | `(tactic| walk_at "z")=>`(tactic| (intro z;cases z))
local macro_rules | `(tactic| left)=>`(tactic| walk_at "r")
local macro_rules | `(tactic| walk_at "1")=>`(tactic| exact fun _ _ _ _ _ _ _ hl=>bnd1 hl fun _=>rfl)
local macro_rules | `(tactic| walk_at "2")=>`(tactic| exact fun _ _ _ _ _ _ _ hl=>bnd2 hl fun _ _=>rfl)
local macro_rules | `(tactic| walk_at "3")=>`(tactic| exact fun _ _ _ _ _ _ _ hl=>bnd3 hl fun _ _ _=>rfl)
local macro_rules | `(tactic| walk_at "4")=>`(tactic| exact fun _ _ _ _ _ _ _ hl=>bnd4 hl fun _ _ _ _=>rfl)
local macro_rules | `(tactic| walk_at "5")=>`(tactic| exact fun _ _ _ _ _ _ _ hl=>bnd5 hl fun _ _ _ _ _=>rfl)
local macro_rules | `(tactic| walk_at "6")=>`(tactic| exact fun _ _ _ _ _ _ _ hl=>bnd6 hl fun _ _ _ _ _ _=>rfl)
theorem Ur {l:PySem.W.OpenLaw}{w:World}{K:PySem.W.Frag}{h:Heap}{mg:Str->Option Value}{fa:Addr}(X:K.In h) (G:h.Ns mainGlobals mg) (hfa:mg "law" = some (.ref fa))
  {CI:Addr}
  {C0:Addr}
  {C1:Addr}
  {C2:Addr}
  {C3:Addr}
  {C4:Addr}
  {C5:Addr}
  {C6:Addr}
  {C7:Addr}
  {C8:Addr}
  {u0:Tok}
  {u1:Tok}
  {u2:Tok}
  {u3:Tok}
  {u4:Tok}
  {u5:Tok}
  {u6:Tok}
  {u7:Tok}
  {u8:Tok}
  {u9:Tok}
  {u10:Tok}
  (aCI:PySem.W.nsIn K mainGlobals "Ice" = some (some (.ref CI))) (pgI:PySem.W.plainGet K CI Str.empty=true) (hdI:PySem.W.hasDictIn K CI=true) (poI:PySem.W.plainOver K CI=true) (saI:PySem.W.findIn K (.ref CI) "__setattr__" = some (some (.builtin "object.__setattr__"))) (mkI:PySem.W.makesIn K CI=true) (kcI:PySem.W.keepIn K (.ref CI)=true)
  (na0:PySem.W.findIn K (.ref CI) "valley" = some none)
  (na1:PySem.W.findIn K (.ref CI) "cycle" = some none)
  (na2:PySem.W.findIn K (.ref CI) "slopes" = some none)
  (na3:PySem.W.findIn K (.ref CI) "years" = some none)
  (na4:PySem.W.findIn K (.ref CI) "leaps" = some none)
  (a1:gN K "leads_on" vm)
  (a2:gN K "is_reach" zP)
  (a3:gN K "way_down" yZ)
  (a4:PySem.W.nsIn K mainGlobals "lanes" = some (some (.ref f4))) (l4:K.lookup f4=some ⟨oc4,od4,.func (PySem.W.fnOf "lanes" "lanes" (jR qU) (jJ qU) (j6 qU) .none kV4 dc4 pm4 an4 (.ref cL) ct4),sl4⟩) (c4:PySem.W.codeIn K (.ref cL) "lanes" = true) (k4:PySem.W.keepIn K (.ref f4)=true) (hdL:PySem.W.codeHdIn K cL 154=true)
  (a5:gN K "way_of" wB)
  (a6:gN K "count_places" xv)
  (a7:gN K "fits" J9)
  (a8:gN K "is_valley" zw)
  (a9:gN K "heights" yH)
  (a10:gN K "is_weather" yc)
  (a11:gN K "change" we)
  (a12:gN K "is_round" ya)
  (a13:gN K "check_round" zE)
  (a14:gN K "check_told" y4)
  (a15:gM K CI "__init__" "Ice.__init__" qE)
  (a16:gM K CI "check_lane" "Ice.check_lane" xq)
  (a17:gM K CI "check_place" "Ice.check_place" xi)
  (a18:gM K CI "length" "Ice.length" zB)
  (a19:gM K CI "height" "Ice.height" zC)
  (a20:gM K CI "sky" "Ice.sky" vn)
  (a21:gM K CI "tell" "Ice.tell" yx)
  (a22:gM K CI "surge" "Ice.surge" zU)
  (a23:gM K CI "surges" "Ice.surges" xG)
  (a24:gN K "check_asked" zy)
  (a25:gN K "ride_by" yI)
  (a26:gN K "earliest" yX)
  (a27:gN K "span" QE)
  (a28:gN K "ridden" k7)
  (a29:gN K "life" QS)
  (a30:gN K "parted" wz)
  (a31:gN K "end_of" km)
  (a32:gN K "birth_of" y3)
  (a33:gN K "_law_box" uy)
  (a34:gN K "_law_mixed" yA)
  (a35:gN K "_law_take" vi)
  (a36:gN K "_law_odd" uz)
  (a37:gN K "_law_weather" zx)
  (a38:gN K "_law_round" zq)
  (a39:gN K "_law_ground_drawn" qj)
  (a40:gN K "_law_reaches" x9)
  (a41:gN K "_law_roads" xQ)
  (a42:gN K "_law_ground" y7)
  (a43:gN K "_law_year" yW)
  (a44:gN K "_law_scene" xT)
  (a45:gN K "_law_made" vh)
  (a46:gN K "_law_row" ua)
  (a47:gN K "_law_wish" vd)
  (a48:gN K "_law_ride" zZ)
  (a49:gN K "_law_spot" vt)
  (a50:gN K "_law_life_at" zD)
  (a51:gN K "_law_refused" qI)
  (a52:gN K "_law_due_spot" zj)
  (a53:gN K "_law_bent_spot" xW)
  (a54:gN K "_law_try_hand" zi)
  (a55:PySem.W.nsIn K mainGlobals "law" = some (some (.ref f55))) (l55:K.lookup f55=some ⟨oc55,od55,.func (PySem.W.fnOf "law" "law" (jR yU) (jJ yU) (j6 yU) .none kV55 dc55 pm55 an55 cd55 ct55),sl55⟩) (c55:PySem.W.codeIn K cd55 "law" = true) (k55:PySem.W.keepIn K (.ref f55)=true)
  (ec0:gE K "BadValley" C0)
  (ec1:gE K "BadRound" C1)
  (ec2:gE K "NoLane" C2)
  (ec3:gE K "BadYear" C3)
  (ec4:gE K "BadWeather" C4)
  (ec5:gE K "BadSurge" C5)
  (ec6:gE K "NoPlace" C6)
  (ec7:gE K "BadHand" C7)
  (ec8:gE K "FirnError" C8)
  (mm28:PySem.W.exmOne K (.ref C2) (.ref C8)=some true)
  (mm68:PySem.W.exmOne K (.ref C6) (.ref C8)=some true)
  (mm38:PySem.W.exmOne K (.ref C3) (.ref C8)=some true)
  (mm78:PySem.W.exmOne K (.ref C7) (.ref C8)=some true)
  (rN:RefK K C3 C2 C6 C7 C2 false true false false)
  (rP:RefK K C3 C2 C6 C7 C6 false false true false)
  (rY:RefK K C3 C2 C6 C7 C3 true false false false)
  (rB:RefK K C3 C2 C6 C7 C7 false false false true)
  (z0:PySem.W.nsIn K mainGlobals "len" = some none)
  (z1:PySem.W.nsIn K mainGlobals "range" = some none)
  (z2:PySem.W.nsIn K mainGlobals "isinstance" = some none)
  (z3:PySem.W.nsIn K mainGlobals "int" = some none)
  (z4:PySem.W.nsIn K mainGlobals "bool" = some none)
  (z5:PySem.W.nsIn K mainGlobals "str" = some none)
  (z6:PySem.W.nsIn K mainGlobals "list" = some none)
  (z7:PySem.W.nsIn K mainGlobals "tuple" = some none)
  (z8:PySem.W.nsIn K mainGlobals "min" = some none)
  (z9:PySem.W.nsIn K mainGlobals "max" = some none)
  (z10:PySem.W.nsIn K mainGlobals "all" = some none)
  (z11:PySem.W.nsIn K mainGlobals "zip" = some none)
  (z12:PySem.W.nsIn K mainGlobals "enumerate" = some none)
  (z13:PySem.W.nsIn K mainGlobals "sorted" = some none)
  (z14:PySem.W.nsIn K mainGlobals "sum" = some none)
  (z15:PySem.W.nsIn K mainGlobals "dict" = some none)
  (z16:PySem.W.nsIn K mainGlobals "ValueError" = some none)
  (z17:PySem.W.nsIn K mainGlobals "abs" = some none)
  (q0:PySem.W.nsIn K mainGlobals "MOST_REACHES" = some (some (.int 8 u0)))
  (q1:PySem.W.nsIn K mainGlobals "MOST_HEIGHTS" = some (some (.int 12 u1)))
  (q2:PySem.W.nsIn K mainGlobals "GREATEST_HEIGHT" = some (some (.int 99 u2)))
  (q3:PySem.W.nsIn K mainGlobals "MOST_LANES" = some (some (.int 6 u3)))
  (q4:PySem.W.nsIn K mainGlobals "LONGEST_LANE" = some (some (.int 30 u4)))
  (q5:PySem.W.nsIn K mainGlobals "HIGHEST_LINE" = some (some (.int 100 u5)))
  (q6:PySem.W.nsIn K mainGlobals "MOST_HANDS" = some (some (.int 9 u6)))
  (q7:PySem.W.nsIn K mainGlobals "MOST_ROWS" = some (some (.int 12 u7)))
  (q8:PySem.W.nsIn K mainGlobals "LAST_TOLD" = some (some (.int 99 u8)))
  (q9:PySem.W.nsIn K mainGlobals "LAST_ASKED" = some (some (.int 10000000000000000000000000000000000000000 u9)))
  (q10:PySem.W.nsIn K mainGlobals "GREATEST_SURGE" = some (some (.int 9 u10)))
  : ∃ fd:FuncData,(∀ (s:Shared) (v:Value),BindsTo s fd ⟨[v],[]⟩ [("_law_script",v)])/\∀ base:Heap,K.In base->base.Ns mainGlobals mg->Bm mg base->FnOk l.prog w K mg base CX0 11 fa fd ["_law_script"] (QW K 154):=by
 have e:=hfa.symm.trans (PySem.W.mg_of X G a55)
 cases e
 have nb:Nb2 mg:={ b_len:=PySem.W.mg_none_of X G z0,b_range:=PySem.W.mg_none_of X G z1,b_isinstance:=PySem.W.mg_none_of X G z2,b_int:=PySem.W.mg_none_of X G z3,b_bool:=PySem.W.mg_none_of X G z4,b_str:=PySem.W.mg_none_of X G z5,b_list:=PySem.W.mg_none_of X G z6,b_tuple:=PySem.W.mg_none_of X G z7,b_min:=PySem.W.mg_none_of X G z8,b_max:=PySem.W.mg_none_of X G z9,b_all:=PySem.W.mg_none_of X G z10,b_zip:=PySem.W.mg_none_of X G z11,b_enumerate:=PySem.W.mg_none_of X G z12,b_sorted:=PySem.W.mg_none_of X G z13,b_sum:=PySem.W.mg_none_of X G z14 }
 have b_dict:=PySem.W.mg_none_of X G z15
 have b_ValueError:=PySem.W.mg_none_of X G z16
 have b_abs:=PySem.W.mg_none_of X G z17
 have g_MOST_REACHES:=PySem.W.mg_of X G q0
 have g_MOST_HEIGHTS:=PySem.W.mg_of X G q1
 have g_GREATEST_HEIGHT:=PySem.W.mg_of X G q2
 have g_MOST_LANES:=PySem.W.mg_of X G q3
 have g_LONGEST_LANE:=PySem.W.mg_of X G q4
 have g_HIGHEST_LINE:=PySem.W.mg_of X G q5
 have g_MOST_HANDS:=PySem.W.mg_of X G q6
 have g_MOST_ROWS:=PySem.W.mg_of X G q7
 have g_LAST_TOLD:=PySem.W.mg_of X G q8
 have g_LAST_ASKED:=PySem.W.mg_of X G q9
 have g_GREATEST_SURGE:=PySem.W.mg_of X G q10
 have e_BadValley:=PySem.W.mg_of X G ec0.e
 have x_BadValley:=ec0.x
 have e_BadRound:=PySem.W.mg_of X G ec1.e
 have x_BadRound:=ec1.x
 have e_NoLane:=PySem.W.mg_of X G ec2.e
 have x_NoLane:=ec2.x
 have e_BadYear:=PySem.W.mg_of X G ec3.e
 have x_BadYear:=ec3.x
 have e_BadWeather:=PySem.W.mg_of X G ec4.e
 have x_BadWeather:=ec4.x
 have e_BadSurge:=PySem.W.mg_of X G ec5.e
 have x_BadSurge:=ec5.x
 have e_NoPlace:=PySem.W.mg_of X G ec6.e
 have x_NoPlace:=ec6.x
 have e_BadHand:=PySem.W.mg_of X G ec7.e
 have x_BadHand:=ec7.x
 have e_FirnError:=PySem.W.mg_of X G ec8.e
 have cl_Ice:Cls K CI:=⟨pgI,hdI,poI,saI⟩
 have T_Ice:IceC K CI:=⟨cl_Ice,na0,na1,na2,na3,na4⟩
 refine ⟨PySem.W.fnOf "law" "law" (jR yU) (jJ yU) (j6 yU) .none kV55 dc55 pm55 an55 cd55 ct55,fun s v=>.of_eq rfl,fun base hKb _ hBm=>?_⟩
 have CH:=PySem.W.codeHd_of_K hKb hdL
 have z:Zt l.prog w K mg base:=⟨X,G⟩
 have c_leads_on:=a1.cal z (by walk_at "2") (JD)
 have c_is_reach:=a2.cal z (by walk_at "2") (JZ nb g_MOST_HEIGHTS g_GREATEST_HEIGHT c_leads_on)
 have c_way_down:=a3.cal z (by walk_at "2") (JG nb)
 have c_lanes:Cal l.prog w K mg base 5 "lanes" ["reaches"] (vM K 154):=Cal.mkC (st:=qU) X G a4 l4 c4 k4 (by walk_at "1") (YE nb c_way_down CH hBm l4 c4)
 have c_way_of:=a5.calX z (by walk_at "2") (ZO nb e_NoLane x_NoLane c_lanes)
 have c_count_places:=a6.cal z (by walk_at "2") (uR nb)
 have c_fits:=a7.cal z (by walk_at "2") (VH nb g_MOST_LANES g_LONGEST_LANE c_count_places)
 have c_is_valley:=a8.cal z (by walk_at "1") (JB nb g_MOST_REACHES c_is_reach c_lanes c_fits)
 have c_heights:=a9.calX z (by walk_at "2") (Xl nb c_way_of)
 have c_is_weather:=a10.cal z (by walk_at "1") (kS g_HIGHEST_LINE g_MOST_HANDS)
 have c_change:=a11.cal z (by walk_at "2") (ZF)
 have c_is_round:=a12.cal z (by walk_at "1") (Qh nb.toNb g_MOST_ROWS c_is_weather)
 have c_check_round:=a13.calX z (by walk_at "1") (kA nb e_BadRound x_BadRound c_is_round)
 have c_check_told:=a14.calX z (by walk_at "1") (kU g_LAST_TOLD e_BadYear x_BadYear)
 have c_Ice:=a15.mak z mkI kcI aCI (by walk_at "3") (uh nb T_Ice e_BadValley x_BadValley c_is_valley c_check_round c_lanes c_heights.cal)
 have c_Ice__check_lane:=a16.calX z (by walk_at "2") (vj nb T_Ice e_NoLane x_NoLane)
 have c_Ice__check_place:=a17.calX z (by walk_at "3") (yP nb T_Ice e_NoPlace x_NoPlace cl_Ice c_Ice__check_lane)
 have c_Ice__length:=a18.calX z (by walk_at "2") (wI nb T_Ice cl_Ice c_Ice__check_lane)
 have c_Ice__height:=a19.calX z (by walk_at "3") (wq nb T_Ice cl_Ice c_Ice__check_place)
 have c_Ice__sky:=a20.cal z (by walk_at "2") (JX nb T_Ice)
 have c_Ice__tell:=a21.calX z (by walk_at "3") (Js nb T_Ice e_BadWeather x_BadWeather c_check_told c_is_weather)
 have c_Ice__surge:=a22.calX z (by walk_at "4") (kT nb T_Ice cl_Ice g_GREATEST_SURGE e_BadSurge x_BadSurge c_Ice__check_lane c_check_told)
 have c_Ice__surges:=a23.calX z (by walk_at "2") (kh nb T_Ice cl_Ice c_Ice__check_lane)
 have c_check_asked:=a24.calX z (by walk_at "1") (wS g_LAST_ASKED e_BadYear x_BadYear)
 have c_ride_by:=a25.cal z (by walk_at "2") (Xv nb)
 have c_earliest:=a26.cal z (by walk_at "2") (Q3 nb)
 have c_span:=a27.calX z (by walk_at "3") (VY cl_Ice c_Ice__surges c_Ice__length c_earliest)
 have c_ridden:=a28.calX z (by walk_at "3") (Zu cl_Ice c_Ice__surges c_check_asked c_ride_by)
 have c_life:=a29.calX z (by walk_at "3") (VX nb b_dict cl_Ice c_span c_Ice__surges c_ride_by c_change c_Ice__sky c_Ice__height)
 have c_parted:=a30.calX z (by walk_at "4") (Za cl_Ice c_Ice__check_place c_ridden c_life)
 have c_end_of:=a31.calX z (by walk_at "5") (ZS e_BadHand x_BadHand c_parted)
 have c_birth_of:=a32.calX z (by walk_at "5") (JF e_BadHand x_BadHand c_parted)
 have c_law_box:=a33.cal z (by walk_at "1") (Wf nb.toNb)
 have c_law_mixed:=a34.cal z (by walk_at "2") (Ym)
 have c_law_take:=a35.cal z (by walk_at "2") (Vk nb.toNb c_law_mixed)
 have c_law_odd:=a36.cal z (by walk_at "1") (Uq c_law_take)
 have c_law_weather:=a37.cal z (by walk_at "1") (QC c_law_take)
 have c_law_round:=a38.cal z (by walk_at "1") (YO nb.toNb c_law_take c_law_weather)
 have c_law_ground_drawn:=a39.cal z (by walk_at "3") (uU nb c_law_take)
 have c_law_reaches:=a40.cal z (by walk_at "1") (Xi nb c_law_take c_law_ground_drawn)
 have c_law_roads:=a41.cal z (by walk_at "1") (Y8 nb)
 have c_law_ground:=a42.cal z (by walk_at "2") (ZU)
 have c_law_year:=a43.cal z (by walk_at "1") (VT c_law_take)
 have c_law_scene:=a44.cal z (by walk_at "1") (YI nb c_law_take c_law_reaches c_law_round c_law_ground c_law_roads c_law_year c_law_weather)
 have c_law_made:=a45.cal z (by walk_at "1") (Vg nb cl_Ice c_Ice c_Ice__tell c_Ice__surge)
 have c_law_row:=a46.cal z (by walk_at "2") (Wi nb)
 have c_law_wish:=a47.cal z (by walk_at "2") (Vp)
 have c_law_ride:=a48.cal z (by walk_at "3") (Vr nb)
 have c_law_spot:=a49.cal z (by walk_at "2") (V9 nb c_law_take)
 have c_law_life_at:=a50.cal z (by walk_at "4") (Xw nb c_law_ride c_law_wish c_law_row)
 have c_law_refused:=a51.calH z (by walk_at "1") (Xn nb b_ValueError e_BadYear e_NoLane e_NoPlace e_BadHand)
 have c_law_due_spot:=a52.cal z (by walk_at "4") (UH nb)
 have c_law_bent_spot:=a53.cal z (by walk_at "3") (Vm nb c_law_take c_law_odd c_law_spot)
 have c_law_try_hand:=a54.cal z (by walk_at "6") (Vv e_FirnError mm28 mm68 mm38 mm78 rN rP rY rB c_end_of c_birth_of c_law_refused)
 exact Ux nb b_abs c_law_box c_law_scene c_law_made c_law_year c_law_odd c_law_life_at c_law_due_spot c_law_bent_spot c_law_try_hand (yp (st:=yU) l55 c55 k55)
end K23
open PySem PySem.W PyProof.Rows
set_option maxRecDepth 100000 in
set_option maxHeartbeats 0 in
theorem PySem.Challenge.cw_firnfall_k23_hands_that_are_none_holds : PySem.Challenge.rw_firnfall_k23_hands_that_are_none.Holds := by
 w_on
 refine holds_law HO.ws fun said=>?_
 refine holds_open (q:=HO.view) (loose:=HO.loose) (N:=9000) (Xt:=HO.xt) (XP:=XL HO.view [])
  (Yf:=Hook.obs (kmHook HO.frag.heap_1 HO.asL HO.asE [154])) (Ya:=Hook.val (kmHook HO.frag.heap_1 HO.asL HO.asE [154])) (YP:=Hook.says (kmHook HO.frag.heap_1 HO.asL HO.asE [154]))
  HO.left (Hook.of (kmHook HO.frag.heap_1 HO.asL HO.asE [154])) (Hook.keeps (kmHook HO.frag.heap_1 HO.asL HO.asE [154]))
  (fun s e=>xl_of s (Bool.and_eq_true_iff.mp e).1) XL.keeps rfl rfl rfl
  (fun s e=>recFacts_of (Bool.and_eq_true_iff.mp e).2) rfl
  (by first | assumption | decide +kernel) (by decide +kernel) ⟨rfl,rfl,rfl,rfl,rfl,by decide +kernel⟩ ?hw ?hc
 (case hw=>w_witness2)
 k_fill
 refine L2.VW (l:=PySem.Challenge.rw_firnfall_k23_hands_that_are_none) 11 156 154 ⟨rfl,by decide,by decide⟩ rfl rfl (fun w h Y=>⟨PySem.W.km_in_of Y,PySem.W.km_tabs_of Y 154 (by simp)⟩) (fun _=>by kernel_rfl) (fun _=>by kernel_rfl) ?F
 case F =>
  intro w mg fa h KX G hmg
  refine' K23.Ur KX G hmg ..
  all_goals try first | refine' L2.gN.mk ?_ ?_ ?_ ?_ | refine' L2.gM.mk ?_ ?_ ?_ ?_ ?_ | refine' L2.gE.mk ?_ ?_ ?_ | refine' K23.RefK.mk ⟨?_,?_,?_,?_,?_,?_,?_,?_⟩ ?_ ?_ ?_ ?_ ?_
  all_goals try show _=_
  all_goals try k_is
  all_goals kernel_rfl
